/- What the document's own Write, Crash and Same of disks leave. -/
import Derived.Test.YtehlbddcgnclaaaDoorCrash
import Derived.Test.YtehlbddcgnclaaaDoorFirstD
namespace Go.Proofs.YtehlbddcgnclaaaDoor
open Go.RowKit Plain
set_option linter.unusedVariables false

set_option maxHeartbeats 2000000 in
/-- Same of two disks that read alike -/
theorem sameD {a1 a2 a3 a4 : Option Addr} {n1 c1 n2 c2 n3 c3 n4 c4 : Nat} {f l : Bytes} {w : World} (h1 : Seq w (.slice a1 n1 c1) f) (h2 : Seq w (.slice a2 n2 c2) l) (h3 : Seq w (.slice a3 n3 c3) f) (h4 : Seq w (.slice a4 n4 c4) l) :
    Calls Tryd.prog 12 #[.agg #[.slice a1 n1 c1, .slice a2 n2 c2], .agg #[.slice a3 n3 c3, .slice a4 n4 c4]] w fun e w' => e = .returned (.bool true) ∧ Below w.heap.size w w' := by
  have BW : Hid (Below w.heap.size w ((w.alloc (.cells #[.slice a1 n1 c1, .slice a2 n2 c2] 24)).alloc (.cells #[.slice a3 n3 c3, .slice a4 n4 c4] 24))) := Lib.hid (((Below.refl _ _).alloc (Nat.le_refl _) _).alloc (le_alloc _ _) _)
  have K1 : Hid (∀ u, Below w.heap.size w u → _) := Lib.hid (fun u (h : Below w.heap.size w u) => sameB (h1.below h) (h3.below h))
  have K2 : Hid (∀ u, Below w.heap.size w u → _) := Lib.hid (fun u (h : Below w.heap.size w u) => sameB (h2.below h) (h4.below h))
  clear h1 h2 h3 h4
  go_enter Tryd.func12, Tryd.ntmps12
  go_wp2_with fail
  refine (K1.out _ BW.out).mono ?_
  rintro e w1 ⟨rfl, hb1⟩
  obtain ⟨N1, N2, -, -⟩ := new_cells (hb1.mono (by simp))
  have O2 : w1.cell? ⟨w.heap.size, 1, none⟩ = some (.slice a2 n2 c2) := (hb1.cell (by simp; omega)).trans (by simp)
  have G1 := Lib.hid (BW.out.trans (hb1.mono BW.out.size))
  clear hb1
  go_wp2_with fail
  refine (K2.out _ G1.out).mono ?_
  rintro e w2 ⟨rfl, hb2⟩
  have G2 := Lib.hid (G1.out.trans (hb2.mono G1.out.size))
  clear hb2
  go_wp2_with fail
  go_ret
  exact ⟨rfl, G2.out⟩

set_option maxHeartbeats 4000000 in
theorem rwrite_ok {a1 a2 a3 : Option Addr} {n1 c1 n2 c2 n3 c3 : Nat} {f l b : Bytes} {w : World} (hf : Seq w (.slice a1 n1 c1) f) (hl : Seq w (.slice a2 n2 c2) l) (hb : Seq w (.slice a3 n3 c3) b) (hfit : f.length + l.length + b.length ≤ 4194304) :
    Calls Tryd.prog 10 #[.agg #[.slice a1 n1 c1, .slice a2 n2 c2], .slice a3 n3 c3] w (fun e w' => ∃ x, e = .returned (.tuple #[.agg #[.slice a1 n1 c1, x], .int .i64 0]) ∧ Owns w.heap.size w' x (l ++ b) ∧ Below w.heap.size w w') := by
  have d1 := hf.dims
  have d2 := hl.dims
  have d3 := hb.dims
  have hfi : (n1 : Int) + n2 + n3 ≤ 4194304 := by omega
  have hni1 : (n1 : Int) ≤ 4194304 := by omega
  have hni2 : (n2 : Int) ≤ 4194304 := by omega
  have hni3 : (n3 : Int) ≤ 4194304 := by omega
  have K1 : Hid (∀ u, Below w.heap.size w u → _) := Lib.hid (fun u (h : Below w.heap.size w u) => copy_any (hl.below h) (by omega))
  have K2 : Hid (∀ u, Below w.heap.size w u → Seq u (.slice a3 n3 c3) b) := Lib.hid (fun u h => hb.below h)
  have L2 : Hid (l.length + b.length ≤ 1073741824) := Lib.hid (by omega)
  have KS := Lib.hid (rsize_any a1 a2 n1 c1 n2 c2 ((w.alloc (.cells #[.slice a1 n1 c1, .slice a2 n2 c2] 24)).alloc (.cells #[.slice none 0 0, .slice none 0 0] 24)) (by omega) (by omega))
  have BW : Hid (Below w.heap.size w ((w.alloc (.cells #[.slice a1 n1 c1, .slice a2 n2 c2] 24)).alloc (.cells #[.slice none 0 0, .slice none 0 0] 24))) := Lib.hid (((Below.refl _ _).alloc (Nat.le_refl _) _).alloc (le_alloc _ _) _)
  clear d1 d2 d3 hf hl hb hfit
  go_enter Tryd.func10, Tryd.ntmps10
  go_wp2_with fail
  refine KS.out.mono ?_
  rintro e w1 ⟨rfl, hb1⟩
  have N1 := new_cells (hb1.mono (by simp))
  have O1 : w1.cell? ⟨w.heap.size, 0, none⟩ = some (.slice a1 n1 c1) ∧ w1.cell? ⟨w.heap.size, 1, none⟩ = some (.slice a2 n2 c2) := ⟨(hb1.cell (by simp; omega)).trans (by simp), (hb1.cell (by simp; omega)).trans (by simp)⟩
  have G1 := Lib.hid (BW.out.trans (hb1.mono BW.out.size))
  clear hb1
  obtain ⟨N1, N2, N3, N4⟩ := N1
  obtain ⟨O1, O2⟩ := O1
  go_wp2_with fail
  go_region_held3 (fun w' => Below w.heap.size w w' ∧ (w'.cell? ⟨w.heap.size, 0, none⟩ = some (.slice a1 n1 c1) ∧ w'.cell? ⟨w.heap.size, 1, none⟩ = some (.slice a2 n2 c2)) ∧
      (w'.cell? ⟨w.heap.size + 1, 0, none⟩ = some (valAt w' ⟨w.heap.size + 1, 0, none⟩) ∧ w'.frozen? ⟨w.heap.size + 1, 0, none⟩ = false) ∧ (w'.cell? ⟨w.heap.size + 1, 1, none⟩ = some (valAt w' ⟨w.heap.size + 1, 1, none⟩) ∧ w'.frozen? ⟨w.heap.size + 1, 1, none⟩ = false))
    (first | (exact keep0 G1.out O1 O2 N1 N2 N3 N4) | (exact keepR (by assumption) hb) | (exact keepN (by assumption) hbn (by omega) (by simp) (by simp) (by simp) (by simp)) | (exact keepS _ _ (by assumption) (by simp) (by simp) (by simp) (by simp) (by simp) (by simp) (by simp)))
    (first
      | (go_at_call 15; have hz := two_le (by assumption); refine (K1.out _ ?_).mono ?_; exact (by assumption : _ ∧ _).1; rintro e u1 ⟨v1, rfl, ho1, hb⟩; obtain ⟨b1, d1, rfl, -, -, ho1, -⟩ := ho1.parts; have o1 := ho1.mono hz; have hz1 := Nat.le_trans hz hb.size)
      | (refine step_append_seq (by rfl) _ _ (by rfl) (w.heap.size + 2) (by rfl) o1 (by rfl) (K2.out _ (by assumption : _ ∧ _).1) (by exact L2.out) hz1 ?_; intro v2 u2 ho2 hg2; obtain ⟨b2, d2, rfl, -, -, ho2, -⟩ := ho2.parts; have hbn := (Below.refl (w.heap.size + 2) u1).grown hg2 hz1 (fun j hj => (o1.lt j hj).1)))
  go_wp2_with fail
  have HH := (by assumption : _ ∧ _)
  have C := stored2 HH.2.2.1.1 HH.2.2.2.1 (by simp)
  refine bodyPost_ret (v := .tuple #[.agg #[.slice a1 n1 c1, .slice b2 (l.length + b.length) d2], .int .i64 0]) (by simp [results, Tryd.results10, go_sem, C.1, C.2]) rfl ⟨_, rfl, ?_, HH.1⟩
  rw [← List.length_append]
  exact ((ho2.setLow (by simp) _).setLow (by simp) _).mono (by omega)
end Go.Proofs.YtehlbddcgnclaaaDoor
