/- What disk.Write leaves. -/
import Derived.Test.YtehlbddcgnclaaaDoorDisk
namespace Go.Proofs.YtehlbddcgnclaaaDoor
open Go.RowKit Plain
set_option linter.unusedVariables false

/-- a disk and a number, the disk in slices of the call's own -/
def MadeDN (w : World) (f l : Bytes) (n : Int) (e : Ending) (w' : World) : Prop := ∃ u x, e = .returned (.tuple #[.agg #[u, x], .int .i64 n]) ∧ Owns w.heap.size w' u f ∧ Owns w.heap.size w' x l ∧ Below w.heap.size w w'

/-- two cells of a new block stay -/
theorem new_cells {w w1 : World} {o : Obj} {x y : Value} {t : TypeId} (hb : Below (w.heap.size + 2) ((w.alloc o).alloc (.cells #[x, y] t)) w1) :
    w1.cell? ⟨w.heap.size + 1, 0, none⟩ = some x ∧ w1.cell? ⟨w.heap.size + 1, 1, none⟩ = some y ∧ w1.frozen? ⟨w.heap.size + 1, 0, none⟩ = false ∧ w1.frozen? ⟨w.heap.size + 1, 1, none⟩ = false := by
  refine ⟨(hb.cell (show w.heap.size + 1 < w.heap.size + 2 by omega)).trans (by simp), (hb.cell (show w.heap.size + 1 < w.heap.size + 2 by omega)).trans (by simp), (hb.frozen (show w.heap.size + 1 < w.heap.size + 2 by omega)).trans (by simp), (hb.frozen (show w.heap.size + 1 < w.heap.size + 2 by omega)).trans (by simp)⟩

set_option maxHeartbeats 4000000 in
theorem write_ok {a1 a2 a3 : Option Addr} {n1 c1 n2 c2 n3 c3 : Nat} {f l b : Bytes} {w : World} (hf : Seq w (.slice a1 n1 c1) f) (hl : Seq w (.slice a2 n2 c2) l) (hb : Seq w (.slice a3 n3 c3) b) (hfit : f.length + l.length + b.length ≤ 4194304) :
    Calls Tryd.prog 24 #[.agg #[.slice a1 n1 c1, .slice a2 n2 c2], .slice a3 n3 c3] w (MadeDN w f (l ++ b) 0) := by
  have d1 := hf.dims
  have d2 := hl.dims
  have d3 := hb.dims
  have hfi : (n1 : Int) + n2 + n3 ≤ 4194304 := by omega
  have hni1 : (n1 : Int) ≤ 4194304 := by omega
  have hni2 : (n2 : Int) ≤ 4194304 := by omega
  have hni3 : (n3 : Int) ≤ 4194304 := by omega
  have K1 : Hid (∀ u, Below w.heap.size w u → _) := Lib.hid (fun u (h : Below w.heap.size w u) => clone_any (hf.below h) (by omega))
  have K2 : Hid (∀ u, Below w.heap.size w u → Seq u (.slice a2 n2 c2) l ∧ Seq u (.slice a3 n3 c3) b) := Lib.hid (fun u h => ⟨hl.below h, hb.below h⟩)
  have L2 : Hid (l.length + b.length ≤ 1000000000) := Lib.hid (by omega)
  have KS := Lib.hid (size_any a1 a2 n1 c1 n2 c2 ((w.alloc (.cells #[.slice a1 n1 c1, .slice a2 n2 c2] 24)).alloc (.cells #[.slice none 0 0, .slice none 0 0] 24)) (by omega) (by omega))
  have hn1 : n1 ≤ 1073741824 := by omega
  have hn2 : n2 ≤ 1073741824 := by omega
  have BW : Hid (Below w.heap.size w ((w.alloc (.cells #[.slice a1 n1 c1, .slice a2 n2 c2] 24)).alloc (.cells #[.slice none 0 0, .slice none 0 0] 24))) := Lib.hid (((Below.refl _ _).alloc (Nat.le_refl _) _).alloc (le_alloc _ _) _)
  clear d1 d2 d3 hf hl hb hfit
  go_enter Tryd.func24, Tryd.ntmps24
  go_wp2_with fail
  refine KS.out.mono ?_
  rintro e w1 ⟨rfl, hb1⟩
  have N1 := new_cells (hb1.mono (by simp))
  have O1 : w1.cell? ⟨w.heap.size, 0, none⟩ = some (.slice a1 n1 c1) ∧ w1.cell? ⟨w.heap.size, 1, none⟩ = some (.slice a2 n2 c2) := ⟨(hb1.cell (by simp; omega)).trans (by simp), (hb1.cell (by simp; omega)).trans (by simp)⟩
  have G1 := Lib.hid (BW.out.trans (hb1.mono BW.out.size))
  clear hb1
  obtain ⟨N1, N2, N3, N4⟩ := N1
  obtain ⟨O1, O2⟩ := O1
  go_wp2_with fail
  go_region_held3 (fun w' => Below w.heap.size w w' ∧ (w'.cell? ⟨w.heap.size, 0, none⟩ = some (.slice a1 n1 c1) ∧ w'.cell? ⟨w.heap.size, 1, none⟩ = some (.slice a2 n2 c2)) ∧
      (w'.cell? ⟨w.heap.size + 1, 0, none⟩ = some (valAt w' ⟨w.heap.size + 1, 0, none⟩) ∧ w'.frozen? ⟨w.heap.size + 1, 0, none⟩ = false) ∧ (w'.cell? ⟨w.heap.size + 1, 1, none⟩ = some (valAt w' ⟨w.heap.size + 1, 1, none⟩) ∧ w'.frozen? ⟨w.heap.size + 1, 1, none⟩ = false))
    (first | (exact keep0 G1.out O1 O2 N1 N2 N3 N4) | (exact keepR (by assumption) ((Below.refl _ _).alloc (Nat.le_refl _) _)) | (exact keepR (by assumption) hb) | (exact keepS _ _ (by assumption) (by simp) (by simp) (by simp) (by simp) (by simp) (by simp) (by simp)))
    (first
      | (go_at_call 34; have hz := two_le (by assumption); refine (K1.out _ ?_).mono ?_; exact (by assumption : _ ∧ _).1; rintro e u1 ⟨v1, rfl, ho1, hb⟩; have hb0 := hb; obtain ⟨b1, d1, rfl, -, -, ho1, -⟩ := ho1.parts; have o1 := ho1.mono hz)
      | (go_at_call 30; have hz := two_le (by assumption); refine (concat_two _ _ _ (by exact cell_of_row _ _ 0 _ 22 (0, 0) (heap_alloc_new u1 _)) (by exact cell_of_row _ _ 1 _ 22 (0, 0) (heap_alloc_new u1 _)) (K2.out _ (by assumption : _ ∧ _).1).1 (K2.out _ (by assumption : _ ∧ _).1).2 L2.out).mono ?_; rintro e u2 ⟨v2, rfl, ho2, hb⟩; obtain ⟨b2, d2, rfl, -, -, ho2, -⟩ := ho2.parts; have o2 := ho2.mono hz; have o3 := (o1.alloc _).below hb (Nat.le_refl _))
      | (go_at_call 30; have hz := two_le (by assumption); refine (concat_two _ _ _ ((hb0.cell (by simp)).trans (by exact cell_of_row _ _ 0 _ 22 (0, 0) (heap_alloc_new w1.drew _))) ((hb0.cell (by simp)).trans (by exact cell_of_row _ _ 1 _ 22 (0, 0) (heap_alloc_new w1.drew _))) (K2.out _ (by assumption : _ ∧ _).1).1 (K2.out _ (by assumption : _ ∧ _).1).2 L2.out).mono ?_; rintro e u2 ⟨v2, rfl, ho2, hb⟩; obtain ⟨b2, d2, rfl, -, -, ho2, -⟩ := ho2.parts; have o2 := ho2.mono hz; have o3 := o1.below hb (Nat.le_refl _)))
  go_wp2_with fail
  all_goals
    have HH := (by assumption : _ ∧ _)
    have C := stored2 HH.2.2.1.1 HH.2.2.2.1 (by simp)
    refine bodyPost_ret (v := .tuple #[.agg #[.slice b1 f.length d1, .slice b2 (l.length + b.length) d2], .int .i64 0]) (by simp [results, Tryd.results24, go_sem, C.1, C.2]) rfl ⟨_, _, rfl, ((o3.setLow (by simp) _).setLow (by simp) _).mono (by omega), ?_, HH.1⟩
    rw [← List.length_append]
    exact ((o2.setLow (by simp) _).setLow (by simp) _).mono (by omega)

set_option maxHeartbeats 4000000 in
theorem write_full {a1 a2 a3 : Option Addr} {n1 c1 n2 c2 n3 c3 : Nat} {w : World} (h1 : n1 ≤ 1073741824) (h2 : n2 ≤ 1073741824) (h3 : n3 ≤ 1073741824) (hfit : 4194304 < n1 + n2 + n3) :
    Calls Tryd.prog 24 #[.agg #[.slice a1 n1 c1, .slice a2 n2 c2], .slice a3 n3 c3] w (fun e w' => e = .returned (.tuple #[.agg #[.slice none 0 0, .slice none 0 0], .int .i64 6]) ∧ Below w.heap.size w w') := by
  have hfi : (4194304 : Int) < n1 + n2 + n3 := by omega
  have KS := Lib.hid (size_any a1 a2 n1 c1 n2 c2 ((w.alloc (.cells #[.slice a1 n1 c1, .slice a2 n2 c2] 24)).alloc (.cells #[.slice none 0 0, .slice none 0 0] 24)) h1 h2)
  have BW : Hid (Below w.heap.size w ((w.alloc (.cells #[.slice a1 n1 c1, .slice a2 n2 c2] 24)).alloc (.cells #[.slice none 0 0, .slice none 0 0] 24))) := Lib.hid (((Below.refl _ _).alloc (Nat.le_refl _) _).alloc (le_alloc _ _) _)
  clear hfit
  go_enter Tryd.func24, Tryd.ntmps24
  go_wp2_with fail
  refine KS.out.mono ?_
  rintro e w1 ⟨rfl, hb1⟩
  obtain ⟨N1, N2, N3, N4⟩ := new_cells (hb1.mono (by simp))
  have G1 := Lib.hid (BW.out.trans (hb1.mono BW.out.size))
  clear hb1
  go_wp2_with fail
  have E1 : ((w1.setCell ⟨w.heap.size + 1, 0, none⟩ (.slice none 0 0)).setCell ⟨w.heap.size + 1, 1, none⟩ (.slice none 0 0)).cell? ⟨w.heap.size + 1, 0, none⟩ = some (.slice none 0 0) := by rw [World.cell?_setCell_other _ _ _ _ (by simp), World.cell?_setCell_same _ _ _ N1]
  have E2 : ((w1.setCell ⟨w.heap.size + 1, 0, none⟩ (.slice none 0 0)).setCell ⟨w.heap.size + 1, 1, none⟩ (.slice none 0 0)).cell? ⟨w.heap.size + 1, 1, none⟩ = some (.slice none 0 0) := by rw [World.cell?_setCell_same _ _ _ ((World.cell?_setCell_other _ _ _ _ (by simp)).trans N2)]
  refine bodyPost_ret (v := .tuple #[.agg #[.slice none 0 0, .slice none 0 0], .int .i64 6]) (by simp [results, Tryd.results24, go_sem, E1, E2]) rfl ⟨rfl, (G1.out.setCell (by simp) _).setCell (by simp) _⟩
end Go.Proofs.YtehlbddcgnclaaaDoor
