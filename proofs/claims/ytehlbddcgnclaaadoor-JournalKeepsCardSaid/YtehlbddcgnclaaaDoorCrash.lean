/- What disk.Crash, disk.Sync and disk.Cut leave. -/
import Derived.Test.YtehlbddcgnclaaaDoorWrite
import Derived.Lib.MinMax
namespace Go.Proofs.YtehlbddcgnclaaaDoor
open Go.RowKit Plain
set_option linter.unusedVariables false

set_option maxHeartbeats 4000000 in
theorem crash_any {a1 a2 : Option Addr} {n1 c1 n2 c2 : Nat} {f l : Bytes} {keep : Int} {k : Nat} {w : World} (hf : Seq w (.slice a1 n1 c1) f) (hl : Seq w (.slice a2 n2 c2) l) (hk : min (max keep 0) (n2 : Int) = (k : Int)) (hfit : f.length + l.length ≤ 1000000000) :
    Calls Tryd.prog 19 #[.agg #[.slice a1 n1 c1, .slice a2 n2 c2], .int .i64 keep] w (MadeD w (f ++ l.take k) []) := by
  have d1 := hf.dims
  have d2 := hl.dims
  have hkn : (k : Int) ≤ n2 := by omega
  have hkc : (k : Int) ≤ c2 := by omega
  have hk0 : (0 : Int) ≤ k := by omega
  have hkl : k ≤ l.length := by omega
  have hlt : (l.take k).length ≤ l.length := by rw [List.length_take]; omega
  have K2 : Hid (∀ u, Below w.heap.size w u → Seq u (.slice a1 n1 c1) f ∧ Seq u (.slice a2 k c2) (l.take k)) := Lib.hid (fun u h => ⟨hf.below h, (hl.below h).first k hkl⟩)
  have L2 : Hid (f.length + (l.take k).length ≤ 1000000000) := Lib.hid (by omega)
  have BW : Hid (Below w.heap.size w ((w.alloc (.cells #[.slice a1 n1 c1, .slice a2 n2 c2] 24)).alloc (.cells #[.slice none 0 0, .slice none 0 0] 24))) := Lib.hid (((Below.refl _ _).alloc (Nat.le_refl _) _).alloc (le_alloc _ _) _)
  obtain ⟨N1, N2, N3, N4⟩ := new_cells (Below.refl _ ((w.alloc (.cells #[.slice a1 n1 c1, .slice a2 n2 c2] 24)).alloc (.cells #[.slice none 0 0, .slice none 0 0] 24)))
  have N1 := Lib.hid N1
  have N2 := Lib.hid N2
  have N3 := Lib.hid N3
  have N4 := Lib.hid N4
  clear d1 d2 hf hl hfit hkl hlt
  generalize l.take k = p at *
  go_enter Tryd.func19, Tryd.ntmps19
  go_wp2_with fail
  go_region_held3 (fun w' => Below w.heap.size w w' ∧ (w'.cell? ⟨w.heap.size, 0, none⟩ = some (.slice a1 n1 c1) ∧ w'.cell? ⟨w.heap.size, 1, none⟩ = some (.slice a2 n2 c2)) ∧
      (w'.cell? ⟨w.heap.size + 1, 0, none⟩ = some (valAt w' ⟨w.heap.size + 1, 0, none⟩) ∧ w'.frozen? ⟨w.heap.size + 1, 0, none⟩ = false) ∧ (w'.cell? ⟨w.heap.size + 1, 1, none⟩ = some (valAt w' ⟨w.heap.size + 1, 1, none⟩) ∧ w'.frozen? ⟨w.heap.size + 1, 1, none⟩ = false))
    (first | (exact keep0 BW.out (by simp) (by simp) N1.out N2.out N3.out N4.out) | (exact keepR (by assumption) ((Below.refl _ _).alloc (Nat.le_refl _) _)) | (exact keepR (by assumption) hb) | (exact keepS _ _ (by assumption) (by simp) (by simp) (by simp) (by simp) (by simp) (by simp) (by simp)))
    (first
      | (go_at_call 30; have hz := two_le (by assumption); refine (concat_two _ _ _ (by exact cell_of_row _ _ 0 _ 22 (0, 0) (heap_new3 w _ _ _)) (by exact cell_of_row _ _ 1 _ 22 (0, 0) (heap_new3 w _ _ _)) (K2.out _ (by assumption : _ ∧ _).1).1 (K2.out _ (by assumption : _ ∧ _).1).2 L2.out).mono ?_; rintro e u2 ⟨v2, rfl, ho2, hb⟩; obtain ⟨b2, d2, rfl, -, -, ho2, -⟩ := ho2.parts; have o2 := ho2.mono hz))
  go_wp2_with fail
  have HH := (by assumption : _ ∧ _)
  have C := stored2 HH.2.2.1.1 HH.2.2.2.1 (by simp)
  refine bodyPost_ret (v := .agg #[.slice b2 (f.length + p.length) d2, .slice none 0 0]) (by simp [results, Tryd.results19, go_sem, C.1, C.2]) rfl ⟨_, _, rfl, ?_, Owns.nil _ _, HH.1⟩
  rw [← List.length_append]
  exact ((o2.setLow (by simp) _).setLow (by simp) _).mono (by omega)

set_option maxHeartbeats 4000000 in
theorem sync_any {a1 a2 : Option Addr} {n1 c1 n2 c2 : Nat} {f l : Bytes} {w : World} (hf : Seq w (.slice a1 n1 c1) f) (hl : Seq w (.slice a2 n2 c2) l) (hfit : f.length + l.length ≤ 1000000000) :
    Calls Tryd.prog 18 #[.agg #[.slice a1 n1 c1, .slice a2 n2 c2]] w (MadeD w (f ++ l) []) := by
  have BW : Hid (Below w.heap.size w ((w.alloc (.cells #[.slice a1 n1 c1, .slice a2 n2 c2] 24)).alloc (.cells #[.slice none 0 0, .slice none 0 0] 24))) := Lib.hid (((Below.refl _ _).alloc (Nat.le_refl _) _).alloc (le_alloc _ _) _)
  have KA := Lib.hid (all_any (hf.below BW.out) (hl.below BW.out) hfit)
  clear hf hl hfit
  go_enter Tryd.func18, Tryd.ntmps18
  go_wp2_with fail
  refine KA.out.mono ?_
  rintro e w1 ⟨v1, rfl, ho1, hb1⟩
  obtain ⟨b1, d1, rfl, -, -, ho1, -⟩ := ho1.parts
  obtain ⟨N1, N2, N3, N4⟩ := new_cells (hb1.mono (by simp))
  have G1 := Lib.hid (BW.out.trans (hb1.mono BW.out.size))
  have O1 := Lib.hid (ho1.mono (by simp : w.heap.size + 2 ≤ _))
  clear hb1 ho1
  generalize f ++ l = p at *
  go_wp2_with fail
  have E1 : ∀ x y, ((w1.setCell ⟨w.heap.size + 1, 0, none⟩ x).setCell ⟨w.heap.size + 1, 1, none⟩ y).cell? ⟨w.heap.size + 1, 0, none⟩ = some x := fun x y => by rw [World.cell?_setCell_other _ _ _ _ (by simp), World.cell?_setCell_same _ _ _ N1]
  have E2 : ∀ x y, ((w1.setCell ⟨w.heap.size + 1, 0, none⟩ x).setCell ⟨w.heap.size + 1, 1, none⟩ y).cell? ⟨w.heap.size + 1, 1, none⟩ = some y := fun x y => by rw [World.cell?_setCell_same _ _ _ ((World.cell?_setCell_other _ _ _ _ (by simp)).trans N2)]
  refine bodyPost_ret (v := .agg #[.slice b1 p.length d1, .slice none 0 0]) (by simp [results, Tryd.results18, go_sem, E1, E2]) rfl ⟨_, _, rfl, ?_, Owns.nil _ _, (G1.out.setCell (by simp) _).setCell (by simp) _⟩
  exact ((O1.out.setLow (by simp) _).setLow (by simp) _).mono (by omega)

set_option maxHeartbeats 4000000 in
theorem cut_no {a1 a2 : Option Addr} {n1 c1 n2 c2 : Nat} {n : Int} {w : World} (h1 : n1 ≤ 1073741824) (h2 : n2 ≤ 1073741824) (hn : n < 0 ∨ (n1 : Int) + n2 < n) :
    Calls Tryd.prog 28 #[.agg #[.slice a1 n1 c1, .slice a2 n2 c2], .int .i64 n] w (fun e w' => e = .returned (.tuple #[.agg #[.slice none 0 0, .slice none 0 0], .int .i64 1]) ∧ Below w.heap.size w w') := by
  have BW : Hid (Below w.heap.size w ((w.alloc (.cells #[.slice a1 n1 c1, .slice a2 n2 c2] 24)).alloc (.cells #[.slice none 0 0, .slice none 0 0] 24))) := Lib.hid (((Below.refl _ _).alloc (Nat.le_refl _) _).alloc (le_alloc _ _) _)
  have KS := Lib.hid (size_any a1 a2 n1 c1 n2 c2 ((w.alloc (.cells #[.slice a1 n1 c1, .slice a2 n2 c2] 24)).alloc (.cells #[.slice none 0 0, .slice none 0 0] 24)) h1 h2)
  by_cases hneg : n < 0
  · go_enter Tryd.func28, Tryd.ntmps28
    go_wp2_with fail
    refine bodyPost_ret (v := .tuple #[.agg #[.slice none 0 0, .slice none 0 0], .int .i64 1]) (by simp [results, Tryd.results28, go_sem]) rfl ⟨rfl, ?_⟩
    first | exact BW.out | exact (BW.out.setCell (by simp) _).setCell (by simp) _
  · have hn : (n1 : Int) + n2 < n := by omega
    have hnd : decide (n < 0) = false := by simp; omega
    clear hneg
    go_enter Tryd.func28, Tryd.ntmps28
    go_wp2_with fail
    refine KS.out.mono ?_
    rintro e w1 ⟨rfl, hb1⟩
    obtain ⟨N1, N2, N3, N4⟩ := new_cells (hb1.mono (by simp))
    have G1 := Lib.hid (BW.out.trans (hb1.mono BW.out.size))
    clear hb1
    go_wp2_with fail
    have E1 : ∀ x y, ((w1.setCell ⟨w.heap.size + 1, 0, none⟩ x).setCell ⟨w.heap.size + 1, 1, none⟩ y).cell? ⟨w.heap.size + 1, 0, none⟩ = some x := fun x y => by rw [World.cell?_setCell_other _ _ _ _ (by simp), World.cell?_setCell_same _ _ _ N1]
    have E2 : ∀ x y, ((w1.setCell ⟨w.heap.size + 1, 0, none⟩ x).setCell ⟨w.heap.size + 1, 1, none⟩ y).cell? ⟨w.heap.size + 1, 1, none⟩ = some y := fun x y => by rw [World.cell?_setCell_same _ _ _ ((World.cell?_setCell_other _ _ _ _ (by simp)).trans N2)]
    refine bodyPost_ret (v := .tuple #[.agg #[.slice none 0 0, .slice none 0 0], .int .i64 1]) (by simp [results, Tryd.results28, go_sem, E1, E2]) rfl ⟨rfl, (G1.out.setCell (by simp) _).setCell (by simp) _⟩

set_option maxHeartbeats 4000000 in
theorem cut_ok {a1 a2 : Option Addr} {n1 c1 n2 c2 : Nat} {f l : Bytes} {n : Nat} {w : World} (hf : Seq w (.slice a1 n1 c1) f) (hl : Seq w (.slice a2 n2 c2) l) (h1 : n1 ≤ 1000000) (h2 : n2 ≤ 1000000) (hn : n ≤ n1 + n2) :
    Calls Tryd.prog 28 #[.agg #[.slice a1 n1 c1, .slice a2 n2 c2], .int .i64 n] w (MadeDN w ((f ++ l).take n) [] 0) := by
  have d1 := hf.dims
  have d2 := hl.dims
  have BW : Hid (Below w.heap.size w ((w.alloc (.cells #[.slice a1 n1 c1, .slice a2 n2 c2] 24)).alloc (.cells #[.slice none 0 0, .slice none 0 0] 24))) := Lib.hid (((Below.refl _ _).alloc (Nat.le_refl _) _).alloc (le_alloc _ _) _)
  have KS := Lib.hid (size_any a1 a2 n1 c1 n2 c2 ((w.alloc (.cells #[.slice a1 n1 c1, .slice a2 n2 c2] 24)).alloc (.cells #[.slice none 0 0, .slice none 0 0] 24)) (by omega) (by omega))
  have hni : (n : Int) ≤ n1 + n2 := by omega
  have hn0 : (0 : Int) ≤ n := by omega
  have hi1 : (n1 : Int) ≤ 1000000 := by omega
  have hi2 : (n2 : Int) ≤ 1000000 := by omega
  have hnc : n < n1 → (n : Int) ≤ c1 := by omega
  have hdec : decide ((n : Int) < 0) = false := by simp
  have KC : Hid (∀ u, Below w.heap.size w u → n < n1 → _) := Lib.hid (fun u (h : Below w.heap.size w u) (hlt : n < n1) => clone_any ((hf.below h).first n (by omega)) (by rw [List.length_take]; omega))
  have KR : Hid (∀ u, Below w.heap.size w u → ¬ n < n1 → _) := Lib.hid (fun u (h : Below w.heap.size w u) (hlt : ¬ n < n1) => crash_any (keep := (n : Int) - n1) (k := n - n1) (hf.below h) (hl.below h) (by omega) (by omega))
  have T1 : Hid (n < n1 → (f ++ l).take n = f.take n) := Lib.hid (fun h => List.take_append_of_le_length (by omega))
  have T2 : Hid (¬ n < n1 → (f ++ l).take n = f ++ l.take (n - n1)) := Lib.hid (fun h => by rw [List.take_append, List.take_of_length_le (by omega), d1.1])
  clear d1 d2 hf hl h1 h2 hn
  by_cases hlt : n < n1
  · have hlti : (n : Int) < n1 := by omega
    have hnc := hnc hlt
    have KC := Lib.hid (fun u h => KC.out u h hlt)
    have T := Lib.hid (T1.out hlt)
    rw [T.out]
    generalize f.take n = p at *
    clear T1 T2 KR
    go_enter Tryd.func28, Tryd.ntmps28
    go_wp2_with fail
    refine KS.out.mono ?_
    rintro e w1 ⟨rfl, hb1⟩
    have O1 : w1.cell? ⟨w.heap.size, 0, none⟩ = some (.slice a1 n1 c1) ∧ w1.cell? ⟨w.heap.size, 1, none⟩ = some (.slice a2 n2 c2) := ⟨(hb1.cell (by simp; omega)).trans (by simp), (hb1.cell (by simp; omega)).trans (by simp)⟩
    have G1 := Lib.hid (BW.out.trans (hb1.mono BW.out.size))
    have B1 := Lib.hid (hb1.mono (by simp : w.heap.size + 2 ≤ _))
    clear hb1
    obtain ⟨O1, O2⟩ := O1
    go_wp2_with fail
    refine (KC.out _ G1.out).mono ?_
    rintro e w2 ⟨v2, rfl, ho2, hb2⟩
    obtain ⟨b1, d1, rfl, -, -, ho2, -⟩ := ho2.parts
    have hz := B1.out.size
    obtain ⟨N1, N2, N3, N4⟩ := new_cells (B1.out.trans (hb2.mono (by simp at hz; omega)))
    have G2 := Lib.hid (G1.out.trans (hb2.mono G1.out.size))
    have O3 := Lib.hid (ho2.mono (by simp at hz; omega : w.heap.size + 2 ≤ _))
    clear hb2 ho2 hz
    go_wp2_with fail
    have E1 : ∀ x y, ((w2.setCell ⟨w.heap.size + 1, 0, none⟩ x).setCell ⟨w.heap.size + 1, 1, none⟩ y).cell? ⟨w.heap.size + 1, 0, none⟩ = some x := fun x y => by rw [World.cell?_setCell_other _ _ _ _ (by simp), World.cell?_setCell_same _ _ _ N1]
    have E2 : ∀ x y, ((w2.setCell ⟨w.heap.size + 1, 0, none⟩ x).setCell ⟨w.heap.size + 1, 1, none⟩ y).cell? ⟨w.heap.size + 1, 1, none⟩ = some y := fun x y => by rw [World.cell?_setCell_same _ _ _ ((World.cell?_setCell_other _ _ _ _ (by simp)).trans N2)]
    refine bodyPost_ret (v := .tuple #[.agg #[.slice b1 p.length d1, .slice none 0 0], .int .i64 0]) (by simp [results, Tryd.results28, go_sem, E1, E2]) rfl ⟨_, _, rfl, ?_, Owns.nil _ _, (G2.out.setCell (by simp) _).setCell (by simp) _⟩
    exact ((O3.out.setLow (by simp) _).setLow (by simp) _).mono (by omega)
  · have hlti : (n1 : Int) ≤ n := by omega
    have KR := Lib.hid (fun u h => KR.out u h hlt)
    have T := Lib.hid (T2.out hlt)
    rw [T.out]
    generalize f ++ l.take (n - n1) = p at *
    clear T1 T2 KC hnc
    go_enter Tryd.func28, Tryd.ntmps28
    go_wp2_with fail
    refine KS.out.mono ?_
    rintro e w1 ⟨rfl, hb1⟩
    have O1 : w1.cell? ⟨w.heap.size, 0, none⟩ = some (.slice a1 n1 c1) ∧ w1.cell? ⟨w.heap.size, 1, none⟩ = some (.slice a2 n2 c2) := ⟨(hb1.cell (by simp; omega)).trans (by simp), (hb1.cell (by simp; omega)).trans (by simp)⟩
    have G1 := Lib.hid (BW.out.trans (hb1.mono BW.out.size))
    have B1 := Lib.hid (hb1.mono (by simp : w.heap.size + 2 ≤ _))
    clear hb1
    obtain ⟨O1, O2⟩ := O1
    go_wp2_with fail
    refine (KR.out _ G1.out).mono ?_
    rintro e w2 ⟨v2, x2, rfl, ho2, hx2, hb2⟩
    obtain ⟨b1, d1, rfl, -, -, ho2, -⟩ := ho2.parts
    obtain ⟨b2, d2, rfl, -, -, hx2, -⟩ := hx2.parts
    have hz := B1.out.size
    obtain ⟨N1, N2, N3, N4⟩ := new_cells (B1.out.trans (hb2.mono (by simp at hz; omega)))
    have G2 := Lib.hid (G1.out.trans (hb2.mono G1.out.size))
    have O3 := Lib.hid (ho2.mono (by simp at hz; omega : w.heap.size + 2 ≤ _))
    have O4 := Lib.hid (hx2.mono (by simp at hz; omega : w.heap.size + 2 ≤ _))
    clear hb2 ho2 hz hx2
    simp only [List.length_nil] at O4 ⊢
    go_wp2_with fail
    have E1 : ∀ x y, ((w2.setCell ⟨w.heap.size + 1, 0, none⟩ x).setCell ⟨w.heap.size + 1, 1, none⟩ y).cell? ⟨w.heap.size + 1, 0, none⟩ = some x := fun x y => by rw [World.cell?_setCell_other _ _ _ _ (by simp), World.cell?_setCell_same _ _ _ N1]
    have E2 : ∀ x y, ((w2.setCell ⟨w.heap.size + 1, 0, none⟩ x).setCell ⟨w.heap.size + 1, 1, none⟩ y).cell? ⟨w.heap.size + 1, 1, none⟩ = some y := fun x y => by rw [World.cell?_setCell_same _ _ _ ((World.cell?_setCell_other _ _ _ _ (by simp)).trans N2)]
    refine bodyPost_ret (v := .tuple #[.agg #[.slice b1 p.length d1, .slice b2 0 d2], .int .i64 0]) (by simp [results, Tryd.results28, go_sem, E1, E2]) rfl ⟨_, _, rfl, ?_, ?_, (G2.out.setCell (by simp) _).setCell (by simp) _⟩
    · exact ((O3.out.setLow (by simp) _).setLow (by simp) _).mono (by omega)
    · exact ((O4.out.setLow (by simp) _).setLow (by simp) _).mono (by omega)
end Go.Proofs.YtehlbddcgnclaaaDoor
