/- The law's own function awake. (ICon: the contracts of the program's own functions: iformedR, ilessR, inormS, iwithoutS, iunderS, iofS, ikeysS, isizeS.) -/
import Derived.Test.YtnjkkhfaggkgjaaICon
import Derived.Deep.Cut
namespace Go.Proofs.Ytnjkkhfaggkgjaa
open Go.RowKit Plain
set_option linter.unusedVariables false

def awA : PItem := ⟨[97], [], 1, [], 0, ⟨1, 1, 0⟩⟩
def awB : PItem := ⟨[97], [], 1, [], 0, ⟨0, 2, 0⟩⟩
theorem aw_norm : inorm [awA, awB, awA] = [awB, awA] := by decide +kernel
theorem aw_size : isize [awB, awA] = 50 := by decide +kernel
theorem aw_formed : formedB awA = true := by decide +kernel
theorem aw_small : SmallI [awA, awB, awA] := ⟨by simp, by
  intro x hx
  simp only [List.mem_cons, List.not_mem_nil, or_false] at hx
  rcases hx with rfl | rfl | rfl <;> exact ⟨rfl, by decide, by decide, by decide⟩⟩
theorem aw_small2 : SmallI [awB, awA] := ⟨by simp, by
  intro x hx
  simp only [List.mem_cons, List.not_mem_nil, or_false] at hx
  rcases hx with rfl | rfl <;> exact ⟨rfl, by decide, by decide, by decide⟩⟩
theorem aw_ok : itemOk awA := ⟨by decide, by decide, ⟨by decide, by decide, by decide⟩, by decide, by decide, by decide⟩
theorem rows2 {P : Nat → Prop} {w : World} {x y : PItem} : Rows LItem P w (cellsIt x ++ cellsIt y) [x, y] := (Rows.of_one (L := LItem) (P := P) (w := w) (vs := cellsIt x) (x := x) rfl).append (Rows.of_one (L := LItem) rfl)
theorem rows3 {P : Nat → Prop} {w : World} {x y z : PItem} : Rows LItem P w (cellsIt x ++ (cellsIt y ++ cellsIt z)) [x, y, z] := (Rows.of_one (L := LItem) (P := P) (w := w) (vs := cellsIt x) (x := x) rfl).append (rows2)

/-- the two variables that hold the items -/
structure Two (w u : World) : Prop where
  low : Below w.heap.size w u
  size : w.heap.size + 2 ≤ u.heap.size
  a : ItemAt u w.heap.size 0 awA
  b : ItemAt u (w.heap.size + 1) 0 awB
theorem Two.below {w u u' : World} (h : Two w u) (hb : Below u.heap.size u u') : Two w u' :=
  ⟨h.low.trans (hb.mono h.low.size), Nat.le_trans h.size hb.size, h.a.below hb (by have := h.size; omega), h.b.below hb (by have := h.size; omega)⟩
theorem Two.cells {w u : World} (h : Two w u) : (u.cell? ⟨w.heap.size, 0, none⟩ = some (.string ⟨#[97]⟩) ∧ u.cell? ⟨w.heap.size, 1, none⟩ = some (.string ⟨#[]⟩) ∧ u.cell? ⟨w.heap.size, 2, none⟩ = some (.int .i64 1) ∧ u.cell? ⟨w.heap.size, 3, none⟩ = some (.string ⟨#[]⟩) ∧ u.cell? ⟨w.heap.size, 4, none⟩ = some (.int .i64 0) ∧ u.cell? ⟨w.heap.size, 5, none⟩ = some (.int .i64 1) ∧ u.cell? ⟨w.heap.size, 6, none⟩ = some (.int .i64 1) ∧ u.cell? ⟨w.heap.size, 7, none⟩ = some (.int .i64 0)) ∧ (u.cell? ⟨w.heap.size + 1, 0, none⟩ = some (.string ⟨#[97]⟩) ∧ u.cell? ⟨w.heap.size + 1, 1, none⟩ = some (.string ⟨#[]⟩) ∧ u.cell? ⟨w.heap.size + 1, 2, none⟩ = some (.int .i64 1) ∧ u.cell? ⟨w.heap.size + 1, 3, none⟩ = some (.string ⟨#[]⟩) ∧ u.cell? ⟨w.heap.size + 1, 4, none⟩ = some (.int .i64 0) ∧ u.cell? ⟨w.heap.size + 1, 5, none⟩ = some (.int .i64 0) ∧ u.cell? ⟨w.heap.size + 1, 6, none⟩ = some (.int .i64 2) ∧ u.cell? ⟨w.heap.size + 1, 7, none⟩ = some (.int .i64 0)) := by
  obtain ⟨c0, c1, c2, c3, c4, c5, c6, c7⟩ := h.a
  obtain ⟨d0, d1, d2, d3, d4, d5, d6, d7⟩ := h.b
  exact ⟨⟨c0, c1, c2, c3, c4, c5, c6, c7⟩, ⟨d0, d1, d2, d3, d4, d5, d6, d7⟩⟩
theorem two_new (w : World) : Two w ((w.alloc (.cells #[.string ⟨#[97]⟩, .string ⟨#[]⟩, .int .i64 1, .string ⟨#[]⟩, .int .i64 0, .int .i64 1, .int .i64 1, .int .i64 0] 26)).alloc (.cells #[.string ⟨#[97]⟩, .string ⟨#[]⟩, .int .i64 1, .string ⟨#[]⟩, .int .i64 0, .int .i64 0, .int .i64 2, .int .i64 0] 26)) :=
  ⟨((Below.refl _ _).alloc (Nat.le_refl _) _).alloc (by simp) _, by simp, ⟨by simp; rfl, by simp; rfl, by simp; rfl, by simp; rfl, by simp; rfl, by simp; rfl, by simp; rfl, by simp; rfl⟩, ⟨by simp; rfl, by simp; rfl, by simp; rfl, by simp; rfl, by simp; rfl, by simp; rfl, by simp; rfl, by simp; rfl⟩⟩

set_option maxRecDepth 100000 in
set_option maxHeartbeats 4000000 in
theorem awake_any (w : World) : Calls Try.prog 7 #[] w (GivesB w true) := by
  have HT := Lib.hid (two_new w)
  go_enter Try.func7, Try.ntmps7
  go_upto_region 3 with fail
  generalize ((w.alloc (.cells #[.string ⟨#[97]⟩, .string ⟨#[]⟩, .int .i64 1, .string ⟨#[]⟩, .int .i64 0, .int .i64 1, .int .i64 1, .int .i64 0] 26)).alloc (.cells #[.string ⟨#[97]⟩, .string ⟨#[]⟩, .int .i64 1, .string ⟨#[]⟩, .int .i64 0, .int .i64 0, .int .i64 2, .int .i64 0] 26)) = W2 at *
  have SL := SeqE.lit (L := LItem) W2 #[.string ⟨#[97]⟩, .string ⟨#[]⟩, .int .i64 1, .string ⟨#[]⟩, .int .i64 0, .int .i64 1, .int .i64 1, .int .i64 0, .string ⟨#[97]⟩, .string ⟨#[]⟩, .int .i64 1, .string ⟨#[]⟩, .int .i64 0, .int .i64 0, .int .i64 2, .int .i64 0, .string ⟨#[97]⟩, .string ⟨#[]⟩, .int .i64 1, .string ⟨#[]⟩, .int .i64 0, .int .i64 1, .int .i64 1, .int .i64 0] [awA, awB, awA] rows3 (by simp)
  have KN := Lib.hid (inormS SL aw_small)
  rw [aw_norm] at KN
  have HB := Lib.hid (HT.out.low.alloc HT.out.low.size (.cells #[.string ⟨#[97]⟩, .string ⟨#[]⟩, .int .i64 1, .string ⟨#[]⟩, .int .i64 0, .int .i64 1, .int .i64 1, .int .i64 0, .string ⟨#[97]⟩, .string ⟨#[]⟩, .int .i64 1, .string ⟨#[]⟩, .int .i64 0, .int .i64 0, .int .i64 2, .int .i64 0, .string ⟨#[97]⟩, .string ⟨#[]⟩, .int .i64 1, .string ⟨#[]⟩, .int .i64 0, .int .i64 1, .int .i64 1, .int .i64 0] 26))
  have HT3 := Lib.hid (HT.out.below ((Below.refl _ _).alloc (Nat.le_refl _) (.cells #[.string ⟨#[97]⟩, .string ⟨#[]⟩, .int .i64 1, .string ⟨#[]⟩, .int .i64 0, .int .i64 1, .int .i64 1, .int .i64 0, .string ⟨#[97]⟩, .string ⟨#[]⟩, .int .i64 1, .string ⟨#[]⟩, .int .i64 0, .int .i64 0, .int .i64 2, .int .i64 0, .string ⟨#[97]⟩, .string ⟨#[]⟩, .int .i64 1, .string ⟨#[]⟩, .int .i64 0, .int .i64 1, .int .i64 1, .int .i64 0] 26)))
  obtain ⟨⟨c0, c1, c2, c3, c4, c5, c6, c7⟩, ⟨d0, d1, d2, d3, d4, d5, d6, d7⟩⟩ := HT.out.cells
  clear SL
  go_wp2_with fail
  refine KN.out.mono ?_
  rintro e u ⟨v, rfl, hs, hb⟩
  clear c0 c1 c2 c3 c4 c5 c6 c7 d0 d1 d2 d3 d4 d5 d6 d7
  have HTU := Lib.hid (HT3.out.below hb)
  have SV := Lib.hid hs
  obtain ⟨av, cv, rfl, -⟩ := hs.parts
  clear hs hb KN
  go_upto_region 4 with fail
  have SL := SeqE.lit (L := LItem) u #[.string ⟨#[97]⟩, .string ⟨#[]⟩, .int .i64 1, .string ⟨#[]⟩, .int .i64 0, .int .i64 0, .int .i64 2, .int .i64 0, .string ⟨#[97]⟩, .string ⟨#[]⟩, .int .i64 1, .string ⟨#[]⟩, .int .i64 0, .int .i64 1, .int .i64 1, .int .i64 0] [awB, awA] rows2 (by simp)
  have hb2 := (Below.refl u.heap.size u).alloc (Nat.le_refl _) (.cells #[.string ⟨#[97]⟩, .string ⟨#[]⟩, .int .i64 1, .string ⟨#[]⟩, .int .i64 0, .int .i64 0, .int .i64 2, .int .i64 0, .string ⟨#[97]⟩, .string ⟨#[]⟩, .int .i64 1, .string ⟨#[]⟩, .int .i64 0, .int .i64 1, .int .i64 1, .int .i64 0] 26)
  have KS := Lib.hid (rsame_eq (SV.out.below hb2) SL rfl)
  have HT4 := Lib.hid (HTU.out.below hb2)
  have SV4 := Lib.hid (SV.out.below hb2)
  obtain ⟨⟨c0, c1, c2, c3, c4, c5, c6, c7⟩, ⟨d0, d1, d2, d3, d4, d5, d6, d7⟩⟩ := HTU.out.cells
  clear SL hb2
  go_wp2_with fail
  refine KS.out.mono ?_
  rintro e u3 ⟨rfl, hb⟩
  have HT5 := Lib.hid (HT4.out.below hb)
  have SV5 := Lib.hid (SV4.out.below hb)
  clear c0 c1 c2 c3 c4 c5 c6 c7 d0 d1 d2 d3 d4 d5 d6 d7 hb KS
  obtain ⟨⟨c0, c1, c2, c3, c4, c5, c6, c7⟩, -⟩ := HT5.out.cells
  have KF := Lib.hid (show Calls Try.prog 11 #[.agg #[.string ⟨#[97]⟩, .string ⟨#[]⟩, .int .i64 1, .string ⟨#[]⟩, .int .i64 0, .int .i64 1, .int .i64 1, .int .i64 0]] u3 (GivesB u3 true) from iformedR (x := awA) aw_ok aw_formed)
  go_wp2_with fail
  refine KF.out.mono ?_
  rintro e u4 ⟨rfl, hb⟩
  have HT6 := Lib.hid (HT5.out.below hb)
  have SV6 := Lib.hid (SV5.out.below hb)
  clear c0 c1 c2 c3 c4 c5 c6 c7 hb KF
  have KZ := isizeS SV6.out aw_small2
  rw [aw_size] at KZ
  have KZ2 := Lib.hid KZ
  clear KZ
  go_wp2_with fail
  refine KZ2.out.mono ?_
  rintro e u5 ⟨rfl, hb⟩
  have HT7 := Lib.hid (HT6.out.below hb)
  clear hb KZ2
  go_wp2_with fail
  go_ret
  exact ⟨rfl, HT7.out.low⟩
end Go.Proofs.Ytnjkkhfaggkgjaa
