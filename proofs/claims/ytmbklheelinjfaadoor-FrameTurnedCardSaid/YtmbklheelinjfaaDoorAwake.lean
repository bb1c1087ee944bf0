/- The fixed answers with which each statement of layer 4 begins hold. -/
import Derived.Test.YtmbklheelinjfaaDoorLaidF
import Derived.Test.YtmbklheelinjfaaDoorKeep
import Derived.Deep.AppendLies
namespace Go.Proofs.YtmbklheelinjfaaDoor
open Go.RowKit Plain
set_option linter.unusedVariables false

theorem frm_nil : frm [] = [0#8, 0#8, 0#8, 0#8, 28#8, 223#8, 68#8, 33#8] := by decide +kernel
theorem scans_awake : Scans ([0#8, 0#8, 0#8, 0#8, 28#8, 223#8, 68#8, 33#8] ++ [7#8]) [[]] 8 := by
  have h := Scans.behind (l := [[]]) (m := []) (xs := [7#8]) (k := 0) (fun p hp => by simp at hp; subst hp; simp) (scans_none (first_short _ (by simp)))
  rw [flatF_one, frm_nil] at h
  exact h
theorem HasTab.below' {w w1 w' : World} (h : HasTab w) (hb : Below w1.heap.size w w') (h0 : 0 < w1.heap.size) : HasTab w' := fun i hi =>
  (hb.cell (p := ⟨0, i, none⟩) h0).trans (h i hi)
theorem i64_in {n : Int} (h : (Lit.int .i64 n).wf = true) : -9223372036854775808 ≤ n ∧ n ≤ 9223372036854775807 := by simpa [Lit.wf, IntKind.min, IntKind.max, IntKind.signed, IntKind.bits] using h

theorem Seq.dims {w : World} {a : Option Addr} {n cap : Nat} {xs : Bytes} (h : Seq w (.slice a n cap) xs) : xs.length = n ∧ n ≤ cap ∧ cap ≤ 9223372036854775807 := by
  obtain ⟨a', cap', hv, h1, h2, -, -⟩ := h
  simp only [Value.slice.injEq] at hv
  obtain ⟨rfl, rfl, rfl⟩ := hv
  exact ⟨rfl, h1, h2⟩
theorem sameB {u v : Value} {xs : Bytes} {w : World} (hu : Seq w u xs) (hv : Seq w v xs) :
    Calls Tryd.prog 12 #[u, v] w fun e w' => e = .returned (.bool true) ∧ Below w.heap.size w w' :=
  (same_yes hu hv).mono fun _ _ ⟨he, n, hw⟩ => ⟨he, by rw [hw]; exact below_drewN (Below.refl _ _) n⟩
theorem sameN {u v : Value} {xs ys : Bytes} {w : World} (hu : Seq w u xs) (hv : Seq w v ys) (hl : xs.length = ys.length) (hne : ¬ xs = ys) :
    Calls Tryd.prog 12 #[u, v] w fun e w' => e = .returned (.bool false) ∧ Below w.heap.size w w' :=
  (same_no hu hv hl hne).mono fun _ _ ⟨he, n, hw⟩ => ⟨he, by rw [hw]; exact below_drewN (Below.refl _ _) n⟩
theorem rowsB {u v : Value} {ls : List Bytes} {w : World} (hu : SeqR w u ls) (hv : SeqR w v ls) :
    Calls Tryd.prog 16 #[u, v] w fun e w' => e = .returned (.bool true) ∧ Below w.heap.size w w' :=
  (rowsSame_yes hu hv).mono fun _ _ ⟨he, n, hw⟩ => ⟨he, by rw [hw]; exact below_drewN (Below.refl _ _) n⟩
/-- a cell of a slice of the call's own -/
theorem Owns.cell {B : Nat} {w : World} {g n cap : Nat} {xs : Bytes} (h : Owns B w (.slice (some ⟨g, 0, none⟩) n cap) xs) (j : Nat) (hj : j < xs.length) : w.cell? ⟨g, j, none⟩ = some (bv (xs.getD j 0#8)) := by
  have hn := h.seq.dims.1
  have h' : w.ownsRow B 5 1 (.slice (some ⟨g, 0, none⟩) n cap) n (xs.map bv) := by rw [← hn]; unfold Owns at h; rw [← hn] at h; exact h
  rw [World.ownsRow.cellAt h' j (by omega), getD_map xs j hj]

/-- min(a, lim), without a parting (with Derived.Lib.MinMax) -/
theorem min_eq {a lim m : Nat} (h : (a ≤ lim ∧ a = m) ∨ (¬ a ≤ lim ∧ m = lim)) : min (a : Int) (lim : Int) = (m : Int) := by omega

set_option maxRecDepth 100000 in
set_option maxHeartbeats 2000000 in
theorem awake_any (w : World) (hT : HasTab w) : Calls Tryd.prog 9 #[] w fun e w' => e = .returned (.bool true) ∧ Below w.heap.size w w' := by
  have K1 := Lib.hid (lay_ok (Seq.nil w) (Seq.nil w) hT (by simp) (by simp))
  rw [frm_nil, List.nil_append] at K1
  have HT := Lib.hid hT
  have SA := Lib.hid scans_awake
  clear hT
  go_enter Tryd.func9, Tryd.ntmps9
  go_wp2_with fail
  refine K1.out.mono ?_
  rintro e w1 ⟨v1, rfl, ho1, hb1⟩
  obtain ⟨g, cp, rfl, hgb, hgl⟩ := World.ownsRow.form (n := 8) ho1 (by omega)
  have O1 := Lib.hid ho1
  have B1 := Lib.hid hb1
  have hsz := hb1.size
  clear ho1 hb1
  go_wp2_with (at_builtin; refine wpList_append_keep (by rfl) (.tmp 10) (.tmp 11) rfl w.heap.size rfl (O1.out.alloc _) rfl rfl (Seq.one w1 7 7#8 rfl) (by decide) (by simp; omega) ?_)
  intro v2 w2 ho2 hg2 hs2
  have hb2 : Below w.heap.size w w2 := (B1.out.alloc hsz _).grown hg2 (by simp; omega) (by intro k hk; cases hk; exact hgb)
  have KS := Lib.hid (scan_of ho2.seq (HT.out.below hb2) (by decide) SA.out)
  have S2 := Lib.hid hs2
  have B2 := Lib.hid hb2
  clear ho2 hg2 hs2 hb2
  go_wp2_with fail
  refine KS.out.mono ?_
  rintro e w3 ⟨v3, rfl, ho3, hb3⟩
  obtain ⟨a3, c3, rfl, -, -, -, -⟩ := ho3.seqR.parts
  have S3 := S2.out.below hb3
  obtain ⟨b', o', cc, he, -, -, -, hcell⟩ := S3.spot (by decide)
  have hcell7 : w3.cell? ⟨g, 7, none⟩ = some (.int .u8 33) := by
    simp only [Value.slice.injEq, Option.some.injEq, Addr.mk.injEq, and_true] at he
    obtain ⟨⟨rfl, rfl⟩, -, -⟩ := he
    have := hcell 7 (by decide)
    rw [Nat.zero_add] at this
    exact this
  have B3 := Lib.hid (B2.out.trans (hb3.mono B2.out.size))
  clear hb3 ho3 S3 he hcell
  go_wp2_with fail
  go_ret
  exact ⟨rfl, B3.out⟩
end Go.Proofs.YtmbklheelinjfaaDoor
