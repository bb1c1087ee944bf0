/- What the document's own Copy of bytes leaves. -/
import Derived.Test.YtehlbddcgnclaaaDoorWords
namespace Go.Proofs.YtehlbddcgnclaaaDoor
open Go.RowKit Plain
set_option linter.unusedVariables false

set_option maxHeartbeats 1000000 in
/-- Copy: a slice of the call's own that reads as the other did -/
theorem copy_any {v : Value} {xs : Bytes} {w : World} (hs : Seq w v xs) (hlen : xs.length ≤ 1000000000) :
    Calls Tryd.prog 15 #[v] w (Made w xs) := by
  obtain ⟨a, cap, rfl, h1, h2, h0, hs⟩ := hs.parts
  have hga : Below w.heap.size w (w.alloc (.cells #[] 5)) := (Below.refl _ _).alloc (Nat.le_refl _) _
  have S1 := Lib.hid (Seq.below hs hga)
  clear hs h0
  go_enter Tryd.func15, Tryd.ntmps15
  go_wp2_with (at_builtin; refine wpList_append_seq rfl (.tmp 3) (.tmp 4) rfl w.heap.size rfl (Owns.empty w _ (Nat.le_refl _)) rfl S1.out (by simp; omega) (by simp) ?_)
  intro v1 W3 hv1 hg3 _
  have hgb : Below w.heap.size w W3 := hga.grown hg3 (by simp) (by intro k hk; cases hk; exact Nat.le_refl _)
  have V := Lib.hid hv1
  clear hg3 hga hv1
  go_wp2_with fail
  go_ret
  exact ⟨_, rfl, V.out, hgb⟩


end Go.Proofs.YtehlbddcgnclaaaDoor
