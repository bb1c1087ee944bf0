/- What bytes.Clone of a slice that isn't nil leaves. -/
import Derived.Test.YtehlbddcgnclaaaDoorWords
import Derived.WalkSpells
namespace Go.Proofs.YtehlbddcgnclaaaDoor
open Go.RowKit Plain
set_option linter.unusedVariables false

set_option maxHeartbeats 1000000 in
/-- bytes.Clone of a slice that isn't nil -/
theorem clone_some {a : Addr} {n cap : Nat} {xs : Bytes} {w : World} (hs : Seq w (.slice (some a) n cap) xs) (hlen : xs.length ≤ 1000000000) :
    Calls Tryd.prog 34 #[.slice (some a) n cap] w (Made w xs) := by
  have hga : Below w.heap.size w (w.alloc (.cells #[] 5)) := (Below.refl _ _).alloc (Nat.le_refl _) _
  have S1 := Lib.hid (Seq.below hs hga)
  have q22 : ∀ (w : World) (a : Option Addr) (n c n' c' : Nat), (binOp .eql 22 (.slice a n c) (.slice none n' c')).run Tryd.prog w = .ok (.bool a.isNone) w := fun w a n c n' c' => Lib.run_eql_slice_nil w _ _ a n c n' c' Tryd.underlying22
  clear hs
  go_enter Tryd.func34, Tryd.ntmps34
  go_wp2_with (at_builtin; refine wpList_append_seq rfl (.tmp 5) (.tmp 6) rfl w.heap.size rfl (Owns.empty w _ (Nat.le_refl _)) rfl S1.out (by simp; omega) (by simp) ?_)
  intro v1 W3 hv1 hg3 _
  have hgb : Below w.heap.size w W3 := hga.grown hg3 (by simp) (by intro k hk; cases hk; exact Nat.le_refl _)
  have V := Lib.hid hv1
  clear hg3 hga hv1
  go_wp2_with fail
  go_ret
  exact ⟨_, rfl, V.out, hgb⟩

set_option maxHeartbeats 1000000 in
/-- bytes.Clone, whatever it is given -/
theorem clone_any {a : Option Addr} {n cap : Nat} {xs : Bytes} {w : World} (hs : Seq w (.slice a n cap) xs) (hlen : xs.length ≤ 1000000000) :
    Calls Tryd.prog 34 #[.slice a n cap] w (Made w xs) := by
  cases a with
  | some a => exact clone_some hs hlen
  | none =>
    obtain ⟨a', cap', hv, h1, h2, h0, h3⟩ := hs
    simp only [Value.slice.injEq] at hv
    obtain ⟨rfl, rfl, rfl⟩ := hv
    obtain rfl := h0 rfl
    obtain rfl : xs = [] := List.eq_nil_of_length_eq_zero (by omega)
    have q22 : ∀ (w : World) (a : Option Addr) (n c n' c' : Nat), (binOp .eql 22 (.slice a n c) (.slice none n' c')).run Tryd.prog w = .ok (.bool a.isNone) w := fun w a n c n' c' => Lib.run_eql_slice_nil w _ _ a n c n' c' Tryd.underlying22
    clear h0 h1 h2 h3 hlen
    go_enter Tryd.func34, Tryd.ntmps34
    go_wp2_with fail
    go_ret
    exact ⟨_, rfl, Owns.nil _ _, Below.refl _ _⟩

end Go.Proofs.YtehlbddcgnclaaaDoor
