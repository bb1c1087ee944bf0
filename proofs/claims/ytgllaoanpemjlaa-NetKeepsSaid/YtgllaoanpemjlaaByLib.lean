/- What the library's functions and the document's own helpers leave, for bytes: slices.Grow of nil, slices.Concat, bytes.Clone, Copy, Same; over any slices that read as lists of bytes. -/
import Derived.Test.YtgllaoanpemjlaaByWords
import Derived.Lib.AppendZeros
import Derived.WalkSpells
namespace Go.Proofs.Ytgllaoanpemjlaa.By
open Go.RowKit Plain
set_option linter.unusedVariables false

/-- the first k of them, one behind the other -/
def flat (f : Nat → Bytes) : Nat → Bytes
  | 0 => []
  | k + 1 => flat f k ++ f k
set_option maxRecDepth 100000 in
theorem flat_len (f : Nat → Bytes) (k n : Nat) (h : k ≤ n) : (flat f k).length ≤ (flat f n).length := by
  induction n with
  | zero =>
    obtain rfl : k = 0 := by omega
    exact Nat.le_refl _
  | succ n ih =>
    by_cases e : k = n + 1
    · subst e; exact Nat.le_refl _
    · have := ih (by omega)
      rw [flat, List.length_append]; omega

set_option maxRecDepth 100000 in
set_option maxHeartbeats 1000000 in
/-- Copy: a slice of the call's own that reads as the other did -/
theorem copy_any {v : Value} {xs : Bytes} {w : World} (hs : Seq w v xs) (hlen : xs.length ≤ 1000000) :
    Calls Try.prog 16 #[v] w (Made w xs) := by
  obtain ⟨a, cap, rfl, h1, h2, h0, hs⟩ := hs.parts
  have hga : Below w.heap.size w (w.alloc (.cells #[] 5)) := (Below.refl _ _).alloc (Nat.le_refl _) _
  have S1 := Lib.hid (Seq.below hs hga)
  clear hs h0
  go_enter Try.func16, Try.ntmps16
  go_wp2_with (at_builtin; refine wpList_append_seq rfl (.tmp 3) (.tmp 4) rfl w.heap.size rfl (Owns.empty w _ (Nat.le_refl _)) rfl S1.out (by simp; omega) (by simp) ?_)
  intro v1 W3 hv1 hg3 _
  have hgb : Below w.heap.size w W3 := hga.grown hg3 (by simp) (by intro k hk; cases hk; exact Nat.le_refl _)
  have V := Lib.hid hv1
  clear hg3 hga hv1
  go_wp2_with fail
  go_ret
  exact ⟨_, rfl, V.out, hgb⟩

set_option maxRecDepth 100000 in
set_option maxHeartbeats 1000000 in
/-- bytes.Clone of a slice that isn't nil -/
theorem clone_some {a : Addr} {n cap : Nat} {xs : Bytes} {w : World} (hs : Seq w (.slice (some a) n cap) xs) (hlen : xs.length ≤ 1000000) :
    Calls Try.prog 19 #[.slice (some a) n cap] w (Made w xs) := by
  have hga : Below w.heap.size w (w.alloc (.cells #[] 5)) := (Below.refl _ _).alloc (Nat.le_refl _) _
  have S1 := Lib.hid (Seq.below hs hga)
  have q22 : ∀ (w : World) (a : Option Addr) (n c n' c' : Nat), (binOp .eql 25 (.slice a n c) (.slice none n' c')).run Try.prog w = .ok (.bool a.isNone) w := fun w a n c n' c' => Lib.run_eql_slice_nil w _ _ a n c n' c' Try.underlying25
  clear hs
  go_enter Try.func19, Try.ntmps19
  go_wp2_with (at_builtin; refine wpList_append_seq rfl (.tmp 5) (.tmp 6) rfl w.heap.size rfl (Owns.empty w _ (Nat.le_refl _)) rfl S1.out (by simp; omega) (by simp) ?_)
  intro v1 W3 hv1 hg3 _
  have hgb : Below w.heap.size w W3 := hga.grown hg3 (by simp) (by intro k hk; cases hk; exact Nat.le_refl _)
  have V := Lib.hid hv1
  clear hg3 hga hv1
  go_wp2_with fail
  go_ret
  exact ⟨_, rfl, V.out, hgb⟩

set_option maxRecDepth 100000 in
set_option maxHeartbeats 1000000 in
/-- Same of two slices that read alike: true -/
theorem same_yes {u v : Value} {xs : Bytes} {w : World} (hu : Seq w u xs) (hv : Seq w v xs) :
    Calls Try.prog 20 #[u, v] w fun e w' => e = .returned (.bool true) ∧ ∃ n, w' = w.drewN n := by
  by_cases hp : 0 < xs.length
  · obtain ⟨b1, o1, c1, rfl, g1, m1, -, k1⟩ := hu.spot hp
    obtain ⟨b2, o2, c2, rfl, g2, m2, -, k2⟩ := hv.spot hp
    have HU := Lib.hid k1
    have HV := Lib.hid k2
    have hm : maxLen = 9223372036854775807 := rfl
    rw [hm] at m1 m2
    clear hu hv k1 k2 hm
    go_enter Try.func20, Try.ntmps20
    go_wp2_with fail
    go_loopw [5] (fun i wr => ∃ k : Nat, k ≤ xs.length ∧ i = .int .i64 k ∧ ∃ n, wr = w.drewN n) (fun i _ => xs.length - (intOf i).toNat)
    case atStart => exact ⟨0, Nat.zero_le _, rfl, 0, rfl⟩
    case round =>
      obtain ⟨k, hk, rfl, n, rfl⟩ := hrel
      by_cases hlt : k < xs.length
      · have c1' := HU.out k hlt
        have c2' := HV.out k hlt
        unfold bv at c1' c2'
        generalize xs.getD k 0#8 = x at *
        have hx := x.isLt
        go_wp2_with fail
        go_quiet (fail)
        go_wp2_with fail
        go_roundw
        case rel => exact ⟨k + 1, by omega, by go_num, _, rfl⟩
        case measure => simp [intOf]; omega
      · obtain rfl : k = xs.length := by omega
        go_wp2_with fail
        go_ret
        exact ⟨rfl, _, rfl⟩
  · obtain rfl : xs = [] := List.eq_nil_of_length_eq_zero (by omega)
    obtain ⟨a1, c1, rfl, -⟩ := hu
    obtain ⟨a2, c2, rfl, -⟩ := hv
    simp only [List.length_nil]
    go_enter Try.func20, Try.ntmps20
    go_wp2_with fail
    go_loop [5] (fun i => i = .int .i64 0) (fun _ => 0)
    case atStart => rfl
    case round =>
      obtain rfl := hrel
      go_wp2_with fail
      go_ret
      exact ⟨rfl, 0, rfl⟩
end Go.Proofs.Ytgllaoanpemjlaa.By
