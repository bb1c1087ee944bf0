/- What the program's own isLetter, isPrefix, Key of texts leave. What the program's own beginsIn and Right of texts leave, and the functions that it hands to the library. What slices.Sort and slices.Compact, and the program's own rising and heads of texts leave. What the program's own Union, Covers, Within, Without, Inter of texts leave. -/
import Derived.Test.YtajfliemmfdnhaaGreatGives
import Derived.Test.YtajfliemmfdnhaaGreatRefZs
import Derived.Test.YtajfliemmfdnhaaGreatMaths
import Derived.Lib.SlicesCompact
import Derived.Sort.Grow
import Derived.Shelf.Slices.CompactS
import Derived.Test.YtajfliemmfdnhaaGreatShelf
import Derived.Deep.QuietTactic
import Derived.BigQuiet
namespace Go.Proofs.YtajfliemmfdnhaaGreat
open Go.RowKit Plain
set_option linter.unusedVariables false

set_option maxRecDepth 100000 in
set_option maxHeartbeats 1000000 in
theorem zletter_any (c : UInt8) (w : World) :
  Calls Tryz.prog 103 #[.int .u8 (c.toNat : Int)] w fun e w' => e = .returned (.bool (okByte c)) ∧ w = w' := by
 have hx := u8_lt c
 have HT := ok_of (c := c)
 have HF := ok_not (c := c)
 generalize okByte c = r at *
 generalize c.toNat = x at *
 by_cases h1 : 97 ≤ x
 ·have b1 : (97 : Int) ≤ x := by omega
  by_cases h2 : x ≤ 122
  ·obtain rfl : r = true := HT (.inr (.inr ⟨h1, h2⟩))
   have b2 : (x : Int) ≤ 122 := by omega
   clear HT HF h1 h2
   go_enter Tryz.func103, Tryz.ntmps103
   go_wp2_with fail
   go_ret
   exact ⟨rfl, rfl⟩
  ·obtain rfl : r = false := HF (by omega)
   have b2 : ¬ (x : Int) ≤ 122 := by omega
   have b3 : (48 : Int) ≤ x := by omega
   have b4 : ¬ (x : Int) ≤ 57 := by omega
   have b5 : ((x : Int) == 47) = false := by simp; omega
   clear HT HF h1 h2
   go_enter Tryz.func103, Tryz.ntmps103
   go_wp2_with fail
   go_ret
   exact ⟨rfl, rfl⟩
 ·have b1 : ¬ (97 : Int) ≤ x := by omega
  by_cases h2 : 48 ≤ x
  ·have b2 : (48 : Int) ≤ x := by omega
   by_cases h3 : x ≤ 57
   ·obtain rfl : r = true := HT (.inr (.inl ⟨h2, h3⟩))
    have b3 : (x : Int) ≤ 57 := by omega
    clear HT HF h1 h2 h3
    go_enter Tryz.func103, Tryz.ntmps103
    go_wp2_with fail
    go_ret
    exact ⟨rfl, rfl⟩
   ·obtain rfl : r = false := HF (by omega)
    have b3 : ¬ (x : Int) ≤ 57 := by omega
    have b5 : ((x : Int) == 47) = false := by simp; omega
    clear HT HF h1 h2 h3
    go_enter Tryz.func103, Tryz.ntmps103
    go_wp2_with fail
    go_ret
    exact ⟨rfl, rfl⟩
  ·have b2 : ¬ (48 : Int) ≤ x := by omega
   by_cases h3 : x = 47
   ·obtain rfl : r = true := HT (.inl h3)
    subst h3
    clear HT HF h1 h2
    go_enter Tryz.func103, Tryz.ntmps103
    go_wp2_with fail
    go_ret
    exact ⟨rfl, rfl⟩
   ·obtain rfl : r = false := HF (by omega)
    have b5 : ((x : Int) == 47) = false := by simp; omega
    clear HT HF h1 h2 h3
    go_enter Tryz.func103, Tryz.ntmps103
    go_wp2_with fail
    go_ret
    exact ⟨rfl, rfl⟩

set_option maxRecDepth 100000 in
set_option maxHeartbeats 2000000 in
theorem zprefix_any (s : Txt) (w : World) :
  Calls Tryz.prog 100 #[.string (bt s)] w fun e w' => e = .returned (.bool (prefixB s)) ∧ w = w' := by
 have z1 := bt_size s
 have HF := Lib.hid (fun k hk h => prefix_false (s := s) k hk h)
 have HT := Lib.hid (prefix_true (s := s))
 have HL := Lib.hid (prefix_long (s := s))
 have I1 := Lib.hid (index_run s)
 generalize prefixB s = r at *
 generalize bt s = S at *
 by_cases hl : s.length ≤ 16
 ·have hd : ((s.length : Nat) : Int) ≤ 16 := by omega
  go_enter Tryz.func100, Tryz.ntmps100
  go_wp2_with fail
  go_loop [3, 9] (fun _ i => ∃ k : Nat, k ≤ s.length ∧ i = .int .i64 k ∧ ∀ j, j < k → okByte (s.getD j 0) = true) (fun _ i => s.length - (intOf i).toNat)
  case atStart => exact ⟨0, Nat.zero_le _, rfl, fun j hj => absurd hj (by omega)⟩
  case round =>
   obtain ⟨k, hk, rfl, hall⟩ := hrel
   have HA := Lib.hid hall
   clear hall
   by_cases hlt : k < s.length
   ·have i1 := I1.out k hlt
    have K := zletter_any (s.getD k 0) w
    cases he : okByte (s.getD k 0) with
    | true =>
     rw [he] at K
     have HA2 : Hid (∀ j, j < k + 1 → okByte (s.getD j 0) = true) := Lib.hid (fun j hj => by
       by_cases h : j < k
       ·exact HA.out j h
       ·obtain rfl : j = k := by omega
        exact he)
     clear he
     generalize (s.getD k 0).toNat = x at *
     go_wp2_with fail
     refine K.mono ?_
     rintro e w' ⟨rfl, rfl⟩
     go_wp2_with fail
     go_round
     case rel => exact ⟨k + 1, by omega, by go_num, HA2.out⟩
     case measure => simp [intOf]; omega
    | false =>
     rw [he] at K
     obtain rfl : r = false := HF.out k hlt he
     clear he
     generalize (s.getD k 0).toNat = x at *
     go_wp2_with fail
     refine K.mono ?_
     rintro e w' ⟨rfl, rfl⟩
     go_wp2_with fail
     go_ret
     exact ⟨rfl, rfl⟩
   ·obtain rfl : k = s.length := by omega
    obtain rfl : r = true := HT.out hl HA.out
    go_wp2_with fail
    go_ret
    exact ⟨rfl, rfl⟩
 ·obtain rfl : r = false := HL.out hl
  have hd : ¬ ((s.length : Nat) : Int) ≤ 16 := by omega
  have hd2 : (16 : Int) < ((s.length : Nat) : Int) := by omega
  go_enter Tryz.func100, Tryz.ntmps100
  go_wp2_with fail
  go_ret
  exact ⟨rfl, rfl⟩

set_option maxRecDepth 100000 in
set_option maxHeartbeats 1000000 in
theorem zkey_any (s : Txt) (w : World) :
  Calls Tryz.prog 94 #[.string (bt s)] w fun e w' => e = .returned (.bool (keyB s)) ∧ w = w' := by
 have z1 := bt_size s
 have K := zprefix_any s w
 have hk : keyB s = (decide (0 < s.length) && prefixB s) := rfl
 have t1 := text_eq s []
 generalize prefixB s = r at *
 rw [hk]
 clear hk
 rw [show (bt []).toList = [] from toList_bt []] at t1
 by_cases h : 0 < s.length
 ·rw [decide_eq_true h, Bool.true_and]
  rw [decide_eq_false (by rintro rfl; simp at h)] at t1
  generalize bt s = S at *
  go_enter Tryz.func94, Tryz.ntmps94
  go_wp2_with fail
  refine K.mono ?_
  rintro e w' ⟨rfl, rfl⟩
  go_wp2_with fail
  go_ret
  exact ⟨rfl, rfl⟩
 ·rw [decide_eq_false h, Bool.false_and]
  rw [decide_eq_true (List.eq_nil_of_length_eq_zero (by omega))] at t1
  generalize bt s = S at *
  go_enter Tryz.func94, Tryz.ntmps94
  go_wp2_with fail
  go_ret
  exact ⟨rfl, rfl⟩
end Go.Proofs.YtajfliemmfdnhaaGreat
namespace Go.Proofs.YtajfliemmfdnhaaGreat
open Go.RowKit Plain
set_option linter.unusedVariables false

end Go.Proofs.YtajfliemmfdnhaaGreat
namespace Go.Proofs.YtajfliemmfdnhaaGreat
open Go.RowKit Plain
set_option linter.unusedVariables false

end Go.Proofs.YtajfliemmfdnhaaGreat
namespace Go.Proofs.YtajfliemmfdnhaaGreat
open Go.RowKit Plain
set_option linter.unusedVariables false

end Go.Proofs.YtajfliemmfdnhaaGreat
