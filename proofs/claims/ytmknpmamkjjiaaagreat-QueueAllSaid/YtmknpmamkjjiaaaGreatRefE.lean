/- What the document's own Short of effects leaves. (Written by gen-short.py.) -/
import Derived.Test.YtmknpmamkjjiaaaGreatEff
import Derived.Test.YtmknpmamkjjiaaaGreatISets
import Derived.Deep.LoopGhost
import Derived.BigQuiet
namespace Go.Proofs.YtmknpmamkjjiaaaGreat
open Go.RowKit Plain
set_option linter.unusedVariables false

def shortE1 (x : PEff) : Bool := decide (x.key.length ≤ 300) && (decide (x.field.length ≤ 300) && (decide (x.elem.length ≤ 300) && decide (x.drops.length ≤ 70)))
def shortE (xs : List PEff) : Bool := decide (xs.length ≤ 20) && xs.all shortE1
theorem shortE1_iff {x : PEff} : shortE1 x = true ↔ x.key.length ≤ 300 ∧ x.field.length ≤ 300 ∧ x.elem.length ≤ 300 ∧ x.drops.length ≤ 70 := by
 unfold shortE1
 rw [Bool.and_eq_true, Bool.and_eq_true, Bool.and_eq_true, decide_eq_true_iff, decide_eq_true_iff, decide_eq_true_iff, decide_eq_true_iff]
theorem shortE_iff {xs : List PEff} : shortE xs = true ↔ xs.length ≤ 20 ∧ ∀ x ∈ xs, shortE1 x = true := by
 unfold shortE
 rw [Bool.and_eq_true, decide_eq_true_iff, List.all_eq_true]
theorem shortE_no {xs : List PEff} {k : Nat} (hk : k < xs.length) (h : shortE1 (xs.getD k default) = false) : shortE xs = false := by
 cases e : shortE xs with
 | false => rfl
 | true =>
  have := (shortE_iff.1 e).2 _ (mem_def hk)
  rw [h] at this
  exact absurd this (by decide)
theorem shortE_yes {xs : List PEff} (hl : xs.length ≤ 20) (h : ∀ j, j < xs.length → shortE1 (xs.getD j default) = true) : shortE xs = true := shortE_iff.2 ⟨hl, fun x hx => by
 obtain ⟨j, hj, rfl⟩ := List.getElem_of_mem hx
 have := h j hj
 rwa [show xs.getD j default = xs[j] by simp [List.getD, List.getElem?_eq_getElem hj]] at this⟩
theorem shortE_long {xs : List PEff} (hl : ¬ xs.length ≤ 20) : shortE xs = false := by
 cases e : shortE xs with
 | false => rfl
 | true => exact absurd (shortE_iff.1 e).1 hl

set_option maxRecDepth 100000 in
set_option maxHeartbeats 4000000 in
/-- Short -/
theorem rshortE_any {v : Value} {xs : List PEff} {w : World} (hv : SeqE LEff w v xs) :
  Calls Tryz.prog 15 #[v] w fun e w' => e = .returned (.bool (shortE xs)) ∧ w = w' := by
 have HY := Lib.hid (shortE_yes (xs := xs))
 have HN := Lib.hid (fun k hk h => shortE_no (xs := xs) (k := k) hk h)
 have HL := Lib.hid (shortE_long (xs := xs))
 obtain ⟨a, cap, rfl, g1, g2, g0, h⟩ := hv.parts
 have HS := Lib.hid h
 clear hv h g0
 generalize shortE xs = r at *
 by_cases hl : xs.length ≤ 20
 ·have hd : ¬ (20 : Int) < ((xs.length : Nat) : Int) := by omega
  go_enter Tryz.func15, Tryz.ntmps15
  go_wp2_with fail
  go_loop [3] (fun i => ∃ k : Nat, k ≤ xs.length ∧ i = .int .i64 k ∧ ∀ j, j < k → shortE1 (xs.getD j default) = true) (fun i => xs.length - (intOf i).toNat)
  case atStart => exact ⟨0, Nat.zero_le _, rfl, fun j hj => absurd hj (by omega)⟩
  case round =>
   obtain ⟨k, hk, rfl, hall⟩ := hrel
   have HA := Lib.hid hall
   clear hall
   by_cases hlt : k < xs.length
   ·obtain ⟨b, o, c, hv, -, -, -, hc⟩ := effs_spot HS.out (by omega)
    simp only [Value.slice.injEq] at hv
    obtain ⟨rfl, -, rfl⟩ := hv
    obtain ⟨dv, ⟨c0, c1, c2, c3, c4, c5, c6⟩, hsd⟩ := hc k hlt
    have HNK := Lib.hid (HN.out k hlt)
    have HYK : Hid (shortE1 (xs.getD k default) = true → ∀ j, j < k + 1 → shortE1 (xs.getD j default) = true) := Lib.hid (fun h j hj => by
     by_cases e : j = k
     ·rw [e]; exact h
     ·exact HA.out j (by omega))
    have HB := Lib.hid (shortE1_iff (x := xs.getD k default))
    clear hc
    generalize xs.getD k default = x at *
    obtain ⟨da, dc, rfl, -⟩ := hsd.parts
    have z1 := bt_size x.key
    have z2 := bt_size x.field
    have z3 := bt_size x.elem
    clear hsd
    generalize bt x.key = K at *
    generalize bt x.field = F at *
    generalize bt x.elem = El at *
    generalize x.key.length = m1 at *
    generalize x.field.length = m2 at *
    generalize x.elem.length = m3 at *
    generalize x.drops.length = m4 at *
    by_cases h1 : m1 ≤ 300
    rotate_left
    ·have b1 : (300 : Int) < (m1 : Int) := by omega
     obtain rfl : r = false := HNK.out (by rw [Bool.eq_false_iff]; intro e; exact h1 (HB.out.1 e).1)
     clear h1
     go_wp2_with fail
     go_ret
     exact ⟨rfl, rfl⟩
    have b1 : ¬ (300 : Int) < (m1 : Int) := by omega
    by_cases h2 : m2 ≤ 300
    rotate_left
    ·have b2 : (300 : Int) < (m2 : Int) := by omega
     obtain rfl : r = false := HNK.out (by rw [Bool.eq_false_iff]; intro e; exact h2 (HB.out.1 e).2.1)
     clear h1 h2
     go_wp2_with fail
     go_ret
     exact ⟨rfl, rfl⟩
    have b2 : ¬ (300 : Int) < (m2 : Int) := by omega
    by_cases h3 : m3 ≤ 300
    rotate_left
    ·have b3 : (300 : Int) < (m3 : Int) := by omega
     obtain rfl : r = false := HNK.out (by rw [Bool.eq_false_iff]; intro e; exact h3 (HB.out.1 e).2.2.1)
     clear h1 h2 h3
     go_wp2_with fail
     go_ret
     exact ⟨rfl, rfl⟩
    have b3 : ¬ (300 : Int) < (m3 : Int) := by omega
    by_cases h4 : m4 ≤ 70
    rotate_left
    ·have b4 : (70 : Int) < (m4 : Int) := by omega
     obtain rfl : r = false := HNK.out (by rw [Bool.eq_false_iff]; intro e; exact h4 (HB.out.1 e).2.2.2)
     clear h1 h2 h3 h4
     go_wp2_with fail
     go_ret
     exact ⟨rfl, rfl⟩
    have b4 : ¬ (70 : Int) < (m4 : Int) := by omega
    have HX := Lib.hid (HYK.out (HB.out.2 ⟨h1, h2, h3, h4⟩))
    clear h1 h2 h3 h4
    go_wp2_with fail
    go_round
    case rel => exact ⟨k + 1, by omega, by go_num, HX.out⟩
    case measure => simp [intOf]; omega
   ·obtain rfl : k = xs.length := by omega
    obtain rfl : r = true := HY.out hl HA.out
    go_wp2_with fail
    go_ret
    exact ⟨rfl, rfl⟩
 ·obtain rfl : r = false := HL.out hl
  have hd : (20 : Int) < ((xs.length : Nat) : Int) := by omega
  go_enter Tryz.func15, Tryz.ntmps15
  go_wp2_with fail
  go_ret
  exact ⟨rfl, rfl⟩
end Go.Proofs.YtmknpmamkjjiaaaGreat
