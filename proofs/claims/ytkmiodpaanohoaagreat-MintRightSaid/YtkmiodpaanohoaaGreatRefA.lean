/- What the document's own Short, Size, Copy of items leave. -/
import Derived.Test.YtkmiodpaanohoaaGreatItem
import Derived.Deep.LoopGhost
import Derived.BigQuiet
namespace Go.Proofs.YtkmiodpaanohoaaGreat
open Go.RowKit Plain
set_option linter.unusedVariables false

def shortB1 (x : PItem) : Bool := decide (x.key.length ≤ 300) && (decide (x.field.length ≤ 300) && decide (x.elem.length ≤ 300))
def shortI (xs : List PItem) : Bool := decide (xs.length ≤ 60) && xs.all shortB1
theorem short1_iff {x : PItem} : shortB1 x = true ↔ x.key.length ≤ 300 ∧ x.field.length ≤ 300 ∧ x.elem.length ≤ 300 := by
  unfold shortB1
  rw [Bool.and_eq_true, Bool.and_eq_true, decide_eq_true_iff, decide_eq_true_iff, decide_eq_true_iff]
theorem shortI_iff {xs : List PItem} : shortI xs = true ↔ xs.length ≤ 60 ∧ ∀ x ∈ xs, shortB1 x = true := by
  unfold shortI
  rw [Bool.and_eq_true, decide_eq_true_iff, List.all_eq_true]
theorem mem_def {α : Type} [Inhabited α] {xs : List α} {j : Nat} (hj : j < xs.length) : xs.getD j default ∈ xs := List.mem_of_getElem? (getD_at hj)
theorem shortI_no {xs : List PItem} {k : Nat} (hk : k < xs.length) (h : shortB1 (xs.getD k default) = false) : shortI xs = false := by
  cases e : shortI xs with
  | false => rfl
  | true =>
    have := (shortI_iff.1 e).2 _ (mem_def hk)
    rw [h] at this
    exact absurd this (by decide)
theorem shortI_yes {xs : List PItem} (hl : xs.length ≤ 60) (h : ∀ j, j < xs.length → shortB1 (xs.getD j default) = true) : shortI xs = true := shortI_iff.2 ⟨hl, fun x hx => by
  obtain ⟨j, hj, rfl⟩ := List.getElem_of_mem hx
  have := h j hj
  rwa [show xs.getD j default = xs[j] by simp [List.getD, List.getElem?_eq_getElem hj]] at this⟩
theorem shortI_long {xs : List PItem} (hl : ¬ xs.length ≤ 60) : shortI xs = false := by
  cases e : shortI xs with
  | false => rfl
  | true => exact absurd (shortI_iff.1 e).1 hl

set_option maxRecDepth 100000 in
set_option maxHeartbeats 4000000 in
/-- Short -/
theorem rshortI_any {v : Value} {xs : List PItem} {w : World} (hv : SeqE LItem w v xs) :
    Calls Tryz.prog 14 #[v] w fun e w' => e = .returned (.bool (shortI xs)) ∧ w = w' := by
  have HY := Lib.hid (shortI_yes (xs := xs))
  have HN := Lib.hid (fun k hk h => shortI_no (xs := xs) (k := k) hk h)
  have HL := Lib.hid (shortI_long (xs := xs))
  obtain ⟨a, cap, rfl, g1, g2, g0, h⟩ := hv.parts
  have HS := Lib.hid h
  clear hv h g0
  generalize shortI xs = r at *
  by_cases hl : xs.length ≤ 60
  · have hd : ¬ (60 : Int) < ((xs.length : Nat) : Int) := by omega
    go_enter Tryz.func14, Tryz.ntmps14
    go_wp2_with fail
    go_loop [3] (fun i => ∃ k : Nat, k ≤ xs.length ∧ i = .int .i64 k ∧ ∀ j, j < k → shortB1 (xs.getD j default) = true) (fun i => xs.length - (intOf i).toNat)
    case atStart => exact ⟨0, Nat.zero_le _, rfl, fun j hj => absurd hj (by omega)⟩
    case round =>
      obtain ⟨k, hk, rfl, hall⟩ := hrel
      have HA := Lib.hid hall
      clear hall
      by_cases hlt : k < xs.length
      · obtain ⟨b, o, c, hv, -, -, -, hc⟩ := items_spot HS.out (by omega)
        simp only [Value.slice.injEq] at hv
        obtain ⟨rfl, -, rfl⟩ := hv
        obtain ⟨c0, c1, c2, c3, c4, c5, c6, c7⟩ := hc k hlt
        have HNK := Lib.hid (HN.out k hlt)
        have HYK : Hid (shortB1 (xs.getD k default) = true → ∀ j, j < k + 1 → shortB1 (xs.getD j default) = true) := Lib.hid (fun h j hj => by
          by_cases e : j = k
          · rw [e]; exact h
          · exact HA.out j (by omega))
        have HB := Lib.hid (short1_iff (x := xs.getD k default))
        clear hc
        generalize xs.getD k default = x at *
        have z1 := bt_size x.key
        have z2 := bt_size x.field
        have z3 := bt_size x.elem
        generalize bt x.key = K at *
        generalize bt x.field = F at *
        generalize bt x.elem = El at *
        generalize x.key.length = m1 at *
        generalize x.field.length = m2 at *
        generalize x.elem.length = m3 at *
        by_cases h1 : m1 ≤ 300
        · have b1 : ¬ (300 : Int) < (m1 : Int) := by omega
          by_cases h2 : m2 ≤ 300
          · have b2 : ¬ (300 : Int) < (m2 : Int) := by omega
            by_cases h3 : m3 ≤ 300
            · have b3 : ¬ (300 : Int) < (m3 : Int) := by omega
              have HX := Lib.hid (HYK.out (HB.out.2 ⟨h1, h2, h3⟩))
              clear h1 h2 h3
              go_wp2_with fail
              go_round
              case rel => exact ⟨k + 1, by omega, by go_num, HX.out⟩
              case measure => simp [intOf]; omega
            · have b3 : (300 : Int) < (m3 : Int) := by omega
              obtain rfl : r = false := HNK.out (by rw [Bool.eq_false_iff]; intro e; exact h3 (HB.out.1 e).2.2)
              clear h1 h2 h3
              go_wp2_with fail
              go_ret
              exact ⟨rfl, rfl⟩
          · have b2 : (300 : Int) < (m2 : Int) := by omega
            obtain rfl : r = false := HNK.out (by rw [Bool.eq_false_iff]; intro e; exact h2 (HB.out.1 e).2.1)
            clear h1 h2
            go_wp2_with fail
            go_ret
            exact ⟨rfl, rfl⟩
        · have b1 : (300 : Int) < (m1 : Int) := by omega
          obtain rfl : r = false := HNK.out (by rw [Bool.eq_false_iff]; intro e; exact h1 (HB.out.1 e).1)
          clear h1
          go_wp2_with fail
          go_ret
          exact ⟨rfl, rfl⟩
      · obtain rfl : k = xs.length := by omega
        obtain rfl : r = true := HY.out hl HA.out
        go_wp2_with fail
        go_ret
        exact ⟨rfl, rfl⟩
  · obtain rfl : r = false := HL.out hl
    have hd : (60 : Int) < ((xs.length : Nat) : Int) := by omega
    go_enter Tryz.func14, Tryz.ntmps14
    go_wp2_with fail
    go_ret
    exact ⟨rfl, rfl⟩

end Go.Proofs.YtkmiodpaanohoaaGreat
