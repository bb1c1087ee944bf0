/- What the document's own Short of effects leaves. (Written by gen-short.py.) -/
import Derived.Test.YtkmiodpaanohoaaGreatEff
import Derived.Test.YtkmiodpaanohoaaGreatRefA
import Derived.Deep.LoopGhost
import Derived.BigQuiet
namespace Go.Proofs.YtkmiodpaanohoaaGreat
open Go.RowKit Plain
set_option linter.unusedVariables false

def shortE1 (x : PEff) : Bool := decide (x.key.length ≤ 300) && (decide (x.field.length ≤ 300) && (decide (x.elem.length ≤ 300) && decide (x.drops.length ≤ 70)))
def shortE (xs : List PEff) : Bool := decide (xs.length ≤ 20) && xs.all shortE1
theorem shortE1_iff {x : PEff} : shortE1 x = true ↔ x.key.length ≤ 300 ∧ x.field.length ≤ 300 ∧ x.elem.length ≤ 300 ∧ x.drops.length ≤ 70 := by
  unfold shortE1
  rw [Bool.and_eq_true, Bool.and_eq_true, Bool.and_eq_true, decide_eq_true_iff, decide_eq_true_iff, decide_eq_true_iff, decide_eq_true_iff]
theorem shortE_iff {xs : List PEff} : shortE xs = true ↔ xs.length ≤ 20 ∧ ∀ x ∈ xs, shortE1 x = true := by
  unfold shortE
  rw [Bool.and_eq_true, decide_eq_true_iff, List.all_eq_true]
theorem shortE_no {xs : List PEff} {k : Nat} (hk : k < xs.length) (h : shortE1 (xs.getD k default) = false) : shortE xs = false := by
  cases e : shortE xs with
  | false => rfl
  | true =>
    have := (shortE_iff.1 e).2 _ (mem_def hk)
    rw [h] at this
    exact absurd this (by decide)
theorem shortE_yes {xs : List PEff} (hl : xs.length ≤ 20) (h : ∀ j, j < xs.length → shortE1 (xs.getD j default) = true) : shortE xs = true := shortE_iff.2 ⟨hl, fun x hx => by
  obtain ⟨j, hj, rfl⟩ := List.getElem_of_mem hx
  have := h j hj
  rwa [show xs.getD j default = xs[j] by simp [List.getD, List.getElem?_eq_getElem hj]] at this⟩
theorem shortE_long {xs : List PEff} (hl : ¬ xs.length ≤ 20) : shortE xs = false := by
  cases e : shortE xs with
  | false => rfl
  | true => exact absurd (shortE_iff.1 e).1 hl

end Go.Proofs.YtkmiodpaanohoaaGreat
