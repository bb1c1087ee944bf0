/- What strings.HasPrefix, slices.ContainsFunc, BinarySearch, Clone, DeleteFunc leave of texts: off the contracts that YtpkmjddjllpglaaShelf lays. -/
import Derived.Test.YtpkmjddjllpglaaShelfT
import Derived.Test.YtpkmjddjllpglaaGives
import Derived.Test.YtpkmjddjllpglaaShelf
namespace Go.Proofs.Ytpkmjddjllpglaa
open Go.RowKit Plain
set_option linter.unusedVariables false

theorem bang_getD (xs : List Txt) (j : Nat) (hj : j < xs.length) : xs[j]! = xs.getD j [] := by
  simp [getElem!_pos, hj, List.getD]

end Go.Proofs.Ytpkmjddjllpglaa
