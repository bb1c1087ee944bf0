/- What strings.HasPrefix, slices.ContainsFunc, BinarySearch, Clone, DeleteFunc leave of texts: off the contracts that YtkanklppgioacaaShelf lays. -/
import Derived.Test.YtkanklppgioacaaShelfS
import Derived.Test.YtkanklppgioacaaGives
import Derived.Test.YtkanklppgioacaaMaths
import Derived.Test.YtkanklppgioacaaShelf
namespace Go.Proofs.Ytkanklppgioacaa
open Go.RowKit Plain
set_option linter.unusedVariables false

theorem bang_getD (xs : List Txt) (j : Nat) (hj : j < xs.length) : xs[j]! = xs.getD j [] := by
  simp [getElem!_pos, hj, List.getD]

end Go.Proofs.Ytkanklppgioacaa
