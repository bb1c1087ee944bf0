/- What strings.HasPrefix, slices.ContainsFunc, BinarySearch, Clone, DeleteFunc leave of texts: off the contracts that YtkmiodpaanohoaaShelf lays. -/
import Derived.Test.YtkmiodpaanohoaaShelfS
import Derived.Test.YtkmiodpaanohoaaGives
import Derived.Test.YtkmiodpaanohoaaMaths
import Derived.Test.YtkmiodpaanohoaaShelf
namespace Go.Proofs.Ytkmiodpaanohoaa
open Go.RowKit Plain
set_option linter.unusedVariables false

theorem bang_getD (xs : List Txt) (j : Nat) (hj : j < xs.length) : xs[j]! = xs.getD j [] := by
  simp [getElem!_pos, hj, List.getD]

end Go.Proofs.Ytkmiodpaanohoaa
