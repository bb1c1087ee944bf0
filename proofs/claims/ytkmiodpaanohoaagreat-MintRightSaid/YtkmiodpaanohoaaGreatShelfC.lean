/- What strings.HasPrefix, slices.ContainsFunc, BinarySearch, Clone, DeleteFunc leave of texts: off the contracts that YtkmiodpaanohoaaGreatShelf lays. -/
import Derived.Test.YtkmiodpaanohoaaGreatShelfS
import Derived.Test.YtkmiodpaanohoaaGreatGives
import Derived.Test.YtkmiodpaanohoaaGreatMaths
import Derived.Test.YtkmiodpaanohoaaGreatShelf
namespace Go.Proofs.YtkmiodpaanohoaaGreat
open Go.RowKit Plain
set_option linter.unusedVariables false

theorem bang_getD (xs : List Txt) (j : Nat) (hj : j < xs.length) : xs[j]! = xs.getD j [] := by
  simp [getElem!_pos, hj, List.getD]

end Go.Proofs.YtkmiodpaanohoaaGreat
