/- What the document's own Same and Short of texts leave (zone/XRefK, without Inter and Without).  -/
import Derived.Test.YtkmiodpaanohoaaGreatRefZs
import Derived.Deep.QuietTactic
import Derived.BigQuiet
namespace Go.Proofs.YtkmiodpaanohoaaGreat
open Go.RowKit Plain
set_option linter.unusedVariables false

/-- a list that isn't too long for a look -/
def shortB (xs : List Txt) : Bool := decide (xs.length ≤ 60) && xs.all fun t => decide (t.length ≤ 200)
theorem short_iff {xs : List Txt} : shortB xs = true ↔ xs.length ≤ 60 ∧ ∀ t ∈ xs, t.length ≤ 200 := by
  unfold shortB
  simp

end Go.Proofs.YtkmiodpaanohoaaGreat
