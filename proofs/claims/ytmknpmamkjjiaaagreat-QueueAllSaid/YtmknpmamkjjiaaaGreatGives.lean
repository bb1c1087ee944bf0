/- WHAT A CALL ANSWERS: a bool, an integer, a list of texts (zone/XRefS has the first three, too: not both in one seat). -/
import Derived.Test.YtmknpmamkjjiaaaGreatTWords
namespace Go.Proofs.YtmknpmamkjjiaaaGreat
open Go.RowKit Plain
set_option linter.unusedVariables false

def GivesB (w : World) (r : Bool) (e : Ending) (w' : World) : Prop := e = .returned (.bool r) ∧ Below w.heap.size w w'
def GivesT (w : World) (xs : List Txt) (e : Ending) (w' : World) : Prop := ∃ v, e = .returned v ∧ SeqT w' v xs ∧ Below w.heap.size w w'
theorem below_of_drawn {w w' : World} (h : ∃ n, w' = w.drewN n) : Below w.heap.size w w' := by
 obtain ⟨n, rfl⟩ := h
 exact below_drewN (Below.refl _ _) n
end Go.Proofs.YtmknpmamkjjiaaaGreat
