/- WHAT A CALL ANSWERS: a bool, an integer, a list of texts (zone/XRefS has the first three, too: not both in one seat). -/
import Derived.Test.YtgllaoanpemjlaaTWords
namespace Go.Proofs.Ytgllaoanpemjlaa
open Go.RowKit Plain
set_option linter.unusedVariables false

def GivesB (w : World) (r : Bool) (e : Ending) (w' : World) : Prop := e = .returned (.bool r) ∧ Below w.heap.size w w'
def GivesI (w : World) (n : Int) (e : Ending) (w' : World) : Prop := e = .returned (.int .i64 n) ∧ Below w.heap.size w w'
def GivesT (w : World) (xs : List Txt) (e : Ending) (w' : World) : Prop := ∃ v, e = .returned v ∧ SeqT w' v xs ∧ Below w.heap.size w w'
theorem MadeT.gives {w : World} {xs : List Txt} {e : Ending} {w' : World} (h : MadeT w xs e w') : GivesT w xs e w' := by
  obtain ⟨v, he, ho, hb⟩ := h
  exact ⟨v, he, ho.seq, hb⟩
theorem below_of_drawn {w w' : World} (h : ∃ n, w' = w.drewN n) : Below w.heap.size w w' := by
  obtain ⟨n, rfl⟩ := h
  exact below_drewN (Below.refl _ _) n
theorem below_of_same {w w' : World} (h : w = w') : Below w.heap.size w w' := by rw [h]; exact Below.refl _ _
end Go.Proofs.Ytgllaoanpemjlaa
