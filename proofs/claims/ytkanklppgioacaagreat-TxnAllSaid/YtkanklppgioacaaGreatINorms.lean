/- What the program's own Size, Of, Without of items leave, and the functions that Of and Without hand to those. What slices.SortFunc of items, by the program's own compare, leaves, and the program's own Norm and Without of items. What the function that Norm hands to those leaves, and the program's own Norm of items. What the program's own Without of items leaves, and the function that it hands to those. -/
import Derived.Test.YtkanklppgioacaaGreatISets
import Derived.Test.YtkanklppgioacaaGreatRefSs
import Derived.IntWalk
import Derived.Test.YtkanklppgioacaaGreatICompare
import Derived.Test.YtkanklppgioacaaGreatElSorts
import Derived.Shelf.SlSortCmp.NoneTotal
namespace Go.Proofs.YtkanklppgioacaaGreat
open Go.RowKit Plain
set_option linter.unusedVariables false

/-! ### Of -/
end Go.Proofs.YtkanklppgioacaaGreat
namespace Go.Proofs.YtkanklppgioacaaGreat
open Go.RowKit Plain
set_option linter.unusedVariables false

/-! ### SortFunc -/
end Go.Proofs.YtkanklppgioacaaGreat
namespace Go.Proofs.YtkanklppgioacaaGreat
open Go.RowKit Plain Go.Maps
set_option linter.unusedVariables false

/-- what holds between the calls of the function that Norm hands over: the variable that holds the map, and the dots that are in it -/
def SeenAt (sb m : Nat) (W : World) (ds : List PDot) : Prop := W.cell? ⟨sb, 0, none⟩ = some (.map (some m)) ∧ SetAt W m ds
theorem SeenAt.below {sb m B : Nat} {W W' : World} {ds : List PDot} (h : SeenAt sb m W ds) (hb : Below B W W') (h1 : sb < B) (h2 : m < B) : SeenAt sb m W' ds :=
 ⟨(hb.cell (p := ⟨sb, 0, none⟩) h1).trans h.1, h.2.below hb h2⟩

end Go.Proofs.YtkanklppgioacaaGreat
namespace Go.Proofs.YtkanklppgioacaaGreat
open Go.RowKit Plain Go.Maps
set_option linter.unusedVariables false

end Go.Proofs.YtkanklppgioacaaGreat
