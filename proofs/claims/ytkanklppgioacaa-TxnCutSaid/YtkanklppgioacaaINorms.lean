/- What the program's own Size, Of, Without of items leave, and the functions that Of and Without hand to those. What slices.SortFunc of items, by the program's own compare, leaves, and the program's own Norm and Without of items. What the function that Norm hands to those leaves, and the program's own Norm of items. What the program's own Without of items leaves, and the function that it hands to those. -/
import Derived.Test.YtkanklppgioacaaISets
import Derived.Test.YtkanklppgioacaaRefSs
import Derived.IntWalk
import Derived.Test.YtkanklppgioacaaICompare
import Derived.Test.YtkanklppgioacaaElSorts
import Derived.Shelf.SlSortCmp.NoneTotal
namespace Go.Proofs.Ytkanklppgioacaa
open Go.RowKit Plain
set_option linter.unusedVariables false

/-! ### Of -/
end Go.Proofs.Ytkanklppgioacaa
namespace Go.Proofs.Ytkanklppgioacaa
open Go.RowKit Plain
set_option linter.unusedVariables false

/-! ### SortFunc -/
theorem ltOf_icmp (x y : PItem) : ltOf icmp x y = lessB x y := icmp_dec x y
theorem swo_icmp : Sort.SWO (ltOf icmp) where
  irrefl x := by rw [ltOf_icmp]; exact decide_eq_false (sto_item.irrefl x)
  trans x y z h g := by
    rw [ltOf_icmp] at *
    exact decide_eq_true (sto_item.trans (of_decide_eq_true h) (of_decide_eq_true g))
  ntrans x y z h g := by
    rw [ltOf_icmp] at *
    refine decide_eq_false fun k => ?_
    have h' := of_decide_eq_false h
    have g' := of_decide_eq_false g
    by_cases e : x = y
    · subst e; exact g' k
    · exact g' (sto_item.trans (sto_item.total h' e) k)
theorem conn_icmp : ∀ x y, ltOf icmp x y = false → ltOf icmp y x = false → x = y := fun x y h g => by
  rw [ltOf_icmp] at *
  exact sto_item.conn (of_decide_eq_false h) (of_decide_eq_false g)
theorem isort_eq (xs : List PItem) : (xs.toArray.toList.mergeSort fun x y => !(ltOf icmp) y x).toArray = (isort xs).toArray := by
  have e : (fun x y : PItem => !(ltOf icmp) y x) = fun x y => !lessB y x := by
    funext x y
    rw [ltOf_icmp]
  rw [e]
  rfl
end Go.Proofs.Ytkanklppgioacaa
namespace Go.Proofs.Ytkanklppgioacaa
open Go.RowKit Plain Go.Maps
set_option linter.unusedVariables false

/-- what holds between the calls of the function that Norm hands over: the variable that holds the map, and the dots that are in it -/
def SeenAt (sb m : Nat) (W : World) (ds : List PDot) : Prop := W.cell? ⟨sb, 0, none⟩ = some (.map (some m)) ∧ SetAt W m ds
theorem SeenAt.below {sb m B : Nat} {W W' : World} {ds : List PDot} (h : SeenAt sb m W ds) (hb : Below B W W') (h1 : sb < B) (h2 : m < B) : SeenAt sb m W' ds :=
  ⟨(hb.cell (p := ⟨sb, 0, none⟩) h1).trans h.1, h.2.below hb h2⟩

end Go.Proofs.Ytkanklppgioacaa
namespace Go.Proofs.Ytkanklppgioacaa
open Go.RowKit Plain Go.Maps
set_option linter.unusedVariables false

theorem take_snoc {α : Type} [Inhabited α] {xs : List α} {k : Nat} (hk : k < xs.length) : xs.take k ++ [xs.getD k default] = xs.take (k + 1) := (take_nextD hk).symm
end Go.Proofs.Ytkanklppgioacaa
