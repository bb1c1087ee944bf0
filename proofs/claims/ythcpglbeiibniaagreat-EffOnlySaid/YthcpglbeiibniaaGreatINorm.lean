/- What slices.SortFunc of items, by the program's own compare, leaves, and the program's own Norm and Without of items. -/
import Derived.Test.YthcpglbeiibniaaGreatICompare
import Derived.Test.YthcpglbeiibniaaGreatElSort
import Derived.Test.YthcpglbeiibniaaGreatISize
import Derived.Shelf.SlSortCmp.NoneTotal
namespace Go.Proofs.YthcpglbeiibniaaGreat
open Go.RowKit Plain
set_option linter.unusedVariables false

/-! ### SortFunc -/
theorem ltOf_icmp (x y : PItem) : ltOf icmp x y = lessB x y := icmp_dec x y
theorem swo_icmp : Sort.SWO (ltOf icmp) where
  irrefl x := by rw [ltOf_icmp]; exact decide_eq_false (sto_item.irrefl x)
  trans x y z h g := by
    rw [ltOf_icmp] at *
    exact decide_eq_true (sto_item.trans (of_decide_eq_true h) (of_decide_eq_true g))
  ntrans x y z h g := by
    rw [ltOf_icmp] at *
    refine decide_eq_false fun k => ?_
    have h' := of_decide_eq_false h
    have g' := of_decide_eq_false g
    by_cases e : x = y
    · subst e; exact g' k
    · exact g' (sto_item.trans (sto_item.total h' e) k)
theorem conn_icmp : ∀ x y, ltOf icmp x y = false → ltOf icmp y x = false → x = y := fun x y h g => by
  rw [ltOf_icmp] at *
  exact sto_item.conn (of_decide_eq_false h) (of_decide_eq_false g)
theorem entersCmp : ∀ args w, (callFunc 38 args).run Tryz.prog w = .ok (.enter 38 args) w := enters_of Tryz.func38 (by kernel_rfl) rfl
theorem cmpLaysI (blk off size : Nat) (w : World) : CmpLays Tryz.prog 38 #[] cellsIt 8 icmp blk off size w := fun _ _ _ _ x y => icompare_any x y _
theorem isort_eq (xs : List PItem) : (xs.toArray.toList.mergeSort fun x y => !(ltOf icmp) y x).toArray = (isort xs).toArray := by
  have e : (fun x y : PItem => !(ltOf icmp) y x) = fun x y => !lessB y x := by
    funext x y
    rw [ltOf_icmp]
  rw [e]
  rfl
/-- slices.SortFunc of items of the call's own -/
theorem sort_items {B : Nat} {v : Value} {xs : List PItem} {w0 w : World} (hv : OwnE LItem B w v xs) (hb : Below B w0 w) (hB : B ≤ w.heap.size) (hx : xs.length ≤ 1000000) :
    Calls Tryz.prog 37 #[v, .func (.func 38) #[] #[]] w fun e w' => e = .returned (.tuple #[]) ∧ Below B w0 w' ∧ B ≤ w'.heap.size ∧ Sq LItem (fun b => B ≤ b ∧ b < w'.heap.size) w' v (isort xs) := by
  have hl := isort_len xs
  have hlt := hv.lt
  obtain ⟨a, cap, rfl, h1, h2, hv', h0⟩ := hv.parts
  cases a with
  | none =>
    obtain rfl := h0 rfl
    obtain rfl : xs = [] := List.eq_nil_of_length_eq_zero (by omega)
    refine (AnyF.slices_SortFunc_none Tryz.sortItem none 0 _ w).mono fun e w' ⟨he, hw⟩ => ?_
    subst hw
    refine ⟨he, hb, hB, ?_⟩
    have e : isort [] = [] := List.eq_nil_of_length_eq_zero hl
    rw [e]
    exact (OwnE.nil B w').new flat_item
  | some ad =>
    obtain ⟨g, c, e⟩ : ∃ g c, (Value.slice (some ad) xs.length cap) = .slice (some ⟨g, 0, none⟩) xs.length c := by
      obtain ⟨vals, ho, -⟩ := hv'
      rcases ho.2 with ⟨e, -⟩ | ⟨g, c, cur, e, -⟩
      · cases e
      · simp only [Value.slice.injEq, Option.some.injEq] at e
        exact ⟨g, c, by rw [e.1, e.2.2]⟩
    rw [e] at hv hlt hv' ⊢
    obtain ⟨hg1, hg2⟩ := hlt g rfl
    have hd := hv.seq.dims
    have hm : maxLen = 9223372036854775807 := rfl
    have hH := holdsK_of_own (L := LItem) (enc := cellsIt) (fun h => h) (fun _ => rfl) hv
    refine (AnyQ.slices_SortFunc_total Tryz.sortItem 8 Tryz.isAgg39 Tryz.sizeOf39 cellsIt (fun _ => rfl) (fun x => oneIt rfl) icmp swo_icmp 38 #[] g 0 c xs.toArray w entersCmp (cmpLaysI g 0 _ w) hH hg2 (by simp; omega) conn_icmp).mono fun e w' ⟨he, n, os, hw⟩ => ?_
    rw [isort_eq] at hw
    have hs : w.heap.size ≤ w'.heap.size := by rw [hw]; exact size_sortK n os
    have hH2 : Sort.HoldsK cellsIt 8 w' g 0 (isort xs).toArray := by
      rw [hw]
      exact Go.Proofs.holdsK_sortWorldK cellsIt 8 w g 0 n xs.toArray _ os hg2 hH (by simp [hl])
    refine ⟨he, by rw [hw]; exact below_sortK hb hB hg1 n os, by omega, ?_⟩
    have := sq_of_holdsK (L := LItem) (enc := cellsIt) (fun h => h) (fun _ => rfl) hH2 (cap := c) (by rw [hl]; omega) (by omega) (P := fun b => B ≤ b ∧ b < w'.heap.size) ⟨hg1, by omega⟩
    rw [hl] at this
    exact this
end Go.Proofs.YthcpglbeiibniaaGreat
