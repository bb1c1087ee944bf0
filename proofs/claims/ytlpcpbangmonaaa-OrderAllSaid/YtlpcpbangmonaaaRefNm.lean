/- What the document's own Norm of items leaves. (Written by gen-refnorm.py.) -/
import Derived.Test.YtlpcpbangmonaaaRefIs
import Derived.Deep.RegionHeld3
namespace Go.Proofs.Ytlpcpbangmonaaa
open Go.RowKit Plain
set_option linter.unusedVariables false

/-! ### of each dot the first one -/
def badB (xs : List PItem) (k j : Nat) : Bool := decide ((xs.getD j default).dot = (xs.getD k default).dot) && (lessB (xs.getD j default) (xs.getD k default) || (decide (xs.getD j default = xs.getD k default) && decide (j < k)))
def fstTo (xs : List PItem) (k m : Nat) : Bool := (List.range m).all fun j => !badB xs k j
theorem fstTo_zero (xs : List PItem) (k : Nat) : fstTo xs k 0 = true := rfl
theorem fstTo_next (xs : List PItem) (k m : Nat) : fstTo xs k (m + 1) = (fstTo xs k m && !badB xs k m) := by
  unfold fstTo
  rw [List.range_succ, List.all_append]
  simp
theorem fst_true {xs : List PItem} {k : Nat} (hk : k < xs.length) (h : fstTo xs k xs.length = true) : firstOf xs (xs.getD k default) = true ∧ xs.getD k default ∉ xs.take k := by
  unfold fstTo at h
  rw [List.all_eq_true] at h
  refine ⟨firstOf_iff.2 fun y hy e hl => ?_, fun hm => ?_⟩
  · obtain ⟨j, hj, rfl⟩ := List.getElem_of_mem hy
    have := h j (List.mem_range.2 hj)
    rw [show xs[j] = xs.getD j default by simp [List.getD, List.getElem?_eq_getElem hj]] at e hl
    unfold badB lessB at this
    rw [decide_eq_true e, decide_eq_true hl] at this
    simp at this
  · obtain ⟨j, hj, e⟩ := List.getElem_of_mem hm
    rw [List.length_take] at hj
    rw [List.getElem_take] at e
    have := h j (List.mem_range.2 (by omega))
    rw [show xs[j] = xs.getD j default by simp [List.getD, List.getElem?_eq_getElem (show j < xs.length by omega)]] at e
    unfold badB at this
    rw [e, decide_eq_true rfl, decide_eq_true rfl, decide_eq_true (show j < k by omega)] at this
    simp at this
theorem fst_false {xs : List PItem} {k : Nat} (hk : k < xs.length) (h : fstTo xs k xs.length = false) : firstOf xs (xs.getD k default) = false ∨ xs.getD k default ∈ xs.take k := by
  rcases Classical.em (xs.getD k default ∈ xs.take k) with g | g
  · exact .inr g
  · refine .inl ?_
    rw [Bool.eq_false_iff]
    intro hf
    rw [firstOf_iff] at hf
    have : fstTo xs k xs.length = true := by
      unfold fstTo
      rw [List.all_eq_true]
      intro j hj
      have hj' := List.mem_range.1 hj
      unfold badB lessB
      by_cases e : (xs.getD j default).dot = (xs.getD k default).dot
      · have h1 := hf _ (mem_def hj') e
        rw [decide_eq_false h1]
        by_cases e2 : xs.getD j default = xs.getD k default
        · by_cases e3 : j < k
          · exfalso
            apply g
            rw [← e2, show xs.getD j default = (xs.take k)[j]'(by rw [List.length_take]; omega) by rw [List.getElem_take]; simp [List.getD, List.getElem?_eq_getElem hj']]
            exact List.getElem_mem _
          · rw [decide_eq_false e3]; simp
        · rw [decide_eq_false e2]; simp
      · rw [decide_eq_false e]; rfl
    rw [this] at h
    exact absurd h (by decide)
def upTo (xs : List PItem) (k : Nat) : List PItem := onceR iless ((xs.take k).filter (firstOf xs))
theorem upTo_all (xs : List PItem) : upTo xs xs.length = inorm xs := by unfold upTo; rw [List.take_length]; rfl
theorem upTo_len (xs : List PItem) (k : Nat) : (upTo xs k).length ≤ k := by
  unfold upTo
  have := onceR_len (r := iless) ((xs.take k).filter (firstOf xs))
  have := List.length_filter_le (firstOf xs) (xs.take k)
  rw [List.length_take] at this
  omega
theorem upTo_ris (xs : List PItem) (k : Nat) : Ris iless (upTo xs k) := ris_onceR sto_item _
theorem upTo_mem {xs : List PItem} {k : Nat} {x : PItem} (h : x ∈ upTo xs k) : x ∈ xs.take k := (List.mem_filter.1 ((mem_onceR x _).1 h)).1
theorem upTo_yes {xs : List PItem} {k : Nat} (hk : k < xs.length) (h : fstTo xs k xs.length = true) : upTo xs (k + 1) = insR iless (xs.getD k default) (upTo xs k) := by
  obtain ⟨h1, -⟩ := fst_true hk h
  refine ris_ext sto_item (upTo_ris xs _) (ris_insR sto_item _ (upTo_ris xs k)) fun t => ?_
  unfold upTo
  rw [mem_insR, mem_onceR, mem_onceR, takeG hk, List.filter_append, List.mem_append]
  simp only [List.filter_cons, h1, if_true, List.filter_nil, List.mem_singleton]
  exact Or.comm
theorem upTo_no {xs : List PItem} {k : Nat} (hk : k < xs.length) (h : fstTo xs k xs.length = false) : upTo xs (k + 1) = upTo xs k := by
  unfold upTo
  rw [takeG hk, List.filter_append]
  rcases fst_false hk h with g | g
  · rw [List.filter_cons, if_neg (by rw [g]; decide), List.filter_nil, List.append_nil]
  · refine onceR_ext sto_item fun t => ?_
    rw [List.mem_append]
    refine ⟨fun e => e.elim id fun e => ?_, .inl⟩
    obtain ⟨e1, e2⟩ := List.mem_filter.1 e
    rw [List.mem_singleton.1 e1] at e2 ⊢
    exact List.mem_filter.2 ⟨g, e2⟩

end Go.Proofs.Ytlpcpbangmonaaa
