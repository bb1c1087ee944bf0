/- What the program's own Heard of effects leaves. -/
import Derived.Test.YtlpcpbangmonaaaTxn
import Derived.Test.YtlpcpbangmonaaaEMades
import Derived.Test.YtlpcpbangmonaaaVcAll
import Derived.Deep.Cut
namespace Go.Proofs.Ytlpcpbangmonaaa
open Go.RowKit Plain
set_option linter.unusedVariables false

theorem heard_is (node seq : Int) (v : List Int) (d : PDot) : (!heard1 node seq v d) = ((!(decide (1 ≤ d.seq) && decide (d.seq ≤ saysI v d.node))) && !isOfB node seq d) := by
  unfold heard1 isOfB
  cases decide (d.node = node) <;> cases decide (d.seq = seq) <;> cases decide (1 ≤ d.seq) <;> cases decide (d.seq ≤ saysI v d.node) <;> rfl
theorem heard_all {l : List PEff} {node seq : Int} {v : List Int} (h : ∀ j, j < l.length → ((l.getD j default).drops.any fun d => !heard1 node seq v d) = false) : heardB l node seq v = true := by
  unfold heardB
  rw [List.all_eq_true]
  intro e he
  obtain ⟨j, hj, rfl⟩ := List.getElem_of_mem he
  have := h j hj
  rw [show l.getD j default = l[j] by simp [List.getD, List.getElem?_eq_getElem hj], List.any_eq_false] at this
  rw [List.all_eq_true]
  intro d hd
  simpa using this d hd
theorem heard_not {l : List PEff} {node seq : Int} {v : List Int} {j : Nat} (hj : j < l.length) (h : ((l.getD j default).drops.any fun d => !heard1 node seq v d) = true) : heardB l node seq v = false := by
  unfold heardB
  rw [List.all_eq_false]
  refine ⟨l[j], List.getElem_mem hj, ?_⟩
  rw [show l.getD j default = l[j] by simp [List.getD, List.getElem?_eq_getElem hj], List.any_eq_true] at h
  obtain ⟨d, hd, hn⟩ := h
  rw [List.all_eq_true]
  intro k
  have := k d hd
  rw [this] at hn
  cases hn

end Go.Proofs.Ytlpcpbangmonaaa
