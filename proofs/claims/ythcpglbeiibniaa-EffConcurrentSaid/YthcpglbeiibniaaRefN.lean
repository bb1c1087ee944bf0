/- What the document's own Put and Norm of items leave. (Written by gen-put.py.) -/
import Derived.Test.YthcpglbeiibniaaRefP
import Derived.Test.YthcpglbeiibniaaRefL
namespace Go.Proofs.Ythcpglbeiibniaa
open Go.RowKit Plain
set_option linter.unusedVariables false

theorem put_at {xs : List PItem} {x : PItem} {k : Nat} (hr : Ris iless xs) (hx : x ∉ xs) (h1 : ∀ j, j < k → lessB (xs.getD j default) x = true) (h2 : k < xs.length → lessB (xs.getD k default) x = false) (hk : k ≤ xs.length) :
    insR iless x xs = xs.take k ++ x :: xs.drop k := by
  have key : insR iless x (xs.take k ++ xs.drop k) = xs.take k ++ x :: xs.drop k := by
    refine insR_at sto_item (by rw [List.take_append_drop]; exact hr) (fun t ht => ?_) (fun t ht => ?_)
    · obtain ⟨j, hj, rfl⟩ := List.getElem_of_mem ht
      rw [List.length_take] at hj
      have := of_decide_eq_true (h1 j (by omega))
      rw [List.getElem_take]
      rwa [show xs.getD j default = xs[j] by simp [List.getD, List.getElem?_eq_getElem (show j < xs.length by omega)]] at this
    · obtain ⟨j, hj, rfl⟩ := List.getElem_of_mem ht
      rw [List.length_drop] at hj
      rw [List.getElem_drop]
      have hk' : k < xs.length := by omega
      have h3 := of_decide_eq_false (h2 hk')
      rw [show xs.getD k default = xs[k] by simp [List.getD, List.getElem?_eq_getElem hk']] at h3
      have h4 : iless x xs[k] := sto_item.total h3 (fun e => hx (by rw [← e]; exact List.getElem_mem hk'))
      by_cases e : j = 0
      · subst e; simpa using h4
      · exact sto_item.trans h4 (List.pairwise_iff_getElem.1 hr k (k + j) hk' (by omega) (by omega))
  rwa [List.take_append_drop] at key

end Go.Proofs.Ythcpglbeiibniaa
