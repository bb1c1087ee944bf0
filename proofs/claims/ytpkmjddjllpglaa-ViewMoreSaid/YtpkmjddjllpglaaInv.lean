/- REGIONS THAT DRAW THEIR ORDER, BY WHAT STAYS TRUE: an invariant of what has come up (listed), the temporaries and the world, which every operation that may come up carries on, holds at the end, whatever order was picked. For regions whose allocs hang on nothing (the ways would multiply). Of no package. -/
import Derived.Test.YtpkmjddjllpglaaBase
import Derived.OrdersHeld
import Derived.Deep.RegionHeld
namespace Go.Proofs.Ytpkmjddjllpglaa
open Go.RowKit Plain
set_option linter.unusedVariables false

/-- how many haven't come up -/
def unlisted (listed : Array Bool) : Nat := (listed.toList.filter (!·)).length
theorem unlisted_set {listed : Array Bool} {i : Nat} (h : listed.getD i true = false) : unlisted (listed.setIfInBounds i true) + 1 = unlisted listed := by
  unfold unlisted
  obtain ⟨l⟩ := listed
  have hi : l[i]? = some false := by
    simp only [Array.getD_eq_getD_getElem?, List.getElem?_toArray] at h
    cases e : l[i]? with
    | none => rw [e] at h; cases h
    | some b => rw [e] at h; simp at h; rw [h]
  simp only [List.setIfInBounds_toArray]
  clear h
  induction l generalizing i with
  | nil => simp at hi
  | cons b l ih =>
    cases i with
    | zero =>
      simp at hi
      subst hi
      simp
    | succ i =>
      have := ih (i := i) (by simpa using hi)
      rw [List.set_cons_succ]
      cases b
      · simp at this ⊢
        omega
      · simpa using this
section
variable {P : Program} {ops : Array Oper} {Q : Exit → Act → World → Prop} {md : Region.Mode} {S : World → Prop}
theorem wpAnyH_inv (I : Array Bool → Act → World → Prop)
    (hstep : ∀ listed a w i, I listed a w → i ∈ Region.ready md ops listed → wpOp P ops Q i (fun a' w' => S w' ∧ I (listed.setIfInBounds i true) a' w') a w)
    (hdone : ∀ listed a w, I listed a w → Region.ready md ops listed = [] → Q .normal a w) :
    ∀ fuel listed a w, unlisted listed ≤ fuel → I listed a w → wpAnyH P md ops Q S fuel listed a w := by
  intro fuel
  induction fuel with
  | zero =>
    intro listed a w hl hI
    have hr : Region.ready md ops listed = [] := by
      rw [List.eq_nil_iff_forall_not_mem]
      intro i hi
      have := unlisted_set (mem_ready.1 hi).1
      omega
    exact ⟨hr, hdone listed a w hI hr⟩
  | succ fuel ih =>
    intro listed a w hl hI
    refine ⟨fun hr => hdone listed a w hI hr, fun i hi => ?_⟩
    have hu := unlisted_set (mem_ready.1 hi).1
    exact wpOp_mono (fun a' w' ⟨h1, h2⟩ => ⟨h1, ih _ a' w' (by omega) h2⟩) (hstep listed a w i hI hi)
end
end Go.Proofs.Ytpkmjddjllpglaa
