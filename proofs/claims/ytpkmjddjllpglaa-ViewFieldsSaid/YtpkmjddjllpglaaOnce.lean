/- What the document's own Once of texts leaves: the least that is greater than the last one, again and again. -/
import Derived.Test.YtpkmjddjllpglaaRefZ
namespace Go.Proofs.Ytpkmjddjllpglaa
open Go.RowKit Plain
set_option linter.unusedVariables false

/-! ### rising lists, from below -/
/-- may x come behind what stands already? -/
def Over (out : List Txt) (x : Txt) : Prop := ∀ t ∈ out, t < x
theorem over_last {out : List Txt} (hr : Rising out) {l : Txt} (hl : out.getLast? = some l) (x : Txt) : Over out x ↔ l < x := by
  constructor
  · intro h
    exact h l (List.mem_of_getLast? hl)
  · intro h t ht
    obtain ⟨ys, rfl⟩ := List.getLast?_eq_some_iff.1 hl
    rcases List.mem_append.1 ht with ht | ht
    · have := (List.pairwise_append.1 hr).2.2 t ht l (by simp)
      exact lt_trans this h
    · rw [List.mem_singleton.1 ht]; exact h
/-- the least of l that may come behind out, among the first k -/
def Best (l out : List Txt) (k : Nat) (ok : Bool) (b : Txt) : Prop :=
  (ok = true → (∃ j, j < k ∧ j < l.length ∧ l.getD j [] = b) ∧ Over out b) ∧ (∀ j, j < k → j < l.length → Over out (l.getD j []) → ok = true ∧ ¬ l.getD j [] < b)
theorem best_zero (l out : List Txt) : Best l out 0 false [] := ⟨fun h => absurd h (by decide), fun j h => absurd h (by omega)⟩
theorem best_skip {l out : List Txt} {k : Nat} {ok : Bool} {b : Txt} (h : Best l out k ok b) (hno : Over out (l.getD k []) → ok = true ∧ ¬ l.getD k [] < b) : Best l out (k + 1) ok b := by
  refine ⟨fun ho => ?_, fun j hj hl hv => ?_⟩
  · obtain ⟨⟨j, h1, h2, h3⟩, h4⟩ := h.1 ho
    exact ⟨⟨j, by omega, h2, h3⟩, h4⟩
  · by_cases g : j < k
    · exact h.2 j g hl hv
    · obtain rfl : j = k := by omega
      exact hno hv
theorem best_take {l out : List Txt} {k : Nat} {ok : Bool} {b : Txt} (h : Best l out k ok b) (hk : k < l.length) (hv : Over out (l.getD k [])) (hlt : ok = true → l.getD k [] < b) : Best l out (k + 1) true (l.getD k []) := by
  refine ⟨fun _ => ⟨⟨k, by omega, hk, rfl⟩, hv⟩, fun j hj hl hvj => ⟨rfl, ?_⟩⟩
  by_cases g : j < k
  · obtain ⟨ho, hn⟩ := h.2 j g hl hvj
    intro hc
    exact hn (lt_trans hc (hlt ho))
  · obtain rfl : j = k := by omega
    exact lt_irrefl _
/-- what stands already: the first of Once -/
structure Grows (l out : List Txt) : Prop where
  rising : Rising out
  mem : ∀ t ∈ out, t ∈ l
  down : ∀ t ∈ l, ∀ u ∈ out, t < u → t ∈ out
theorem grows_nil (l : List Txt) : Grows l [] := ⟨List.Pairwise.nil, fun _ h => absurd h (by simp), fun _ _ _ h => absurd h (by simp)⟩
theorem mem_at {l : List Txt} {t : Txt} (h : t ∈ l) : ∃ j, j < l.length ∧ l.getD j [] = t := by
  obtain ⟨j, hj, rfl⟩ := List.getElem_of_mem h
  exact ⟨j, hj, by simp [List.getD, List.getElem?_eq_getElem hj]⟩
theorem grows_push {l out : List Txt} {b : Txt} (h : Grows l out) (hb : Best l out l.length true b) : Grows l (out ++ [b]) := by
  obtain ⟨⟨j, -, hj, hjb⟩, hov⟩ := hb.1 rfl
  have hbl : b ∈ l := by rw [← hjb]; exact mem_getD hj
  refine ⟨?_, ?_, ?_⟩
  · refine List.pairwise_append.2 ⟨h.rising, by simp, fun t ht u hu => ?_⟩
    rw [List.mem_singleton.1 hu]
    exact hov t ht
  · intro t ht
    rcases List.mem_append.1 ht with ht | ht
    · exact h.mem t ht
    · rw [List.mem_singleton.1 ht]; exact hbl
  · intro t ht u hu hlt
    rcases List.mem_append.1 hu with hu | hu
    · exact List.mem_append.2 (.inl (h.down t ht u hu hlt))
    · rw [List.mem_singleton.1 hu] at hlt
      by_cases g : Over out t
      · obtain ⟨i, hi, rfl⟩ := mem_at ht
        exact absurd hlt (hb.2 i hi hi g).2
      · have : ∃ v, v ∈ out ∧ ¬ v < t := Classical.byContradiction fun hno => g fun v hv => Classical.byContradiction fun hn => hno ⟨v, hv, hn⟩
        obtain ⟨v, hv, hn⟩ := this
        by_cases e : v = t
        · subst e; exact List.mem_append.2 (.inl hv)
        · exact List.mem_append.2 (.inl (h.down t ht v hv (lt_total hn e)))
theorem grows_end {l out : List Txt} {b : Txt} (h : Grows l out) (hb : Best l out l.length false b) : once l = out := by
  refine rising_ext (rising_once l) h.rising fun t => ?_
  rw [mem_once]
  refine ⟨fun ht => ?_, h.mem t⟩
  by_cases g : Over out t
  · obtain ⟨i, hi, rfl⟩ := mem_at ht
    exact absurd (hb.2 i hi hi g).1 (by decide)
  · have : ∃ v, v ∈ out ∧ ¬ v < t := Classical.byContradiction fun hno => g fun v hv => Classical.byContradiction fun hn => hno ⟨v, hv, hn⟩
    obtain ⟨v, hv, hn⟩ := this
    by_cases e : v = t
    · subst e; exact hv
    · exact h.down t ht v hv (lt_total hn e)
theorem grows_len {l out : List Txt} (h : Grows l out) : out.length ≤ l.length := by
  have e : once l = once (out ++ l) := once_ext fun t => by
    rw [List.mem_append]
    exact ⟨.inr, fun g => g.elim (h.mem t) id⟩
  have : out.length ≤ (once l).length := by
    have hs : ∀ {a b : List Txt}, Rising a → Rising b → (∀ t ∈ a, t ∈ b) → a.length ≤ b.length := by
      intro a
      induction a with
      | nil => intro b _ _ _; simp
      | cons x a ih =>
        intro b ha hb hm
        have := ih (b := b.filter fun t => decide (x < t)) ha.tail (hb.filter _) fun t ht => List.mem_filter.2 ⟨hm t (List.mem_cons_of_mem _ ht), decide_eq_true (ha.head t ht)⟩
        have hlt : (b.filter fun t => decide (x < t)).length < b.length := by
          refine Nat.lt_of_le_of_ne (List.length_filter_le _ _) fun he => ?_
          have := List.length_filter_eq_length_iff.1 he x (hm x List.mem_cons_self)
          exact lt_irrefl x (of_decide_eq_true this)
        rw [List.length_cons]; omega
    exact hs h.rising (rising_once l) fun t ht => (mem_once t l).2 (h.mem t ht)
  have := once_len l
  omega

end Go.Proofs.Ytpkmjddjllpglaa
