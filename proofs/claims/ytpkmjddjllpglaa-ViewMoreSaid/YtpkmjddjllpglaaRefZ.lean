/- What the document's own functions of texts leave: Begins, Prefix, Key, Covers. -/
import Derived.Test.YtpkmjddjllpglaaTWords
import Derived.BigQuiet
namespace Go.Proofs.Ytpkmjddjllpglaa
open Go.RowKit Plain
set_option linter.unusedVariables false

theorem beg_false {s p : Txt} (k : Nat) (hk : k < p.length) (h : s.getD k 0 ≠ p.getD k 0) (hs : k < s.length) : beg s p = false := by
  cases e : beg s p with
  | false => rfl
  | true =>
    obtain ⟨t, ht⟩ := beg_iff.1 e
    exfalso
    apply h
    subst ht
    simp [List.getD, List.getElem?_append_left hk]
theorem beg_true {s p : Txt} (hl : p.length ≤ s.length) (h : ∀ k, k < p.length → s.getD k 0 = p.getD k 0) : beg s p = true := by
  refine beg_iff.2 ((List.prefix_iff_eq_take).2 ?_)
  refine List.ext_getElem (by rw [List.length_take]; omega) fun i h1 h2 => ?_
  have := h i h1
  rw [List.getElem_take]
  simpa [List.getD, List.getElem?_eq_getElem h1, List.getElem?_eq_getElem (show i < s.length by omega)] using this.symm
theorem beg_long {s p : Txt} (hl : s.length < p.length) : beg s p = false := by
  cases e : beg s p with
  | false => rfl
  | true =>
    have := (beg_iff.1 e).length_le
    omega
theorem u8_ne {a b : UInt8} (h : a ≠ b) : ((a.toNat : Int) != (b.toNat : Int)) = true := bne_iff_ne.2 fun e => h (UInt8.toNat_inj.1 (by omega))
theorem u8_lt (a : UInt8) : a.toNat < 256 := UInt8.toNat_lt a

theorem ok_of {c : UInt8} (h : c.toNat = 47 ∨ (48 ≤ c.toNat ∧ c.toNat ≤ 57) ∨ (97 ≤ c.toNat ∧ c.toNat ≤ 122)) : okByte c = true := by
  unfold okByte
  simp only [Bool.or_eq_true, Bool.and_eq_true, beq_iff_eq, decide_eq_true_eq, UInt8.le_iff_toNat_le]
  rcases h with h | h | h
  · exact .inl (.inl (UInt8.toNat_inj.1 h))
  · exact .inl (.inr h)
  · exact .inr h
theorem ok_not {c : UInt8} (h : ¬ (c.toNat = 47 ∨ (48 ≤ c.toNat ∧ c.toNat ≤ 57) ∨ (97 ≤ c.toNat ∧ c.toNat ≤ 122))) : okByte c = false := by
  cases e : okByte c with
  | false => rfl
  | true =>
    exfalso
    apply h
    unfold okByte at e
    simp only [Bool.or_eq_true, Bool.and_eq_true, beq_iff_eq, decide_eq_true_eq, UInt8.le_iff_toNat_le] at e
    rcases e with (e | e) | e
    · subst e; exact .inl rfl
    · exact .inr (.inl e)
    · exact .inr (.inr e)
theorem prefix_true {s : Txt} (hl : s.length ≤ 16) (h : ∀ k, k < s.length → okByte (s.getD k 0) = true) : prefixB s = true := by
  unfold prefixB
  rw [Bool.and_eq_true, List.all_eq_true]
  refine ⟨fun c hc => ?_, decide_eq_true hl⟩
  obtain ⟨k, hk, rfl⟩ := List.getElem_of_mem hc
  have := h k hk
  simpa [List.getD, List.getElem?_eq_getElem hk] using this
theorem prefix_false {s : Txt} (k : Nat) (hk : k < s.length) (h : okByte (s.getD k 0) = false) : prefixB s = false := by
  cases e : prefixB s with
  | false => rfl
  | true =>
    unfold prefixB at e
    rw [Bool.and_eq_true, List.all_eq_true] at e
    have := e.1 _ (List.getElem_mem hk)
    simp [List.getD, List.getElem?_eq_getElem hk, this] at h
theorem prefix_long {s : Txt} (hl : ¬ s.length ≤ 16) : prefixB s = false := by unfold prefixB; rw [decide_eq_false hl, Bool.and_false]

/-- texts that aren't too long -/
def FitT (xs : List Txt) : Prop := ∀ t ∈ xs, t.length ≤ 1000000
theorem FitT.at {xs : List Txt} (h : FitT xs) (k : Nat) (hk : k < xs.length) : (xs.getD k []).length ≤ 1000000 := by
  have := h _ (List.getElem_mem hk)
  simpa [List.getD, List.getElem?_eq_getElem hk] using this
theorem mem_getD {xs : List Txt} {k : Nat} (hk : k < xs.length) : xs.getD k [] ∈ xs := by
  have e : xs.getD k [] = xs[k] := by simp [List.getD, List.getElem?_eq_getElem hk]
  rw [e]
  exact List.getElem_mem hk
theorem covers_true {xs : List Txt} {s : Txt} (k : Nat) (hk : k < xs.length) (h : beg s (xs.getD k []) = true) : covers xs s = true := covers_iff.2 ⟨_, mem_getD hk, h⟩
theorem covers_false {xs : List Txt} {s : Txt} (h : ∀ k, k < xs.length → beg s (xs.getD k []) = false) : covers xs s = false := by
  cases e : covers xs s with
  | false => rfl
  | true =>
    obtain ⟨p, hp, hb⟩ := covers_iff.1 e
    obtain ⟨k, hk, rfl⟩ := List.getElem_of_mem hp
    have := h k hk
    simp [List.getD, List.getElem?_eq_getElem hk, hb] at this

end Go.Proofs.Ytpkmjddjllpglaa
