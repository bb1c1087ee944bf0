/- What the document's own functions of texts leave: Begins, Prefix, Key, Covers. What the document's own Once of texts leaves: the least that is greater than the last one, again and again. What the document's own Once of texts leaves (the walk). -/
import Derived.Test.YtmknpmamkjjiaaaTWords
import Derived.BigQuiet
import Derived.Deep.LoopGhost
namespace Go.Proofs.Ytmknpmamkjjiaaa
open Go.RowKit Plain
set_option linter.unusedVariables false

theorem u8_lt (a : UInt8) : a.toNat < 256 := UInt8.toNat_lt a

theorem ok_of {c : UInt8} (h : c.toNat = 47 ∨ (48 ≤ c.toNat ∧ c.toNat ≤ 57) ∨ (97 ≤ c.toNat ∧ c.toNat ≤ 122)) : okByte c = true := by
 unfold okByte
 simp only [Bool.or_eq_true, Bool.and_eq_true, beq_iff_eq, decide_eq_true_eq, UInt8.le_iff_toNat_le]
 rcases h with h | h | h
 ·exact .inl (.inl (UInt8.toNat_inj.1 h))
 ·exact .inl (.inr h)
 ·exact .inr h
theorem ok_not {c : UInt8} (h : ¬ (c.toNat = 47 ∨ (48 ≤ c.toNat ∧ c.toNat ≤ 57) ∨ (97 ≤ c.toNat ∧ c.toNat ≤ 122))) : okByte c = false := by
 cases e : okByte c with
 | false => rfl
 | true =>
  exfalso
  apply h
  unfold okByte at e
  simp only [Bool.or_eq_true, Bool.and_eq_true, beq_iff_eq, decide_eq_true_eq, UInt8.le_iff_toNat_le] at e
  rcases e with (e | e) | e
  ·subst e; exact .inl rfl
  ·exact .inr (.inl e)
  ·exact .inr (.inr e)
theorem prefix_true {s : Txt} (hl : s.length ≤ 16) (h : ∀ k, k < s.length → okByte (s.getD k 0) = true) : prefixB s = true := by
 unfold prefixB
 rw [Bool.and_eq_true, List.all_eq_true]
 refine ⟨fun c hc => ?_, decide_eq_true hl⟩
 obtain ⟨k, hk, rfl⟩ := List.getElem_of_mem hc
 have := h k hk
 simpa [List.getD, List.getElem?_eq_getElem hk] using this
theorem prefix_false {s : Txt} (k : Nat) (hk : k < s.length) (h : okByte (s.getD k 0) = false) : prefixB s = false := by
 cases e : prefixB s with
 | false => rfl
 | true =>
  unfold prefixB at e
  rw [Bool.and_eq_true, List.all_eq_true] at e
  have := e.1 _ (List.getElem_mem hk)
  simp [List.getD, List.getElem?_eq_getElem hk, this] at h
theorem prefix_long {s : Txt} (hl : ¬ s.length ≤ 16) : prefixB s = false := by unfold prefixB; rw [decide_eq_false hl, Bool.and_false]

def FitT (xs : List Txt) : Prop := ∀ t ∈ xs, t.length ≤ 1000000
theorem FitT.at {xs : List Txt} (h : FitT xs) (k : Nat) (hk : k < xs.length) : (xs.getD k []).length ≤ 1000000 := by
 have := h _ (List.getElem_mem hk)
 simpa [List.getD, List.getElem?_eq_getElem hk] using this
theorem mem_getD {xs : List Txt} {k : Nat} (hk : k < xs.length) : xs.getD k [] ∈ xs := by
 have e : xs.getD k [] = xs[k] := by simp [List.getD, List.getElem?_eq_getElem hk]
 rw [e]
 exact List.getElem_mem hk
end Go.Proofs.Ytmknpmamkjjiaaa
namespace Go.Proofs.Ytmknpmamkjjiaaa
open Go.RowKit Plain
set_option linter.unusedVariables false

theorem mem_at {l : List Txt} {t : Txt} (h : t ∈ l) : ∃ j, j < l.length ∧ l.getD j [] = t := by
 obtain ⟨j, hj, rfl⟩ := List.getElem_of_mem h
 exact ⟨j, hj, by simp [List.getD, List.getElem?_eq_getElem hj]⟩
end Go.Proofs.Ytmknpmamkjjiaaa
namespace Go.Proofs.Ytmknpmamkjjiaaa
open Go.RowKit Plain
set_option linter.unusedVariables false

end Go.Proofs.Ytmknpmamkjjiaaa
