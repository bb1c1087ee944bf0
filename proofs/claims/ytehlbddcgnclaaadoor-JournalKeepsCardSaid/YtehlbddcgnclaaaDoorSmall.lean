/- Frames one behind the other, up to some place; what is scanned of a disk of which a beginning stands. -/
import Derived.Test.YtehlbddcgnclaaaDoorShort
namespace Go.Proofs.YtehlbddcgnclaaaDoor
open Go.RowKit Plain
set_option linter.unusedVariables false

theorem flatF_snoc (ls : List Bytes) (k : Nat) (h : k < ls.length) : flatF (ls.take (k + 1)) = flatF (ls.take k) ++ frm (ls.getD k []) := by
  rw [List.take_succ_eq_append_getElem h, flatF_append]
  simp [flatF, List.getD, List.getElem?_eq_getElem h]
theorem sizeF_tot (ls : List Bytes) : sizeF ls = 8 * ls.length + tot ls := by
  induction ls with
  | nil => rfl
  | cons p l ih => rw [sizeF, ih, List.length_cons, tot]; omega
theorem small_sh {ls : List Bytes} (h : shB ls = true) : Small ls ∧ ls.length ≤ 60 ∧ tot ls ≤ 3000 ∧ sizeF ls ≤ 3480 ∧ ∀ k, k < ls.length → (ls.getD k []).length ≤ 3000 := by
  have h2 := of_decide_eq_true h
  have h3 : ∀ k, k < ls.length → (ls.getD k []).length ≤ 3000 := fun k hk => by have := tot_all ls k hk; omega
  refine ⟨fun p hp => ?_, h2.1, h2.2, by rw [sizeF_tot]; omega, h3⟩
  obtain ⟨j, hj, rfl⟩ := List.getElem_of_mem hp
  have := h3 j hj
  simp [List.getD, List.getElem?_eq_getElem hj] at this
  omega
theorem sizeF_take (ls : List Bytes) (k : Nat) : sizeF (ls.take k) ≤ sizeF ls := by
  have := sizeF_append (ls.take k) (ls.drop k)
  rw [List.take_append_drop] at this
  omega

theorem sizeF_snoc (ls : List Bytes) (k : Nat) (h : k < ls.length) : sizeF (ls.take (k + 1)) = sizeF (ls.take k) + (8 + (ls.getD k []).length) := by
  rw [List.take_succ_eq_append_getElem h, sizeF_append, sizeF_one]
  simp [List.getD, List.getElem?_eq_getElem h]
theorem part_at (ls : List Bytes) (k : Nat) (h : k < ls.length) : ls = ls.take k ++ ls.getD k [] :: ls.drop (k + 1) := by
  have : ls.getD k [] = ls[k] := by simp [List.getD, List.getElem?_eq_getElem h]
  rw [this, List.getElem_cons_drop, List.take_append_drop]

theorem sizeF_mono (ls : List Bytes) {j k : Nat} (h : j ≤ k) : sizeF (ls.take j) ≤ sizeF (ls.take k) := by
  have := sizeF_take (ls.take k) j
  rwa [List.take_take, Nat.min_eq_left h] at this
/-- where the c-th byte stands -/
theorem place_of (ls : List Bytes) (c : Nat) (hc : c < sizeF ls) : ∃ m, m < ls.length ∧ sizeF (ls.take m) ≤ c ∧ c < sizeF (ls.take (m + 1)) := by
  have key : ∀ n, n ≤ ls.length → c < sizeF (ls.take n) → ∃ m, m < ls.length ∧ sizeF (ls.take m) ≤ c ∧ c < sizeF (ls.take (m + 1)) := by
    intro n
    induction n with
    | zero => intro _ h; simp [sizeF] at h
    | succ n ih =>
      intro hn h
      by_cases g : c < sizeF (ls.take n)
      · exact ih (by omega) g
      · exact ⟨n, by omega, by omega, h⟩
  exact key ls.length (Nat.le_refl _) (by rw [List.take_of_length_le (Nat.le_refl _)]; exact hc)
theorem small_take {ls : List Bytes} (h : Small ls) (k : Nat) : Small (ls.take k) := fun p hp => h p (List.mem_of_mem_take hp)
theorem small_snoc {ls : List Bytes} {p : Bytes} (h : Small ls) (hp : p.length ≤ 1048576) : Small (ls ++ [p]) := fun q hq => by
  rcases List.mem_append.1 hq with g | g
  · exact h q g
  · simp at g; subst g; exact hp
theorem flatF_push (ls : List Bytes) (p : Bytes) : flatF (ls ++ [p]) = flatF ls ++ frm p := by rw [flatF_append, flatF_one]
theorem sizeF_push (ls : List Bytes) (p : Bytes) : sizeF (ls ++ [p]) = sizeF ls + (8 + p.length) := by rw [sizeF_append, sizeF_one]
theorem scans_all {ls : List Bytes} (h : Small ls) : Scans (flatF ls) ls (sizeF ls) := by
  have := scans_whole (l := ls) (c := sizeF ls) h (Nat.le_refl _)
  rwa [List.take_of_length_le (by rw [flatF_len]; exact Nat.le_refl _)] at this
theorem scans_taken {xs : Bytes} {ls : List Bytes} {k : Nat} (h : Scans xs ls k) : xs.take k = flatF ls ∧ k ≤ xs.length ∧ Small ls ∧ k = sizeF ls := by
  obtain ⟨r, h1, h2, h3, h4⟩ := h
  refine ⟨?_, ?_, h4, h3⟩
  · rw [h1, h3, ← flatF_len, List.take_left' rfl]
  · rw [h1, List.length_append, flatF_len]; omega

/-- A: what was appended; fast of it stands fast: f and l are the disk's bytes -/
def Keeps (A : List Bytes) (fast : Nat) (f l : Bytes) : Prop := f = flatF (A.take fast) ∧ l = flatF (A.drop fast) ∧ fast ≤ A.length ∧ Small A
theorem Keeps.nil : Keeps [] 0 [] [] := ⟨rfl, rfl, Nat.le_refl _, fun p hp => by cases hp⟩
theorem Keeps.all {A : List Bytes} {fast : Nat} {f l : Bytes} (h : Keeps A fast f l) : f ++ l = flatF A := by
  rw [h.1, h.2.1, ← flatF_append, List.take_append_drop]
theorem Keeps.push {A : List Bytes} {fast : Nat} {f l p : Bytes} (h : Keeps A fast f l) (hp : p.length ≤ 1048576) : Keeps (A ++ [p]) fast f (l ++ frm p) := by
  obtain ⟨h1, h2, h3, h4⟩ := h
  refine ⟨by rw [h1, List.take_append_of_le_length h3], by rw [h2, List.drop_append_of_le_length h3, flatF_push], by simp; omega, small_snoc h4 hp⟩
theorem Keeps.sync {A : List Bytes} {fast : Nat} {f l : Bytes} (h : Keeps A fast f l) : Keeps A A.length (f ++ l) [] :=
  ⟨by rw [h.all, List.take_of_length_le (Nat.le_refl _)], by simp [flatF], Nat.le_refl _, h.2.2.2⟩
theorem Keeps.crash {A : List Bytes} {fast : Nat} {f l : Bytes} {k : Nat} (h : Keeps A fast f l) : ∃ m, fast ≤ m ∧ m ≤ A.length ∧ Scans (f ++ l.take k) (A.take m) (sizeF (A.take m)) := by
  have hall := h.all
  obtain ⟨h1, h2, h3, h4⟩ := h
  have hf : f.length = sizeF (A.take fast) := by rw [h1, flatF_len]
  have e : f ++ l.take k = (flatF A).take (f.length + k) := by rw [← hall, List.take_append, List.take_of_length_le (Nat.le_add_right _ _), Nat.add_sub_cancel_left]
  rw [e]
  by_cases hc : f.length + k < sizeF A
  · obtain ⟨m, m1, m2, m3⟩ := place_of A _ hc
    have hs := sizeF_snoc A m m1
    refine ⟨m, ?_, by omega, scans_torn h4 (part_at A m m1) m2 (by omega)⟩
    by_cases g : fast ≤ m
    · exact g
    · have := sizeF_mono A (show m + 1 ≤ fast by omega)
      omega
  · refine ⟨A.length, h3, Nat.le_refl _, ?_⟩
    rw [List.take_of_length_le (Nat.le_refl A.length)]
    exact scans_whole h4 (by omega)
theorem Keeps.opened {A : List Bytes} (h : Small A) : Keeps A A.length (flatF A) [] := ⟨by rw [List.take_of_length_le (Nat.le_refl _)], by simp [flatF], Nat.le_refl _, h⟩
theorem Keeps.scans {A : List Bytes} {fast : Nat} {f l : Bytes} (h : Keeps A fast f l) : Scans (f ++ l) A (sizeF A) := by rw [h.all]; exact scans_all h.2.2.2
end Go.Proofs.YtehlbddcgnclaaaDoor
