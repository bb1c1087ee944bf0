/- The temporaries of ViewMore's open region: those that it sets, the others as they were. -/
import Derived.Test.YtpkmjddjllpglaaVwMore
namespace Go.Proofs.Ytpkmjddjllpglaa
open Go.RowKit Plain
set_option linter.unusedVariables false

/-- the act with these seven slots set -/
def mact (a0 : Act) (y9 y10 y25 y27 y29 y30 y33 : Value) : Act :=
  { a0 with tmps := (((((((a0.tmps.setIfInBounds 9 y9).setIfInBounds 10 y10).setIfInBounds 25 y25).setIfInBounds 27 y27).setIfInBounds 29 y29).setIfInBounds 30 y30).setIfInBounds 33 y33) }
section
variable {a0 : Act} {y9 y10 y25 y27 y29 y30 y33 v : Value}
theorem mact_size : (mact a0 y9 y10 y25 y27 y29 y30 y33).tmps.size = a0.tmps.size := by simp [mact]
theorem mact_get (j : Nat) : (mact a0 y9 y10 y25 y27 y29 y30 y33).tmps[j]? = if j < a0.tmps.size then some (if j = 33 then y33 else if j = 30 then y30 else if j = 29 then y29 else if j = 27 then y27 else if j = 25 then y25 else if j = 10 then y10 else if j = 9 then y9 else a0.tmps.getD j undef) else none := by
  by_cases hj : j < a0.tmps.size
  · rw [if_pos hj]
    unfold mact
    simp only [Array.getElem?_setIfInBounds, Array.size_setIfInBounds]
    by_cases h33 : j = 33
    · subst h33; simp [hj]
    by_cases h30 : j = 30
    · subst h30; simp [hj]
    by_cases h29 : j = 29
    · subst h29; simp [hj]
    by_cases h27 : j = 27
    · subst h27; simp [hj]
    by_cases h25 : j = 25
    · subst h25; simp [hj]
    by_cases h10 : j = 10
    · subst h10; simp [hj]
    by_cases h9 : j = 9
    · subst h9; simp [hj]
    have e : ∀ k, j ≠ k → ¬ k = j := fun k h e => h e.symm
    simp only [if_neg h33, if_neg h30, if_neg h29, if_neg h27, if_neg h25, if_neg h10, if_neg h9, if_neg (e _ h33), if_neg (e _ h30), if_neg (e _ h29), if_neg (e _ h27), if_neg (e _ h25), if_neg (e _ h10), if_neg (e _ h9)]
    simp [Array.getD_eq_getD_getElem?, hj]
  · rw [if_neg hj, Array.getElem?_eq_none (by rw [mact_size]; omega)]
theorem eval_tmp (a : Act) (t : Nat) : a.eval (.tmp t) = a.tmps.getD t undef := rfl
theorem put_defers (a : Act) (k : Nat) (v : Value) : (a.put (some k) v).defers = a.defers := rfl
theorem mact_defers : (mact a0 y9 y10 y25 y27 y29 y30 y33).defers = a0.defers := by unfold mact; rfl
theorem getD_tmp (a : Act) (t : Nat) {v : Value} (h : a.tmps[t]? = some v) : a.tmps.getD t undef = v := by rw [Array.getD_eq_getD_getElem?, h]; rfl
theorem mact_ext {a b : Act} (hd : a.defers = b.defers) (h : ∀ j : Nat, a.tmps[j]? = b.tmps[j]?) : a = b := by
  obtain ⟨t1, d1⟩ := a
  obtain ⟨t2, d2⟩ := b
  simp only at hd h
  subst hd
  rw [Array.ext_getElem? h]
theorem put_get (a : Act) (k : Nat) (v : Value) (j : Nat) : (a.put (some k) v).tmps[j]? = if k = j then (if j < a.tmps.size then some v else none) else a.tmps[j]? := by
  show (a.tmps.setIfInBounds k v)[j]? = _
  rw [Array.getElem?_setIfInBounds]
  by_cases h : k = j
  · subst h; rfl
  · rw [if_neg h, if_neg h]
theorem mact_put9 : (mact a0 y9 y10 y25 y27 y29 y30 y33).put (some 9) v = mact a0 v y10 y25 y27 y29 y30 y33 := mact_ext (by rw [put_defers, mact_defers, mact_defers]) fun j => by
  rw [put_get, mact_size, mact_get, mact_get]
  by_cases h : 9 = j
  · subst h
    rw [if_pos rfl]
    simp only [if_neg (show ¬ 9 = 33 by decide), if_neg (show ¬ 9 = 30 by decide), if_neg (show ¬ 9 = 29 by decide), if_neg (show ¬ 9 = 27 by decide), if_neg (show ¬ 9 = 25 by decide), if_neg (show ¬ 9 = 10 by decide), if_true]
  · have h' : ¬ j = 9 := fun e => h e.symm
    rw [if_neg h]
    simp only [if_neg h']
theorem mact_at9 (h : 9 < a0.tmps.size) : (mact a0 y9 y10 y25 y27 y29 y30 y33).eval (.tmp 9) = y9 := by
  rw [eval_tmp]
  refine getD_tmp _ _ ?_
  rw [mact_get, if_pos h]
  simp only [if_neg (show ¬ 9 = 33 by decide), if_neg (show ¬ 9 = 30 by decide), if_neg (show ¬ 9 = 29 by decide), if_neg (show ¬ 9 = 27 by decide), if_neg (show ¬ 9 = 25 by decide), if_neg (show ¬ 9 = 10 by decide), if_true]
theorem mact_put10 : (mact a0 y9 y10 y25 y27 y29 y30 y33).put (some 10) v = mact a0 y9 v y25 y27 y29 y30 y33 := mact_ext (by rw [put_defers, mact_defers, mact_defers]) fun j => by
  rw [put_get, mact_size, mact_get, mact_get]
  by_cases h : 10 = j
  · subst h
    rw [if_pos rfl]
    simp only [if_neg (show ¬ 10 = 33 by decide), if_neg (show ¬ 10 = 30 by decide), if_neg (show ¬ 10 = 29 by decide), if_neg (show ¬ 10 = 27 by decide), if_neg (show ¬ 10 = 25 by decide), if_neg (show ¬ 10 = 9 by decide), if_true]
  · have h' : ¬ j = 10 := fun e => h e.symm
    rw [if_neg h]
    simp only [if_neg h']
theorem mact_at10 (h : 10 < a0.tmps.size) : (mact a0 y9 y10 y25 y27 y29 y30 y33).eval (.tmp 10) = y10 := by
  rw [eval_tmp]
  refine getD_tmp _ _ ?_
  rw [mact_get, if_pos h]
  simp only [if_neg (show ¬ 10 = 33 by decide), if_neg (show ¬ 10 = 30 by decide), if_neg (show ¬ 10 = 29 by decide), if_neg (show ¬ 10 = 27 by decide), if_neg (show ¬ 10 = 25 by decide), if_neg (show ¬ 10 = 9 by decide), if_true]
theorem mact_put25 : (mact a0 y9 y10 y25 y27 y29 y30 y33).put (some 25) v = mact a0 y9 y10 v y27 y29 y30 y33 := mact_ext (by rw [put_defers, mact_defers, mact_defers]) fun j => by
  rw [put_get, mact_size, mact_get, mact_get]
  by_cases h : 25 = j
  · subst h
    rw [if_pos rfl]
    simp only [if_neg (show ¬ 25 = 33 by decide), if_neg (show ¬ 25 = 30 by decide), if_neg (show ¬ 25 = 29 by decide), if_neg (show ¬ 25 = 27 by decide), if_neg (show ¬ 25 = 10 by decide), if_neg (show ¬ 25 = 9 by decide), if_true]
  · have h' : ¬ j = 25 := fun e => h e.symm
    rw [if_neg h]
    simp only [if_neg h']
theorem mact_at25 (h : 25 < a0.tmps.size) : (mact a0 y9 y10 y25 y27 y29 y30 y33).eval (.tmp 25) = y25 := by
  rw [eval_tmp]
  refine getD_tmp _ _ ?_
  rw [mact_get, if_pos h]
  simp only [if_neg (show ¬ 25 = 33 by decide), if_neg (show ¬ 25 = 30 by decide), if_neg (show ¬ 25 = 29 by decide), if_neg (show ¬ 25 = 27 by decide), if_neg (show ¬ 25 = 10 by decide), if_neg (show ¬ 25 = 9 by decide), if_true]
theorem mact_put27 : (mact a0 y9 y10 y25 y27 y29 y30 y33).put (some 27) v = mact a0 y9 y10 y25 v y29 y30 y33 := mact_ext (by rw [put_defers, mact_defers, mact_defers]) fun j => by
  rw [put_get, mact_size, mact_get, mact_get]
  by_cases h : 27 = j
  · subst h
    rw [if_pos rfl]
    simp only [if_neg (show ¬ 27 = 33 by decide), if_neg (show ¬ 27 = 30 by decide), if_neg (show ¬ 27 = 29 by decide), if_neg (show ¬ 27 = 25 by decide), if_neg (show ¬ 27 = 10 by decide), if_neg (show ¬ 27 = 9 by decide), if_true]
  · have h' : ¬ j = 27 := fun e => h e.symm
    rw [if_neg h]
    simp only [if_neg h']
theorem mact_at27 (h : 27 < a0.tmps.size) : (mact a0 y9 y10 y25 y27 y29 y30 y33).eval (.tmp 27) = y27 := by
  rw [eval_tmp]
  refine getD_tmp _ _ ?_
  rw [mact_get, if_pos h]
  simp only [if_neg (show ¬ 27 = 33 by decide), if_neg (show ¬ 27 = 30 by decide), if_neg (show ¬ 27 = 29 by decide), if_neg (show ¬ 27 = 25 by decide), if_neg (show ¬ 27 = 10 by decide), if_neg (show ¬ 27 = 9 by decide), if_true]
theorem mact_put29 : (mact a0 y9 y10 y25 y27 y29 y30 y33).put (some 29) v = mact a0 y9 y10 y25 y27 v y30 y33 := mact_ext (by rw [put_defers, mact_defers, mact_defers]) fun j => by
  rw [put_get, mact_size, mact_get, mact_get]
  by_cases h : 29 = j
  · subst h
    rw [if_pos rfl]
    simp only [if_neg (show ¬ 29 = 33 by decide), if_neg (show ¬ 29 = 30 by decide), if_neg (show ¬ 29 = 27 by decide), if_neg (show ¬ 29 = 25 by decide), if_neg (show ¬ 29 = 10 by decide), if_neg (show ¬ 29 = 9 by decide), if_true]
  · have h' : ¬ j = 29 := fun e => h e.symm
    rw [if_neg h]
    simp only [if_neg h']
theorem mact_at29 (h : 29 < a0.tmps.size) : (mact a0 y9 y10 y25 y27 y29 y30 y33).eval (.tmp 29) = y29 := by
  rw [eval_tmp]
  refine getD_tmp _ _ ?_
  rw [mact_get, if_pos h]
  simp only [if_neg (show ¬ 29 = 33 by decide), if_neg (show ¬ 29 = 30 by decide), if_neg (show ¬ 29 = 27 by decide), if_neg (show ¬ 29 = 25 by decide), if_neg (show ¬ 29 = 10 by decide), if_neg (show ¬ 29 = 9 by decide), if_true]
theorem mact_put30 : (mact a0 y9 y10 y25 y27 y29 y30 y33).put (some 30) v = mact a0 y9 y10 y25 y27 y29 v y33 := mact_ext (by rw [put_defers, mact_defers, mact_defers]) fun j => by
  rw [put_get, mact_size, mact_get, mact_get]
  by_cases h : 30 = j
  · subst h
    rw [if_pos rfl]
    simp only [if_neg (show ¬ 30 = 33 by decide), if_neg (show ¬ 30 = 29 by decide), if_neg (show ¬ 30 = 27 by decide), if_neg (show ¬ 30 = 25 by decide), if_neg (show ¬ 30 = 10 by decide), if_neg (show ¬ 30 = 9 by decide), if_true]
  · have h' : ¬ j = 30 := fun e => h e.symm
    rw [if_neg h]
    simp only [if_neg h']
theorem mact_at30 (h : 30 < a0.tmps.size) : (mact a0 y9 y10 y25 y27 y29 y30 y33).eval (.tmp 30) = y30 := by
  rw [eval_tmp]
  refine getD_tmp _ _ ?_
  rw [mact_get, if_pos h]
  simp only [if_neg (show ¬ 30 = 33 by decide), if_neg (show ¬ 30 = 29 by decide), if_neg (show ¬ 30 = 27 by decide), if_neg (show ¬ 30 = 25 by decide), if_neg (show ¬ 30 = 10 by decide), if_neg (show ¬ 30 = 9 by decide), if_true]
theorem mact_put33 : (mact a0 y9 y10 y25 y27 y29 y30 y33).put (some 33) v = mact a0 y9 y10 y25 y27 y29 y30 v := mact_ext (by rw [put_defers, mact_defers, mact_defers]) fun j => by
  rw [put_get, mact_size, mact_get, mact_get]
  by_cases h : 33 = j
  · subst h
    rw [if_pos rfl]
    simp only [if_neg (show ¬ 33 = 30 by decide), if_neg (show ¬ 33 = 29 by decide), if_neg (show ¬ 33 = 27 by decide), if_neg (show ¬ 33 = 25 by decide), if_neg (show ¬ 33 = 10 by decide), if_neg (show ¬ 33 = 9 by decide), if_true]
  · have h' : ¬ j = 33 := fun e => h e.symm
    rw [if_neg h]
    simp only [if_neg h']
theorem mact_at33 (h : 33 < a0.tmps.size) : (mact a0 y9 y10 y25 y27 y29 y30 y33).eval (.tmp 33) = y33 := by
  rw [eval_tmp]
  refine getD_tmp _ _ ?_
  rw [mact_get, if_pos h]
  simp only [if_neg (show ¬ 33 = 30 by decide), if_neg (show ¬ 33 = 29 by decide), if_neg (show ¬ 33 = 27 by decide), if_neg (show ¬ 33 = 25 by decide), if_neg (show ¬ 33 = 10 by decide), if_neg (show ¬ 33 = 9 by decide), if_true]
theorem mact_at22 (h : 22 < a0.tmps.size) : (mact a0 y9 y10 y25 y27 y29 y30 y33).eval (.tmp 22) = a0.eval (.tmp 22) := by
  rw [eval_tmp, eval_tmp]
  refine getD_tmp _ _ ?_
  rw [mact_get, if_pos h]
  simp only [if_neg (show ¬ 22 = 33 by decide), if_neg (show ¬ 22 = 30 by decide), if_neg (show ¬ 22 = 29 by decide), if_neg (show ¬ 22 = 27 by decide), if_neg (show ¬ 22 = 25 by decide), if_neg (show ¬ 22 = 10 by decide), if_neg (show ¬ 22 = 9 by decide)]
theorem mact_at23 (h : 23 < a0.tmps.size) : (mact a0 y9 y10 y25 y27 y29 y30 y33).eval (.tmp 23) = a0.eval (.tmp 23) := by
  rw [eval_tmp, eval_tmp]
  refine getD_tmp _ _ ?_
  rw [mact_get, if_pos h]
  simp only [if_neg (show ¬ 23 = 33 by decide), if_neg (show ¬ 23 = 30 by decide), if_neg (show ¬ 23 = 29 by decide), if_neg (show ¬ 23 = 27 by decide), if_neg (show ¬ 23 = 25 by decide), if_neg (show ¬ 23 = 10 by decide), if_neg (show ¬ 23 = 9 by decide)]
theorem mact_at24 (h : 24 < a0.tmps.size) : (mact a0 y9 y10 y25 y27 y29 y30 y33).eval (.tmp 24) = a0.eval (.tmp 24) := by
  rw [eval_tmp, eval_tmp]
  refine getD_tmp _ _ ?_
  rw [mact_get, if_pos h]
  simp only [if_neg (show ¬ 24 = 33 by decide), if_neg (show ¬ 24 = 30 by decide), if_neg (show ¬ 24 = 29 by decide), if_neg (show ¬ 24 = 27 by decide), if_neg (show ¬ 24 = 25 by decide), if_neg (show ¬ 24 = 10 by decide), if_neg (show ¬ 24 = 9 by decide)]
theorem mact_at26 (h : 26 < a0.tmps.size) : (mact a0 y9 y10 y25 y27 y29 y30 y33).eval (.tmp 26) = a0.eval (.tmp 26) := by
  rw [eval_tmp, eval_tmp]
  refine getD_tmp _ _ ?_
  rw [mact_get, if_pos h]
  simp only [if_neg (show ¬ 26 = 33 by decide), if_neg (show ¬ 26 = 30 by decide), if_neg (show ¬ 26 = 29 by decide), if_neg (show ¬ 26 = 27 by decide), if_neg (show ¬ 26 = 25 by decide), if_neg (show ¬ 26 = 10 by decide), if_neg (show ¬ 26 = 9 by decide)]
theorem mact_at28 (h : 28 < a0.tmps.size) : (mact a0 y9 y10 y25 y27 y29 y30 y33).eval (.tmp 28) = a0.eval (.tmp 28) := by
  rw [eval_tmp, eval_tmp]
  refine getD_tmp _ _ ?_
  rw [mact_get, if_pos h]
  simp only [if_neg (show ¬ 28 = 33 by decide), if_neg (show ¬ 28 = 30 by decide), if_neg (show ¬ 28 = 29 by decide), if_neg (show ¬ 28 = 27 by decide), if_neg (show ¬ 28 = 25 by decide), if_neg (show ¬ 28 = 10 by decide), if_neg (show ¬ 28 = 9 by decide)]
theorem mact_at31 (h : 31 < a0.tmps.size) : (mact a0 y9 y10 y25 y27 y29 y30 y33).eval (.tmp 31) = a0.eval (.tmp 31) := by
  rw [eval_tmp, eval_tmp]
  refine getD_tmp _ _ ?_
  rw [mact_get, if_pos h]
  simp only [if_neg (show ¬ 31 = 33 by decide), if_neg (show ¬ 31 = 30 by decide), if_neg (show ¬ 31 = 29 by decide), if_neg (show ¬ 31 = 27 by decide), if_neg (show ¬ 31 = 25 by decide), if_neg (show ¬ 31 = 10 by decide), if_neg (show ¬ 31 = 9 by decide)]
theorem mact_at32 (h : 32 < a0.tmps.size) : (mact a0 y9 y10 y25 y27 y29 y30 y33).eval (.tmp 32) = a0.eval (.tmp 32) := by
  rw [eval_tmp, eval_tmp]
  refine getD_tmp _ _ ?_
  rw [mact_get, if_pos h]
  simp only [if_neg (show ¬ 32 = 33 by decide), if_neg (show ¬ 32 = 30 by decide), if_neg (show ¬ 32 = 29 by decide), if_neg (show ¬ 32 = 27 by decide), if_neg (show ¬ 32 = 25 by decide), if_neg (show ¬ 32 = 10 by decide), if_neg (show ¬ 32 = 9 by decide)]
theorem mact_same (a0 : Act) : mact a0 (a0.eval (.tmp 9)) (a0.eval (.tmp 10)) (a0.eval (.tmp 25)) (a0.eval (.tmp 27)) (a0.eval (.tmp 29)) (a0.eval (.tmp 30)) (a0.eval (.tmp 33)) = a0 := mact_ext mact_defers fun j => by
  rw [mact_get]
  by_cases hj : j < a0.tmps.size
  · rw [if_pos hj]
    have e : a0.tmps[j]? = some (a0.tmps.getD j undef) := by simp [Array.getD_eq_getD_getElem?, hj]
    rw [e]
    refine congrArg some ?_
    simp only [eval_tmp]
    by_cases h33 : j = 33
    · subst h33
      simp only [if_true]
    by_cases h30 : j = 30
    · subst h30
      simp only [if_neg (show ¬ 30 = 33 by decide), if_true]
    by_cases h29 : j = 29
    · subst h29
      simp only [if_neg (show ¬ 29 = 33 by decide), if_neg (show ¬ 29 = 30 by decide), if_true]
    by_cases h27 : j = 27
    · subst h27
      simp only [if_neg (show ¬ 27 = 33 by decide), if_neg (show ¬ 27 = 30 by decide), if_neg (show ¬ 27 = 29 by decide), if_true]
    by_cases h25 : j = 25
    · subst h25
      simp only [if_neg (show ¬ 25 = 33 by decide), if_neg (show ¬ 25 = 30 by decide), if_neg (show ¬ 25 = 29 by decide), if_neg (show ¬ 25 = 27 by decide), if_true]
    by_cases h10 : j = 10
    · subst h10
      simp only [if_neg (show ¬ 10 = 33 by decide), if_neg (show ¬ 10 = 30 by decide), if_neg (show ¬ 10 = 29 by decide), if_neg (show ¬ 10 = 27 by decide), if_neg (show ¬ 10 = 25 by decide), if_true]
    by_cases h9 : j = 9
    · subst h9
      simp only [if_neg (show ¬ 9 = 33 by decide), if_neg (show ¬ 9 = 30 by decide), if_neg (show ¬ 9 = 29 by decide), if_neg (show ¬ 9 = 27 by decide), if_neg (show ¬ 9 = 25 by decide), if_neg (show ¬ 9 = 10 by decide), if_true]
    simp only [if_neg h33, if_neg h30, if_neg h29, if_neg h27, if_neg h25, if_neg h10, if_neg h9]
  · rw [if_neg hj, Array.getElem?_eq_none (by omega)]
end
def FitV2 (l : List PItem) : Prop := l.length ≤ 101 ∧ ∀ x ∈ l, Nm.Plain.fits x.n
theorem vfieldS2 (key field : Txt) {v : Value} {l : List PItem} {w : World} (hv : SeqE LItem w v l) (hl : FitV2 l) : Calls Try.prog 11 #[v, .string (bt key), .string (bt field)] w (GivesV w (vfield l key field)) := vfieldP_any key field hv (by have := hl.1; omega) hl.2
theorem fitV_more {l : List PItem} {x : PItem} (h : FitV l) (hx : itemOk x) : FitV2 (l ++ [x]) := ⟨by rw [List.length_append]; have := h.1; simp; omega, fun y hy => (List.mem_append.1 hy).elim (fun k => h.2 y k) (fun k => by rw [List.mem_singleton.1 k]; exact fits_of hx.2.1)⟩
theorem MI.zero {u W : World} {x : PItem} {l : List PItem} {pa pb : PVal} (h : Below u.heap.size u W) (y9 y10 y25 y27 y29 y30 y33 : Value) : MI u x l pa pb false false false false false false false false false y9 y10 y25 y27 y29 y30 y33 W where
  low := h
  c5 := fun e => by cases e
  c8 := fun e => by cases e
  c11 := fun e => by cases e
  c14 := fun e => by cases e
  c15 := fun e => by cases e
  v25 := fun e => by cases e
  own := fun e => by cases e
  lit := fun e => by cases e
  app := fun e => by cases e
  v33 := fun e => by cases e
  box9 := fun e => by cases e
  box10 := fun e => by cases e
  apart := fun e => by cases e
/-- append at a step of a region that draws its order; what it leaves alone is told -/
theorem step_append_grown {α : Type} {w : World} {o : Oper} {act : Act} {K : Act → World → Prop} {Q : Exit → Act → World → Prop} (L : El α) (s x : Operand)
    (ho : o.op = .call { callee := .builtin .append, args := #[s, x], argTypes := #[L.S, L.S] }) (B : Nat) {v u : Value} {xs ys : List α}
    (hs : act.eval s = v) (hown : OwnE L B w v xs) (hx : act.eval x = u) {J : Nat → Prop} (hseq : Sq L J w u ys) (hI : ∀ vs x, L.R J w vs x → L.R (fun b => b < w.heap.size ∧ v.ownBlock ≠ some b) w vs x) (hlen : xs.length + ys.length ≤ 1073741824) (hbase : B ≤ w.heap.size)
    (h : ∀ v' w', OwnE L B w' v' (xs ++ ys) → w.grownBy w' v.ownBlock → K (act.put o.dst v') w') : Oper.wp Try.prog o act w K Q := by
  obtain ⟨v', w', hr, h2, h3, h4⟩ := run_append_el B o.type hown hseq hI hlen hbase
  unfold Oper.wp execOp
  simp only [ho, resolve, invoke, builtin, Sem.run_bind, Sem.run_pure, Result.andThen_ok, List.map_toArray, List.map_cons, List.map_nil, hs, hx, hr]
  exact h v' w' h2 h3
/-- append of texts at a step of a region that draws its order; what it leaves alone is told -/
theorem step_append_texts {w : World} {ops : Array Oper} {o : Oper} {act : Act} {K : Act → World → Prop} {Q : Exit → Act → World → Prop} {E : Prop} (hw : Region.wanted o (yielded ops act.tmps) = true) (s x : Operand)
    (ho : o.op = .call { callee := .builtin .append, args := #[s, x], argTypes := #[23, 23] }) (B : Nat) {v u : Value} {xs ys : List Txt}
    (hs : act.eval s = v) (hown : OwnsT B w v xs) (hx : act.eval x = u) (hseq : SeqT w u ys) (hlen : xs.length + ys.length ≤ 1073741824) (hbase : B ≤ w.heap.size)
    (h : ∀ v' w', OwnsT B w' v' (xs ++ ys) → w.grownBy w' v.ownBlock → K (act.put o.dst v') w') : if Region.wanted o (yielded ops act.tmps) = true then Oper.wp Try.prog o act w K Q else E := by
  rw [if_pos hw]
  obtain ⟨v', w', hr, h2, h3, h4⟩ := run_append_texts B o.type hown hseq hlen hbase
  unfold Oper.wp execOp
  simp only [ho, resolve, invoke, builtin, Sem.run_bind, Sem.run_pure, Result.andThen_ok, List.map_toArray, List.map_cons, List.map_nil, hs, hx, hr]
  exact h v' w' h2 h3
/-- a text of a block of its own stands when another row grows -/
theorem one_kept {w w' : World} {g : Nat} {x : Txt} {row : Option Nat} (h : SeqT w (.slice (some ⟨g, 0, none⟩) 1 1) [x]) (hg : w.grownBy w' row) (hr : some g ≠ row) : SeqT w' (.slice (some ⟨g, 0, none⟩) 1 1) [x] := by
  obtain ⟨a, cap, hv, h1, h2, h0, h3⟩ := h
  simp only [Value.slice.injEq] at hv
  obtain ⟨rfl, -, rfl⟩ := hv
  refine ⟨_, 1, rfl, h1, h2, h0, fun hp => ?_⟩
  obtain ⟨b, off, he, hc⟩ := h3 hp
  simp only [Option.some.injEq, Addr.mk.injEq, and_true] at he
  obtain ⟨rfl, rfl⟩ := he
  exact ⟨_, 0, rfl, fun j hj => hg.cell (hc j hj) hr⟩
theorem ready_dep {ops : Array Oper} {listed : Array Bool} {md : Region.Mode} {i : Nat} (h : i ∈ Region.ready md ops listed) {o : Oper} (ho : ops[i]? = some o) (k : Nat) {e : Edge} (he : o.after[k]? = some e) (hb : Region.binds md e = true) : listed.getD e.on false = true := by
  obtain ⟨-, o', ho', hall⟩ := mem_ready.1 h
  rw [ho] at ho'
  cases ho'
  exact hall e (Array.mem_of_getElem? he) hb
theorem ready_now {ops : Array Oper} {listed : Array Bool} {md : Region.Mode} (j : Nat) (h0 : listed.getD j true = false) (h : ((ops[j]?).map fun o => o.after.toList.all fun e => !Region.binds md e || listed.getD e.on false) = some true) : j ∈ Region.ready md ops listed := by
  cases ho : ops[j]? with
  | none => rw [ho] at h; cases h
  | some o =>
    rw [ho] at h
    refine mem_ready.2 ⟨h0, o, ho, fun e he hb => ?_⟩
    have := List.all_eq_true.1 (Option.some.inj h) e (by simpa using he)
    rw [hb] at this
    simpa using this
/-- a step of a region that draws its order: what runs to a value, to nothing, or calls -/
theorem step_value {w w' : World} {o : Oper} {act : Act} {K : Act → World → Prop} {Q : Exit → Act → World → Prop} {v : Value} (e : (execOp act.eval o).run Try.prog w = .ok (.value v) w') (hk : K (act.put o.dst v) w') : Oper.wp Try.prog o act w K Q := by
  unfold Oper.wp
  rw [e]
  exact hk
theorem step_none {w w' : World} {o : Oper} {act : Act} {K : Act → World → Prop} {Q : Exit → Act → World → Prop} (hd : o.dst = none) (e : (execOp act.eval o).run Try.prog w = .ok .skip w') (hk : K act w') : Oper.wp Try.prog o act w K Q := by
  unfold Oper.wp
  rw [e, Oper.upon_skip, hd]
  exact hk
theorem wpOp_none {ops : Array Oper} {i : Nat} {w w' : World} {o : Oper} {act : Act} {K : Act → World → Prop} {Q : Exit → Act → World → Prop} (ho : ops[i]? = some o) (hg : o.guard = none) (hd : o.dst = none) (e : (execOp act.eval o).run Try.prog w = .ok .skip w') (hk : K act w') : wpOp Try.prog ops Q i K act w :=
  wpOp_step ho fun K' hK => by
    rw [if_pos (by simp [Region.wanted, hg])]
    exact step_none hd e (hK _ _ hk)
theorem step_call {w : World} {o : Oper} {act : Act} {K : Act → World → Prop} {Q : Exit → Act → World → Prop} {f : FuncId} {xs : Array Operand} {ats : Array TypeId} {vs : Array Value} {R : Ending → World → Prop}
    (ho : o.op = .call { callee := .value (.func f), args := xs, argTypes := ats }) (hv : xs.map act.eval = vs) (hf : (callFunc f (#[] ++ vs ++ #[])).run Try.prog w = .ok (.enter f vs) w) (hc : Calls Try.prog f vs w R)
    (h : ∀ e w', R e w' → ∃ v, e = .returned v ∧ K (act.put o.dst v) w') : Oper.wp Try.prog o act w K Q := by
  have e : (execOp act.eval o).run Try.prog w = .ok (.enter f vs) w := by
    rw [← hf, ← hv]
    cases o
    simp only at ho
    subst ho
    rfl
  unfold Oper.wp
  rw [e, Oper.upon_enter]
  refine hc.mono fun e w' k => ?_
  obtain ⟨v, rfl, hk⟩ := h e w' k
  exact hk
theorem exec_one {w : World} {o : Oper} {act : Act} {x : PItem} {y : Operand} (ho : o.op = .buildSlice 22 1 #[(0, y)]) (hy : act.eval y = .agg #[.string (bt x.key), .string (bt x.field), .int .i64 x.kind, .string (bt x.elem), .int .i64 x.n, .int .i64 x.dot.node, .int .i64 x.dot.seq, .int .i64 x.dot.pos]) :
    (execOp act.eval o).run Try.prog w = .ok (.value (.slice (some ⟨w.heap.size, 0, none⟩) 1 1)) (w.alloc (.cells (cellsIt x).toArray 40)) := by
  cases o
  simp only at ho
  subst ho
  unfold execOp
  simp only [List.map_toArray, List.map_cons, List.map_nil, hy]
  go_simp
  rfl
theorem exec_put {w : World} {o : Oper} {act : Act} {y z : Operand} {g : Nat} {a1 a2 : Option Addr} {n1 c1 n2 c2 : Nat} {t : Int} {b : Bool} (ho : o.op = .store 25 y z) (hy : act.eval y = .pointer (some ⟨g, 0, none⟩)) (hz : act.eval z = .agg #[.slice a1 n1 c1, .slice a2 n2 c2, .int .i64 t, .bool b]) (h : Zero4 w g) :
    (execOp act.eval o).run Try.prog w = .ok .skip (set4 w g (.slice a1 n1 c1) (.slice a2 n2 c2) (.int .i64 t) (.bool b)) := by
  cases o
  simp only at ho
  subst ho
  obtain ⟨c0, c1, c2, c3, f0, f1, f2, f3⟩ := h
  unfold execOp
  simp only [hy, hz]
  go_simp
  rfl
theorem IsVal.seqs {W : World} {a1 a2 : Option Addr} {n1 c1 n2 c2 : Nat} {t b : Value} {p : PVal} (h : IsVal W (.agg #[.slice a1 n1 c1, .slice a2 n2 c2, t, b]) p) : SeqT W (.slice a1 n1 c1) p.elems ∧ SeqT W (.slice a2 n2 c2) p.regs := by
  obtain ⟨k1, k2, k3, k4, k5, k6, e, s1, s2⟩ := h
  simp only [Value.agg.injEq, Array.mk.injEq, List.cons.injEq, Value.slice.injEq, and_true] at e
  obtain ⟨⟨rfl, rfl, rfl⟩, ⟨rfl, rfl, rfl⟩, -, -⟩ := e
  exact ⟨s1, s2⟩
theorem more_kind {l : List PItem} {x : PItem} {key field : Txt} {pa pb : PVal} (ha : vfield l key field = pa) (hb : vfield (l ++ [x]) key field = pb) (hin : inField key field x = true) :
    (x.kind ≠ 1 → pa.elems = pb.elems) ∧ (x.kind ≠ 2 → pa.regs = pb.regs) ∧ (x.kind ≠ 3 → pa.total = pb.total ∧ pa.over = pb.over) ∧ (x.kind = 1 → pb.elems = once (pa.elems ++ [x.elem])) ∧ (x.kind = 2 → pb.regs = once (pa.regs ++ [x.elem])) := by
  subst ha hb
  unfold vfield
  refine ⟨fun h => ?_, fun h => ?_, fun h => ?_, fun h => ?_, fun h => ?_⟩
  · exact (vtexts_no l ((ofKind_in 1 hin).trans (decide_eq_false h))).symm
  · exact (vtexts_no l ((ofKind_in 2 hin).trans (decide_eq_false h))).symm
  · simp only
    rw [vcounts_no l ((ofKind_in 3 hin).trans (decide_eq_false h))]
    exact ⟨rfl, rfl⟩
  · exact vtexts_yes l ((ofKind_in 1 hin).trans (decide_eq_true h))
  · exact vtexts_yes l ((ofKind_in 2 hin).trans (decide_eq_true h))
/-- where one item lies, as a list of one -/
theorem one_at {W : World} {k : Nat} {x : PItem} (h : ItemAt W k 0 x) : Sq LItem (fun b => b = k) W (.slice (some ⟨k, 0, none⟩) 1 1) [x] := by
  refine ⟨_, 1, cellsIt x, rfl, Nat.le_refl _, by unfold maxLen; simp, (by simp), Rows.of_one rfl, fun _ => ⟨k, 0, rfl, rfl, fun i u hu => ?_⟩⟩
  obtain ⟨c0, c1, c2, c3, c4, c5, c6, c7⟩ := h
  match i, hu with
  | 0, hu => cases hu; exact c0
  | 1, hu => cases hu; exact c1
  | 2, hu => cases hu; exact c2
  | 3, hu => cases hu; exact c3
  | 4, hu => cases hu; exact c4
  | 5, hu => cases hu; exact c5
  | 6, hu => cases hu; exact c6
  | 7, hu => cases hu; exact c7
  | i + 8, hu => simp [cellsIt] at hu
end Go.Proofs.Ytpkmjddjllpglaa
