/- What the walk of EffOnly asks beside: small lists behind effects and under zones, Only's contract, the dots that are looked for. -/
import Derived.Test.YthcpglbeiibniaaGreatEW
import Derived.Test.YthcpglbeiibniaaGreatEOnly
import Derived.Test.YthcpglbeiibniaaGreatOpenZ
import Derived.Deep.RegionHeld3
namespace Go.Proofs.YthcpglbeiibniaaGreat
open Go.RowKit Plain
set_option linter.unusedVariables false

theorem smallI_do {node seq : Int} {xs : List PItem} {l : List PEff} (h : SmallI xs) (hl : xs.length ≤ 100) (hs : shortE l = true) (hok : effsOk node seq l) : SmallI (edo node seq xs l) := by
  refine ⟨?_, fun x hx => ?_⟩
  · have h1 := edo_len node seq l xs
    have h2 := (shortE_iff.1 hs).1
    omega
  · rcases edo_mem hx with k | k
    · exact h.2 x k
    · obtain ⟨e, he, rfl⟩ := own_dot k
      have h1 := shortE1_iff.1 ((shortE_iff.1 hs).2 e he)
      exact ⟨short1_iff.2 ⟨h1.1, h1.2.1, h1.2.2.1⟩, (hok e he).1⟩
theorem smallE_only {l : List PEff} (h : SmallE l) (z : List Txt) : SmallE (eonly l z) := ⟨by have := List.length_filter_le (fun e : PEff => covers z e.key) l; have := h.1; unfold eonly; omega, fun e he => h.2 e (mem_eonly.1 he).1⟩
theorem effsOk_only {node seq : Int} {l : List PEff} (h : effsOk node seq l) (z : List Txt) : effsOk node seq (eonly l z) := fun e he => h e (mem_eonly.1 he).1
theorem hasB_norm {xs : List PItem} {node seq : Int} (h : hasB xs node seq = false) : hasB (inorm xs) node seq = false := by
  unfold hasB at *
  rw [List.any_eq_false] at *
  exact fun x hx => h x (mem_inorm.1 hx).1
theorem ownKeys_of {node seq : Int} : ∀ {l : List PEff}, (∀ i, i < l.length → ∀ j, j < i → hasDot (l.getD i default).drops ⟨node, seq, (l.getD j default).pos⟩ = true → (l.getD j default).key = (l.getD i default).key) → OwnKeys node seq l
  | [], _ => trivial
  | e :: l, h => by
    refine ⟨fun f hf hd => ?_, ownKeys_of fun i hi j hj hd => ?_⟩
    · obtain ⟨i, hi, rfl⟩ := List.getElem_of_mem hf
      have := h (i + 1) (by simp; omega) 0 (by omega)
      simp only [List.getD_cons_succ, List.getD_cons_zero] at this
      rw [show l.getD i default = l[i] by simp [List.getD, List.getElem?_eq_getElem hi]] at this
      exact this (hasDot_iff.2 hd)
    · have := h (i + 1) (by simp; omega) (j + 1) (by omega)
      simp only [List.getD_cons_succ] at this
      exact this hd
theorem keys_of {M : List PItem} {l : List PEff} (h : ∀ i, i < l.length → ∀ j, j < M.length → hasDot (l.getD i default).drops (M.getD j default).dot = true → (M.getD j default).key = (l.getD i default).key) : ∀ e ∈ l, ∀ x ∈ M, x.dot ∈ e.drops → x.key = e.key := by
  intro e he x hx hd
  obtain ⟨i, hi, rfl⟩ := List.getElem_of_mem he
  obtain ⟨j, hj, rfl⟩ := List.getElem_of_mem hx
  have := h i hi j hj
  rw [show l.getD i default = l[i] by simp [List.getD, List.getElem?_eq_getElem hi], show M.getD j default = M[j] by simp [List.getD, List.getElem?_eq_getElem hj]] at this
  exact this (hasDot_iff.2 hd)
theorem eonlyS {v zv : Value} {l : List PEff} {zs : List Txt} {w : World} (hv : SeqE LEff w v l) (hz : SeqT w zv zs) (hs : SmallE l) (hzs : SmallT zs) : Calls Tryz.prog 14 #[v, zv] w (GivesS LEff w (eonly l zs)) :=
  (eonly_any hv hz (by have := hs.1; omega) hs.fit (by have := hzs.1; omega)).mono fun _ _ h => h.gives
theorem risR {v : Value} {ds : List PDot} {w : World} (hv : SeqE LDot w v ds) (hn : ds.length ≤ 1000000) (a b c : Int) : Calls Tryz.prog 11 #[v, .agg #[.int .i64 a, .int .i64 b, .int .i64 c]] w (GivesB w (hasDot ds ⟨a, b, c⟩)) := ris_any hv hn ⟨a, b, c⟩
end Go.Proofs.YthcpglbeiibniaaGreat
