/- The law's own function awake. (Written by gen-eawake.py.) The contracts of effects as the walks of stage 10's laws call them; what a small list of effects is; an argument that is one. What the walk of EffOnly asks beside: small lists behind effects and under zones, Only's contract, the dots that are looked for. -/
import Derived.Test.YtkmiodpaanohoaaGreatEDos
import Derived.Test.YtkmiodpaanohoaaGreatEForms
import Derived.Test.YtkmiodpaanohoaaGreatEqI
import Derived.Test.YtkmiodpaanohoaaGreatRefS
import Derived.Test.YtkmiodpaanohoaaGreatOpenZ
import Derived.Deep.RegionHeld3
namespace Go.Proofs.YtkmiodpaanohoaaGreat
open Go.RowKit Plain
set_option linter.unusedVariables false

def awX : PItem := ⟨[97], [], 1, [120], 0, ⟨0, 1, 0⟩⟩
def awY : PItem := ⟨[97], [], 1, [121], 0, ⟨1, 1, 0⟩⟩
def awE : PEff := ⟨0, [97], [], 1, [121], 0, [⟨0, 1, 0⟩]⟩
theorem aw_do : edo 1 1 [awX] [awE] = [awY] := by decide +kernel
theorem aw_right : rightB 1 1 [awE] = true := by decide +kernel
theorem aw_ok : effsOk 1 1 [awE] := by
  intro e he
  rw [List.mem_singleton.1 he]
  refine ⟨⟨by decide, by decide, by decide⟩, fun d hd => ?_⟩
  rw [List.mem_singleton.1 (show d ∈ [(⟨0, 1, 0⟩ : PDot)] from hd)]
  exact ⟨by decide, by decide, by decide⟩
theorem aw_okx : ∀ x ∈ [awX], dotOk x.dot := by
  intro x hx
  rw [List.mem_singleton.1 hx]
  exact ⟨by decide, by decide, by decide⟩
theorem aw_short : ∀ e ∈ [awE], e.drops.length ≤ 1000 := by
  intro e he
  rw [List.mem_singleton.1 he]
  decide
/-- what stands in the two variables -/
structure Aw (w u : World) : Prop where
  low : Below w.heap.size w u
  size : w.heap.size + 3 ≤ u.heap.size
  d : SeqE LDot u (.slice (some ⟨w.heap.size + 1, 0, none⟩) 1 1) [⟨0, 1, 0⟩]
  x : u.cell? ⟨w.heap.size, 0, none⟩ = some (.string ⟨#[97]⟩) ∧ u.cell? ⟨w.heap.size, 1, none⟩ = some (.string ⟨#[]⟩) ∧ u.cell? ⟨w.heap.size, 2, none⟩ = some (.int .i64 1) ∧ u.cell? ⟨w.heap.size, 3, none⟩ = some (.string ⟨#[120]⟩) ∧ u.cell? ⟨w.heap.size, 4, none⟩ = some (.int .i64 0) ∧ u.cell? ⟨w.heap.size, 5, none⟩ = some (.int .i64 0) ∧ u.cell? ⟨w.heap.size, 6, none⟩ = some (.int .i64 1) ∧ u.cell? ⟨w.heap.size, 7, none⟩ = some (.int .i64 0)
  e : u.cell? ⟨w.heap.size + 1 + 1, 0, none⟩ = some (.int .i64 0) ∧ u.cell? ⟨w.heap.size + 1 + 1, 1, none⟩ = some (.string ⟨#[97]⟩) ∧ u.cell? ⟨w.heap.size + 1 + 1, 2, none⟩ = some (.string ⟨#[]⟩) ∧ u.cell? ⟨w.heap.size + 1 + 1, 3, none⟩ = some (.int .i64 1) ∧ u.cell? ⟨w.heap.size + 1 + 1, 4, none⟩ = some (.string ⟨#[121]⟩) ∧ u.cell? ⟨w.heap.size + 1 + 1, 5, none⟩ = some (.int .i64 0) ∧ u.cell? ⟨w.heap.size + 1 + 1, 6, none⟩ = some (.slice (some ⟨w.heap.size + 1, 0, none⟩) 1 1)
theorem Aw.below {w u u' : World} (h : Aw w u) (hb : Below u.heap.size u u') : Aw w u' := by
  have hs := h.size
  have c : ∀ {a : Addr} {v : Value}, u.cell? a = some v → u'.cell? a = some v := fun g => (hb.cell (World.block_lt_of_cell? u _ g)).trans g
  obtain ⟨x0, x1, x2, x3, x4, x5, x6, x7⟩ := h.x
  obtain ⟨e0, e1, e2, e3, e4, e5, e6⟩ := h.e
  exact ⟨h.low.trans (hb.mono h.low.size), Nat.le_trans hs hb.size, h.d.below hb, ⟨c x0, c x1, c x2, c x3, c x4, c x5, c x6, c x7⟩, ⟨c e0, c e1, c e2, c e3, c e4, c e5, c e6⟩⟩
theorem aw_new (w : World) : Aw w (((w.alloc (.cells #[.string ⟨#[97]⟩, .string ⟨#[]⟩, .int .i64 1, .string ⟨#[120]⟩, .int .i64 0, .int .i64 0, .int .i64 1, .int .i64 0] 38)).alloc (.cells #[.int .i64 0, .int .i64 1, .int .i64 0] 36)).alloc (.cells #[.int .i64 0, .string ⟨#[97]⟩, .string ⟨#[]⟩, .int .i64 1, .string ⟨#[121]⟩, .int .i64 0, .slice (some ⟨w.heap.size + 1, 0, none⟩) 1 1] 45)) := by
  refine ⟨((((Below.refl _ _).alloc (Nat.le_refl _) _).alloc (by simp) _).alloc (by simp; omega) _), by simp, ?_, ?_, ?_⟩
  · have h := SeqE.one (L := LDot) (w := w.alloc (.cells #[.string ⟨#[97]⟩, .string ⟨#[]⟩, .int .i64 1, .string ⟨#[120]⟩, .int .i64 0, .int .i64 0, .int .i64 1, .int .i64 0] 38)) (vs := cellsDt ⟨0, 1, 0⟩) (x := ⟨0, 1, 0⟩) rfl #[.int .i64 0, .int .i64 1, .int .i64 0] rfl
    have s1 : (w.alloc (.cells #[.string ⟨#[97]⟩, .string ⟨#[]⟩, .int .i64 1, .string ⟨#[120]⟩, .int .i64 0, .int .i64 0, .int .i64 1, .int .i64 0] 38)).heap.size = w.heap.size + 1 := by simp
    rw [s1] at h
    exact h.below_alloc _
  · exact ⟨(three_cells w _ _ _ _ _ _ 0).1, (three_cells w _ _ _ _ _ _ 1).1, (three_cells w _ _ _ _ _ _ 2).1, (three_cells w _ _ _ _ _ _ 3).1, (three_cells w _ _ _ _ _ _ 4).1, (three_cells w _ _ _ _ _ _ 5).1, (three_cells w _ _ _ _ _ _ 6).1, (three_cells w _ _ _ _ _ _ 7).1⟩
  · exact ⟨(three_cells w _ _ _ _ _ _ 0).2.2, (three_cells w _ _ _ _ _ _ 1).2.2, (three_cells w _ _ _ _ _ _ 2).2.2, (three_cells w _ _ _ _ _ _ 3).2.2, (three_cells w _ _ _ _ _ _ 4).2.2, (three_cells w _ _ _ _ _ _ 5).2.2, (three_cells w _ _ _ _ _ _ 6).2.2⟩
theorem aw_eff {w u : World} (h : Aw w u) : SeqE LEff (u.alloc (.cells #[.int .i64 0, .string ⟨#[97]⟩, .string ⟨#[]⟩, .int .i64 1, .string ⟨#[121]⟩, .int .i64 0, .slice (some ⟨w.heap.size + 1, 0, none⟩) 1 1] 45)) (.slice (some ⟨u.heap.size, 0, none⟩) 1 1) [awE] :=
  SeqE.one (L := LEff) (w := u) (vs := cellsEf awE (.slice (some ⟨w.heap.size + 1, 0, none⟩) 1 1)) (x := awE) ⟨_, rfl, h.d⟩ #[.int .i64 0, .string ⟨#[97]⟩, .string ⟨#[]⟩, .int .i64 1, .string ⟨#[121]⟩, .int .i64 0, .slice (some ⟨w.heap.size + 1, 0, none⟩) 1 1] rfl
theorem aw_item (u : World) : SeqE LItem (u.alloc (.cells #[.string ⟨#[97]⟩, .string ⟨#[]⟩, .int .i64 1, .string ⟨#[120]⟩, .int .i64 0, .int .i64 0, .int .i64 1, .int .i64 0] 38)) (.slice (some ⟨u.heap.size, 0, none⟩) 1 1) [awX] :=
  SeqE.one (L := LItem) (w := u) (vs := cellsIt awX) (x := awX) rfl #[.string ⟨#[97]⟩, .string ⟨#[]⟩, .int .i64 1, .string ⟨#[120]⟩, .int .i64 0, .int .i64 0, .int .i64 1, .int .i64 0] rfl

end Go.Proofs.YtkmiodpaanohoaaGreat
namespace Go.Proofs.YtkmiodpaanohoaaGreat
open Go.RowKit Plain
set_option linter.unusedVariables false

def SmallE (l : List PEff) : Prop := l.length ≤ 20 ∧ ∀ e ∈ l, e.drops.length ≤ 70
theorem smallE_of {l : List PEff} (h : shortE l = true) : SmallE l := ⟨(shortE_iff.1 h).1, fun e he => (shortE1_iff.1 ((shortE_iff.1 h).2 e he)).2.2.2⟩
theorem SmallE.fit {l : List PEff} (h : SmallE l) : ∀ e ∈ l, e.drops.length ≤ 1000 := fun e he => by have := h.2 e he; omega
theorem SmallE.fit2 {l : List PEff} (h : SmallE l) : ∀ e ∈ l, e.drops.length ≤ 1000000 := fun e he => by have := h.2 e he; omega
theorem erightR {node seq : Int} {v : Value} {l : List PEff} {w : World} {r : Bool} (hv : SeqE LEff w v l) (hs : SmallE l) (e : rightB node seq l = r) : Calls Tryz.prog 8 #[.int .i64 node, .int .i64 seq, v] w (GivesB w r) := by
  rw [← e]
  exact eright_any node seq hv (by have := hs.1; omega) hs.fit2
/-- items whose dots are of the model's numbers -/
def FitI (xs : List PItem) : Prop := xs.length ≤ 1000 ∧ ∀ x ∈ xs, dotOk x.dot
theorem fitI_of {xs : List PItem} (h : shortI xs = true) (q : ∀ x ∈ xs, itemOk x) : FitI xs := ⟨by have := (shortI_iff.1 h).1; omega, fun x hx => (q x hx).2.2.1⟩
theorem edo_mem {node seq : Int} {xs : List PItem} {l : List PEff} {x : PItem} (h : x ∈ edo node seq xs l) : x ∈ xs ∨ x ∈ own node seq l := by
  by_cases hl : l = []
  · subst hl
    exact .inl h
  · rw [edo_at node seq l xs hl] at h
    have := (mem_inorm.1 h).1
    rw [eraw_at, List.mem_append] at this
    exact this.imp (fun k => (mem_iwithout.1 k).1) id
theorem fitI_do {node seq : Int} {xs : List PItem} {l : List PEff} (h : xs.length ≤ 900 ∧ ∀ x ∈ xs, dotOk x.dot) (hs : SmallE l) (hok : effsOk node seq l) : FitI (edo node seq xs l) := by
  refine ⟨?_, fun x hx => ?_⟩
  · have := edo_len node seq l xs
    have := hs.1
    have := h.1
    omega
  · rcases edo_mem hx with k | k
    · exact h.2 x k
    · obtain ⟨e, he, rfl⟩ := own_dot k
      exact (hok e he).1
theorem edoS {node seq : Int} {u v : Value} {xs : List PItem} {l : List PEff} {w : World} (hu : SeqE LItem w u xs) (hv : SeqE LEff w v l) (hx : FitI xs) (hs : SmallE l) (hok : effsOk node seq l) : Calls Tryz.prog 7 #[u, .int .i64 node, .int .i64 seq, v] w (GivesS LItem w (edo node seq xs l)) :=
  (edo_any node seq hu hv (by have := hx.1; omega) (by have := hs.1; omega) hs.fit hx.2 hok).mono fun _ _ h => h.gives
end Go.Proofs.YtkmiodpaanohoaaGreat
namespace Go.Proofs.YtkmiodpaanohoaaGreat
open Go.RowKit Plain
set_option linter.unusedVariables false

theorem smallI_do {node seq : Int} {xs : List PItem} {l : List PEff} (h : SmallI xs) (hl : xs.length ≤ 100) (hs : shortE l = true) (hok : effsOk node seq l) : SmallI (edo node seq xs l) := by
  refine ⟨?_, fun x hx => ?_⟩
  · have h1 := edo_len node seq l xs
    have h2 := (shortE_iff.1 hs).1
    omega
  · rcases edo_mem hx with k | k
    · exact h.2 x k
    · obtain ⟨e, he, rfl⟩ := own_dot k
      have h1 := shortE1_iff.1 ((shortE_iff.1 hs).2 e he)
      exact ⟨short1_iff.2 ⟨h1.1, h1.2.1, h1.2.2.1⟩, (hok e he).1⟩
theorem smallE_only {l : List PEff} (h : SmallE l) (z : List Txt) : SmallE (eonly l z) := ⟨by have := List.length_filter_le (fun e : PEff => covers z e.key) l; have := h.1; unfold eonly; omega, fun e he => h.2 e (mem_eonly.1 he).1⟩
theorem effsOk_only {node seq : Int} {l : List PEff} (h : effsOk node seq l) (z : List Txt) : effsOk node seq (eonly l z) := fun e he => h e (mem_eonly.1 he).1
theorem hasB_norm {xs : List PItem} {node seq : Int} (h : hasB xs node seq = false) : hasB (inorm xs) node seq = false := by
  unfold hasB at *
  rw [List.any_eq_false] at *
  exact fun x hx => h x (mem_inorm.1 hx).1
theorem ownKeys_of {node seq : Int} : ∀ {l : List PEff}, (∀ i, i < l.length → ∀ j, j < i → hasDot (l.getD i default).drops ⟨node, seq, (l.getD j default).pos⟩ = true → (l.getD j default).key = (l.getD i default).key) → OwnKeys node seq l
  | [], _ => trivial
  | e :: l, h => by
    refine ⟨fun f hf hd => ?_, ownKeys_of fun i hi j hj hd => ?_⟩
    · obtain ⟨i, hi, rfl⟩ := List.getElem_of_mem hf
      have := h (i + 1) (by simp; omega) 0 (by omega)
      simp only [List.getD_cons_succ, List.getD_cons_zero] at this
      rw [show l.getD i default = l[i] by simp [List.getD, List.getElem?_eq_getElem hi]] at this
      exact this (hasDot_iff.2 hd)
    · have := h (i + 1) (by simp; omega) (j + 1) (by omega)
      simp only [List.getD_cons_succ] at this
      exact this hd
theorem keys_of {M : List PItem} {l : List PEff} (h : ∀ i, i < l.length → ∀ j, j < M.length → hasDot (l.getD i default).drops (M.getD j default).dot = true → (M.getD j default).key = (l.getD i default).key) : ∀ e ∈ l, ∀ x ∈ M, x.dot ∈ e.drops → x.key = e.key := by
  intro e he x hx hd
  obtain ⟨i, hi, rfl⟩ := List.getElem_of_mem he
  obtain ⟨j, hj, rfl⟩ := List.getElem_of_mem hx
  have := h i hi j hj
  rw [show l.getD i default = l[i] by simp [List.getD, List.getElem?_eq_getElem hi], show M.getD j default = M[j] by simp [List.getD, List.getElem?_eq_getElem hj]] at this
  exact this (hasDot_iff.2 hd)
end Go.Proofs.YtkmiodpaanohoaaGreat
