/- What stands while one block of the caller's turns (a map that a function value writes) and the call's own rows grow. Of no package. SLICES OF THE CALL'S OWN, FINER: what they hold lies in blocks of J alone (and none of them is the row's own); append. Of no package. -/
import Derived.Test.YtmknpmamkjjiaaaGreatEls
namespace Go.Proofs.YtmknpmamkjjiaaaGreat
open Go.RowKit Plain
set_option linter.unusedVariables false

theorem grown_trans {w W W' : World} {row row' : Option Nat} (h : w.grownBy W row) (g : W.grownBy W' row') (hr : ∀ j, row' = some j → row = some j ∨ w.heap.size ≤ j) : w.grownBy W' row :=
 ⟨g.os.trans h.os, g.tape.trans h.tape, g.output.trans h.output, Nat.le_trans h.size g.size, fun k hk hne => (g.block k (Nat.lt_of_lt_of_le hk h.size) (fun e => by
  rcases hr k e.symm with e2 | e2
  ·exact hne e2.symm
  ·omega)).trans (h.block k hk hne)⟩
theorem grown_below {w W W' : World} {row : Option Nat} (h : w.grownBy W row) (g : Below w.heap.size W W') : w.grownBy W' row :=
 ⟨g.os.trans h.os, g.tape.trans h.tape, g.output.trans h.output, Nat.le_trans h.size g.size, fun k hk hne => (g.block k hk).trans (h.block k hk hne)⟩
theorem below_of_grown {w W : World} (h : w.grownBy W none) : Below w.heap.size w W := ⟨h.os, h.tape, h.output, h.size, fun k hk => h.block k hk (by simp)⟩
theorem grown_of_below {w W : World} {row : Option Nat} (h : Below w.heap.size w W) : w.grownBy W row := grown_below (World.grownBy.refl w row) h
variable {α : Type} {L : El α}
theorem OwnE.kept {B : Nat} {w w' : World} {row : Option Nat} {v : Value} {xs : List α} (hf : Flat L) (h : OwnE L B w v xs) (hg : w.grownBy w' row) (hr : ∀ j, row = some j → j < B) : OwnE L B w' v xs := by
 obtain ⟨vals, ho, hrows⟩ := h
 refine ⟨vals, ⟨ho.1, ?_⟩, ⟨hrows.1, fun j x hj => hf (hrows.2 j x hj)⟩⟩
 rcases ho.2 with hn | ⟨g, cap, cur, hv, hb, hgc, hr'⟩
 ·exact .inl hn
 ·have hlt : g < w.heap.size := (Array.getElem?_eq_some_iff.1 hgc).1
  exact .inr ⟨g, cap, cur, hv, hb, (hg.block g hlt (fun e => by have := hr g e.symm; omega)).trans hgc, hr'⟩
/-- a slice of what was there, of another block than the one that turns -/
def Old (L : El α) (row : Option Nat) (B : Nat) (w : World) (v : Value) (xs : List α) : Prop := Sq L (fun b => b < B ∧ some b ≠ row) w v xs
theorem Old.kept {row : Option Nat} {w w' : World} {v : Value} {xs : List α} (h : Old L row w.heap.size w v xs) (hg : w.grownBy w' row) : Old L row w.heap.size w' v xs := Sq.agree h fun b hb => hg.block b hb.1 hb.2
theorem Old.seq {row : Option Nat} {B : Nat} {w : World} {v : Value} {xs : List α} (h : Old L row B w v xs) (hB : B ≤ w.heap.size) : SeqE L w v xs := h.mono fun b hb => Nat.lt_of_lt_of_le hb.1 hB
theorem SeqE.old {w : World} {v : Value} {xs : List α} (h : SeqE L w v xs) : Old L none w.heap.size w v xs := h.mono fun b hb => ⟨hb, by simp⟩
end Go.Proofs.YtmknpmamkjjiaaaGreat
namespace Go.Proofs.YtmknpmamkjjiaaaGreat
open Go.RowKit Plain
set_option linter.unusedVariables false
variable {α : Type} {L : El α}

def OwnJ (J : Nat → Prop) (L : El α) (B : Nat) (w : World) (v : Value) (xs : List α) : Prop := ∃ vals, w.ownsRow B L.E L.k v xs.length vals ∧ Rows L (fun b => J b ∧ b < w.heap.size ∧ v.ownBlock ≠ some b) w vals xs
theorem OwnJ.own {J : Nat → Prop} {B : Nat} {w : World} {v : Value} {xs : List α} (h : OwnJ J L B w v xs) : OwnE L B w v xs := by
 obtain ⟨vals, ho, hr⟩ := h
 exact ⟨vals, ho, hr.mono fun b hb => hb.2⟩
theorem OwnJ.nil (J : Nat → Prop) (B : Nat) (w : World) : OwnJ J L B w (.slice none 0 0) [] := ⟨[], World.ownsRow_nil _ _ _ _, Rows.nil _ _⟩
theorem OwnJ.lt {J : Nat → Prop} {B : Nat} {w : World} {v : Value} {xs : List α} (h : OwnJ J L B w v xs) : ∀ k, v.ownBlock = some k → B ≤ k ∧ k < w.heap.size := h.own.lt
theorem OwnJ.at {J : Nat → Prop} {B : Nat} {w : World} {v : Value} {xs : List α} (h : OwnJ J L B w v xs) (n : Nat) (hn : xs.length = n) : ∃ a cap, v = .slice a n cap ∧ (n : Int) ≤ cap ∧ (cap : Int) ≤ 9223372036854775807 ∧ OwnJ J L B w (.slice a n cap) xs := by
 obtain ⟨a, cap, rfl, h1, h2, -⟩ := h.own.at n hn
 exact ⟨a, cap, rfl, h1, h2, h⟩
theorem OwnJ.mono {J : Nat → Prop} {B C : Nat} {w : World} {v : Value} {xs : List α} (h : OwnJ J L B w v xs) (hc : C ≤ B) : OwnJ J L C w v xs := by
 obtain ⟨vals, ho, hr⟩ := h
 refine ⟨vals, ⟨ho.1, ?_⟩, hr⟩
 rcases ho.2 with hn | ⟨g, cap, cur, hv, hb, hg⟩
 ·exact .inl hn
 ·exact .inr ⟨g, cap, cur, hv, by omega, hg⟩
theorem OwnJ.imp {J J' : Nat → Prop} {B : Nat} {w : World} {v : Value} {xs : List α} (h : OwnJ J L B w v xs) (hj : ∀ b, J b → J' b) : OwnJ J' L B w v xs := by
 obtain ⟨vals, ho, hr⟩ := h
 exact ⟨vals, ho, hr.mono fun b hb => ⟨hj b hb.1, hb.2⟩⟩
/-- what a function that makes such a list anew, and all that it holds, answers -/
def MadeJ (L : El α) (w : World) (xs : List α) (e : Ending) (w' : World) : Prop := ∃ v, e = .returned v ∧ OwnJ (fun b => w.heap.size ≤ b) L w.heap.size w' v xs ∧ Below w.heap.size w w'
/-- a later world in which what is looked at stands -/
theorem OwnJ.kept {J : Nat → Prop} {B : Nat} {w w' : World} {v : Value} {xs : List α} (h : OwnJ J L B w v xs) (hs : w.heap.size ≤ w'.heap.size) (hb : ∀ b, b < w.heap.size → (J b ∨ B ≤ b) → w'.heap[b]? = w.heap[b]?) : OwnJ J L B w' v xs := by
 obtain ⟨vals, ho, hr⟩ := h
 refine ⟨vals, ⟨ho.1, ?_⟩, (hr.agree fun b hq => hb b hq.2.1 (.inl hq.1)).mono fun b hq => ⟨hq.1, Nat.lt_of_lt_of_le hq.2.1 hs, hq.2.2⟩⟩
 rcases ho.2 with hn | ⟨g, cap, cur, hv, hb', hg, hr'⟩
 ·exact .inl hn
 ·have hlt : g < w.heap.size := (Array.getElem?_eq_some_iff.1 hg).1
  exact .inr ⟨g, cap, cur, hv, hb', (hb g hlt (.inr hb')).trans hg, hr'⟩
theorem OwnJ.below {J : Nat → Prop} {B N : Nat} {w w' : World} {v : Value} {xs : List α} (h : OwnJ J L B w v xs) (hb : Below N w w') (hN : w.heap.size ≤ N) : OwnJ J L B w' v xs := h.kept hb.size fun b hl _ => hb.block b (Nat.lt_of_lt_of_le hl hN)
theorem OwnJ.alloc {J : Nat → Prop} {B : Nat} {w : World} {v : Value} {xs : List α} (h : OwnJ J L B w v xs) (o : Obj) : OwnJ J L B (w.alloc o) v xs := h.below ((Below.refl w.heap.size w).alloc (Nat.le_refl _) o) (Nat.le_refl _)
/-- all of it lies in J -/
theorem OwnJ.sq {J : Nat → Prop} {B : Nat} {w : World} {v : Value} {xs : List α} (h : OwnJ J L B w v xs) (hj : ∀ b, B ≤ b → b < w.heap.size → J b) : Sq L (fun b => J b ∧ b < w.heap.size) w v xs := by
 have hlt := h.lt
 obtain ⟨vals, ho, hr⟩ := h
 have hr' : Rows L (fun b => J b ∧ b < w.heap.size) w vals xs := hr.mono fun b hb => ⟨hb.1, hb.2.1⟩
 rcases ho.2 with ⟨rfl, hn⟩ | ⟨g, cap, cur, rfl, hb, hg, hnc, hcm, hcs, htake⟩
 ·refine ⟨none, 0, vals, by rw [hn], by omega, Nat.zero_le _, fun _ => rfl, hr', fun hp => absurd hp (by omega)⟩
 ·refine ⟨_, cap, vals, rfl, hnc, hcm, (by simp), hr', fun hp => ⟨g, 0, rfl, ⟨hj g (hlt g rfl).1 (hlt g rfl).2, (hlt g rfl).2⟩, fun i u hi => ?_⟩⟩
  have hil : i < xs.length * L.k := by rw [← hr.1]; exact (List.getElem?_eq_some_iff.1 hi).1
  rw [Nat.zero_add, World.ownsRow.cellAt ho i hil, hi]
theorem run_append_elJ {w : World} (J : Nat → Prop) (B : Nat) (ty : TypeId) {v u : Value} {xs ys : List α} (hown : OwnJ J L B w v xs) {Q : Nat → Prop} (hseq : Sq L Q w u ys)
  (hI : ∀ vs x, L.R Q w vs x → L.R (fun b => J b ∧ b < w.heap.size ∧ v.ownBlock ≠ some b) w vs x) (hlen : xs.length + ys.length ≤ 1073741824) (hbase : B ≤ w.heap.size) :
  ∃ v' w', (Builtin.append_ #[L.S, L.S] ty #[v, u]).run Tryz.prog w = .ok v' w' ∧ OwnJ J L B w' v' (xs ++ ys) ∧ w.grownBy w' v.ownBlock ∧ (v'.ownBlock = v.ownBlock ∨ v'.ownBlock = some w.heap.size) := by
 obtain ⟨i0, hi, hz0, hz1, hz2⟩ := info_el L
 have hlt := hown.lt
 obtain ⟨vals, ho, hr⟩ := hown
 obtain ⟨a, cap, news, rfl, h1, h2, h0, hn, h3⟩ := hseq
 have hn' : Rows L (fun b => J b ∧ b < w.heap.size ∧ v.ownBlock ≠ some b) w news ys := ⟨hn.1, fun j x hj => hI _ _ (hn.2 j x hj)⟩
 have hsm := L.small
 cases a with
 | none =>
  obtain rfl := h0 rfl
  obtain rfl : ys = [] := List.eq_nil_of_length_eq_zero (by omega)
  refine ⟨v, w, run_append_owned_none (P := Tryz.prog) (w := w) B L.S ty L.E i0 L.k L.und hi v _ _ ho, ?_, World.grownBy.refl _ _, .inl rfl⟩
  rw [List.append_nil]
  exact ⟨vals, ho, hr⟩
 | some ad =>
  have hbytes : (xs.length + ys.length) * L.bytes ≤ 140737488355328 := by
   have := Nat.mul_le_mul hlen hsm
   omega
  obtain ⟨v', w', hrun, ho', hg, -, hat⟩ := run_append_own_at (P := Tryz.prog) w B L.S ty L.E i0 L.zero L.k L.bytes L.und hi hz0 hz1 hz2 L.zsize L.pos v _ _ ho ad ys.length cap news hn.1 (fun j u hu => by
    have hp : 0 < ys.length := by
     have h := (List.getElem?_eq_some_iff.1 hu).1
     rw [hn.1] at h
     rcases Nat.eq_zero_or_pos ys.length with e | e
     ·rw [e, Nat.zero_mul] at h; omega
     ·exact e
    obtain ⟨b, off, he, hc⟩ := h3 hp
    cases he
    rw [Addr.add_lit]
    exact hc.2 j u hu) (Rows.cells hn) (by unfold maxLen; omega) hbytes hbase
  refine ⟨v', w', hrun, ⟨vals ++ news, by rw [List.length_append]; exact ho', ?_⟩, hg, hat⟩
  refine (((hr.append hn').agree fun b hq => hg.block b hq.2.1 fun e => hq.2.2 e.symm).mono fun b hq => ⟨hq.1, Nat.lt_of_lt_of_le hq.2.1 hg.size, ?_⟩)
  rcases hat with e | e
  ·rw [e]; exact hq.2.2
  ·rw [e]
   intro e2
   have := hq.2.1
   cases e2
   omega
/-- append of whatever slice reads as ys to a slice of the call's own -/
theorem wpList_append_elJ {w : World} {ops : Array Oper} {rest : List Oper} {o : Oper} {act : Act} {Q : Exit → Act → World → Prop} (J : Nat → Prop) (L : El α) (hgd : o.guard = none) (s x : Operand)
  (ho : o.op = .call { callee := .builtin .append, args := #[s, x], argTypes := #[L.S, L.S] }) (B : Nat) {v u : Value} {xs ys : List α}
  (hs : act.eval s = v) (hown : OwnJ J L B w v xs) (hx : act.eval x = u) {K : Nat → Prop} (hseq : Sq L K w u ys) (hI : ∀ vs x, L.R K w vs x → L.R (fun b => J b ∧ b < w.heap.size ∧ v.ownBlock ≠ some b) w vs x) (hlen : xs.length + ys.length ≤ 1073741824) (hbase : B ≤ w.heap.size)
  (h : ∀ v' w', OwnJ J L B w' v' (xs ++ ys) → w.grownBy w' v.ownBlock → (v'.ownBlock = v.ownBlock ∨ v'.ownBlock = some w.heap.size) → wpList Tryz.prog ops Q rest (act.put o.dst v') w') : wpList Tryz.prog ops Q (o :: rest) act w := by
 refine wpList_plain hgd fun K hK => ?_
 obtain ⟨v', w', hr, h2, h3, h4⟩ := run_append_elJ J B o.type hown hseq hI hlen hbase
 unfold Oper.wp execOp
 simp only [ho, resolve, invoke, builtin, Sem.run_bind, Sem.run_pure, Result.andThen_ok, List.map_toArray, List.map_cons, List.map_nil, hs, hx, hr]
 exact hK _ _ (h v' w' h2 h3 h4)
end Go.Proofs.YtmknpmamkjjiaaaGreat
