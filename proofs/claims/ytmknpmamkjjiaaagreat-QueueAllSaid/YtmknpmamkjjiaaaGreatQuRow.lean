/- What queues' functions answer; a list that grows in a variable of the call's own. -/
import Derived.Test.YtmknpmamkjjiaaaGreatQueue
import Derived.Test.YtmknpmamkjjiaaaGreatTxUses
namespace Go.Proofs.YtmknpmamkjjiaaaGreat
open Go.RowKit Plain
set_option linter.unusedVariables false

/-- a transaction in memory of the call's own -/
def GivesTxN (w : World) (t : PTxn) (e : Ending) (w' : World) : Prop := ∃ u, e = .returned u ∧ IsTxnIn (fun b => w.heap.size ≤ b ∧ b < w'.heap.size) w' u t ∧ Below w.heap.size w w'
/-- a queue in memory of the call's own -/
def GivesQN (w : World) (m : Int) (l : List PTxn) (e : Ending) (w' : World) : Prop := ∃ a n c, e = .returned (.agg #[.int .i64 m, .slice a n c]) ∧ l.length = n ∧ OwnJ (fun b => w.heap.size ≤ b) LTxn w.heap.size w' (.slice a n c) l ∧ Below w.heap.size w w'
def GivesQuN (w : World) (q : PQueue) (e : Ending) (w' : World) : Prop := GivesQN w q.most q.list e w'
def GivesQE (w : World) (m : Int) (l : List PTxn) (x : Int) (e : Ending) (w' : World) : Prop := ∃ a n c, e = .returned (.tuple #[.agg #[.int .i64 m, .slice a n c], .int .i64 x]) ∧ l.length = n ∧ OwnJ (fun b => w.heap.size ≤ b) LTxn w.heap.size w' (.slice a n c) l ∧ Below w.heap.size w w'
def GivesQuE (w : World) (q : PQueue) (x : Int) (e : Ending) (w' : World) : Prop := GivesQE w q.most q.list x e w'
theorem IsTxnIn.deps {Q : Nat → Prop} {w : World} {t : PTxn} {a b dv ev : Value} (h : IsTxnIn Q w (.agg #[a, b, dv, ev]) t) : Sq LInt Q w dv t.deps := by
 obtain ⟨d, e, h1, h2, h3⟩ := h
 simp only [Value.agg.injEq, Array.mk.injEq, List.cons.injEq] at h1
 obtain ⟨-, -, rfl, rfl, -⟩ := h1
 exact h2
theorem IsTxnIn.effs {Q : Nat → Prop} {w : World} {t : PTxn} {a b dv ev : Value} (h : IsTxnIn Q w (.agg #[a, b, dv, ev]) t) : Sq LEff Q w ev t.effs := by
 obtain ⟨d, e, h1, h2, h3⟩ := h
 simp only [Value.agg.injEq, Array.mk.injEq, List.cons.injEq] at h1
 obtain ⟨-, -, rfl, rfl, -⟩ := h1
 exact h3
theorem OwnJ.newSq {α : Type} {L : El α} {N : Nat} {w : World} {v : Value} {xs : List α} (h : OwnJ (fun b => N ≤ b) L N w v xs) : Sq L (fun b => N ≤ b ∧ b < w.heap.size) w v xs := h.sq fun b h _ => h
/-- append at a step of a region; where the row lies behind it is told -/
theorem step_append_elQ {α : Type} {w : World} {ops : Array Oper} {o : Oper} {act : Act} {K : Act → World → Prop} {Q : Exit → Act → World → Prop} {E : Prop} (J : Nat → Prop) (L : El α) (hw : Region.wanted o (yielded ops act.tmps) = true) (s x : Operand)
  (ho : o.op = .call { callee := .builtin .append, args := #[s, x], argTypes := #[L.S, L.S] }) (B : Nat) {v u : Value} {xs ys : List α}
  (hs : act.eval s = v) (hown : OwnJ J L B w v xs) (hx : act.eval x = u) {K' : Nat → Prop} (hseq : Sq L K' w u ys) (hI : ∀ vs x, L.R K' w vs x → L.R (fun b => J b ∧ b < w.heap.size ∧ v.ownBlock ≠ some b) w vs x) (hlen : xs.length + ys.length ≤ 1073741824) (hbase : B ≤ w.heap.size)
  (h : ∀ v' w', OwnJ J L B w' v' (xs ++ ys) → w.grownBy w' v.ownBlock → (v'.ownBlock = v.ownBlock ∨ v'.ownBlock = some w.heap.size) → K (act.put o.dst v') w') : if Region.wanted o (yielded ops act.tmps) = true then Oper.wp Tryz.prog o act w K Q else E := by
 rw [if_pos hw]
 obtain ⟨v', w', hr, h2, h3, h4⟩ := run_append_elJ J B o.type hown hseq hI hlen hbase
 unfold Oper.wp execOp
 simp only [ho, resolve, invoke, builtin, Sem.run_bind, Sem.run_pure, Result.andThen_ok, List.map_toArray, List.map_cons, List.map_nil, hs, hx, hr]
 exact h v' w' h2 h3 h4
theorem OwnJ.keptQ {α : Type} {L : El α} {J : Nat → Prop} {B : Nat} {w w' : World} {v : Value} {xs : List α} (h : OwnJ J L B w v xs) (hs : w.heap.size ≤ w'.heap.size) (hb : ∀ b, b < w.heap.size → (J b ∨ v.ownBlock = some b) → w'.heap[b]? = w.heap[b]?) : OwnJ J L B w' v xs := by
 have hlt := h.lt
 obtain ⟨vals, ho, hr⟩ := h
 refine ⟨vals, ⟨ho.1, ?_⟩, (hr.agree fun b hq => hb b hq.2.1 (.inl hq.1)).mono fun b hq => ⟨hq.1, Nat.lt_of_lt_of_le hq.2.1 hs, hq.2.2⟩⟩
 rcases ho.2 with hn | ⟨g, cap, cur, hv, hb', hg, hr'⟩
 ·exact .inl hn
 ·exact .inr ⟨g, cap, cur, hv, hb', (hb g (Array.getElem?_eq_some_iff.1 hg).1 (.inr (by rw [hv]; rfl))).trans hg, hr'⟩
theorem OwnJ.lower {α : Type} {L : El α} {J : Nat → Prop} {B : Nat} {w : World} {v : Value} {xs : List α} (h : OwnJ J L B w v xs) : OwnJ (fun b => J b ∧ b < w.heap.size) L B w v xs := by
 obtain ⟨vals, ho, hr⟩ := h
 exact ⟨vals, ho, hr.mono fun b hq => ⟨⟨hq.1, hq.2.1⟩, hq.2⟩⟩
/-- Heard, each time round: the answer's variable, the one that holds what is left, and its list -/
structure QhAt (w : World) (m : Int) (a : Option Addr) (k c : Nat) (xs : List PTxn) (u : World) : Prop where
 low : Below w.heap.size w u
 rb : QuBox (w.heap.size + 1) 0 none 0 0 u
 lb : QuBox (w.heap.size + 2) m a k c u
 len : xs.length = k
 ow : OwnJ (fun b => w.heap.size + 3 ≤ b) LTxn (w.heap.size + 3) u (.slice a k c) xs
theorem QhAt.below {w u u' : World} {m : Int} {a : Option Addr} {k c : Nat} {xs : List PTxn} (h : QhAt w m a k c xs u) (hb : Below u.heap.size u u') : QhAt w m a k c xs u' :=
 ⟨h.low.trans (hb.mono h.low.size), h.rb.below hb, h.lb.below hb, h.len, h.ow.below hb (Nat.le_refl _)⟩
def qc (m : Int) (a : Option Addr) (n c : Nat) : Obj := .cells #[.int .i64 m, .slice a n c] 24
theorem qhat_new (w : World) (m : Int) (la : Option Addr) (n lc : Nat) : QhAt w m none 0 0 [] (((w.alloc (.cells #[.int .i64 m, .slice la n lc] 24)).alloc (.cells #[.int .i64 0, .slice none 0 0] 24)).alloc (.cells #[.int .i64 m, .slice none 0 0] 24)) := by
 show QhAt w m none 0 0 [] (((w.alloc (qc m la n lc)).alloc (qc 0 none 0 0)).alloc (qc m none 0 0))
 have z1 : (w.alloc (qc m la n lc)).heap.size = w.heap.size + 1 := by simp
 have z2 : ((w.alloc (qc m la n lc)).alloc (qc 0 none 0 0)).heap.size = w.heap.size + 2 := by simp
 have b1 := qubox_new (w.alloc (qc m la n lc)) 0 none 0 0
 have b2 := qubox_new ((w.alloc (qc m la n lc)).alloc (qc 0 none 0 0)) m none 0 0
 rw [z1] at b1
 rw [z2] at b2
 exact ⟨(((Below.refl w.heap.size w).alloc (Nat.le_refl _) _).alloc (by simp) _).alloc (by simp; omega) _, QuBox.below b1 ((Below.refl _ _).alloc (Nat.le_refl _) _), b2, rfl, OwnJ.nil _ _ _⟩
theorem quparam0 (w : World) (m : Int) (la : Option Addr) (n lc : Nat) : ((w.alloc (.cells #[.int .i64 m, .slice la n lc] 24)).alloc (.cells #[.int .i64 0, .slice none 0 0] 24)).cell? ⟨w.heap.size, 0, none⟩ = some (.int .i64 m) :=
 (QuBox.below (qubox_new w m la n lc) ((Below.refl _ _).alloc (Nat.le_refl _) _)).c.1.1
theorem quparam (w : World) (m : Int) (la : Option Addr) (n lc : Nat) : (((w.alloc (.cells #[.int .i64 m, .slice la n lc] 24)).alloc (.cells #[.int .i64 0, .slice none 0 0] 24)).alloc (.cells #[.int .i64 m, .slice none 0 0] 24)).cell? ⟨w.heap.size, 0, none⟩ = some (.int .i64 m) ∧ (((w.alloc (.cells #[.int .i64 m, .slice la n lc] 24)).alloc (.cells #[.int .i64 0, .slice none 0 0] 24)).alloc (.cells #[.int .i64 m, .slice none 0 0] 24)).cell? ⟨w.heap.size, 1, none⟩ = some (.slice la n lc) :=
 (QuBox.below (QuBox.below (qubox_new w m la n lc) ((Below.refl _ _).alloc (Nat.le_refl _) (.cells #[.int .i64 0, .slice none 0 0] 24))) ((Below.refl _ _).alloc (Nat.le_refl _) (.cells #[.int .i64 m, .slice none 0 0] 24))).c.1
end Go.Proofs.YtmknpmamkjjiaaaGreat
