/- The memory of the program's own Keep and Prune of a past: the boxes of the past, of the transaction, of the answer; what Keep answers. (Written by gen-prog.py.) -/
import Derived.Test.YtajfliemmfdnhaaGreatPast
import Derived.Test.YtajfliemmfdnhaaGreatPaSin
import Derived.Test.YtajfliemmfdnhaaGreatOrNxs
namespace Go.Proofs.YtajfliemmfdnhaaGreat
open Go.RowKit Plain
set_option linter.unusedVariables false

structure KpAt (w : World) (t : PTxn) (ha : Option Addr) (hn hc : Nat) (ia : Option Addr) (im ic : Nat) (da : Option Addr) (dn dc : Nat) (ea : Option Addr) (en ec : Nat) (u : World) : Prop where
 low : Below w.heap.size w u
 sb : u.heap[w.heap.size]? = some (.cells #[.slice ha hn hc, .slice ia im ic] 26 (0, 0))
 tb : u.heap[w.heap.size + 1]? = some (.cells #[.int .i64 t.node, .int .i64 t.seq, .slice da dn dc, .slice ea en ec] 29 (0, 0))
 rb : ∃ a n c a' n' c', u.heap[w.heap.size + 2]? = some (.cells #[.slice a n c, .slice a' n' c'] 26 (0, 0))
section
variable {w u u' : World} {t : PTxn} {ha : Option Addr} {hn hc : Nat} {ia : Option Addr} {im ic : Nat} {da : Option Addr} {dn dc : Nat} {ea : Option Addr} {en ec : Nat}
theorem KpAt.below (k : KpAt w t ha hn hc ia im ic da dn dc ea en ec u) (hb : Below u.heap.size u u') : KpAt w t ha hn hc ia im ic da dn dc ea en ec u' := by
 have lt : ∀ {i : Nat} {o : Obj}, u.heap[i]? = some o → u'.heap[i]? = some o := fun {i o} h => (hb.block i (Array.getElem?_eq_some_iff.1 h).1).trans h
 obtain ⟨a, n, c, a', n', c', hr⟩ := k.rb
 exact ⟨k.low.trans (hb.mono k.low.size), lt k.sb, lt k.tb, a, n, c, a', n', c', lt hr⟩
theorem KpAt.top (k : KpAt w t ha hn hc ia im ic da dn dc ea en ec u) : w.heap.size + 2 < u.heap.size := by
 obtain ⟨a, n, c, a', n', c', hr⟩ := k.rb
 exact (Array.getElem?_eq_some_iff.1 hr).1
theorem KpAt.belowN (k : KpAt w t ha hn hc ia im ic da dn dc ea en ec u) {N : Nat} (hb : Below N u u') (hN : w.heap.size + 2 < N) : KpAt w t ha hn hc ia im ic da dn dc ea en ec u' := by
 have lt : ∀ {i : Nat} {o : Obj}, i < N → u.heap[i]? = some o → u'.heap[i]? = some o := fun {i o} hi h => (hb.block i hi).trans h
 obtain ⟨a, n, c, a', n', c', hr⟩ := k.rb
 exact ⟨k.low.trans (hb.mono (by omega)), lt (by omega) k.sb, lt (by omega) k.tb, a, n, c, a', n', c', lt (by omega) hr⟩
theorem KpAt.two (k : KpAt w t ha hn hc ia im ic da dn dc ea en ec u) : Two u (w.heap.size + 2) := by
 obtain ⟨a, n, c, a', n', c', hr⟩ := k.rb
 exact ⟨a, n, c, a', n', c', _, hr⟩
theorem KpAt.set (k : KpAt w t ha hn hc ia im ic da dn dc ea en ec u) (a : Option Addr) (n c : Nat) (a' : Option Addr) (n' c' : Nat) : KpAt w t ha hn hc ia im ic da dn dc ea en ec ((u.setCell ⟨w.heap.size + 2, 0, none⟩ (.slice a n c)).setCell ⟨w.heap.size + 2, 1, none⟩ (.slice a' n' c')) := by
 have hb := st2_but u (w.heap.size + 2) (.slice a n c) (.slice a' n' c')
 have lt : ∀ {i : Nat} {o : Obj}, i ≠ w.heap.size + 2 → u.heap[i]? = some o → ((u.setCell ⟨w.heap.size + 2, 0, none⟩ (.slice a n c)).setCell ⟨w.heap.size + 2, 1, none⟩ (.slice a' n' c')).heap[i]? = some o := fun {i o} hne h => (hb.block i (Array.getElem?_eq_some_iff.1 h).1 hne).trans h
 obtain ⟨b, m, d, b', m', d', hr⟩ := k.rb
 exact ⟨(k.low.setCell (by show w.heap.size ≤ w.heap.size + 2; omega) _).setCell (by show w.heap.size ≤ w.heap.size + 2; omega) _, lt (by omega) k.sb, lt (by omega) k.tb, a, n, c, a', n', c', st2_heap hr _ _⟩
theorem KpAt.cells (k : KpAt w t ha hn hc ia im ic da dn dc ea en ec u) : (u.cell? ⟨w.heap.size, 0, none⟩ = some (.slice ha hn hc) ∧ u.cell? ⟨w.heap.size, 1, none⟩ = some (.slice ia im ic)) ∧ u.cell? ⟨w.heap.size + 1, 0, none⟩ = some (.int .i64 t.node) ∧ u.cell? ⟨w.heap.size + 1, 1, none⟩ = some (.int .i64 t.seq) ∧ u.cell? ⟨w.heap.size + 1, 2, none⟩ = some (.slice da dn dc) ∧ u.cell? ⟨w.heap.size + 1, 3, none⟩ = some (.slice ea en ec) :=
 ⟨(st2_cells k.sb).1, (st4_cells k.tb).1⟩
theorem KpAt.res (k : KpAt w t ha hn hc ia im ic da dn dc ea en ec u) : ∃ a n c a' n' c', u.cell? ⟨w.heap.size + 2, 0, none⟩ = some (.slice a n c) ∧ u.cell? ⟨w.heap.size + 2, 1, none⟩ = some (.slice a' n' c') ∧ u.frozen? ⟨w.heap.size + 2, 0, none⟩ = false ∧ u.frozen? ⟨w.heap.size + 2, 1, none⟩ = false := by
 obtain ⟨a, n, c, a', n', c', hr⟩ := k.rb
 obtain ⟨⟨h0, h1⟩, h2, h3⟩ := st2_cells hr
 exact ⟨a, n, c, a', n', c', h0, h1, h2, h3⟩
theorem KpAt.done (k : KpAt w t ha hn hc ia im ic da dn dc ea en ec u) (x y : Value) : ((u.setCell ⟨w.heap.size + 2, 0, none⟩ x).setCell ⟨w.heap.size + 2, 1, none⟩ y).cell? ⟨w.heap.size + 2, 0, none⟩ = some x ∧ ((u.setCell ⟨w.heap.size + 2, 0, none⟩ x).setCell ⟨w.heap.size + 2, 1, none⟩ y).cell? ⟨w.heap.size + 2, 1, none⟩ = some y := by
 obtain ⟨a, n, c, a', n', c', hr⟩ := k.rb
 exact (st2_cells (st2_heap hr x y)).1
theorem KpAt.txn (k : KpAt w t ha hn hc ia im ic da dn dc ea en ec u) (h1 : SeqE LInt w (.slice da dn dc) t.deps) (h2 : SeqE LEff w (.slice ea en ec) t.effs) : IsTxn u (.agg #[.int .i64 t.node, .int .i64 t.seq, .slice da dn dc, .slice ea en ec]) t := ⟨_, _, rfl, h1.below k.low, h2.below k.low⟩
theorem kpat_new (w : World) (t : PTxn) (ha : Option Addr) (hn hc : Nat) (ia : Option Addr) (im ic : Nat) (da : Option Addr) (dn dc : Nat) (ea : Option Addr) (en ec : Nat) : KpAt w t ha hn hc ia im ic da dn dc ea en ec (((w.alloc (.cells #[.slice ha hn hc, .slice ia im ic] 26)).alloc (.cells #[.int .i64 t.node, .int .i64 t.seq, .slice da dn dc, .slice ea en ec] 29)).alloc (.cells #[.slice none 0 0, .slice none 0 0] 26)) := by
 have z1 : (w.alloc (.cells #[.slice ha hn hc, .slice ia im ic] 26)).heap.size = w.heap.size + 1 := by simp
 have z2 : ((w.alloc (.cells #[.slice ha hn hc, .slice ia im ic] 26)).alloc (.cells #[.int .i64 t.node, .int .i64 t.seq, .slice da dn dc, .slice ea en ec] 29)).heap.size = w.heap.size + 2 := by simp
 have b1 : Below (w.heap.size + 1) (w.alloc (.cells #[.slice ha hn hc, .slice ia im ic] 26)) ((w.alloc (.cells #[.slice ha hn hc, .slice ia im ic] 26)).alloc (.cells #[.int .i64 t.node, .int .i64 t.seq, .slice da dn dc, .slice ea en ec] 29)) := (Below.refl _ _).alloc (by simp) _
 have b2 : Below (w.heap.size + 2) ((w.alloc (.cells #[.slice ha hn hc, .slice ia im ic] 26)).alloc (.cells #[.int .i64 t.node, .int .i64 t.seq, .slice da dn dc, .slice ea en ec] 29)) (((w.alloc (.cells #[.slice ha hn hc, .slice ia im ic] 26)).alloc (.cells #[.int .i64 t.node, .int .i64 t.seq, .slice da dn dc, .slice ea en ec] 29)).alloc (.cells #[.slice none 0 0, .slice none 0 0] 26)) := (Below.refl _ _).alloc (by simp) _
 have h1 := heap_alloc_new w (.cells #[.slice ha hn hc, .slice ia im ic] 26)
 have h2 := heap_alloc_new (w.alloc (.cells #[.slice ha hn hc, .slice ia im ic] 26)) (.cells #[.int .i64 t.node, .int .i64 t.seq, .slice da dn dc, .slice ea en ec] 29)
 have h3 := heap_alloc_new ((w.alloc (.cells #[.slice ha hn hc, .slice ia im ic] 26)).alloc (.cells #[.int .i64 t.node, .int .i64 t.seq, .slice da dn dc, .slice ea en ec] 29)) (.cells #[.slice none 0 0, .slice none 0 0] 26)
 rw [z1] at h2
 rw [z2] at h3
 exact ⟨(((Below.refl _ _).alloc (Nat.le_refl _) _).alloc (by simp) _).alloc (by simp; omega) _, (b2.block _ (by omega)).trans ((b1.block _ (by omega)).trans h1), (b2.block _ (by omega)).trans h2, _, _, _, _, _, _, h3⟩
end
structure PrAt (w : World) (ha : Option Addr) (hn hc : Nat) (ia : Option Addr) (im ic : Nat) (u : World) : Prop where
 low : Below w.heap.size w u
 sb : u.heap[w.heap.size]? = some (.cells #[.slice ha hn hc, .slice ia im ic] 26 (0, 0))
 rb : ∃ a n c a' n' c', u.heap[w.heap.size + 1]? = some (.cells #[.slice a n c, .slice a' n' c'] 26 (0, 0))
section
variable {w u u' : World} {ha : Option Addr} {hn hc : Nat} {ia : Option Addr} {im ic : Nat}
theorem PrAt.below (k : PrAt w ha hn hc ia im ic u) (hb : Below u.heap.size u u') : PrAt w ha hn hc ia im ic u' := by
 have lt : ∀ {i : Nat} {o : Obj}, u.heap[i]? = some o → u'.heap[i]? = some o := fun {i o} h => (hb.block i (Array.getElem?_eq_some_iff.1 h).1).trans h
 obtain ⟨a, n, c, a', n', c', hr⟩ := k.rb
 exact ⟨k.low.trans (hb.mono k.low.size), lt k.sb, a, n, c, a', n', c', lt hr⟩
theorem PrAt.two (k : PrAt w ha hn hc ia im ic u) : Two u (w.heap.size + 1) := by
 obtain ⟨a, n, c, a', n', c', hr⟩ := k.rb
 exact ⟨a, n, c, a', n', c', _, hr⟩
theorem PrAt.set (k : PrAt w ha hn hc ia im ic u) (a : Option Addr) (n c : Nat) (a' : Option Addr) (n' c' : Nat) : PrAt w ha hn hc ia im ic ((u.setCell ⟨w.heap.size + 1, 0, none⟩ (.slice a n c)).setCell ⟨w.heap.size + 1, 1, none⟩ (.slice a' n' c')) := by
 have hb := st2_but u (w.heap.size + 1) (.slice a n c) (.slice a' n' c')
 obtain ⟨b, m, d, b', m', d', hr⟩ := k.rb
 exact ⟨(k.low.setCell (by show w.heap.size ≤ w.heap.size + 1; omega) _).setCell (by show w.heap.size ≤ w.heap.size + 1; omega) _, (hb.block _ (Array.getElem?_eq_some_iff.1 k.sb).1 (by omega)).trans k.sb, a, n, c, a', n', c', st2_heap hr _ _⟩
theorem PrAt.res (k : PrAt w ha hn hc ia im ic u) : ∃ a n c a' n' c', u.cell? ⟨w.heap.size + 1, 0, none⟩ = some (.slice a n c) ∧ u.cell? ⟨w.heap.size + 1, 1, none⟩ = some (.slice a' n' c') ∧ u.frozen? ⟨w.heap.size + 1, 0, none⟩ = false ∧ u.frozen? ⟨w.heap.size + 1, 1, none⟩ = false := by
 obtain ⟨a, n, c, a', n', c', hr⟩ := k.rb
 obtain ⟨⟨h0, h1⟩, h2, h3⟩ := st2_cells hr
 exact ⟨a, n, c, a', n', c', h0, h1, h2, h3⟩
theorem PrAt.done (k : PrAt w ha hn hc ia im ic u) (x y : Value) : ((u.setCell ⟨w.heap.size + 1, 0, none⟩ x).setCell ⟨w.heap.size + 1, 1, none⟩ y).cell? ⟨w.heap.size + 1, 0, none⟩ = some x ∧ ((u.setCell ⟨w.heap.size + 1, 0, none⟩ x).setCell ⟨w.heap.size + 1, 1, none⟩ y).cell? ⟨w.heap.size + 1, 1, none⟩ = some y := by
 obtain ⟨a, n, c, a', n', c', hr⟩ := k.rb
 exact (st2_cells (st2_heap hr x y)).1
theorem prat_new (w : World) (ha : Option Addr) (hn hc : Nat) (ia : Option Addr) (im ic : Nat) : PrAt w ha hn hc ia im ic ((w.alloc (.cells #[.slice ha hn hc, .slice ia im ic] 26)).alloc (.cells #[.slice none 0 0, .slice none 0 0] 26)) := by
 have z1 : (w.alloc (.cells #[.slice ha hn hc, .slice ia im ic] 26)).heap.size = w.heap.size + 1 := by simp
 have b1 : Below (w.heap.size + 1) (w.alloc (.cells #[.slice ha hn hc, .slice ia im ic] 26)) ((w.alloc (.cells #[.slice ha hn hc, .slice ia im ic] 26)).alloc (.cells #[.slice none 0 0, .slice none 0 0] 26)) := (Below.refl _ _).alloc (by simp) _
 have h1 := heap_alloc_new w (.cells #[.slice ha hn hc, .slice ia im ic] 26)
 have h2 := heap_alloc_new (w.alloc (.cells #[.slice ha hn hc, .slice ia im ic] 26)) (.cells #[.slice none 0 0, .slice none 0 0] 26)
 rw [z1] at h2
 exact ⟨((Below.refl _ _).alloc (Nat.le_refl _) _).alloc (by simp) _, (b1.block _ (by omega)).trans h1, _, _, _, _, _, _, h2⟩
end

theorem keep_form {p : PPast} {t : PTxn} (h : tformedB t = false) : pErr p t = 2 ∧ pKeep p t = ⟨[], []⟩ := by
 have e : pErr p t = 2 := by unfold pErr; rw [if_pos h]
 exact ⟨e, by unfold pKeep; rw [e]; rfl⟩
theorem keep_old {p : PPast} {t : PTxn} (h : tformedB t = true) (h1 : pHeard (pEnd p) t = true) : pErr p t = 8 ∧ pKeep p t = ⟨[], []⟩ := by
 have e : pErr p t = 8 := by unfold pErr; rw [if_neg (by rw [h]; decide), if_pos h1]
 exact ⟨e, by unfold pKeep; rw [e]; rfl⟩
theorem keep_gap {p : PPast} {t : PTxn} (h : tformedB t = true) (h1 : pHeard (pEnd p) t = false) (h2 : oReady (pEnd p) t = false) : pErr p t = 9 ∧ pKeep p t = ⟨[], []⟩ := by
 have e : pErr p t = 9 := by unfold pErr; rw [if_neg (by rw [h]; decide), if_neg (by rw [h1]; decide), if_pos h2]
 exact ⟨e, by unfold pKeep; rw [e]; rfl⟩
theorem keep_full {p : PPast} {t : PTxn} (h : tformedB t = true) (h1 : pHeard (pEnd p) t = false) (h2 : oReady (pEnd p) t = true) (h3 : 4096 ≤ p.list.length) : pErr p t = 6 ∧ pKeep p t = ⟨[], []⟩ := by
 have e : pErr p t = 6 := by unfold pErr; rw [if_neg (by rw [h]; decide), if_neg (by rw [h1]; decide), if_neg (by rw [h2]; decide), if_pos h3]
 exact ⟨e, by unfold pKeep; rw [e]; rfl⟩
theorem keep_ok {p : PPast} {t : PTxn} (h : tformedB t = true) (h1 : pHeard (pEnd p) t = false) (h2 : oReady (pEnd p) t = true) (h3 : ¬ 4096 ≤ p.list.length) : pErr p t = 0 ∧ pKeep p t = ⟨p.floor, p.list ++ [t]⟩ := by
 have e : pErr p t = 0 := by unfold pErr; rw [if_neg (by rw [h]; decide), if_neg (by rw [h1]; decide), if_neg (by rw [h2]; decide), if_neg h3]
 exact ⟨e, by unfold pKeep; rw [e]; rfl⟩
end Go.Proofs.YtajfliemmfdnhaaGreat
