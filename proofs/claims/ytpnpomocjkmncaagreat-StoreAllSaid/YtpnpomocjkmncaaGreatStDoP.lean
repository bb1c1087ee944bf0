/- The memory of Do of stores: the boxes of the store, of the transaction, of the answer; what Do answers. (Written by gen-do.py.) The document's own All by marks, as plain mathematics. What the program's own Do of stores leaves. (Written by gen-do.py.) -/
import Derived.Test.YtpnpomocjkmncaaGreatStore
import Derived.Test.YtpnpomocjkmncaaGreatStFm
import Derived.Test.YtpnpomocjkmncaaGreatStBh
import Derived.Test.YtpnpomocjkmncaaGreatStMaths
import Derived.Test.YtpnpomocjkmncaaGreatOrCon
import Derived.Test.YtpnpomocjkmncaaGreatRefTxOC
import Derived.Deep.RegionHeld3
namespace Go.Proofs.YtpnpomocjkmncaaGreat
open Go.RowKit Plain
set_option linter.unusedVariables false


def doErr (s : PStore) (t : PTxn) : Int := if tformedB t = false then 2 else if t.seq ≤ saysI s.heard t.node then 8 else if oReady s.heard t = false then 9 else 0
def doSt (s : PStore) (t : PTxn) : PStore := if doErr s t = 0 then sDo s t else ⟨[], []⟩
theorem do_form {s : PStore} {t : PTxn} (h : tformedB t = false) : doErr s t = 2 ∧ doSt s t = ⟨[], []⟩ := by
 have e : doErr s t = 2 := by unfold doErr; rw [if_pos h]
 exact ⟨e, by unfold doSt; rw [e]; rfl⟩
theorem do_old {s : PStore} {t : PTxn} (h : tformedB t = true) (h1 : t.seq ≤ saysI s.heard t.node) : doErr s t = 8 ∧ doSt s t = ⟨[], []⟩ := by
 have e : doErr s t = 8 := by unfold doErr; rw [if_neg (by rw [h]; decide), if_pos h1]
 exact ⟨e, by unfold doSt; rw [e]; rfl⟩
theorem do_gap {s : PStore} {t : PTxn} (h : tformedB t = true) (h1 : ¬ t.seq ≤ saysI s.heard t.node) (h2 : oReady s.heard t = false) : doErr s t = 9 ∧ doSt s t = ⟨[], []⟩ := by
 have e : doErr s t = 9 := by unfold doErr; rw [if_neg (by rw [h]; decide), if_neg h1, if_pos h2]
 exact ⟨e, by unfold doSt; rw [e]; rfl⟩
theorem do_ok {s : PStore} {t : PTxn} (h : tformedB t = true) (h1 : ¬ t.seq ≤ saysI s.heard t.node) (h2 : oReady s.heard t = true) : doErr s t = 0 ∧ doSt s t = ⟨oNext s.heard t, edo t.node t.seq s.items t.effs⟩ := by
 have e : doErr s t = 0 := by unfold doErr; rw [if_neg (by rw [h]; decide), if_neg h1, if_neg (by rw [h2]; decide)]
 exact ⟨e, by unfold doSt; rw [if_pos e]; rfl⟩
theorem formed_seq {t : PTxn} (h : tformedB t = true) : decide (1 ≤ t.seq) = true := by
 have h1 := (tformed_parts.1 h).1
 unfold inRange at h1
 exact decide_eq_true (of_decide_eq_true h1).2.2.1
structure DoAt (w : World) (t : PTxn) (ha : Option Addr) (hn hc : Nat) (ia : Option Addr) (im ic : Nat) (da : Option Addr) (dn dc : Nat) (ea : Option Addr) (en ec : Nat) (u : World) : Prop where
 low : Below w.heap.size w u
 sb : u.heap[w.heap.size]? = some (.cells #[.slice ha hn hc, .slice ia im ic] 26 (0, 0))
 tb : u.heap[w.heap.size + 1]? = some (.cells #[.int .i64 t.node, .int .i64 t.seq, .slice da dn dc, .slice ea en ec] 30 (0, 0))
 rb : ∃ a n c a' n' c', u.heap[w.heap.size + 2]? = some (.cells #[.slice a n c, .slice a' n' c'] 26 (0, 0))
section
variable {w u u' : World} {s : PStore} {t : PTxn} {ha : Option Addr} {hn hc : Nat} {ia : Option Addr} {im ic : Nat} {da : Option Addr} {dn dc : Nat} {ea : Option Addr} {en ec : Nat}
theorem DoAt.below (k : DoAt w t ha hn hc ia im ic da dn dc ea en ec u) (hb : Below u.heap.size u u') : DoAt w t ha hn hc ia im ic da dn dc ea en ec u' := by
 have lt : ∀ {i : Nat} {o : Obj}, u.heap[i]? = some o → u'.heap[i]? = some o := fun {i o} h => (hb.block i (Array.getElem?_eq_some_iff.1 h).1).trans h
 obtain ⟨a, n, c, a', n', c', hr⟩ := k.rb
 exact ⟨k.low.trans (hb.mono k.low.size), lt k.sb, lt k.tb, a, n, c, a', n', c', lt hr⟩
theorem DoAt.two (k : DoAt w t ha hn hc ia im ic da dn dc ea en ec u) : Two u (w.heap.size + 2) := by
 obtain ⟨a, n, c, a', n', c', hr⟩ := k.rb
 exact ⟨a, n, c, a', n', c', _, hr⟩
theorem DoAt.set (k : DoAt w t ha hn hc ia im ic da dn dc ea en ec u) (a : Option Addr) (n c : Nat) (a' : Option Addr) (n' c' : Nat) : DoAt w t ha hn hc ia im ic da dn dc ea en ec ((u.setCell ⟨w.heap.size + 2, 0, none⟩ (.slice a n c)).setCell ⟨w.heap.size + 2, 1, none⟩ (.slice a' n' c')) := by
 have hb := st2_but u (w.heap.size + 2) (.slice a n c) (.slice a' n' c')
 have lt : ∀ {i : Nat} {o : Obj}, i ≠ w.heap.size + 2 → u.heap[i]? = some o → ((u.setCell ⟨w.heap.size + 2, 0, none⟩ (.slice a n c)).setCell ⟨w.heap.size + 2, 1, none⟩ (.slice a' n' c')).heap[i]? = some o := fun {i o} hne h => (hb.block i (Array.getElem?_eq_some_iff.1 h).1 hne).trans h
 obtain ⟨b, m, d, b', m', d', hr⟩ := k.rb
 exact ⟨(k.low.setCell (by show w.heap.size ≤ w.heap.size + 2; omega) _).setCell (by show w.heap.size ≤ w.heap.size + 2; omega) _, lt (by omega) k.sb, lt (by omega) k.tb, a, n, c, a', n', c', st2_heap hr _ _⟩
theorem DoAt.cells (k : DoAt w t ha hn hc ia im ic da dn dc ea en ec u) : (u.cell? ⟨w.heap.size, 0, none⟩ = some (.slice ha hn hc) ∧ u.cell? ⟨w.heap.size, 1, none⟩ = some (.slice ia im ic)) ∧ u.cell? ⟨w.heap.size + 1, 0, none⟩ = some (.int .i64 t.node) ∧ u.cell? ⟨w.heap.size + 1, 1, none⟩ = some (.int .i64 t.seq) ∧ u.cell? ⟨w.heap.size + 1, 2, none⟩ = some (.slice da dn dc) ∧ u.cell? ⟨w.heap.size + 1, 3, none⟩ = some (.slice ea en ec) :=
 ⟨(st2_cells k.sb).1, (st4_cells k.tb).1⟩
theorem DoAt.res (k : DoAt w t ha hn hc ia im ic da dn dc ea en ec u) : ∃ a n c a' n' c', u.cell? ⟨w.heap.size + 2, 0, none⟩ = some (.slice a n c) ∧ u.cell? ⟨w.heap.size + 2, 1, none⟩ = some (.slice a' n' c') ∧ u.frozen? ⟨w.heap.size + 2, 0, none⟩ = false ∧ u.frozen? ⟨w.heap.size + 2, 1, none⟩ = false := by
 obtain ⟨a, n, c, a', n', c', hr⟩ := k.rb
 obtain ⟨⟨h0, h1⟩, h2, h3⟩ := st2_cells hr
 exact ⟨a, n, c, a', n', c', h0, h1, h2, h3⟩
theorem DoAt.done (k : DoAt w t ha hn hc ia im ic da dn dc ea en ec u) (x y : Value) : ((u.setCell ⟨w.heap.size + 2, 0, none⟩ x).setCell ⟨w.heap.size + 2, 1, none⟩ y).cell? ⟨w.heap.size + 2, 0, none⟩ = some x ∧ ((u.setCell ⟨w.heap.size + 2, 0, none⟩ x).setCell ⟨w.heap.size + 2, 1, none⟩ y).cell? ⟨w.heap.size + 2, 1, none⟩ = some y := by
 obtain ⟨a, n, c, a', n', c', hr⟩ := k.rb
 exact (st2_cells (st2_heap hr x y)).1
theorem DoAt.txn (k : DoAt w t ha hn hc ia im ic da dn dc ea en ec u) (h1 : SeqE LInt w (.slice da dn dc) t.deps) (h2 : SeqE LEff w (.slice ea en ec) t.effs) : IsTxn u (.agg #[.int .i64 t.node, .int .i64 t.seq, .slice da dn dc, .slice ea en ec]) t := ⟨_, _, rfl, h1.below k.low, h2.below k.low⟩
theorem doat_new (w : World) (t : PTxn) (ha : Option Addr) (hn hc : Nat) (ia : Option Addr) (im ic : Nat) (da : Option Addr) (dn dc : Nat) (ea : Option Addr) (en ec : Nat) : DoAt w t ha hn hc ia im ic da dn dc ea en ec (((w.alloc (.cells #[.slice ha hn hc, .slice ia im ic] 26)).alloc (.cells #[.int .i64 t.node, .int .i64 t.seq, .slice da dn dc, .slice ea en ec] 30)).alloc (.cells #[.slice none 0 0, .slice none 0 0] 26)) := by
 have z1 : (w.alloc (.cells #[.slice ha hn hc, .slice ia im ic] 26)).heap.size = w.heap.size + 1 := by simp
 have z2 : ((w.alloc (.cells #[.slice ha hn hc, .slice ia im ic] 26)).alloc (.cells #[.int .i64 t.node, .int .i64 t.seq, .slice da dn dc, .slice ea en ec] 30)).heap.size = w.heap.size + 2 := by simp
 have b1 : Below (w.heap.size + 1) (w.alloc (.cells #[.slice ha hn hc, .slice ia im ic] 26)) ((w.alloc (.cells #[.slice ha hn hc, .slice ia im ic] 26)).alloc (.cells #[.int .i64 t.node, .int .i64 t.seq, .slice da dn dc, .slice ea en ec] 30)) := (Below.refl _ _).alloc (by simp) _
 have b2 : Below (w.heap.size + 2) ((w.alloc (.cells #[.slice ha hn hc, .slice ia im ic] 26)).alloc (.cells #[.int .i64 t.node, .int .i64 t.seq, .slice da dn dc, .slice ea en ec] 30)) (((w.alloc (.cells #[.slice ha hn hc, .slice ia im ic] 26)).alloc (.cells #[.int .i64 t.node, .int .i64 t.seq, .slice da dn dc, .slice ea en ec] 30)).alloc (.cells #[.slice none 0 0, .slice none 0 0] 26)) := (Below.refl _ _).alloc (by simp) _
 have h1 := heap_alloc_new w (.cells #[.slice ha hn hc, .slice ia im ic] 26)
 have h2 := heap_alloc_new (w.alloc (.cells #[.slice ha hn hc, .slice ia im ic] 26)) (.cells #[.int .i64 t.node, .int .i64 t.seq, .slice da dn dc, .slice ea en ec] 30)
 have h3 := heap_alloc_new ((w.alloc (.cells #[.slice ha hn hc, .slice ia im ic] 26)).alloc (.cells #[.int .i64 t.node, .int .i64 t.seq, .slice da dn dc, .slice ea en ec] 30)) (.cells #[.slice none 0 0, .slice none 0 0] 26)
 rw [z1] at h2
 rw [z2] at h3
 exact ⟨(((Below.refl _ _).alloc (Nat.le_refl _) _).alloc (by simp) _).alloc (by simp; omega) _, (b2.block _ (by omega)).trans ((b1.block _ (by omega)).trans h1), (b2.block _ (by omega)).trans h2, _, _, _, _, _, _, h3⟩
end
end Go.Proofs.YtpnpomocjkmncaaGreat
namespace Go.Proofs.YtpnpomocjkmncaaGreat
open Go.RowKit Plain
set_option linter.unusedVariables false

def mF : List Bool → List PTxn → List Bool
 | b :: g, t :: l => (b || !tformedB t) :: mF g l
 | _, _ => []
theorem mF_len : ∀ {g : List Bool} {l : List PTxn}, g.length = l.length → (mF g l).length = l.length
 | [], [], _ => rfl
 | b :: g, t :: l, h => by
  have := mF_len (g := g) (l := l) (by simpa using h)
  show (mF g l).length + 1 = l.length + 1
  rw [this]
theorem mF_left : ∀ {g : List Bool} {l : List PTxn}, oLeft (mF g l) l = sForm (oLeft g l)
 | [], [] => rfl
 | [], _ :: _ => rfl
 | _ :: _, [] => rfl
 | b :: g, t :: l => by
  have ih := mF_left (g := g) (l := l)
  show (if (b || !tformedB t) = true then oLeft (mF g l) l else t :: oLeft (mF g l) l) = sForm (if b = true then oLeft g l else t :: oLeft g l)
  cases b with
  | true => simpa using ih
  | false =>
   cases hf : tformedB t with
   | true => simp [sForm, hf] at ih ⊢; exact ih
   | false => simp [sForm, hf] at ih ⊢; exact ih
theorem mF_set : ∀ {g : List Bool} {l : List PTxn} (k : Nat), mF (g.set k true) l = (mF g l).set k true
 | [], [], _ => rfl
 | [], _ :: _, _ => rfl
 | _ :: _, [], k => by cases k <;> rfl
 | b :: g, t :: l, 0 => by simp [mF]
 | b :: g, t :: l, k + 1 => by
  show (b || !tformedB t) :: mF (g.set k true) l = (b || !tformedB t) :: (mF g l).set k true
  rw [mF_set k]
theorem mF_at : ∀ {g : List Bool} {l : List PTxn} {k : Nat} (h : k < (mF g l).length) (hg : k < g.length) (hl : k < l.length), (mF g l)[k] = (g[k] || !tformedB l[k])
 | b :: g, t :: l, 0, _, _, _ => rfl
 | b :: g, t :: l, k + 1, h, hg, hl => mF_at (g := g) (l := l) (k := k) (by simpa [mF] using h) (by simpa using hg) (by simpa using hl)
theorem doErr_zero {s : PStore} {t : PTxn} : doErr s t = 0 ↔ tformedB t = true ∧ oReady s.heard t = true := by
 constructor
 ·intro h
  unfold doErr at h
  cases h1 : tformedB t with
  | false => rw [if_pos h1] at h; exact absurd h (by decide)
  | true =>
   rw [if_neg (by rw [h1]; decide)] at h
   split at h
   ·exact absurd h (by decide)
   ·cases h2 : oReady s.heard t with
    | true => exact ⟨rfl, rfl⟩
    | false => rw [if_pos h2] at h; exact absurd h (by decide)
 ·rintro ⟨h1, h2⟩
  exact (do_ok h1 (oReady_new h2) h2).1
theorem doSt_zero {s : PStore} {t : PTxn} (h : doErr s t = 0) : doSt s t = sDo s t := by unfold doSt; rw [if_pos h]
structure STk (l : List PTxn) (s0 : PStore) (k : Nat) (g : List Bool) (a : List PTxn) (s : PStore) : Prop where
 glen : g.length = l.length
 all : sTake s0.heard l = a ++ oTake s.heard (oLeft (mF g l) l)
 last : s = sEnd s0 a
 past : ∀ j, j < k → gone g j = true ∨ doErr s (otx l j) ≠ 0
theorem STk.start (l : List PTxn) (s0 : PStore) : STk l s0 0 (List.replicate l.length false) [] s0 :=
 ⟨List.length_replicate, by rw [mF_left, oLeft_all]; rfl, rfl, fun j hj => absurd hj (Nat.not_lt_zero _)⟩
theorem STk.skip {l : List PTxn} {s0 s : PStore} {k : Nat} {g : List Bool} {a : List PTxn} (h : STk l s0 k g a s) (hno : gone g k = true ∨ doErr s (otx l k) ≠ 0) : STk l s0 (k + 1) g a s :=
 ⟨h.glen, h.all, h.last, fun j hj => by
  by_cases c : j = k
  ·rw [c]; exact hno
  ·exact h.past j (by omega)⟩
theorem STk.stuck {l : List PTxn} {s0 s : PStore} {k : Nat} {g : List Bool} {a : List PTxn} (h : STk l s0 k g a s) {j : Nat} (h1 : j < (mF g l).length) (h2 : j < l.length) (hj : j < k) : (mF g l)[j] = true ∨ ¬ oReady s.heard l[j] = true := by
 have hg : j < g.length := by rw [h.glen]; exact h2
 rw [mF_at h1 hg h2]
 rcases h.past j hj with e | e
 ·left; rw [gone_at hg] at e; rw [e]; rfl
 ·rw [otx_lt h2] at e
  cases hf : tformedB l[j] with
  | false => left; simp
  | true => right; exact fun hr => e (doErr_zero.2 ⟨hf, hr⟩)
theorem STk.first {l : List PTxn} {s0 s : PStore} {k : Nat} {g : List Bool} {a : List PTxn} (h : STk l s0 k g a s) (hk : k < l.length) (hg : gone g k = false) (hr : doErr s (otx l k) = 0) :
  oFirst s.heard (oLeft (mF g l) l) = some (otx l k, oLeft (mF (g.set k true) l) l) := by
 have hkg : k < g.length := by rw [h.glen]; exact hk
 have hkm : k < (mF g l).length := by rw [mF_len h.glen]; exact hk
 rw [otx_lt hk] at hr ⊢
 obtain ⟨h1, h2⟩ := doErr_zero.1 hr
 rw [mF_set]
 refine oLeft_first hkm hk ?_ h2 fun j a b hj => h.stuck a b hj
 rw [mF_at hkm hkg hk, ← gone_at hkg, hg, h1]
 rfl
theorem STk.step {l : List PTxn} {s0 s : PStore} {k : Nat} {g : List Bool} {a : List PTxn} (h : STk l s0 k g a s) (hk : k < l.length) (hg : gone g k = false) (hr : doErr s (otx l k) = 0) :
  STk l s0 0 (g.set k true) (a ++ [otx l k]) (sDo s (otx l k)) ∧ (oLeft (mF g l) l).length = (oLeft (mF (g.set k true) l) l).length + 1 := by
 have hf := h.first hk hg hr
 refine ⟨⟨by rw [List.length_set]; exact h.glen, ?_, ?_, fun j hj => absurd hj (Nat.not_lt_zero _)⟩, (oFirst_len hf).symm⟩
 ·rw [h.all, oTake_step hf, List.append_assoc]
  rfl
 ·rw [sEnd_append, ← h.last]
  rfl
theorem STk.none {l : List PTxn} {s0 s : PStore} {g : List Bool} {a : List PTxn} (h : STk l s0 l.length g a s) : sTake s0.heard l = a ∧ sAll s0 l = s := by
 have e : sTake s0.heard l = a := by
  rw [h.all, oTake_stop (oLeft_none fun j h1 h2 => h.stuck h1 h2 h2), List.append_nil]
 refine ⟨e, ?_⟩
 unfold sAll
 rw [e]
 exact h.last.symm
theorem STk.alen {l : List PTxn} {s0 s : PStore} {k : Nat} {g : List Bool} {a : List PTxn} (h : STk l s0 k g a s) : a.length ≤ l.length := by
 have h1 := sTake_len s0.heard l
 have h2 := congrArg List.length h.all
 rw [List.length_append] at h2
 omega
theorem STk.sub {l : List PTxn} {s0 s : PStore} {k : Nat} {g : List Bool} {a : List PTxn} (h : STk l s0 k g a s) {t : PTxn} (ht : t ∈ a) : t ∈ l ∧ tformedB t = true := by
 have : t ∈ sTake s0.heard l := by rw [h.all]; exact List.mem_append.2 (.inl ht)
 exact ⟨sTake_in this, sTake_formed this⟩
theorem STk.items {l : List PTxn} {s0 s : PStore} {k : Nat} {g : List Bool} {a : List PTxn} (h : STk l s0 k g a s) : s.items.length ≤ s0.items.length + 8 * l.length := by
 have h1 := sEnd_len (s := s0) (a := a) fun t ht => (h.sub ht).2
 have h2 := h.alen
 rw [h.last]
 omega
theorem STk.heard {l : List PTxn} {s0 s : PStore} {k : Nat} {g : List Bool} {a : List PTxn} (h : STk l s0 k g a s) : s.heard.length ≤ max s0.heard.length 8 := by
 rw [h.last, sEnd_heard]
 exact oEnd_len a s0.heard
theorem STk.dots {l : List PTxn} {s0 s : PStore} {k : Nat} {g : List Bool} {a : List PTxn} (h : STk l s0 k g a s) (h0 : ∀ x ∈ s0.items, dotOk x.dot) (hf : ∀ t ∈ l, FitB t) : ∀ x ∈ s.items, dotOk x.dot := fun x hx => by
 rw [h.last] at hx
 rcases sEnd_mem hx with k | ⟨t, ht, e, he, rfl⟩
 ·exact h0 x k
 ·exact ((hf t (h.sub ht).1).ok e he).1
end Go.Proofs.YtpnpomocjkmncaaGreat
namespace Go.Proofs.YtpnpomocjkmncaaGreat
open Go.RowKit Plain
set_option linter.unusedVariables false

set_option maxRecDepth 100000 in
set_option maxHeartbeats 16000000 in
theorem stDoP_any {v tv : Value} {s : PStore} {t : PTxn} {w : World} (hs : IsStore w v s) (ht : IsTxn w tv t) (hl : s.heard.length ≤ 1000000) (hi : s.items.length ≤ 90000) (hd : ∀ x ∈ s.items, dotOk x.dot) (hf : FitB t) :
  Calls Tryz.prog 14 #[v, tv] w (GivesStE w (doSt s t) (doErr s t)) := by
 obtain ⟨ha, hn, hc, ia, im, ic, rfl, h1, h2⟩ := hs.slices
 obtain ⟨da, dn, dc, ea, en, ec, rfl, k1, k2⟩ := ht.slices
 have DA := Lib.hid (doat_new w t ha hn hc ia im ic da dn dc ea en ec)
 have KE : Hid (∀ u, DoAt w t ha hn hc ia im ic da dn dc ea en ec u → DoAt w t ha hn hc ia im ic da dn dc ea en ec u ∧ (u.cell? ⟨w.heap.size, 0, none⟩ = some (.slice ha hn hc) ∧ u.cell? ⟨w.heap.size, 1, none⟩ = some (.slice ia im ic)) ∧ u.cell? ⟨w.heap.size + 1, 0, none⟩ = some (.int .i64 t.node) ∧ u.cell? ⟨w.heap.size + 1, 1, none⟩ = some (.int .i64 t.seq) ∧ u.cell? ⟨w.heap.size + 1, 2, none⟩ = some (.slice da dn dc) ∧ u.cell? ⟨w.heap.size + 1, 3, none⟩ = some (.slice ea en ec)) := Lib.hid (fun u k => ⟨k, k.cells⟩)
 have KF := Lib.hid (fun u (k : DoAt w t ha hn hc ia im ic da dn dc ea en ec u) r hr => txformedP (k.txn k1 k2) hf.tx r hr)
 have KQ := Lib.hid (fun u (k : DoAt w t ha hn hc ia im ic da dn dc ea en ec u) => oreadyP_any (seqI_of (h1.below k.low)) (k.txn k1 k2) hl (by have := hf.tx.deps; omega) ((i64_in hf.tx.ok.2.1).2))
 have KN := Lib.hid (fun u (k : DoAt w t ha hn hc ia im ic da dn dc ea en ec u) => onextP_any (seqI_of (h1.below k.low)) (k.txn k1 k2) hl)
 have KD := Lib.hid (fun u (k : DoAt w t ha hn hc ia im ic da dn dc ea en ec u) => edo_any t.node t.seq (h2.below k.low) (k2.below k.low) (by omega) (by have := hf.effs; omega) (fun e he => by have := hf.drops e he; omega) hd hf.ok)
 have KH := Lib.hid (fun u (k : DoAt w t ha hn hc ia im ic da dn dc ea en ec u) => vc_has_any (seqI_of (h1.below k.low)) t.node t.seq 0)
 have O1 := Lib.hid (fun h => do_form (s := s) (t := t) h)
 have O2 := Lib.hid (fun h h1 => do_old (s := s) (t := t) h h1)
 have O3 := Lib.hid (fun h h1 h2 => do_gap (s := s) (t := t) h h1 h2)
 have O4 := Lib.hid (fun h h1 h2 => do_ok (s := s) (t := t) h h1 h2)
 have HS1 := Lib.hid (fun h => formed_seq (t := t) h)
 have HDN : Hid ((edo t.node t.seq s.items t.effs).length ≤ 1000000) := Lib.hid (by have h1 := edo_len t.node t.seq t.effs s.items; have := hf.effs; omega)
 clear hs ht hl hi hd hf h1 h2 k1 k2
 generalize doErr s t = er at *
 generalize doSt s t = st at *
 generalize edo t.node t.seq s.items t.effs = ei at *
 generalize oNext s.heard t = nx at *
 obtain ⟨fb, hfb⟩ : ∃ b, b = tformedB t := ⟨_, rfl⟩
 have KF1 := Lib.hid (fun u k => KF.out u k fb hfb.symm)
 rw [← hfb] at O1 O2 O3 O4 HS1
 clear KF hfb
 generalize oReady s.heard t = rb at *
 generalize saysI s.heard t.node = sy at *
 obtain ⟨hs, hhs⟩ : ∃ b, b = (decide (1 ≤ t.seq) && decide (t.seq ≤ sy)) := ⟨_, rfl⟩
 have HH := Lib.hid hhs
 rw [← hhs] at KH
 clear hhs
 go_enter Tryz.func14, Tryz.ntmps14
 go_upto_region 1 with fail
 generalize (((w.alloc (.cells #[.slice ha hn hc, .slice ia im ic] 26)).alloc (.cells #[.int .i64 t.node, .int .i64 t.seq, .slice da dn dc, .slice ea en ec] 30)).alloc (.cells #[.slice none 0 0, .slice none 0 0] 26)) = w0 at *
 obtain ⟨⟨c0, c1⟩, d0, d1, d2, d3⟩ := DA.out.cells
 have K1 := KF1.out _ DA.out
 go_wp2_with fail
 refine K1.mono ?_
 rintro e w1 ⟨rfl, hb⟩
 have D1 := Lib.hid (DA.out.below hb)
 clear hb K1 KF1 DA c0 c1 d0 d1 d2 d3
 cases fb with
 | false =>
  obtain ⟨ra, rn, rc, ra', rn', rc', q0, q1, f0, f1⟩ := D1.out.res
  have DZ := Lib.hid (D1.out.done (.slice none 0 0) (.slice none 0 0))
  have LZ := Lib.hid ((D1.out.set none 0 0 none 0 0).low)
  have HZ := Lib.hid (O1.out (by decide))
  go_wp2_with fail
  obtain ⟨z0, z1⟩ := DZ.out
  refine bodyPost_ret (v := .tuple #[.agg #[.slice none 0 0, .slice none 0 0], .int .i64 2]) (by simp [results, Tryz.results14, go_sem, z0, z1]) rfl ?_
  rw [HZ.out.1, HZ.out.2]
  exact ⟨_, _, _, _, _, _, rfl, Sq.nil _ _, Sq.nil _ _, LZ.out⟩
 | true =>
  have HSQ := HS1.out (by decide)
  clear HS1
  go_upto_region 3 with fail
  refine wp_region_held_drew (S := fun u' => DoAt w t ha hn hc ia im ic da dn dc ea en ec u' ∧ (u'.cell? ⟨w.heap.size, 0, none⟩ = some (.slice ha hn hc) ∧ u'.cell? ⟨w.heap.size, 1, none⟩ = some (.slice ia im ic)) ∧ u'.cell? ⟨w.heap.size + 1, 0, none⟩ = some (.int .i64 t.node) ∧ u'.cell? ⟨w.heap.size + 1, 1, none⟩ = some (.int .i64 t.seq) ∧ u'.cell? ⟨w.heap.size + 1, 2, none⟩ = some (.slice da dn dc) ∧ u'.cell? ⟨w.heap.size + 1, 3, none⟩ = some (.slice ea en ec)) (by kernel_rfl) ?_ (fun hHeld => ?_)
  ·(exact KE.out _ (D1.out.below (Below.refl _ _).drew))
  simp only [List.size_toArray, List.length_cons, List.length_nil, Nat.zero_add, Nat.reduceAdd]
  refine tkB (i := 0) hHeld ?_
  refine tkB (i := 1) hHeld ?_
  refine tkB (i := 2) hHeld ?_
  refine wpAnyH_ready (rs := [3]) (by kernel_rfl) (by simp) ?_
  refine AllReadyH.cons rfl (fun K hK => ?_) AllReadyH.nil
  go_simp
  refine (txdotP).mono ?_
  rintro e s1 ⟨rfl, hb⟩
  refine hK.out _ _ (KE.out _ (hHeld.1.below hb)) (fun hHeld => ?_)
  clear hK K hb
  refine wpAnyH_ready (rs := [4]) (by kernel_rfl) (by simp) ?_
  refine AllReadyH.cons rfl (fun K hK => ?_) AllReadyH.nil
  go_simp
  refine (KH.out _ hHeld.1).mono ?_
  rintro e s2 ⟨rfl, hb⟩
  refine hK.out _ _ (KE.out _ (hHeld.1.below hb)) (fun hHeld => ?_)
  clear hK K hb
  refine tkB (i := 5) hHeld ?_
  refine wpAnyH_done (by kernel_rfl) ?_ _
  have D2 := Lib.hid hHeld.1
  clear hHeld D1 KH
  by_cases hsy : t.seq ≤ sy
  ·obtain rfl : hs = true := by rw [HH.out, decide_eq_true hsy, HSQ]; rfl
   have HSY := Lib.hid hsy
   clear hsy
   obtain ⟨ra, rn, rc, ra', rn', rc', q0, q1, f0, f1⟩ := D2.out.res
   have DZ := Lib.hid (D2.out.done (.slice none 0 0) (.slice none 0 0))
   have LZ := Lib.hid ((D2.out.set none 0 0 none 0 0).low)
   have HZ := Lib.hid (O2.out (by decide) HSY.out)
   go_wp2_with fail
   obtain ⟨z0, z1⟩ := DZ.out
   refine bodyPost_ret (v := .tuple #[.agg #[.slice none 0 0, .slice none 0 0], .int .i64 8]) (by simp [results, Tryz.results14, go_sem, z0, z1]) rfl ?_
   rw [HZ.out.1, HZ.out.2]
   exact ⟨_, _, _, _, _, _, rfl, Sq.nil _ _, Sq.nil _ _, LZ.out⟩
  ·obtain rfl : hs = false := by rw [HH.out, decide_eq_false hsy, Bool.and_false]
   have HSY := Lib.hid hsy
   clear hsy
   obtain ⟨⟨c0, c1⟩, d0, d1, d2, d3⟩ := D2.out.cells
   have K5 := KQ.out _ D2.out
   go_wp2_with fail
   refine K5.mono ?_
   rintro e w5 ⟨rfl, hb⟩
   have D5 := Lib.hid (D2.out.below hb)
   clear hb K5 KQ D2 c0 c1 d0 d1 d2 d3 HSQ
   cases rb with
   | false =>
    obtain ⟨ra, rn, rc, ra', rn', rc', q0, q1, f0, f1⟩ := D5.out.res
    have DZ := Lib.hid (D5.out.done (.slice none 0 0) (.slice none 0 0))
    have LZ := Lib.hid ((D5.out.set none 0 0 none 0 0).low)
    have HZ := Lib.hid (O3.out (by decide) HSY.out (by decide))
    go_wp2_with fail
    obtain ⟨z0, z1⟩ := DZ.out
    refine bodyPost_ret (v := .tuple #[.agg #[.slice none 0 0, .slice none 0 0], .int .i64 9]) (by simp [results, Tryz.results14, go_sem, z0, z1]) rfl ?_
    rw [HZ.out.1, HZ.out.2]
    exact ⟨_, _, _, _, _, _, rfl, Sq.nil _ _, Sq.nil _ _, LZ.out⟩
   | true =>
    go_upto_region 7 with fail
    refine wp_region_held_drew (S := fun u' => DoAt w t ha hn hc ia im ic da dn dc ea en ec u' ∧ (u'.cell? ⟨w.heap.size, 0, none⟩ = some (.slice ha hn hc) ∧ u'.cell? ⟨w.heap.size, 1, none⟩ = some (.slice ia im ic)) ∧ u'.cell? ⟨w.heap.size + 1, 0, none⟩ = some (.int .i64 t.node) ∧ u'.cell? ⟨w.heap.size + 1, 1, none⟩ = some (.int .i64 t.seq) ∧ u'.cell? ⟨w.heap.size + 1, 2, none⟩ = some (.slice da dn dc) ∧ u'.cell? ⟨w.heap.size + 1, 3, none⟩ = some (.slice ea en ec)) (by kernel_rfl) ?_ (fun hHeld => ?_)
    ·(exact KE.out _ (D5.out.below (Below.refl _ _).drew))
    simp only [List.size_toArray, List.length_cons, List.length_nil, Nat.zero_add, Nat.reduceAdd]
    refine tkB (i := 0) hHeld ?_
    refine tkB (i := 1) hHeld ?_
    refine tkB (i := 2) hHeld ?_
    refine tkB (i := 4) hHeld ?_
    refine tkB (i := 5) hHeld ?_
    refine tkB (i := 6) hHeld ?_
    refine tkB (i := 7) hHeld ?_
    refine tkB (i := 8) hHeld ?_
    refine tkB (i := 9) hHeld ?_
    refine tkB (i := 10) hHeld ?_
    refine tkB (i := 11) hHeld ?_
    refine wpAnyH_ready (rs := [3]) (by kernel_rfl) (by simp) ?_
    refine AllReadyH.cons rfl (fun K hK => ?_) AllReadyH.nil
    go_simp
    refine (KN.out _ hHeld.1).mono ?_
    rintro e s3 ⟨va, rfl, ho, hb⟩
    have N3 := Lib.hid (ho.newI hHeld.1.low.size)
    obtain ⟨na, nc, rfl, -, -, -, -⟩ := ho.parts
    clear ho
    refine hK.out _ _ (KE.out _ (hHeld.1.below hb)) (fun hHeld => ?_)
    clear hK K hb
    refine wpAnyH_ready (rs := [12]) (by kernel_rfl) (by simp) ?_
    refine AllReadyH.cons rfl (fun K hK => ?_) AllReadyH.nil
    go_simp
    refine (KD.out _ hHeld.1).mono ?_
    rintro e s4 ⟨vb, rfl, ho, hb⟩
    have N4 := Lib.hid (N3.out.later hb)
    have I4 := Lib.hid ((ho.mono hHeld.1.low.size).new flat_item)
    obtain ⟨ba, bc, rfl, -⟩ := ho.parts
    clear ho N3
    refine hK.out _ _ (KE.out _ (hHeld.1.below hb)) (fun hHeld => ?_)
    clear hK K hb
    refine tkB (i := 13) hHeld ?_
    obtain ⟨ra, rn, rc, ra', rn', rc', q0, q1, f0, f1⟩ := hHeld.1.res
    have DZ := Lib.hid (hHeld.1.done (.slice na nx.length nc) (.slice ba ei.length bc))
    have TW := Lib.hid hHeld.1.two
    have N5 := Lib.hid (Sq.set2 (st2_but _ _ (.slice na nx.length nc) (.slice ba ei.length bc)) (int_no2 TW.out N4.out))
    have I5 := Lib.hid (Sq.set2 (st2_but _ _ (.slice na nx.length nc) (.slice ba ei.length bc)) (item_no2 TW.out I4.out))
    refine wpAnyH_ready (rs := [14]) (by kernel_rfl) (by simp) ?_
    refine AllReadyH.cons rfl (fun K hK => ?_) AllReadyH.nil
    go_simp
    refine hK.out _ _ (KE.out _ (hHeld.1.set na nx.length nc ba ei.length bc)) (fun hHeld => ?_)
    clear hK K q0 q1 f0 f1
    refine tkB (i := 15) hHeld ?_
    refine wpAnyH_done (by kernel_rfl) ?_ _
    have LZ := Lib.hid hHeld.1.low
    clear hHeld
    have HZ := Lib.hid (O4.out (by decide) HSY.out (by decide))
    obtain ⟨z0, z1⟩ := DZ.out
    go_wp2_with fail
    refine bodyPost_ret (v := .tuple #[.agg #[.slice na nx.length nc, .slice ba ei.length bc], .int .i64 0]) (by simp [results, Tryz.results14, go_sem, z0, z1]) rfl ?_
    rw [HZ.out.1, HZ.out.2]
    exact ⟨_, _, _, _, _, _, rfl, N5.out, I5.out, LZ.out⟩
end Go.Proofs.YtpnpomocjkmncaaGreat
