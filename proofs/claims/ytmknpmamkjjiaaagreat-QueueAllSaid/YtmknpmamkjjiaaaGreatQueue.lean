/- WORDS FOR QUEUES: how one lies in memory (how many it holds at most, its list), what an argument that is one hands over; the variable that a queue is laid into. -/
import Derived.Test.YtmknpmamkjjiaaaGreatQuMath
import Derived.Test.YtmknpmamkjjiaaaGreatTxn
import Derived.Test.YtmknpmamkjjiaaaGreatTxIns
import Derived.Test.YtmknpmamkjjiaaaGreatElGs
import Derived.Test.YtmknpmamkjjiaaaGreatOrChns
namespace Go.Proofs.YtmknpmamkjjiaaaGreat
open Go.RowKit Plain
set_option linter.unusedVariables false

/-- a queue whose list lies in blocks of Q -/
def IsQuIn (Q : Nat → Prop) (w : World) (v : Value) (q : PQueue) : Prop := ∃ la n lc, v = .agg #[.int .i64 q.most, .slice la n lc] ∧ n = q.list.length ∧ Sq LTxn Q w (.slice la n lc) q.list
def IsQueue (w : World) (v : Value) (q : PQueue) : Prop := IsQuIn (· < w.heap.size) w v q
theorem IsQuIn.mono {P Q : Nat → Prop} {w : World} {v : Value} {q : PQueue} (h : IsQuIn P w v q) (hq : ∀ b, P b → Q b) : IsQuIn Q w v q := by
 obtain ⟨la, n, lc, rfl, hn, h1⟩ := h
 exact ⟨la, n, lc, rfl, hn, h1.mono hq⟩
theorem IsQuIn.agree {Q : Nat → Prop} {w w' : World} {v : Value} {q : PQueue} (h : IsQuIn Q w v q) (hq : ∀ b, Q b → w'.heap[b]? = w.heap[b]?) : IsQuIn Q w' v q := by
 obtain ⟨la, n, lc, rfl, hn, h1⟩ := h
 exact ⟨la, n, lc, rfl, hn, h1.agree hq⟩
theorem IsQuIn.below {Q : Nat → Prop} {w w' : World} {v : Value} {q : PQueue} (h : IsQuIn Q w v q) (hb : Below w.heap.size w w') (hQ : ∀ b, Q b → b < w.heap.size) : IsQuIn Q w' v q := h.agree fun b hq => hb.block b (hQ b hq)
theorem IsQueue.below {w w' : World} {v : Value} {q : PQueue} (h : IsQueue w v q) (hb : Below w.heap.size w w') : IsQueue w' v q := (IsQuIn.below h hb fun b hq => hq).mono fun b hq => Nat.lt_of_lt_of_le hq hb.size
theorem isQu_of {Q : Nat → Prop} {w : World} {m : Int} {lv : Value} {l : List PTxn} (h : Sq LTxn Q w lv l) : IsQuIn Q w (.agg #[.int .i64 m, lv]) ⟨m, l⟩ := by
 obtain ⟨a, cap, vals, rfl, r⟩ := h
 exact ⟨a, l.length, cap, rfl, rfl, a, cap, vals, rfl, r⟩
theorem sqNil {α : Type} {L : El α} (Q : Nat → Prop) (w : World) : Sq L Q w (.slice none 0 0) [] := ⟨none, 0, [], rfl, Nat.zero_le _, Nat.zero_le _, fun _ => rfl, Rows.nil _ _, fun h => absurd h (by simp)⟩
theorem IsQuIn.nil {Q : Nat → Prop} (w : World) (m : Int) : IsQuIn Q w (.agg #[.int .i64 m, .slice none 0 0]) ⟨m, []⟩ := isQu_of (sqNil _ _)
/-! ### arguments -/
theorem cellsOfQueue : Tryz.prog.cellsOf 24 = 2 := by kernel_rfl
/-- an argument that is a queue -/
def IsQueueA (w : World) (v : Value) : Prop := ∃ q, IsQueue w v q ∧ ∀ t ∈ q.list, txnOk t
section
open Go.ChangeShapes Go.WideShapes Go.Joins
set_option maxRecDepth 100000
theorem queue_of_trod {H : Type} {enc : TypeId × Value → H} {W : World} {r : Reach} {b : Nat} {v : Value} {d : DataW H} {p : List MemPlace} (hv : Value.okWide Tryz.prog W r b 24 v) (h : DataW.Trod enc Tryz.prog W 0 (fun _ => true) true 24 v d p) : IsQueueA W v := by
 obtain ⟨cs, rfl, -⟩ := okWide_struct Tryz.underlying24 hv
 obtain ⟨fuel, hf⟩ := h
 simp only [Value.cells] at hf
 obtain ⟨ys, n', -, -, hl, hlen, hf⟩ := DataW.trod_struct Tryz.underlying24 hf
 rw [cellsOfQueue] at hl
 have e4 : Tryz.prog.cellsOf 22 = 1 := by kernel_rfl
 obtain ⟨cs⟩ := cs
 match cs, hl with
 | [x0, x1], _ =>
  match ys, hlen with
  | [y0, y1], _ =>
   have h0 := hf 0 _ rfl
   have h1 := hf 1 _ rfl
   simp [cellsOfInt, e4] at h0 h1
   obtain ⟨a0, g0, -, w0⟩ := DataW.trod_int Tryz.underlying3 h0
   obtain ⟨iv, is, g3, hs3, hd3⟩ := elems_of_cells LTxn txnOk cellsOfTxn (fun ht => txn_of_cells ht) h1
   simp at g0 g3
   subst g0 g3
   exact ⟨⟨a0, is⟩, isQu_of hs3, hd3⟩
end
/-! ### a variable that holds a queue -/
structure QuBox (g : Nat) (m : Int) (la : Option Addr) (ln lc : Nat) (u : World) : Prop where
 b : u.heap[g]? = some (.cells #[.int .i64 m, .slice la ln lc] 24 (0, 0))
section
variable {g : Nat} {m : Int} {la : Option Addr} {ln lc : Nat} {u u' : World}
theorem QuBox.lt (k : QuBox g m la ln lc u) : g < u.heap.size := (Array.getElem?_eq_some_iff.1 k.b).1
theorem QuBox.c (k : QuBox g m la ln lc u) : (u.cell? ⟨g, 0, none⟩ = some (.int .i64 m) ∧ u.cell? ⟨g, 1, none⟩ = some (.slice la ln lc)) ∧ u.frozen? ⟨g, 0, none⟩ = false ∧ u.frozen? ⟨g, 1, none⟩ = false := by
 have h := k.b
 refine ⟨⟨?_, ?_⟩, ?_, ?_⟩
 ·simp [World.cell?, h]
 ·simp [World.cell?, h]
 ·unfold World.frozen?; rw [h]; simp
 ·unfold World.frozen?; rw [h]; simp
theorem QuBox.eq (k : QuBox g m la ln lc u) (h : u'.heap[g]? = u.heap[g]?) : QuBox g m la ln lc u' := ⟨h.trans k.b⟩
theorem QuBox.below (k : QuBox g m la ln lc u) (hb : Below u.heap.size u u') : QuBox g m la ln lc u' := k.eq (hb.block g k.lt)
theorem qubox_new (w : World) (m : Int) (la : Option Addr) (ln lc : Nat) : QuBox w.heap.size m la ln lc (w.alloc (.cells #[.int .i64 m, .slice la ln lc] 24)) := ⟨heap_alloc_new w _⟩
/-- both cells are stored into -/
theorem QuBox.put (k : QuBox g m la ln lc u) (m' : Int) (a : Option Addr) (n c : Nat) : QuBox g m' a n c ((u.setCell ⟨g, 0, none⟩ (.int .i64 m')).setCell ⟨g, 1, none⟩ (.slice a n c)) :=
 ⟨by rw [heap_setCell_same _ g 1 _ _ _ (heap_setCell_same _ g 0 _ _ _ k.b)]; rfl⟩
theorem QuBox.put1 (k : QuBox g m la ln lc u) (a : Option Addr) (n c : Nat) : QuBox g m a n c (u.setCell ⟨g, 1, none⟩ (.slice a n c)) :=
 ⟨by rw [heap_setCell_same _ g 1 _ _ _ k.b]; rfl⟩
end
/-- a row of one transaction, laid down -/
theorem one_txnQ {J N : Nat → Prop} {W : World} {x : PTxn} {dv ev ov : Value} (hd : Sq LInt N W dv x.deps) (he : Sq LEff N W ev x.effs) (hN : ∀ b, N b → b < W.heap.size) (hJ : ∀ b, N b → J b) (hJ2 : J W.heap.size) (hov : ∀ k, ov.ownBlock = some k → ¬ N k ∧ k < W.heap.size) :
  Sq LTxn (fun b => J b ∧ b < (W.alloc (.cells #[.int .i64 x.node, .int .i64 x.seq, dv, ev] 29)).heap.size ∧ ov.ownBlock ≠ some b) (W.alloc (.cells #[.int .i64 x.node, .int .i64 x.seq, dv, ev] 29)) (.slice (some ⟨W.heap.size, 0, none⟩) 1 1) [x] := by
 have hS : (W.alloc (.cells #[.int .i64 x.node, .int .i64 x.seq, dv, ev] 29)).heap.size = W.heap.size + 1 := by simp
 rw [hS]
 have hB : Below W.heap.size W (W.alloc (.cells #[.int .i64 x.node, .int .i64 x.seq, dv, ev] 29)) := (Below.refl _ _).alloc (Nat.le_refl _) _
 have hw : ∀ b, N b → J b ∧ b < W.heap.size + 1 ∧ ov.ownBlock ≠ some b := fun b hb => ⟨hJ b hb, by have := hN b hb; omega, fun e => (hov b e).1 hb⟩
 refine ⟨_, 1, cellsTx x dv ev, rfl, Nat.le_refl _, by unfold maxLen; simp, (by simp), Rows.of_one ⟨_, _, rfl, (hd.agree fun b hb => hB.block b (hN b hb)).mono hw, (he.agree fun b hb => hB.block b (hN b hb)).mono hw⟩, fun _ => ⟨_, 0, rfl, ⟨hJ2, by omega, fun e => by have := (hov _ e).2; omega⟩, fun i u' hu => ?_⟩⟩
 rw [Nat.zero_add]
 have := World.cell?_alloc_new W #[.int .i64 x.node, .int .i64 x.seq, dv, ev] 29 i
 rw [this, ← Array.getElem?_toList]
 exact hu
/-- the transactions of a list: its block, and each one's cells -/
theorem txns_atQ {N : Nat → Prop} {w : World} {la : Option Addr} {n lc : Nat} {l : List PTxn} (hN : ∀ b, N b → b < w.heap.size) (h : Sq LTxn N w (.slice la n lc) l) (hp : 0 < n) : ∃ lb lo, la = some ⟨lb, lo, none⟩ ∧ lb < w.heap.size ∧ ∀ k, k < n → ∃ da dn dc ea en ec, (∀ W, Below w.heap.size w W →
  (W.cell? ⟨lb, lo + k * 4, none⟩ = some (.int .i64 (otx l k).node) ∧ W.cell? ⟨lb, lo + k * 4 + 1, none⟩ = some (.int .i64 (otx l k).seq) ∧ W.cell? ⟨lb, lo + k * 4 + 2, none⟩ = some (.slice da dn dc) ∧ W.cell? ⟨lb, lo + k * 4 + 3, none⟩ = some (.slice ea en ec)) ∧
   IsTxnIn N W (.agg #[.int .i64 (otx l k).node, .int .i64 (otx l k).seq, .slice da dn dc, .slice ea en ec]) (otx l k)) := by
 obtain ⟨a, cap, vals, e, h1, h2, h0, hr, h3⟩ := h
 simp only [Value.slice.injEq] at e
 obtain ⟨rfl, rfl, rfl⟩ := e
 obtain ⟨b, off, rfl, hb, hc⟩ := h3 hp
 refine ⟨b, off, rfl, hN b hb, fun k hk => ?_⟩
 obtain ⟨dv, ev, ev1, hd, he⟩ := hr.2 k (otx l k) (by unfold otx; simp [List.getD, List.getElem?_eq_getElem hk])
 obtain ⟨a1, c1, v1, rfl, r1⟩ := hd
 obtain ⟨a2, c2, v2, rfl, r2⟩ := he
 have g : ∀ i u, (cellsTx (otx l k) (.slice a1 _ c1) (.slice a2 _ c2))[i]? = some u → w.cell? ⟨b, off + k * 4 + i, none⟩ = some u := fun i u hi => by
  rw [← ev1] at hi
  have := hc (k * 4 + i) u (by
   have h4 : (pt 4 vals k)[i]? = some u := hi
   have hi4 : i < 4 := by
    have := (List.getElem?_eq_some_iff.1 hi).1
    rw [ev1] at this
    exact this
   rw [pt_get vals k i (by omega)] at h4
   exact h4)
  rw [Nat.add_assoc]
  exact this
 refine ⟨a1, _, c1, a2, _, c2, fun W hW => ⟨⟨?_, ?_, ?_, ?_⟩, _, _, rfl, Sq.agree ⟨a1, c1, v1, rfl, r1⟩ fun x hx => hW.block x (hN x hx), Sq.agree ⟨a2, c2, v2, rfl, r2⟩ fun x hx => hW.block x (hN x hx)⟩⟩
 ·exact (hW.cell (p := ⟨b, off + k * 4, none⟩) (hN b hb)).trans (g 0 _ rfl)
 ·exact (hW.cell (p := ⟨b, off + k * 4 + 1, none⟩) (hN b hb)).trans (g 1 _ rfl)
 ·exact (hW.cell (p := ⟨b, off + k * 4 + 2, none⟩) (hN b hb)).trans (g 2 _ rfl)
 ·exact (hW.cell (p := ⟨b, off + k * 4 + 3, none⟩) (hN b hb)).trans (g 3 _ rfl)
end Go.Proofs.YtmknpmamkjjiaaaGreat
