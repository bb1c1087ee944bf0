/- Take: the document's own, by marks. (Written by gen-rtk.py.) Order's contracts as the walks call them; the laws' own function awake. -/
import Derived.Test.YtlpcpbangmonaaaOrChns
import Derived.Test.YtlpcpbangmonaaaRefTxF2
namespace Go.Proofs.Ytlpcpbangmonaaa
open Go.RowKit Plain
set_option linter.unusedVariables false

/-! ### marks: a slice of bools of the call's own -/
theorem infoB : (Try.prog.info? 4).map (fun i => (i.zero, i.size, i.bytes)) = some (some (.bool false), 1, 1) := by kernel_rfl
def OwnsB (B : Nat) (w : World) (v : Value) (xs : List Bool) : Prop := w.ownsRow B 4 1 v xs.length (xs.map Value.bool)
theorem getD_mapB (xs : List Bool) (j : Nat) (hj : j < xs.length) : (xs.map Value.bool)[j]? = some (Value.bool (gone xs j)) := by
  unfold gone
  simp [List.getD, List.getElem?_eq_getElem hj]
theorem OwnsB.lt {B : Nat} {w : World} {v : Value} {xs : List Bool} (h : OwnsB B w v xs) : ∀ k, v.ownBlock = some k → B ≤ k ∧ k < w.heap.size := World.ownsRow.lt h
theorem OwnsB.keep {B : Nat} {w w' : World} {v : Value} {xs : List Bool} (h : OwnsB B w v xs) (hk : ∀ k, v.ownBlock = some k → w'.heap[k]? = w.heap[k]?) : OwnsB B w' v xs := by
  refine ⟨h.1, ?_⟩
  rcases h.2 with hn | ⟨g, cap, cur, hv, hb', hg, hr⟩
  · exact .inl hn
  · exact .inr ⟨g, cap, cur, hv, hb', (hk g (by rw [hv]; rfl)).trans hg, hr⟩
theorem OwnsB.below {B : Nat} {w w' : World} {v : Value} {xs : List Bool} (h : OwnsB B w v xs) (hb : Below w.heap.size w w') : OwnsB B w' v xs := h.keep fun k hk => hb.block k (h.lt k hk).2
theorem OwnsB.cell {B : Nat} {w : World} {g n cap : Nat} {xs : List Bool} (h : OwnsB B w (.slice (some ⟨g, 0, none⟩) n cap) xs) (hn : xs.length = n) (j : Nat) (hj : j < n) : w.cell? ⟨g, j, none⟩ = some (Value.bool (gone xs j)) := by
  have h' : w.ownsRow B 4 1 (.slice (some ⟨g, 0, none⟩) n cap) n (xs.map Value.bool) := by unfold OwnsB at h; rw [hn] at h; exact h
  rw [World.ownsRow.cellAt h' j (by omega), getD_mapB xs j (by omega)]
theorem OwnsB.free {B : Nat} {w : World} {g n cap : Nat} {xs : List Bool} (h : OwnsB B w (.slice (some ⟨g, 0, none⟩) n cap) xs) (hn : xs.length = n) (j : Nat) : w.frozen? ⟨g, j, none⟩ = false := by
  have h' : w.ownsRow B 4 1 (.slice (some ⟨g, 0, none⟩) n cap) n (xs.map Value.bool) := by unfold OwnsB at h; rw [hn] at h; exact h
  exact World.ownsRow.frozenAt h' j
theorem OwnsB.set {B : Nat} {w : World} {g n cap : Nat} {xs : List Bool} (h : OwnsB B w (.slice (some ⟨g, 0, none⟩) n cap) xs) (hn : xs.length = n) (j : Nat) (x : Bool) : OwnsB B (w.setCell ⟨g, j, none⟩ (.bool x)) (.slice (some ⟨g, 0, none⟩) n cap) (xs.set j x) := by
  have h' : w.ownsRow B 4 1 (.slice (some ⟨g, 0, none⟩) n cap) n (xs.map Value.bool) := by unfold OwnsB at h; rw [hn] at h; exact h
  have hs := (World.ownsRow.stored h' j (Value.bool x)).1
  have e : (xs.map Value.bool).set j (Value.bool x) = (xs.set j x).map Value.bool := by simp [List.map_set]
  rw [e] at hs
  unfold OwnsB
  rw [List.length_set, hn]
  exact hs
/-- make([]bool, n) -/
theorem wpList_makeB {w : World} {ops : Array Oper} {rest : List Oper} {o : Oper} {a : Act} {Q : Exit → Act → World → Prop} (hg : o.guard = none) (l : Operand) (ho : o.op = Op.makeSlice 57 l l)
    (m : Int) (n : Nat) (hl : a.eval l = .int .i64 m) (hm : m = (n : Int)) (hn : n ≤ 16777216)
    (h : ∀ w', OwnsB w.heap.size w' (.slice (some ⟨w.heap.size, 0, none⟩) n n) (List.replicate n false) → Below w.heap.size w w' → w'.heap.size = w.heap.size + 1 → wpList Try.prog ops Q rest (a.put o.dst (.slice (some ⟨w.heap.size, 0, none⟩) n n)) w') :
    wpList Try.prog ops Q (o :: rest) a w := by
  subst hm
  obtain ⟨i0, hi, hz0, hz1, hz2⟩ := info_parts infoB
  refine wpList_make_row w hg l l 57 ho 4 i0 (.bool false) Try.underlying57 hi hz0 hz1 rfl .i64 .i64 n hl hl (by rw [hz2]; omega) (by omega) ?_
  refine h _ ?_ ((Below.refl _ _).alloc (Nat.le_refl _) _) (by simp)
  have hr := World.ownsRow_lit (base := w.heap.size) (e := 4) (size := 1) w (madeCells #[.bool false] n) n (Nat.le_refl _) (by unfold maxLen; omega) (by rw [size_madeCells, Nat.mul_one])
  rw [toList_madeCells_one] at hr
  have e : List.replicate n (Value.bool false) = (List.replicate n false).map Value.bool := by rw [List.map_replicate]
  rw [e] at hr
  unfold OwnsB
  rw [List.length_replicate]
  exact hr
theorem bool_ne_int : 4 ≠ 3 := by decide
theorem bool_ne_txn : 4 ≠ 27 := by decide
/-- rows of unlike elements lie in unlike blocks -/
theorem unlike {w : World} {B C m n j k : Nat} {e f : TypeId} {u v : Value} {xs ys : List Value} (h1 : w.ownsRow B e m u j xs) (h2 : w.ownsRow C f n v k ys) (hne : e ≠ f) : ∀ b, u.ownBlock = some b → v.ownBlock ≠ some b := fun b hu hv => by
  obtain ⟨c, fz, a1⟩ := Lib.ownsRow_kind h1 b hu
  obtain ⟨c', fz', a2⟩ := Lib.ownsRow_kind h2 b hv
  rw [a1] at a2
  simp only [Option.some.injEq, Obj.cells.injEq] at a2
  exact hne a2.2.1
/-- a vector: the one that came in, or one of the call's own -/
def VecOk (w wr : World) (v : Value) (u : Ints) : Prop := SeqI w v u ∨ OwnsI w.heap.size wr v u
theorem VecOk.seq {w wr : World} {v : Value} {u : Ints} (h : VecOk w wr v u) (hb : Below w.heap.size w wr) : SeqI wr v u := h.elim (fun h => h.below hb) fun h => h.seq
theorem VecOk.keep {w wr w' : World} {v : Value} {u : Ints} (h : VecOk w wr v u) (hk : ∀ k, w.heap.size ≤ k → k < wr.heap.size → (∃ c fz, wr.heap[k]? = some (.cells c 3 fz)) → w'.heap[k]? = wr.heap[k]?) : VecOk w w' v u :=
  h.imp id fun h => h.keep fun k e => hk k (h.lt k e).1 (h.lt k e).2 (Lib.ownsRow_kind h k e)
/-- what holds at the head of each round -/
structure RTake (l : List PTxn) (v : Ints) (w : World) (n gb : Nat) (vv tv : Value) (wr : World) (k : Nat) (g : List Bool) (a : List PTxn) (u : Ints) : Prop where
  marks : OwnsB w.heap.size wr (.slice (some ⟨gb, 0, none⟩) n n) g
  glen : g.length = l.length
  vec : VecOk w wr vv u
  taken : OwnJ (fun b => b ≠ gb) LTxn w.heap.size wr tv a
  all : oTake v l = a ++ oTake u (oLeft g l)
  last : u = oEnd v a
  past : ∀ j, j < k → gone g j = true ∨ ¬ oReady u (otx l j) = true
  low : Below w.heap.size w wr
  len : u.length ≤ 1000000
theorem rtake_first {l : List PTxn} {v u : Ints} {w wr : World} {n gb k : Nat} {vv tv : Value} {g : List Bool} {a : List PTxn} (h : RTake l v w n gb vv tv wr k g a u) (hk : k < l.length) (hg : gone g k = false) (hr : oReady u (otx l k) = true) : oFirst u (oLeft g l) = some (otx l k, oLeft (g.set k true) l) := by
  have hkg : k < g.length := by rw [h.glen]; exact hk
  rw [otx_lt hk]
  refine oLeft_first hkg hk (by rw [← gone_at hkg]; exact hg) (by rw [← otx_lt hk]; exact hr) fun j h1 h2 hj => ?_
  rw [← gone_at h1, ← otx_lt h2]
  exact h.past j hj
theorem rtake_none {l : List PTxn} {v u : Ints} {w wr : World} {n gb : Nat} {vv tv : Value} {g : List Bool} {a : List PTxn} (h : RTake l v w n gb vv tv wr l.length g a u) : oTake v l = a := by
  rw [h.all, oTake_stop (oLeft_none fun j h1 h2 => ?_), List.append_nil]
  rw [← gone_at h1, ← otx_lt h2]
  exact h.past j h2
theorem one_txnR {W : World} {N gb : Nat} {x : PTxn} {dv ev ov : Value} (hd : Sq LInt (fun b => b < N) W dv x.deps) (he : Sq LEff (fun b => b < N) W ev x.effs) (hg : N ≤ gb ∧ gb < W.heap.size) (hov : ∀ k, ov.ownBlock = some k → N ≤ k ∧ k < W.heap.size) :
    Sq LTxn (fun b => b ≠ gb ∧ b < (W.alloc (.cells #[.int .i64 x.node, .int .i64 x.seq, dv, ev] 27)).heap.size ∧ ov.ownBlock ≠ some b) (W.alloc (.cells #[.int .i64 x.node, .int .i64 x.seq, dv, ev] 27)) (.slice (some ⟨W.heap.size, 0, none⟩) 1 1) [x] := by
  have hS : (W.alloc (.cells #[.int .i64 x.node, .int .i64 x.seq, dv, ev] 27)).heap.size = W.heap.size + 1 := by simp
  rw [hS]
  have hB : Below W.heap.size W (W.alloc (.cells #[.int .i64 x.node, .int .i64 x.seq, dv, ev] 27)) := (Below.refl _ _).alloc (Nat.le_refl _) _
  have hw : ∀ b, b < N → b ≠ gb ∧ b < W.heap.size + 1 ∧ ov.ownBlock ≠ some b := fun b hb => ⟨by omega, by omega, fun e => by have := hov b e; omega⟩
  refine ⟨_, 1, cellsTx x dv ev, rfl, Nat.le_refl _, by unfold maxLen; simp, (by simp), Rows.of_one ⟨_, _, rfl, (hd.agree fun b hb => hB.block b (by omega)).mono hw, (he.agree fun b hb => hB.block b (by omega)).mono hw⟩, fun _ => ⟨_, 0, rfl, ⟨by omega, by omega, fun e => by have := hov _ e; omega⟩, fun i u' hu => ?_⟩⟩
  rw [Nat.zero_add]
  have := World.cell?_alloc_new W #[.int .i64 x.node, .int .i64 x.seq, dv, ev] 27 i
  rw [this, ← Array.getElem?_toList]
  exact hu
theorem takenR_set {B gb i : Nat} {w : World} {tv x : Value} {a : List PTxn} (h : OwnJ (fun b => b ≠ gb) LTxn B w tv a) (hne : tv.ownBlock ≠ some gb) : OwnJ (fun b => b ≠ gb) LTxn B (w.setCell ⟨gb, i, none⟩ x) tv a := by
  have hs : (w.setCell ⟨gb, i, none⟩ x).heap.size = w.heap.size := by simp [World.setCell]
  obtain ⟨vals, ho, hr⟩ := h
  refine ⟨vals, ⟨ho.1, ?_⟩, (hr.agree fun b hb => Below.heap_setCell _ _ _ _ hb.1).mono fun b hb => ⟨hb.1, by rw [hs]; exact hb.2.1, hb.2.2⟩⟩
  rcases ho.2 with hz | ⟨g, cap, cur, hv, hb, hg, hr'⟩
  · exact .inl hz
  · exact .inr ⟨g, cap, cur, hv, hb, (Below.heap_setCell _ _ _ _ fun e => hne (by rw [hv, ← show g = gb from e]; rfl)).trans hg, hr'⟩
theorem txns_atS {w : World} {la : Option Addr} {n lc : Nat} {l : List PTxn} (h : SeqE LTxn w (.slice la n lc) l) (hp : 0 < n) : ∃ lb lo, la = some ⟨lb, lo, none⟩ ∧ ∀ k, k < n → ∃ da dn dc ea en ec, (∀ W, Below w.heap.size w W →
    (W.cell? ⟨lb, lo + k * 4, none⟩ = some (.int .i64 (otx l k).node) ∧ W.cell? ⟨lb, lo + k * 4 + 1, none⟩ = some (.int .i64 (otx l k).seq) ∧ W.cell? ⟨lb, lo + k * 4 + 2, none⟩ = some (.slice da dn dc) ∧ W.cell? ⟨lb, lo + k * 4 + 3, none⟩ = some (.slice ea en ec)) ∧
      IsTxn W (.agg #[.int .i64 (otx l k).node, .int .i64 (otx l k).seq, .slice da dn dc, .slice ea en ec]) (otx l k)) ∧ SeqE LInt w (.slice da dn dc) (otx l k).deps ∧ SeqE LEff w (.slice ea en ec) (otx l k).effs := by
  obtain ⟨lb, lo, e, hc⟩ := txns_at h hp
  refine ⟨lb, lo, e, fun k hk => ?_⟩
  obtain ⟨da, dn, dc, ea, en, ec, hW⟩ := hc k hk
  have := (hW w (Below.refl _ _)).2
  obtain ⟨dv, ev, e1, h1, h2⟩ := this
  simp only [Value.agg.injEq, Array.mk.injEq, List.cons.injEq, true_and, and_true] at e1
  exact ⟨da, dn, dc, ea, en, ec, hW, by rw [e1.1]; exact h1, by rw [e1.2]; exact h2⟩
theorem RTake.below {l : List PTxn} {v u : Ints} {w wr w' : World} {n gb k : Nat} {vv tv : Value} {g : List Bool} {a : List PTxn} (h : RTake l v w n gb vv tv wr k g a u) (hb : Below wr.heap.size wr w') : RTake l v w n gb vv tv w' k g a u :=
  ⟨h.marks.below hb, h.glen, h.vec.keep fun k _ hk _ => hb.block k hk, h.taken.below hb (Nat.le_refl _), h.all, h.last, h.past, h.low.trans (hb.mono h.low.size), h.len⟩
theorem RTake.skip {l : List PTxn} {v u : Ints} {w wr : World} {n gb k : Nat} {vv tv : Value} {g : List Bool} {a : List PTxn} (h : RTake l v w n gb vv tv wr k g a u) (hno : gone g k = true ∨ ¬ oReady u (otx l k) = true) : RTake l v w n gb vv tv wr (k + 1) g a u :=
  ⟨h.marks, h.glen, h.vec, h.taken, h.all, h.last, fun j hj => by
    by_cases c : j = k
    · rw [c]; exact hno
    · exact h.past j (by omega), h.low, h.len⟩
theorem RTake.apart {l : List PTxn} {v u : Ints} {w wr : World} {n gb k : Nat} {vv tv : Value} {g : List Bool} {a : List PTxn} (h : RTake l v w n gb vv tv wr k g a u) : tv.ownBlock ≠ some gb := by
  obtain ⟨vals, ho, -⟩ := h.taken
  exact unlike h.marks ho bool_ne_txn gb rfl
theorem RTake.gb {l : List PTxn} {v u : Ints} {w wr : World} {n gb k : Nat} {vv tv : Value} {g : List Bool} {a : List PTxn} (h : RTake l v w n gb vv tv wr k g a u) : w.heap.size ≤ gb ∧ gb < wr.heap.size := h.marks.lt gb rfl
/-- a mark is set -/
theorem RTake.mark {l : List PTxn} {v u : Ints} {w wr : World} {n gb k : Nat} {vv tv : Value} {g : List Bool} {a : List PTxn} (h : RTake l v w n gb vv tv wr k g a u) (hn : n = l.length) :
    OwnsB w.heap.size (wr.setCell ⟨gb, k, none⟩ (.bool true)) (.slice (some ⟨gb, 0, none⟩) n n) (g.set k true) ∧ VecOk w (wr.setCell ⟨gb, k, none⟩ (.bool true)) vv u ∧ OwnJ (fun b => b ≠ gb) LTxn w.heap.size (wr.setCell ⟨gb, k, none⟩ (.bool true)) tv a ∧ Below w.heap.size w (wr.setCell ⟨gb, k, none⟩ (.bool true)) := by
  refine ⟨h.marks.set (by rw [h.glen, hn]) k true, h.vec.keep fun b _ _ hk => Below.heap_setCell _ _ _ _ fun e => ?_, takenR_set h.taken h.apart, h.low.setCell h.gb.1 _⟩
  obtain ⟨c, fz, hk⟩ := hk
  obtain ⟨c', fz', h2⟩ := Lib.ownsRow_kind h.marks gb rfl
  rw [show b = gb from e, h2] at hk
  simp only [Option.some.injEq, Obj.cells.injEq] at hk
  exact bool_ne_int hk.2.1
theorem VecOk.grown {w wr w' : World} {vv tv : Value} {u : Ints} {a : List PTxn} {J : Nat → Prop} (h : VecOk w wr vv u) (ht : OwnJ J LTxn w.heap.size wr tv a) (hg : wr.grownBy w' tv.ownBlock) : VecOk w w' vv u :=
  h.keep fun k _ hk hi => hg.block k hk fun e => by
    obtain ⟨vals, ho, -⟩ := ht
    obtain ⟨c, fz, h1⟩ := hi
    obtain ⟨c', fz', h2⟩ := Lib.ownsRow_kind ho k e.symm
    rw [h1] at h2
    simp only [Option.some.injEq, Obj.cells.injEq] at h2
    exact txn_ne_int h2.2.1.symm
set_option maxRecDepth 100000 in
set_option maxHeartbeats 16000000 in
/-- Take, by marks -/
theorem takeR_any {vv lv : Value} {v : Ints} {l : List PTxn} {w : World} (hv : SeqI w vv v) (hlv : SeqE LTxn w lv l) (hl : l.length ≤ 1000000) (hf : ∀ t ∈ l, FitW t) (hvl : v.length ≤ 1000000) :
    Calls Try.prog 13 #[vv, lv] w (GivesTake w (oTake v l) (oEnd v (oTake v l))) := by
  obtain ⟨la, lc, rfl, L1, L2, -, -⟩ := hlv.parts
  have HL := Lib.hid hlv
  have HF := Lib.hid hf
  have HV := Lib.hid hv
  obtain ⟨n, hn⟩ : ∃ n, n = l.length := ⟨_, rfl⟩
  have HNN := Lib.hid hn
  rw [← hn] at HL L1 hl ⊢
  obtain ⟨va, vc, rfl, -, -, -, -⟩ := hv.parts
  have HR0 : Hid (∀ w1, OwnsB w.heap.size w1 (.slice (some ⟨w.heap.size, 0, none⟩) n n) (List.replicate n false) → Below w.heap.size w w1 → RTake l v w n w.heap.size (.slice va v.length vc) (.slice none 0 0) w1 0 (List.replicate n false) [] v) := Lib.hid (fun w1 h1 h2 => ⟨h1, by rw [List.length_replicate, hn], .inl hv, OwnJ.nil _ _ _, by rw [hn, oLeft_all, List.nil_append], rfl, fun j hj => absurd hj (Nat.not_lt_zero _), h2, hvl⟩)
  have HLF : Hid ((oLeft (List.replicate n false) l).length = n) := Lib.hid (by rw [hn, oLeft_all])
  clear hv hlv hf hn
  go_enter Try.func13, Try.ntmps13
  go_wp2_with (at_make; refine wpList_makeB rfl (.tmp 10) rfl (n : Int) n rfl rfl (by omega) ?_)
  intro w1 ho1 hb1 hz1
  have R0 := Lib.hid (HR0.out w1 ho1 hb1)
  have ZG : Hid (w.heap.size < w1.heap.size) := Lib.hid (by omega)
  clear ho1 hb1 hz1 HR0
  obtain ⟨gb, hgb⟩ : ∃ gb, gb = w.heap.size := ⟨_, rfl⟩
  have HGB := Lib.hid hgb
  rw [show (Value.slice (some ⟨w.heap.size, 0, none⟩) n n) = .slice (some ⟨gb, 0, none⟩) n n by rw [hgb]]
  have R1 : Hid (RTake l v w n gb (.slice va v.length vc) (.slice none 0 0) w1 0 (List.replicate n false) [] v) := Lib.hid (by rw [hgb]; exact R0.out)
  clear R0 hgb
  go_wp2_with fail
  go_loopg [0, 7, 8] (n * (n + 1) + n) (fun gg v0 tv i wr => ∃ (k : Nat) (g : List Bool) (a : List PTxn) (u : Ints), k ≤ n ∧ i = .int .i64 k ∧ Aside (RTake l v w n gb v0 tv wr k g a u ∧ (oLeft g l).length * (n + 1) + (n - k) ≤ gg))
  case atStart => exact ⟨0, _, _, _, Nat.zero_le _, rfl, R1.out, by rw [HLF.out]; omega⟩
  case round =>
    obtain ⟨k, g, a, u, hk, rfl, hrel⟩ := hrel
    obtain ⟨hR, hgg⟩ := Aside.out hrel
    have R := Lib.hid hR
    have HGG := Lib.hid hgg
    have hGL : g.length = n := by rw [hR.glen, HNN.out]
    obtain ⟨ta, tc, rfl, -, -, -⟩ := hR.taken.at a.length rfl
    obtain ⟨ua, uc, rfl, -, -, -, -⟩ := (hR.vec.seq hR.low).parts
    clear hrel hgg R1
    by_cases hlt : k < n
    · have hkl : k < l.length := by rw [← HNN.out]; exact hlt
      obtain ⟨lb, lo, rfl, hc⟩ := txns_atS HL.out (by omega)
      obtain ⟨da, dn, dc, ea, en, ec, hW, hsd, hse⟩ := hc k hlt
      have hft := otx_fit HF.out hkl
      have gc := hR.marks.cell hGL k hlt
      have gf := hR.marks.free hGL k
      have FST : Hid (gone g k = false → oReady u (otx l k) = true → oFirst u (oLeft g l) = some (otx l k, oLeft (g.set k true) l)) := Lib.hid (fun h1 h2 => rtake_first hR hkl h1 h2)
      have HSK : Hid (gone g k = true ∨ ¬ oReady u (otx l k) = true → RTake l v w n gb (.slice ua u.length uc) (.slice ta a.length tc) wr (k + 1) g a u) := Lib.hid (fun h => hR.skip h)
      have NL : Hid ((oNext u (otx l k)).length ≤ 1000000) := Lib.hid (by have := oNext_len u (otx l k); have := hR.len; omega)
      have KR := Lib.hid (oreadyR_any (hR.vec.seq hR.low) (hW wr hR.low).2 hR.len hft.deps hft.small)
      have HC := Lib.hid (fun W (hb : Below w.heap.size w W) => hW W hb)
      have SD := Lib.hid hsd
      have SE := Lib.hid hse
      obtain ⟨c0, c1, c2, c3⟩ := (hW wr hR.low).1
      have k1 : (k : Int) < n := by omega
      have k2 : (n : Int) ≤ lc := by omega
      have k3 : (lc : Int) ≤ 9223372036854775807 := by omega
      clear hc hW hft hkl hsd hse hR hGL
      generalize otx l k = t at *
      obtain ⟨gk, hgk⟩ : ∃ b, b = gone g k := ⟨_, rfl⟩
      rw [← hgk] at gc FST HSK
      clear hgk
      obtain ⟨r, hr⟩ : ∃ r, r = oReady u t := ⟨_, rfl⟩
      rw [← hr] at KR FST HSK
      clear hr
      cases gk
      · cases r
        · have H2 := Lib.hid (HSK.out (.inr (by simp)))
          go_wp2_with (go_at_call 19; refine KR.out.mono ?_; rintro e w2 ⟨rfl, hb2⟩; have H3 := Lib.hid (H2.out.below hb2); clear hb2)
          go_roundg ((oLeft g l).length * (n + 1) + (n - (k + 1)))
          case measure => have := HGG.out; omega
          case rel => exact ⟨k + 1, g, a, u, by omega, by go_num, H3.out, Nat.le_refl _⟩
        · have FF := Lib.hid (FST.out rfl rfl)
          go_upto_region 8 with (go_at_call 19; refine KR.out.mono ?_; rintro e w2 ⟨rfl, hb2⟩; have H3 := Lib.hid (R.out.below hb2); obtain ⟨gc2, gf2⟩ : w2.cell? ⟨gb, k, none⟩ = some (.bool false) ∧ w2.frozen? ⟨gb, k, none⟩ = false := ⟨(hb2.cell (p := ⟨gb, k, none⟩) R.out.gb.2).trans gc, (hb2.frozen (p := ⟨gb, k, none⟩) R.out.gb.2).trans gf⟩; have M3 := Lib.hid (H3.out.mark HNN.out (k := k)); have GB3 : Hid (w.heap.size ≤ gb ∧ gb < (w2.setCell ⟨gb, k, none⟩ (.bool true)).heap.size) := Lib.hid (by have := H3.out.gb; simpa [World.setCell] using this); clear hb2 c0 c1 c2 c3 gc gf)
          clear gc2 gf2 H3
          generalize (w2.setCell ⟨gb, k, none⟩ (.bool true)) = w3 at *
          have B3 := Lib.hid M3.out.2.2.2
          have J3 := Lib.hid M3.out.2.2.1
          have AP3 : Hid (Value.ownBlock (.slice ta a.length tc) ≠ some gb) := Lib.hid R.out.apart
          have AL := Lib.hid (takeRel_len R.out.all)
          have SD3 : Hid (Sq LInt (fun b => b < w.heap.size) w3 (.slice da dn dc) t.deps) := Lib.hid (SD.out.agree fun b hb => B3.out.block b hb)
          have SE3 : Hid (Sq LEff (fun b => b < w.heap.size) w3 (.slice ea en ec) t.effs) := Lib.hid (SE.out.agree fun b hb => B3.out.block b hb)
          obtain ⟨c0, c1, c2, c3⟩ := (HC.out w3 B3.out).1
          go_wp2_with (at_builtin; refine wpList_append_elJ (fun b => b ≠ gb) LTxn rfl (.tmp 34) (.tmp 39) rfl w.heap.size rfl (J3.out.alloc _) rfl (one_txnR (x := t) (N := w.heap.size) SD3.out SE3.out GB3.out J3.out.lt) (fun vs x h => h) (by have := AL.out; have := HNN.out; simp; omega) (by have := B3.out.size; simp; omega) ?_)
          intro v5 w5 ho5 hg5 hat5
          have BA : Hid (Below w3.heap.size w3 (w3.alloc (.cells #[.int .i64 t.node, .int .i64 t.seq, .slice da dn dc, .slice ea en ec] 27))) := Lib.hid ((Below.refl _ _).alloc (Nat.le_refl _) _)
          have JA := Lib.hid (J3.out.alloc (.cells #[.int .i64 t.node, .int .i64 t.seq, .slice da dn dc, .slice ea en ec] 27))
          have B5 : Hid (Below w.heap.size w w5) := Lib.hid ((B3.out.trans (BA.out.mono B3.out.size)).grown hg5 (by have := BA.out.size; have := B3.out.size; omega) fun b hb => (J3.out.lt b hb).1)
          have M5 : Hid (OwnsB w.heap.size w5 (.slice (some ⟨gb, 0, none⟩) n n) (g.set k true)) := Lib.hid ((M3.out.1.below BA.out).keep fun b hb => hg5.block b (by have := BA.out.size; have := GB3.out.2; cases hb; show gb < _; omega) fun e => AP3.out (by cases hb; exact e.symm))
          have V5 := Lib.hid ((M3.out.2.1.keep fun b _ hb _ => BA.out.block b hb).grown JA.out hg5)
          have O5 := Lib.hid ho5
          obtain ⟨t5, x5, rfl, -, -, -⟩ := ho5.at (a ++ [t]).length rfl
          obtain ⟨c0, c1, c2, c3⟩ := (HC.out w5 B5.out).1
          have KN := Lib.hid (onextR_any (V5.out.seq B5.out) (HC.out w5 B5.out).2 R.out.len)
          clear ho5 hg5 hat5 BA JA M3
          go_wp2_with (go_at_call 21; refine KN.out.mono ?_; rintro e w6 ⟨v6, rfl, ho6, hb6⟩; have O6 := Lib.hid (ho6.mono B5.out.size); have G6 := Lib.hid hb6; clear ho6 hb6 KN)
          have hm := oFirst_len FF.out
          have HR7 : Hid (RTake l v w n gb v6 (.slice t5 (a ++ [t]).length x5) w6 0 (g.set k true) (a ++ [t]) (oNext u t)) := Lib.hid ⟨M5.out.below G6.out, by rw [List.length_set]; exact R.out.glen, .inr O6.out, O5.out.below G6.out (Nat.le_refl _), by rw [R.out.all, oTake_step FF.out, List.append_assoc]; rfl, by rw [oEnd_snoc, ← R.out.last], fun j hj => absurd hj (Nat.not_lt_zero _), B5.out.trans (G6.out.mono B5.out.size), NL.out⟩
          go_roundg ((oLeft (g.set k true) l).length * (n + 1) + (n - 0))
          case measure =>
            have h1 := HGG.out
            have h2 : (oLeft g l).length * (n + 1) = (oLeft (g.set k true) l).length * (n + 1) + (n + 1) := by rw [← hm, Nat.succ_mul]
            omega
          case rel =>
            have R7 := HR7.out
            rw [show (a ++ [t]).length = a.length + 1 by simp] at R7
            exact ⟨0, _, _, _, Nat.zero_le _, rfl, R7, Nat.le_refl _⟩
      · have H2 := Lib.hid (HSK.out (.inl rfl))
        go_wp2_with fail
        go_roundg ((oLeft g l).length * (n + 1) + (n - (k + 1)))
        case measure => have := HGG.out; omega
        case rel => exact ⟨k + 1, g, a, u, by omega, by go_num, H2.out, Nat.le_refl _⟩
    · obtain rfl : k = n := by omega
      have HA : Hid (oTake v l = a) := Lib.hid (by have h := R.out; rw [HNN.out] at h; exact rtake_none h)
      clear hR hGL
      go_wp2_with fail
      go_ret2
      exact ⟨_, _, rfl, by rw [HA.out]; exact R.out.taken.own.seq, by rw [HA.out, ← R.out.last]; exact seq_ofI (R.out.vec.seq R.out.low), R.out.low⟩
end Go.Proofs.Ytlpcpbangmonaaa
namespace Go.Proofs.Ytlpcpbangmonaaa
open Go.RowKit Plain
set_option linter.unusedVariables false

/-- what the laws look at of a list -/
structure FitS (t : PTxn) : Prop where
  w : FitW t
  texts : ∀ e ∈ t.effs, e.key.length ≤ 9223372036854775807 ∧ e.field.length ≤ 9223372036854775807
theorem fitS_of {l : List PTxn} (h : shortTx l = true) (hok : ∀ t ∈ l, txnOk t) : l.length ≤ 24 ∧ ∀ t ∈ l, FitS t := by
  unfold shortTx at h
  rw [Bool.and_eq_true, decide_eq_true_iff] at h
  refine ⟨h.1, fun t ht => ?_⟩
  have h1 := List.all_eq_true.1 h.2 t ht
  unfold shortTx1 at h1
  rw [Bool.and_eq_true, decide_eq_true_iff] at h1
  obtain ⟨g1, g2⟩ := shortE_iff.1 h1.2
  refine ⟨⟨by omega, by omega, fun e he => by have := (shortE1_iff.1 (g2 e he)).2.2.2; omega, hok t ht⟩, fun e he => ?_⟩
  have := shortE1_iff.1 (g2 e he)
  exact ⟨by omega, by omega⟩
theorem oEnd_len : ∀ (a : List PTxn) (v : Ints), (oEnd v a).length ≤ max v.length 8
  | [], v => by show v.length ≤ _; omega
  | t :: a, v => by
    have h1 := oEnd_len a (oNext v t)
    have h2 := oNext_len v t
    show (oEnd (oNext v t) a).length ≤ _
    omega
theorem row_ints {w : World} {a : Option Addr} {n c : Nat} {z : List Int} (h : IsRow .i64 w a n c z) : ∃ xs : Ints, SeqI w (.slice a n c) xs ∧ xs.length = n ∧ n ≤ c := row_seqI h
theorem twice_no {lv : Value} {l : List PTxn} {w : World} (hlv : SeqE LTxn w lv l) (hl : l.length ≤ 1000000) (h : oApart l) : Calls Try.prog 22 #[lv] w (GivesB w false) :=
  (twice_any hlv hl).mono fun e w' ⟨r, he, hr, q, hq⟩ => ⟨by rw [he, hr.2 h], by rw [hq]; exact below_drewN (Below.refl _ _) q⟩
theorem twice_yes {lv : Value} {l : List PTxn} {w : World} (hlv : SeqE LTxn w lv l) (hl : l.length ≤ 1000000) (h : ¬ oApart l) : Calls Try.prog 22 #[lv] w (GivesB w true) :=
  (twice_any hlv hl).mono fun e w' ⟨r, he, hr, q, hq⟩ => ⟨by
    cases r
    · exact absurd (hr.1 rfl) h
    · exact he, by rw [hq]; exact below_drewN (Below.refl _ _) q⟩
/-- what is at once older than a row, and read by it, stands while the row grows -/
theorem seq_grown {α : Type} {L : El α} {N : Nat} {w w' : World} {v u : Value} {xs : List α} (h : Sq L (fun b => b < N) w v xs) (hg : w.grownBy w' u.ownBlock) (hu : ∀ k, u.ownBlock = some k → N ≤ k) (hN : N ≤ w.heap.size) : SeqE L w' v xs :=
  (h.agree fun b hb => hg.block b (by omega) fun e => by have := hu b e.symm; omega).mono fun b hb => by have := hg.size; show b < _; omega
def txA : PTxn := ⟨0, 2, [1], []⟩
def txB : PTxn := ⟨0, 1, [], []⟩
theorem take_AB : oTake [] [txA, txB] = [txB, txA] := by decide +kernel
theorem end_AB : oEnd [] [txB, txA] = [2] := by decide +kernel
theorem chain_AB : oChain [] [txB, txA] = true := by decide +kernel
theorem fit_AB : ∀ t ∈ [txA, txB], FitW t := by
  intro t ht
  simp only [List.mem_cons, List.not_mem_nil, or_false] at ht
  rcases ht with rfl | rfl
  · exact ⟨by simp [txA], by simp [txA], fun e h => by simp [txA] at h, ⟨by unfold intOk txA; decide, by unfold intOk txA; decide, fun n h => by simp [txA] at h; subst h; unfold intOk; decide, fun e h => by simp [txA] at h⟩⟩
  · exact ⟨by simp [txB], by simp [txB], fun e h => by simp [txB] at h, ⟨by unfold intOk txB; decide, by unfold intOk txB; decide, fun n h => by simp [txB] at h, fun e h => by simp [txB] at h⟩⟩
theorem fit_AB' : ∀ t ∈ [txB, txA], FitW t := fun t ht => fit_AB t (by simp only [List.mem_cons, List.not_mem_nil, or_false] at ht ⊢; exact ht.symm)
theorem seq_AB (w : World) : SeqE LTxn ((w.alloc (.cells #[.int .i64 1] 3)).alloc (.cells #[.int .i64 0, .int .i64 2, .slice (some ⟨w.heap.size, 0, none⟩) 1 1, .slice none 0 0, .int .i64 0, .int .i64 1, .slice none 0 0, .slice none 0 0] 27)) (.slice (some ⟨w.heap.size + 1, 0, none⟩) 2 2) [txA, txB] := by
  have h1 : SeqE LInt (w.alloc (.cells #[.int .i64 1] 3)) (.slice (some ⟨w.heap.size, 0, none⟩) 1 1) [1] := seq_ofI (SeqI.one w 1)
  have h := SeqE.lit (L := LTxn) (w.alloc (.cells #[.int .i64 1] 3)) #[.int .i64 0, .int .i64 2, .slice (some ⟨w.heap.size, 0, none⟩) 1 1, .slice none 0 0, .int .i64 0, .int .i64 1, .slice none 0 0, .slice none 0 0] [txA, txB]
    ((Rows.of_one (L := LTxn) (vs := cellsTx txA (.slice (some ⟨w.heap.size, 0, none⟩) 1 1) (.slice none 0 0)) ⟨_, _, rfl, h1, SeqE.nil _⟩).append (Rows.of_one (L := LTxn) (vs := cellsTx txB (.slice none 0 0) (.slice none 0 0)) ⟨_, _, rfl, SeqE.nil _, SeqE.nil _⟩)) (by simp)
  have e : (w.alloc (.cells #[.int .i64 1] 3)).heap.size = w.heap.size + 1 := by simp
  rw [e] at h
  exact h
set_option maxRecDepth 100000 in
set_option maxHeartbeats 4000000 in
/-- awake -/
theorem oawake_any (w : World) : Calls Try.prog 8 #[] w (GivesB w true) := by
  have S0 := Lib.hid (seq_AB w)
  have G0 : Hid (Below w.heap.size w ((w.alloc (.cells #[.int .i64 1] 3)).alloc (.cells #[.int .i64 0, .int .i64 2, .slice (some ⟨w.heap.size, 0, none⟩) 1 1, .slice none 0 0, .int .i64 0, .int .i64 1, .slice none 0 0, .slice none 0 0] 27))) := Lib.hid (((Below.refl _ _).alloc (Nat.le_refl _) _).alloc (by simp) _)
  have KT := Lib.hid (takeP_any (SeqI.nil _) S0.out (by simp) fit_AB (by simp))
  rw [take_AB, end_AB] at KT
  clear S0
  go_enter Try.func8, Try.ntmps8
  go_wp2_with (first
    | (go_at_call 12; refine KT.out.mono ?_; rintro e w1 ⟨a, x, rfl, ha, hx, hb⟩; obtain ⟨ab, ao, ac, rfl, A1, A2, -, hc⟩ := txns_spot ha (by simp); obtain ⟨-, -, ⟨-, cs, -, -⟩, -, -⟩ := hc 0 (by simp); have SA := Lib.hid ha; have SX := Lib.hid hx; have G1 := Lib.hid (G0.out.trans (hb.mono G0.out.size)); obtain ⟨xa, xc, rfl, -, -, -, -⟩ := hx.parts; have A3 : (2 : Int) ≤ ac := (by have : 2 ≤ ac := A1; omega); have A4 : (ac : Int) ≤ 9223372036854775807 := (by omega); have ce : w1.cell? ⟨ab, ao + 1, none⟩ = some (.int .i64 1) := (by have := cs; rw [Nat.zero_mul, Nat.add_zero] at this; exact this); have S2 := Lib.hid (SeqI.one w1 2); have X2 := Lib.hid ((seqI_of hx).below ((Below.refl w1.heap.size w1).alloc (Nat.le_refl _) (.cells #[.int .i64 2] 3))); have B2 : Hid (Below w1.heap.size w1 (w1.alloc (.cells #[.int .i64 2] 3))) := Lib.hid ((Below.refl w1.heap.size w1).alloc (Nat.le_refl _) _); clear ha hx hb hc cs A1 A2)
    | (go_at_call 15; refine (vc_requal_yes X2.out S2.out).mono ?_; rintro e w2 ⟨rfl, q, hq⟩; have B3 : Hid (Below w1.heap.size w1 w2) := Lib.hid (by rw [hq]; exact below_drewN B2.out q); have KC := Lib.hid (chainP_any (SeqI.nil w2) (SA.out.below B3.out) (by simp) fit_AB' (by simp)); rw [chain_AB] at KC; clear hq)
    | (go_at_call 16; refine KC.out.mono ?_; rintro e w3 ⟨rfl, hb3⟩; have B4 := Lib.hid (B3.out.trans (hb3.mono B3.out.size)); clear hb3))
  go_ret
  exact ⟨rfl, G1.out.trans (B4.out.mono G1.out.size)⟩
end Go.Proofs.Ytlpcpbangmonaaa
