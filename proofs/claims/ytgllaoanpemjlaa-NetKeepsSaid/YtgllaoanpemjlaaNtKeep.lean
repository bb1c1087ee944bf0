/- Stage 18's long walk: slices whose row and whose elements are told apart (SqKR), append of them; what a network and the list beside it are behind each step (NKeep). -/
import Derived.Test.YtgllaoanpemjlaaNtOps
import Derived.Lib.MinMax
namespace Go.Proofs.Ytgllaoanpemjlaa
open Go.RowKit Plain
set_option linter.unusedVariables false

section
variable {α : Type} {L : El α}
/-- a slice that reads as xs: its row lies in a block of K, what its elements look at in blocks of R -/
def SqKR (L : El α) (K R : Nat → Prop) (w : World) (v : Value) (xs : List α) : Prop :=
  ∃ a cap vals, v = .slice a xs.length cap ∧ xs.length ≤ cap ∧ cap ≤ maxLen ∧ (a = none → cap = 0) ∧ Rows L R w vals xs ∧
    (0 < xs.length → ∃ b off, a = some ⟨b, off, none⟩ ∧ K b ∧ ∀ i u, vals[i]? = some u → w.cell? ⟨b, off + i, none⟩ = some u)
theorem SqKR.agree {K R : Nat → Prop} {w w' : World} {v : Value} {xs : List α} (h : SqKR L K R w v xs) (hk : ∀ b, K b → w'.heap[b]? = w.heap[b]?) (hr : ∀ b, R b → w'.heap[b]? = w.heap[b]?) : SqKR L K R w' v xs := by
  obtain ⟨a, cap, vals, e, h1, h2, h0, hrows, h3⟩ := h
  refine ⟨a, cap, vals, e, h1, h2, h0, hrows.agree hr, fun hp => ?_⟩
  obtain ⟨b, off, ea, hb, hc⟩ := h3 hp
  exact ⟨b, off, ea, hb, fun i u hi => (World.cell?_of_block (w := w) (hk b hb)).trans (hc i u hi)⟩
theorem SqKR.mono {K K' R R' : Nat → Prop} {w : World} {v : Value} {xs : List α} (h : SqKR L K R w v xs) (hk : ∀ b, K b → K' b) (hr : ∀ b, R b → R' b) : SqKR L K' R' w v xs := by
  obtain ⟨a, cap, vals, e, h1, h2, h0, hrows, h3⟩ := h
  refine ⟨a, cap, vals, e, h1, h2, h0, hrows.mono hr, fun hp => ?_⟩
  obtain ⟨b, off, ea, hb, hc⟩ := h3 hp
  exact ⟨b, off, ea, hk b hb, hc⟩
theorem OwnJ.sqKR {J : Nat → Prop} {B : Nat} {w : World} {v : Value} {xs : List α} (h : OwnJ J L B w v xs) : SqKR L (fun b => v.ownBlock = some b ∧ B ≤ b ∧ b < w.heap.size) (fun b => J b ∧ b < w.heap.size ∧ v.ownBlock ≠ some b) w v xs := by
  have hlt := h.lt
  obtain ⟨vals, ho, hr⟩ := h
  rcases ho.2 with ⟨rfl, hn⟩ | ⟨g, cap, cur, rfl, hb, hg, hnc, hcm, hcs, htake⟩
  · refine ⟨none, 0, vals, by rw [hn], by omega, Nat.zero_le _, fun _ => rfl, hr, fun hp => absurd hp (by omega)⟩
  · refine ⟨_, cap, vals, rfl, hnc, hcm, (by simp), hr, fun hp => ⟨g, 0, rfl, ⟨rfl, (hlt g rfl).1, (hlt g rfl).2⟩, fun i u hi => ?_⟩⟩
    have hil : i < xs.length * L.k := by rw [← hr.1]; exact (List.getElem?_eq_some_iff.1 hi).1
    rw [Nat.zero_add, World.ownsRow.cellAt ho i hil, hi]
theorem SqKR.first {K R : Nat → Prop} {w : World} {a : Option Addr} {n cap : Nat} {xs : List α} (h : SqKR L K R w (.slice a n cap) xs) (m : Nat) (hm : m ≤ n) : SqKR L K R w (.slice a m cap) (xs.take m) := by
  obtain ⟨a', cap', vals, hv, h1, h2, h0, hr, h3⟩ := h
  simp only [Value.slice.injEq] at hv
  obtain ⟨rfl, rfl, rfl⟩ := hv
  have hl : (xs.take m).length = m := by rw [List.length_take]; omega
  refine ⟨a, cap, _, by rw [hl], by rw [hl]; omega, h2, h0, hr.take m, fun hp => ?_⟩
  rw [hl] at hp
  obtain ⟨b, off, rfl, hb, hc⟩ := h3 (by omega)
  refine ⟨b, off, rfl, hb, fun i u hi => hc i u ?_⟩
  rw [List.getElem?_take] at hi
  split at hi
  · exact hi
  · cases hi
theorem SqKR.behind {K R : Nat → Prop} {w : World} {b off n cap : Nat} {xs : List α} (h : SqKR L K R w (.slice (some ⟨b, off, none⟩) n cap) xs) (m : Nat) (hm : m ≤ n) : SqKR L K R w (.slice (some ⟨b, off + m * L.k, none⟩) (n - m) (cap - m)) (xs.drop m) := by
  obtain ⟨a', cap', vals, hv, h1, h2, h0, hr, h3⟩ := h
  simp only [Value.slice.injEq] at hv
  obtain ⟨rfl, rfl, rfl⟩ := hv
  have hl : (xs.drop m).length = xs.length - m := List.length_drop
  refine ⟨_, cap - m, _, by rw [hl], by rw [hl]; omega, by omega, (by simp), hr.drop m, fun hp => ?_⟩
  rw [hl] at hp
  obtain ⟨b', off', he, hb, hc⟩ := h3 (by omega)
  simp only [Option.some.injEq, Addr.mk.injEq, and_true] at he
  obtain ⟨rfl, rfl⟩ := he
  refine ⟨b, off + m * L.k, rfl, hb, fun i u hi => ?_⟩
  rw [List.getElem?_drop] at hi
  have := hc _ u hi
  rw [Nat.add_assoc]
  exact this
theorem SqKR.none {K R : Nat → Prop} (w : World) (a : Addr) (cap : Nat) (h : cap ≤ maxLen) : SqKR L K R w (.slice (some a) 0 cap) [] := ⟨some a, cap, [], rfl, Nat.zero_le _, h, (by simp), Rows.nil _ _, fun h => absurd h (by simp)⟩
theorem run_append_elR {w : World} (J K : Nat → Prop) (B : Nat) (ty : TypeId) {v u : Value} {xs ys : List α} (hown : OwnJ J L B w v xs)
    (hseq : SqKR L K (fun b => J b ∧ b < w.heap.size ∧ v.ownBlock ≠ some b) w u ys) (hlen : xs.length + ys.length ≤ 1073741824) (hbase : B ≤ w.heap.size) :
    ∃ v' w', (Builtin.append_ #[L.S, L.S] ty #[v, u]).run Try.prog w = .ok v' w' ∧ OwnJ J L B w' v' (xs ++ ys) ∧ w.grownBy w' v.ownBlock ∧ (v'.ownBlock = v.ownBlock ∨ v'.ownBlock = some w.heap.size) := by
  obtain ⟨i0, hi, hz0, hz1, hz2⟩ := info_el L
  have hlt := hown.lt
  obtain ⟨vals, ho, hr⟩ := hown
  obtain ⟨a, cap, news, rfl, h1, h2, h0, hn', h3⟩ := hseq
  have hsm := L.small
  cases a with
  | none =>
    obtain rfl := h0 rfl
    obtain rfl : ys = [] := List.eq_nil_of_length_eq_zero (by omega)
    refine ⟨v, w, run_append_owned_none (P := Try.prog) (w := w) B L.S ty L.E i0 L.k L.und hi v _ _ ho, ?_, World.grownBy.refl _ _, .inl rfl⟩
    rw [List.append_nil]
    exact ⟨vals, ho, hr⟩
  | some ad =>
    have hbytes : (xs.length + ys.length) * L.bytes ≤ 140737488355328 := by
      have := Nat.mul_le_mul hlen hsm
      omega
    obtain ⟨v', w', hrun, ho', hg, -, hat⟩ := run_append_own_at (P := Try.prog) w B L.S ty L.E i0 L.zero L.k L.bytes L.und hi hz0 hz1 hz2 L.zsize L.pos v _ _ ho ad ys.length cap news hn'.1 (fun j u hu => by
        have hp : 0 < ys.length := by
          have h := (List.getElem?_eq_some_iff.1 hu).1
          rw [hn'.1] at h
          rcases Nat.eq_zero_or_pos ys.length with e | e
          · rw [e, Nat.zero_mul] at h; omega
          · exact e
        obtain ⟨b, off, he, hc⟩ := h3 hp
        cases he
        rw [Addr.add_lit]
        exact hc.2 j u hu) (Rows.cells hn') (by unfold maxLen; omega) hbytes hbase
    refine ⟨v', w', hrun, ⟨vals ++ news, by rw [List.length_append]; exact ho', ?_⟩, hg, hat⟩
    refine (((hr.append hn').agree fun b hq => hg.block b hq.2.1 fun e => hq.2.2 e.symm).mono fun b hq => ⟨hq.1, Nat.lt_of_lt_of_le hq.2.1 hg.size, ?_⟩)
    rcases hat with e | e
    · rw [e]; exact hq.2.2
    · rw [e]
      intro e2
      have := hq.2.1
      cases e2
      omega
theorem step_append_elR {w : World} {ops : Array Oper} {o : Oper} {act : Act} {K : Act → World → Prop} {Q : Exit → Act → World → Prop} {E : Prop} (J K' : Nat → Prop) (L : El α) (hw : Region.wanted o (yielded ops act.tmps) = true) (s x : Operand)
    (ho : o.op = .call { callee := .builtin .append, args := #[s, x], argTypes := #[L.S, L.S] }) (B : Nat) {v u : Value} {xs ys : List α}
    (hs : act.eval s = v) (hown : OwnJ J L B w v xs) (hx : act.eval x = u) (hseq : SqKR L K' (fun b => J b ∧ b < w.heap.size ∧ v.ownBlock ≠ some b) w u ys) (hlen : xs.length + ys.length ≤ 1073741824) (hbase : B ≤ w.heap.size)
    (h : ∀ v' w', OwnJ J L B w' v' (xs ++ ys) → w.grownBy w' v.ownBlock → (v'.ownBlock = v.ownBlock ∨ v'.ownBlock = some w.heap.size) → K (act.put o.dst v') w') : if Region.wanted o (yielded ops act.tmps) = true then Oper.wp Try.prog o act w K Q else E := by
  rw [if_pos hw]
  obtain ⟨v', w', hr, h2, h3, h4⟩ := run_append_elR J K' B o.type hown hseq hlen hbase
  unfold Oper.wp execOp
  simp only [ho, resolve, invoke, builtin, Sem.run_bind, Sem.run_pure, Result.andThen_ok, List.map_toArray, List.map_cons, List.map_nil, hs, hx, hr]
  exact h v' w' h2 h3 h4
theorem wpList_append_elR {w : World} {ops : Array Oper} {rest : List Oper} {o : Oper} {act : Act} {Q : Exit → Act → World → Prop} (J K' : Nat → Prop) (L : El α) (hgd : o.guard = none) (s x : Operand)
    (ho : o.op = .call { callee := .builtin .append, args := #[s, x], argTypes := #[L.S, L.S] }) (B : Nat) {v u : Value} {xs ys : List α}
    (hs : act.eval s = v) (hown : OwnJ J L B w v xs) (hx : act.eval x = u) (hseq : SqKR L K' (fun b => J b ∧ b < w.heap.size ∧ v.ownBlock ≠ some b) w u ys) (hlen : xs.length + ys.length ≤ 1073741824) (hbase : B ≤ w.heap.size)
    (h : ∀ v' w', OwnJ J L B w' v' (xs ++ ys) → w.grownBy w' v.ownBlock → (v'.ownBlock = v.ownBlock ∨ v'.ownBlock = some w.heap.size) → wpList Try.prog ops Q rest (act.put o.dst v') w') : wpList Try.prog ops Q (o :: rest) act w := by
  refine wpList_plain hgd fun K hK => ?_
  obtain ⟨v', w', hr, h2, h3, h4⟩ := run_append_elR J K' B o.type hown hseq hlen hbase
  unfold Oper.wp execOp
  simp only [ho, resolve, invoke, builtin, Sem.run_bind, Sem.run_pure, Result.andThen_ok, List.map_toArray, List.map_cons, List.map_nil, hs, hx, hr]
  exact hK _ _ (h v' w' h2 h3 h4)
end
theorem Sq.since {α : Type} {L : El α} {N : Nat} {w w' : World} {v : Value} {xs : List α} (h : Sq L (fun b => N ≤ b ∧ b < w.heap.size) w v xs) (hb : Below w.heap.size w w') : Sq L (fun b => N ≤ b ∧ b < w'.heap.size) w' v xs :=
  (h.agree fun b hl => hb.block b hl.2).mono fun b hl => ⟨hl.1, Nat.lt_of_lt_of_le hl.2 hb.size⟩
/-- one packet in a block of its own, to be appended -/
theorem lone_pkt {w W : World} {g B : Nat} {x : PPkt} {bv v : Value} (hlow : Below w.heap.size w W) (hd : Sq LByte (fun b => b < w.heap.size) W bv x.bytes) (hv : ∀ b, v.ownBlock = some b → B ≤ b) (hB : w.heap.size ≤ B) :
    SqKR LPkt (fun b => b = W.heap.size) (fun b => b < w.heap.size ∧ b < (W.alloc (.cells #[.int .i64 x.frm, .int .i64 x.to, bv] 27)).heap.size ∧ v.ownBlock ≠ some b) (W.alloc (.cells #[.int .i64 x.frm, .int .i64 x.to, bv] 27)) (.slice (some ⟨W.heap.size, 0, none⟩) 1 1) [x] := by
  have hBl : Below W.heap.size W (W.alloc (.cells #[.int .i64 x.frm, .int .i64 x.to, bv] 27)) := (Below.refl _ _).alloc (Nat.le_refl _) _
  have hz := hlow.size
  have hd2 : Sq LByte (fun b => b < w.heap.size ∧ b < (W.alloc (.cells #[.int .i64 x.frm, .int .i64 x.to, bv] 27)).heap.size ∧ v.ownBlock ≠ some b) (W.alloc (.cells #[.int .i64 x.frm, .int .i64 x.to, bv] 27)) bv x.bytes :=
    (hd.agree fun b hb => hBl.block b (by omega)).mono fun b hb => ⟨hb, by have := hBl.size; omega, fun e => by have := hv b e; omega⟩
  refine ⟨_, 1, cellsPk x bv, rfl, Nat.le_refl _, by unfold maxLen; simp, (by simp), Rows.of_one ⟨_, rfl, hd2⟩, fun _ => ⟨_, 0, rfl, rfl, fun i u' hu => ?_⟩⟩
  rw [Nat.zero_add]
  have := World.cell?_alloc_new W #[.int .i64 x.frm, .int .i64 x.to, bv] 27 i
  rw [this, ← Array.getElem?_toList]
  exact hu
theorem NtB.other {u : World} {g h : Nat} {cs : Array Value} {t : TypeId} (hg : NtB u g cs t) (hne : g ≠ h) (v : Value) : NtB (u.setCell ⟨h, 0, none⟩ v) g cs t := ⟨(Below.heap_setCell _ _ _ _ (show g ≠ (⟨h, 0, none⟩ : Addr).block from hne)).trans hg.blk⟩

/-- a network in the variable g, and the list beside it -/
structure NKeep (w : World) (g : Nat) (wr : World) (l : List PPkt) (an : Option Addr) (cn : Nat) (a4 : Option Addr) (m c4 : Nat) : Prop where
  low : Below w.heap.size w wr
  gw : w.heap.size ≤ g
  box : NtB wr g #[.slice an m cn] 24
  net : Sq LPkt (fun b => b < wr.heap.size ∧ b ≠ g ∧ Value.ownBlock (.slice a4 m c4) ≠ some b) wr (.slice an m cn) l
  way : OwnJ (fun b => b < w.heap.size) LPkt (g + 1) wr (.slice a4 m c4) l
  len : l.length ≤ 64
  byt : ∀ x ∈ l, x.bytes.length ≤ 1000000
section
variable {w wr : World} {g : Nat} {l : List PPkt} {an a4 : Option Addr} {cn m c4 : Nat}
theorem NKeep.below {u : World} (h : NKeep w g wr l an cn a4 m c4) (hb : Below wr.heap.size wr u) : NKeep w g u l an cn a4 m c4 :=
  ⟨h.low.trans (hb.mono h.low.size), h.gw, h.box.below hb, (h.net.agree fun b hl => hb.block b hl.1).mono fun b hl => ⟨Nat.lt_of_lt_of_le hl.1 hb.size, hl.2⟩, h.way.below hb (Nat.le_refl _), h.len, h.byt⟩
theorem NKeep.seqN (h : NKeep w g wr l an cn a4 m c4) : SeqE LPkt wr (.slice an m cn) l := h.net.mono fun b hb => hb.1
theorem NKeep.seqW (h : NKeep w g wr l an cn a4 m c4) : SeqE LPkt wr (.slice a4 m c4) l := h.way.own.seq
theorem NKeep.dims (h : NKeep w g wr l an cn a4 m c4) : l.length = m ∧ m ≤ 64 ∧ m ≤ c4 ∧ c4 ≤ 9223372036854775807 ∧ m ≤ cn ∧ cn ≤ 9223372036854775807 := by
  have h1 := h.seqN.dims
  have h2 := h.seqW.dims
  exact ⟨h1.1, by have := h.len; omega, h2.2.1, h2.2.2, h1.2.1, h1.2.2⟩
/-- the variable is stored into: a network that lies in new blocks -/
theorem NKeep.store (h : NKeep w g wr l an cn a4 m c4) {u : World} (hb : Below wr.heap.size wr u) {v : Value} {l' : List PPkt} (hn : Sq LPkt (fun b => wr.heap.size ≤ b ∧ b < u.heap.size) u v l') :
    Below w.heap.size w (u.setCell ⟨g, 0, none⟩ v) ∧ NtB (u.setCell ⟨g, 0, none⟩ v) g #[v] 24 ∧ Sq LPkt (fun b => wr.heap.size ≤ b ∧ b < (u.setCell ⟨g, 0, none⟩ v).heap.size) (u.setCell ⟨g, 0, none⟩ v) v l' ∧ OwnJ (fun b => b < w.heap.size) LPkt (g + 1) (u.setCell ⟨g, 0, none⟩ v) (.slice a4 m c4) l := by
  have hg := h.box.lt
  have hs : (u.setCell ⟨g, 0, none⟩ v).heap.size = u.heap.size := by simp [World.setCell]
  have h2 := h.below hb
  refine ⟨h2.low.setCell h.gw _, ⟨heap_setCell_same u g 0 _ _ v h2.box.blk⟩, ?_, ?_⟩
  · rw [hs]
    exact hn.agree fun b hb => Below.heap_setCell _ _ _ _ (by show b ≠ g; omega)
  · exact h2.way.kept (by rw [hs]; exact Nat.le_refl _) fun b hb' h' => Below.heap_setCell _ _ _ _ (by have := h.gw; show b ≠ g; omega)
end
/-- behind an append to the list -/
theorem nkeep_grown {w wS wT w2 : World} {g ws : Nat} {l' : List PPkt} {an : Option Addr} {cn m' : Nat} {a4 : Option Addr} {m c4 : Nat} {a5 : Option Addr} {c5 : Nat} (hlow : Below w.heap.size w wS) (hgw : w.heap.size ≤ g) (hgs : g < ws) (hbox : NtB wS g #[.slice an m' cn] 24)
    (hnet : Sq LPkt (fun b => ws ≤ b ∧ b < wS.heap.size) wS (.slice an m' cn) l') (hold : ∀ b, Value.ownBlock (.slice a4 m c4) = some b → g + 1 ≤ b ∧ b < ws) (hST : Below wS.heap.size wS wT) (hgr : wT.grownBy w2 (Value.ownBlock (.slice a4 m c4)))
    (hat : Value.ownBlock (.slice a5 m' c5) = Value.ownBlock (.slice a4 m c4) ∨ ∃ q, Value.ownBlock (.slice a5 m' c5) = some q ∧ wS.heap.size ≤ q) (hown : OwnJ (fun b => b < w.heap.size) LPkt (g + 1) w2 (.slice a5 m' c5) l') (hlen : l'.length ≤ 64) (hby : ∀ x ∈ l', x.bytes.length ≤ 1000000) :
    NKeep w g w2 l' an cn a5 m' c5 := by
  have hT := hlow.trans (hST.mono hlow.size)
  have same : ∀ b, b < wS.heap.size → Value.ownBlock (.slice a4 m c4) ≠ some b → w2.heap[b]? = wS.heap[b]? := fun b hb hne => (hgr.block b (Nat.lt_of_lt_of_le hb hST.size) fun e => hne e.symm).trans (hST.block b hb)
  refine ⟨hT.grown hgr hT.size fun k hk => by have := hold k hk; omega, hgw, ⟨(same g hbox.lt fun e => by have := hold g e; omega).trans hbox.blk⟩, ?_, hown, hlen, hby⟩
  have hne : ∀ b, ws ≤ b → Value.ownBlock (.slice a4 m c4) ≠ some b := fun b hb e => by have := hold b e; omega
  refine (hnet.agree fun b hb => same b hb.2 (hne b hb.1)).mono fun b hb => ⟨Nat.lt_of_lt_of_le hb.2 (Nat.le_trans hST.size hgr.size), by omega, fun e => ?_⟩
  rcases hat with h | ⟨q, h, hq⟩
  · rw [h] at e; exact hne b hb.1 e
  · rw [h] at e
    have hb2 := hb.2
    cases e
    omega
/-- behind the list's making anew -/
theorem nkeep_fresh {w wS w2 : World} {g ws : Nat} {l' : List PPkt} {an : Option Addr} {cn m' : Nat} {a5 : Option Addr} {c5 : Nat} (hlow : Below w.heap.size w wS) (hgw : w.heap.size ≤ g) (hgs : g < ws) (hbox : NtB wS g #[.slice an m' cn] 24)
    (hnet : Sq LPkt (fun b => ws ≤ b ∧ b < wS.heap.size) wS (.slice an m' cn) l') (hST : Below wS.heap.size wS w2) (hat : ∀ b, Value.ownBlock (.slice a5 m' c5) = some b → wS.heap.size ≤ b) (hown : OwnJ (fun b => b < w.heap.size) LPkt (g + 1) w2 (.slice a5 m' c5) l') (hlen : l'.length ≤ 64) (hby : ∀ x ∈ l', x.bytes.length ≤ 1000000) :
    NKeep w g w2 l' an cn a5 m' c5 :=
  ⟨hlow.trans (hST.mono hlow.size), hgw, hbox.below hST, (hnet.agree fun b hb => hST.block b hb.2).mono fun b hb => ⟨Nat.lt_of_lt_of_le hb.2 hST.size, by omega, fun e => by have := hat b e; omega⟩, hown, hlen, hby⟩
/-- a packet of the list: its cells, and where its bytes lie -/
theorem OwnJ.pktAt {J : Nat → Prop} {B : Nat} {w : World} {a : Option Addr} {n c : Nat} {l : List PPkt} (h : OwnJ J LPkt B w (.slice a n c) l) {k : Nat} (hk : k < n) : ∃ rb da dn dc, a = some ⟨rb, 0, none⟩ ∧ PktAt w rb (k * 3) (pk l k) (.slice da dn dc) ∧ Sq LByte (fun b => J b ∧ b < w.heap.size) w (.slice da dn dc) (pk l k).bytes := by
  have hn := h.own.seq.dims.1
  subst hn
  obtain ⟨vals, ho, hr⟩ := h
  obtain ⟨rb, rfl⟩ : ∃ rb, a = some ⟨rb, 0, none⟩ := by
    rcases ho.2 with ⟨-, h0⟩ | ⟨g, cap', cur, hv, -⟩
    · omega
    · simp only [Value.slice.injEq] at hv; exact ⟨g, hv.1⟩
  have hj : l[k]? = some (pk l k) := getD_pk hk
  obtain ⟨dv, e, hs⟩ := hr.2 k _ hj
  have e' : pt 3 vals k = cellsPk (pk l k) dv := e
  have g : ∀ i v, i < 3 → (cellsPk (pk l k) dv)[i]? = some v → w.cell? ⟨rb, k * 3 + i, none⟩ = some v := fun i v hi hv => by
    rw [World.ownsRow.cellAt ho (k * 3 + i) (show _ < l.length * 3 by omega), ← pt_get (k := 3) vals k i hi, e', hv]
  have hs' : Sq LByte (fun b => J b ∧ b < w.heap.size) w dv (pk l k).bytes := hs.mono fun b hb => ⟨hb.1, hb.2.1⟩
  obtain ⟨da, dc, rfl, -⟩ := SeqE.parts (L := LByte) (hs'.mono fun b hb => hb.2)
  exact ⟨rb, da, _, dc, rfl, ⟨g 0 _ (by omega) rfl, g 1 _ (by omega) rfl, g 2 _ (by omega) rfl⟩, hs'⟩
/-- a variable that holds a packet is stored into -/
theorem put3_box {u : World} {gp : Nat} {z0 z1 z2 : Value} {tp : TypeId} (hp : u.heap[gp]? = some (.cells #[z0, z1, z2] tp (0, 0))) (x y z : Value) : NtB (put3 u gp x y z) gp #[x, y, z] tp ∧ ∀ B, B ≤ gp → Below B u (put3 u gp x y z) := by
  have h1 := heap_setCell_same u gp 0 _ _ x hp
  have h2 := heap_setCell_same _ gp 1 _ _ y h1
  have h3 := heap_setCell_same _ gp 2 _ _ z h2
  exact ⟨⟨h3⟩, fun B h1 => (((Below.refl B u).setCell (p := ⟨gp, 0, none⟩) h1 x).setCell (p := ⟨gp, 1, none⟩) h1 y).setCell (p := ⟨gp, 2, none⟩) h1 z⟩
end Go.Proofs.Ytgllaoanpemjlaa
