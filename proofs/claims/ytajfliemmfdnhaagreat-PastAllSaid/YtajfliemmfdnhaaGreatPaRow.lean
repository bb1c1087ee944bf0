/- A ROW OF TRANSACTIONS OF THE CALL'S OWN THAT IS REWRITTEN IN PLACE: one put at a place, the row cut and cleared behind a place (clear), the slices within each put into blocks of their own, one by one. -/
import Derived.Test.YtajfliemmfdnhaaGreatTxn
import Derived.Test.YtajfliemmfdnhaaGreatPaWay
import Derived.Lib.SliceRun
namespace Go.Proofs.YtajfliemmfdnhaaGreat
open Go.RowKit Plain
set_option linter.unusedVariables false

theorem zero_el {α : Type} (L : El α) (w : World) : (zeroValue L.E).run Tryz.prog w = .ok L.zero w := by
 obtain ⟨i0, hi, hz0, -, -⟩ := info_el L
 simp [zeroValue, typeInfo, hi, hz0]
theorem run_clear_el {α : Type} (L : El α) (hone : ∀ u ∈ L.zero.cells, u.oneCell' = true) (w : World) (ty : TypeId) (b o n c : Nat) (hn : 0 < n) (hc : ∀ j, j < n * L.k → (w.cell? ⟨b, o + j, none⟩).isSome = true) (hf : ∀ j, j < n * L.k → w.frozen? ⟨b, o + j, none⟩ = false) :
  (Builtin.clear_ #[L.S] ty #[.slice (some ⟨b, o, none⟩) n c]).run Tryz.prog w = .ok (.tuple #[]) (w.setCells b o (Builtin.zeroCells L.zero.cells n).toList) := by
 have hl : (Builtin.zeroCells L.zero.cells n).toList.length = n * L.k := by rw [Array.length_toList, size_zeroCells, L.zsize]
 have hst := run_storeCells_cells (P := Tryz.prog) b o (Builtin.zeroCells L.zero.cells n).toList 0 w (by rw [hl]; simpa using hc) (by rw [hl]; simpa using hf) (fun v hv => by
  have : v ∈ L.zero.cells := by
   unfold Builtin.zeroCells at hv
   rw [Array.mem_toList_iff, Array.mem_map] at hv
   obtain ⟨i, -, rfl⟩ := hv
   have hz : i % L.zero.cells.size < L.zero.cells.size := Nat.mod_lt _ (by rw [L.zsize]; exact L.pos)
   rw [getElem!_pos L.zero.cells _ hz]
   exact Array.getElem_mem _
  exact hone v this)
 simp only [Nat.add_zero] at hst
 obtain ⟨m, rfl⟩ : ∃ m, n = m + 1 := ⟨n - 1, by omega⟩
 simp [Builtin.clear_, run_underlying L.und, zero_el L w, hst]
theorem run_clear_nothing {α : Type} (L : El α) (w : World) (ty : TypeId) (a : Option Addr) (c : Nat) : (Builtin.clear_ #[L.S] ty #[.slice a 0 c]).run Tryz.prog w = .ok (.tuple #[]) w := by
 cases a with
 | none => simp [Builtin.clear_, run_underlying L.und]
 | some a => simp [Builtin.clear_, run_underlying L.und]
theorem below_setCells {B b : Nat} (hB : B ≤ b) : ∀ (vs : List Value) (o : Nat) (w : World), Below B w (w.setCells b o vs)
 | [], _, w => Below.refl _ _
 | v :: r, o, w => ((Below.refl B w).setCell (p := ⟨b, o, none⟩) hB v).trans ((below_setCells hB r (o + 1) _).mono (Nat.le_refl _))
theorem size_setCells (b : Nat) : ∀ (vs : List Value) (o : Nat) (w : World), (w.setCells b o vs).heap.size = w.heap.size
 | [], _, w => rfl
 | v :: r, o, w => by rw [World.setCells, size_setCells b r]; simp [World.setCell]
section
variable {α : Type} {L : El α} {B : Nat} {w : World} {rb n cap : Nat} {ys : List α}
theorem OwnE.cut (h : OwnE L B w (.slice (some ⟨rb, 0, none⟩) n cap) ys) {i : Nat} (hi : i ≤ n) : OwnE L B w (.slice (some ⟨rb, 0, none⟩) i cap) (ys.take i) := by
 have hn := h.seq.dims.1
 obtain ⟨vals, ho, hr⟩ := h
 have hl : (ys.take i).length = i := by rw [List.length_take]; omega
 refine ⟨vals.take (i * L.k), ⟨by rw [hl, List.length_take, ho.1, hn]; exact Nat.min_eq_left (Nat.mul_le_mul_right _ hi), .inr ?_⟩, (hr.take i).mono fun b hb => hb⟩
 rcases ho.2 with ⟨e, -⟩ | ⟨g, cap', cur, hv, hb, hg, hnc, hcm, hcs, ht⟩
 ·cases e
 ·simp only [Value.slice.injEq, Option.some.injEq, Addr.mk.injEq, and_true] at hv
  obtain ⟨rfl, hn2, rfl⟩ := hv
  refine ⟨rb, cap, cur, by rw [hl], hb, hg, by rw [hl]; omega, hcm, hcs, ?_⟩
  rw [hl, ← ht, List.take_take]
  congr 1
  exact (Nat.min_eq_left (Nat.mul_le_mul_right _ (by omega))).symm
theorem OwnE.setOut (h : OwnE L B w (.slice (some ⟨rb, 0, none⟩) n cap) ys) {o : Nat} (ho : n * L.k ≤ o) (u : Value) : OwnE L B (w.setCell ⟨rb, o, none⟩ u) (.slice (some ⟨rb, 0, none⟩) n cap) ys := by
 have hn := h.seq.dims.1
 obtain ⟨vals, hv, hr⟩ := h
 subst hn
 have hs : (w.setCell ⟨rb, o, none⟩ u).heap.size = w.heap.size := by simp [World.setCell]
 have h1 := (World.ownsRow.stored hv o u).1
 rw [List.set_eq_of_length_le (by rw [hv.1]; exact ho)] at h1
 exact ⟨vals, h1, (hr.agree fun b hb => Below.heap_setCell _ _ _ _ fun e => hb.2 (by rw [e]; rfl)).mono fun b hb => ⟨by rw [hs]; exact hb.1, hb.2⟩⟩
theorem OwnE.clearOut : ∀ (vs : List Value) {w : World} {o : Nat}, OwnE L B w (.slice (some ⟨rb, 0, none⟩) n cap) ys → n * L.k ≤ o → OwnE L B (w.setCells rb o vs) (.slice (some ⟨rb, 0, none⟩) n cap) ys
 | [], _, _, h, _ => h
 | v :: r, _, _, h, ho => OwnE.clearOut r (h.setOut ho v) (by omega)
theorem OwnE.there (h : OwnE L B w (.slice (some ⟨rb, 0, none⟩) n cap) ys) {j : Nat} (hj : j < n * L.k) : (w.cell? ⟨rb, j, none⟩).isSome = true := by
 have hn := h.seq.dims.1
 obtain ⟨vals, hv, hr⟩ := h
 subst hn
 rw [World.ownsRow.cellAt hv j hj, List.getElem?_eq_getElem (by rw [hv.1]; exact hj)]
 rfl
theorem OwnE.bare (h : OwnE L B w (.slice (some ⟨rb, 0, none⟩) n cap) ys) (j : Nat) : w.frozen? ⟨rb, j, none⟩ = false := by
 have hn := h.seq.dims.1
 obtain ⟨vals, hv, hr⟩ := h
 subst hn
 exact World.ownsRow.frozenAt hv j
end

theorem pt_put4 (vals : List Value) (k j : Nat) (a b c d : Value) (hk : (k + 1) * 4 ≤ vals.length) : pt 4 ((((vals.set (k * 4) a).set (k * 4 + 1) b).set (k * 4 + 2) c).set (k * 4 + 3) d) j = if j = k then [a, b, c, d] else pt 4 vals j := by
 apply List.ext_getElem?
 intro i
 by_cases hi : i < 4
 ·rw [pt_get _ _ _ hi]
  simp only [List.getElem?_set, List.length_set]
  by_cases e : j = k
  ·subst e
   rw [if_pos rfl]
   match i, hi with
   | 0, _ => rw [if_neg (by omega), if_neg (by omega), if_neg (by omega), if_pos (by omega), if_pos (by omega)]; rfl
   | 1, _ => rw [if_neg (by omega), if_neg (by omega), if_pos rfl, if_pos (by omega)]; rfl
   | 2, _ => rw [if_neg (by omega), if_pos rfl, if_pos (by omega)]; rfl
   | 3, _ => rw [if_pos rfl, if_pos (by omega)]; rfl
  ·rw [if_neg e, if_neg (by omega), if_neg (by omega), if_neg (by omega), if_neg (by omega), pt_get _ _ _ hi]
 ·have h1 : (pt 4 ((((vals.set (k * 4) a).set (k * 4 + 1) b).set (k * 4 + 2) c).set (k * 4 + 3) d) j).length ≤ 4 := by unfold pt; rw [List.length_take]; omega
  rw [List.getElem?_eq_none (by omega)]
  split
  ·rw [List.getElem?_eq_none (by simp; omega)]
  ·have h2 : (pt 4 vals j).length ≤ 4 := by unfold pt; rw [List.length_take]; omega
   rw [List.getElem?_eq_none (by omega)]
def put4 (w : World) (g o : Nat) (a b c d : Value) : World := (((w.setCell ⟨g, o, none⟩ a).setCell ⟨g, o + 1, none⟩ b).setCell ⟨g, o + 2, none⟩ c).setCell ⟨g, o + 3, none⟩ d
theorem put4_size (w : World) (g o : Nat) (a b c d : Value) : (put4 w g o a b c d).heap.size = w.heap.size := by simp [put4, World.setCell]
theorem put4_other (w : World) (g o : Nat) (a b c d : Value) {k : Nat} (h : k ≠ g) : (put4 w g o a b c d).heap[k]? = w.heap[k]? := by
 have e : ∀ (u : World) (i : Nat) (x : Value), (u.setCell ⟨g, i, none⟩ x).heap[k]? = u.heap[k]? := fun u i x => Below.heap_setCell _ _ _ _ h
 exact (e _ _ _).trans ((e _ _ _).trans ((e _ _ _).trans (e _ _ _)))
theorem put4_below {B : Nat} (w : World) {g : Nat} (hB : B ≤ g) (o : Nat) (a b c d : Value) : Below B w (put4 w g o a b c d) :=
 ((((Below.refl B w).setCell (p := ⟨g, o, none⟩) hB a).setCell (p := ⟨g, o + 1, none⟩) hB b).setCell (p := ⟨g, o + 2, none⟩) hB c).setCell (p := ⟨g, o + 3, none⟩) hB d
section
variable {B : Nat} {w : World} {rb n cap : Nat} {ys : List PTxn}
theorem OwnE.txnAt (h : OwnE LTxn B w (.slice (some ⟨rb, 0, none⟩) n cap) ys) {j : Nat} {x : PTxn} (hj : ys[j]? = some x) :
  ∃ da dn dc ea en ec, TxnAt w rb (j * 4) x (.slice da dn dc) (.slice ea en ec) ∧ Sq LInt (fun b => b < w.heap.size ∧ b ≠ rb) w (.slice da dn dc) x.deps ∧ Sq LEff (fun b => b < w.heap.size ∧ b ≠ rb) w (.slice ea en ec) x.effs := by
 have hn := h.seq.dims.1
 subst hn
 obtain ⟨vals, ho, hr⟩ := h
 obtain ⟨dv, ev, e, hd, he⟩ := hr.2 j x hj
 have hlt : j < ys.length := (List.getElem?_eq_some_iff.1 hj).1
 have g : ∀ i v, i < 4 → (cellsTx x dv ev)[i]? = some v → w.cell? ⟨rb, j * 4 + i, none⟩ = some v := fun i v hi hv => by
  rw [World.ownsRow.cellAt ho (j * 4 + i) (show _ < ys.length * 4 by omega), ← pt_get (k := 4) vals j i hi]
  have e' : pt 4 vals j = cellsTx x dv ev := e
  rw [e', hv]
 have hb : ∀ b, (b < w.heap.size ∧ (Value.slice (some ⟨rb, 0, none⟩) ys.length cap).ownBlock ≠ some b) → b < w.heap.size ∧ b ≠ rb := fun b hb => ⟨hb.1, fun e => hb.2 (by rw [e]; rfl)⟩
 obtain ⟨da, dc, rfl, -⟩ := SeqE.parts (L := LInt) (hd.mono fun b hb => hb.1)
 obtain ⟨ea, ec, rfl, -⟩ := SeqE.parts (L := LEff) (he.mono fun b hb => hb.1)
 exact ⟨_, _, _, _, _, _, ⟨g 0 _ (by omega) rfl, g 1 _ (by omega) rfl, g 2 _ (by omega) rfl, g 3 _ (by omega) rfl⟩, hd.mono hb, he.mono hb⟩
theorem OwnE.put4 (h : OwnE LTxn B w (.slice (some ⟨rb, 0, none⟩) n cap) ys) {i : Nat} (hi : i < n) {x : PTxn} {dv ev : Value} (hd : Sq LInt (fun b => b < w.heap.size ∧ b ≠ rb) w dv x.deps) (he : Sq LEff (fun b => b < w.heap.size ∧ b ≠ rb) w ev x.effs) :
  OwnE LTxn B (put4 w rb (i * 4) (.int .i64 x.node) (.int .i64 x.seq) dv ev) (.slice (some ⟨rb, 0, none⟩) n cap) (ys.set i x) := by
 have hn := h.seq.dims.1
 subst hn
 obtain ⟨vals, ho, hr⟩ := h
 have h1 := (World.ownsRow.stored ho (i * 4) (.int .i64 x.node)).1
 have h2 := (World.ownsRow.stored h1 (i * 4 + 1) (.int .i64 x.seq)).1
 have h3 := (World.ownsRow.stored h2 (i * 4 + 2) dv).1
 have h4 := (World.ownsRow.stored h3 (i * 4 + 3) ev).1
 have hvl : vals.length = ys.length * 4 := hr.1
 have hlen := h4.1
 have hne : ∀ b, b ≠ rb → (Go.Proofs.YtajfliemmfdnhaaGreat.put4 w rb (i * 4) (.int .i64 x.node) (.int .i64 x.seq) dv ev).heap[b]? = w.heap[b]? := fun b e => put4_other _ _ _ _ _ _ _ e
 have hsz := put4_size w rb (i * 4) (.int .i64 x.node) (.int .i64 x.seq) dv ev
 have hback : ∀ b, b < w.heap.size ∧ b ≠ rb → b < (Go.Proofs.YtajfliemmfdnhaaGreat.put4 w rb (i * 4) (.int .i64 x.node) (.int .i64 x.seq) dv ev).heap.size ∧ (Value.slice (some ⟨rb, 0, none⟩) ys.length cap).ownBlock ≠ some b := fun b hb => ⟨by rw [hsz]; exact hb.1, fun e => hb.2 (by cases e; rfl)⟩
 have hold : ∀ b, b < w.heap.size ∧ (Value.slice (some ⟨rb, 0, none⟩) ys.length cap).ownBlock ≠ some b → b < w.heap.size ∧ b ≠ rb := fun b hb => ⟨hb.1, fun e => hb.2 (by rw [e]; rfl)⟩
 have hyl : (ys.set i x).length = ys.length := List.length_set
 refine ⟨_, by rw [hyl]; exact h4, ⟨by rw [hyl]; exact hlen, fun j y hj => ?_⟩⟩
 show RTxn _ _ (pt 4 _ j) y
 rw [pt_put4 vals i j _ _ _ _ (by omega)]
 rw [List.getElem?_set] at hj
 by_cases e : j = i
 ·subst e
  rw [if_pos rfl, if_pos hi] at hj
  obtain rfl := Option.some.inj hj
  rw [if_pos rfl]
  exact ⟨dv, ev, rfl, (hd.agree fun b hb => hne b hb.2).mono hback, (he.agree fun b hb => hne b hb.2).mono hback⟩
 ·rw [if_neg (fun x => e x.symm)] at hj
  rw [if_neg e]
  exact monoTx (agreeTx (monoTx (hr.2 j y hj) hold) fun b hb => hne b hb.2) hback
end

structure LoneTx (N : Nat) (u : World) (rb c : Nat) (xs : List PTxn) (k : Nat) (vals : List Value) : Prop where
 own : u.ownsRow N 29 4 (.slice (some ⟨rb, 0, none⟩) xs.length c) xs.length vals
 len : vals.length = xs.length * 4
 each : ∀ j x, xs[j]? = some x → RTxn (fun b => (j < k → N ≤ b) ∧ b < u.heap.size ∧ b ≠ rb) u (pt 4 vals j) x
section
variable {N : Nat} {u u' : World} {rb c : Nat} {xs : List PTxn} {k : Nat} {vals : List Value}
theorem LoneTx.start (h : OwnE LTxn N u (.slice (some ⟨rb, 0, none⟩) xs.length c) xs) : ∃ vals, LoneTx N u rb c xs 0 vals := by
 obtain ⟨vals, ho, hr⟩ := h
 exact ⟨vals, ho, hr.1, fun j x hj => monoTx (hr.2 j x hj) fun b hb => ⟨fun h => absurd h (Nat.not_lt_zero _), hb.1, fun e => hb.2 (by rw [e]; rfl)⟩⟩
theorem LoneTx.below (h : LoneTx N u rb c xs k vals) (hb : Below u.heap.size u u') : LoneTx N u' rb c xs k vals := by
 refine ⟨⟨h.own.1, ?_⟩, h.len, fun j x hj => monoTx (agreeTx (h.each j x hj) fun b hl => hb.block b hl.2.1) fun b hl => ⟨hl.1, Nat.lt_of_lt_of_le hl.2.1 hb.size, hl.2.2⟩⟩
 rcases h.own.2 with hn | ⟨g, cap, cur, hv, hb', hg, hr'⟩
 ·exact .inl hn
 ·exact .inr ⟨g, cap, cur, hv, hb', (hb.block g (Array.getElem?_eq_some_iff.1 hg).1).trans hg, hr'⟩
theorem LoneTx.lt (h : LoneTx N u rb c xs k vals) : N ≤ rb ∧ rb < u.heap.size := World.ownsRow.lt h.own rb rfl
theorem LoneTx.at (h : LoneTx N u rb c xs k vals) {j : Nat} {x : PTxn} (hj : xs[j]? = some x) :
  ∃ da dn dc ea en ec, TxnAt u rb (j * 4) x (.slice da dn dc) (.slice ea en ec) ∧ Sq LInt (fun b => b < u.heap.size ∧ b ≠ rb) u (.slice da dn dc) x.deps ∧ Sq LEff (fun b => b < u.heap.size ∧ b ≠ rb) u (.slice ea en ec) x.effs := by
 obtain ⟨dv, ev, e, hd, he⟩ := h.each j x hj
 have hlt : j < xs.length := (List.getElem?_eq_some_iff.1 hj).1
 have g : ∀ i v, i < 4 → (cellsTx x dv ev)[i]? = some v → u.cell? ⟨rb, j * 4 + i, none⟩ = some v := fun i v hi hv => by
  rw [World.ownsRow.cellAt h.own (j * 4 + i) (by omega), ← pt_get vals j i hi, e, hv]
 obtain ⟨da, dc, rfl, -⟩ := SeqE.parts (L := LInt) (hd.mono fun b hb => hb.2.1)
 obtain ⟨ea, ec, rfl, -⟩ := SeqE.parts (L := LEff) (he.mono fun b hb => hb.2.1)
 exact ⟨_, _, _, _, _, _, ⟨g 0 _ (by omega) rfl, g 1 _ (by omega) rfl, g 2 _ (by omega) rfl, g 3 _ (by omega) rfl⟩, hd.mono fun b hb => hb.2, he.mono fun b hb => hb.2⟩
theorem pt_two4 (vals : List Value) (k j : Nat) (c d : Value) (hk : (k + 1) * 4 ≤ vals.length) : pt 4 ((vals.set (k * 4 + 2) c).set (k * 4 + 3) d) j = if j = k then ((pt 4 vals k).set 2 c).set 3 d else pt 4 vals j := by
 have hl : (pt 4 vals k).length = 4 := by unfold pt; rw [List.length_take, List.length_drop]; omega
 apply List.ext_getElem?
 intro i
 by_cases hi : i < 4
 ·rw [pt_get _ _ _ hi]
  by_cases e : j = k
  ·subst e
   rw [if_pos rfl]
   simp only [List.getElem?_set, List.length_set, hl]
   match i, hi with
   | 0, _ => rw [if_neg (by omega), if_neg (by omega), if_neg (by omega), if_neg (by omega), pt_get _ _ _ (by omega)]
   | 1, _ => rw [if_neg (by omega), if_neg (by omega), if_neg (by omega), if_neg (by omega), pt_get _ _ _ (by omega)]
   | 2, _ => rw [if_neg (by omega), if_pos rfl, if_pos (by omega), if_neg (by omega), if_pos rfl, if_pos (by omega)]
   | 3, _ => rw [if_pos rfl, if_pos (by omega), if_pos rfl, if_pos (by omega)]
  ·rw [if_neg e]
   simp only [List.getElem?_set, List.length_set]
   rw [if_neg (by omega), if_neg (by omega), pt_get _ _ _ hi]
 ·have h1 : (pt 4 ((vals.set (k * 4 + 2) c).set (k * 4 + 3) d) j).length ≤ 4 := by unfold pt; rw [List.length_take]; omega
  rw [List.getElem?_eq_none (by omega)]
  split
  ·rw [List.getElem?_eq_none (by rw [List.length_set, List.length_set, hl]; omega)]
  ·have h2 : (pt 4 vals j).length ≤ 4 := by unfold pt; rw [List.length_take]; omega
   rw [List.getElem?_eq_none (by omega)]
theorem LoneTx.set (h : LoneTx N u rb c xs k vals) {x : PTxn} (hk : xs[k]? = some x) {dv ev : Value} (hd : Sq LInt (fun b => N ≤ b ∧ b < u.heap.size ∧ b ≠ rb) u dv x.deps) (he : Sq LEff (fun b => N ≤ b ∧ b < u.heap.size ∧ b ≠ rb) u ev x.effs) :
  LoneTx N ((u.setCell ⟨rb, k * 4 + 2, none⟩ dv).setCell ⟨rb, k * 4 + 3, none⟩ ev) rb c xs (k + 1) ((vals.set (k * 4 + 2) dv).set (k * 4 + 3) ev) := by
 have hlt : k < xs.length := (List.getElem?_eq_some_iff.1 hk).1
 have hs : ((u.setCell ⟨rb, k * 4 + 2, none⟩ dv).setCell ⟨rb, k * 4 + 3, none⟩ ev).heap.size = u.heap.size := by simp [World.setCell]
 have hvl := h.len
 have e1 : ∀ (u : World) (i : Nat) (x : Value) b, b ≠ rb → (u.setCell ⟨rb, i, none⟩ x).heap[b]? = u.heap[b]? := fun u i x b hb => Below.heap_setCell _ _ _ _ hb
 have hne : ∀ b, b ≠ rb → ((u.setCell ⟨rb, k * 4 + 2, none⟩ dv).setCell ⟨rb, k * 4 + 3, none⟩ ev).heap[b]? = u.heap[b]? := fun b e => (e1 _ _ _ _ e).trans (e1 _ _ _ _ e)
 refine ⟨(World.ownsRow.stored (World.ownsRow.stored h.own (k * 4 + 2) dv).1 (k * 4 + 3) ev).1, by rw [List.length_set, List.length_set]; exact h.len, fun j y hj => ?_⟩
 rw [pt_two4 vals k j dv ev (by omega)]
 by_cases e : j = k
 ·subst e
  rw [hk] at hj
  cases hj
  rw [if_pos rfl]
  obtain ⟨dv0, ev0, e0, -⟩ := h.each j x hk
  rw [e0]
  exact ⟨dv, ev, rfl, (hd.agree fun b hb => hne b hb.2.2).mono fun b hb => ⟨fun _ => hb.1, by rw [hs]; exact hb.2.1, hb.2.2⟩, (he.agree fun b hb => hne b hb.2.2).mono fun b hb => ⟨fun _ => hb.1, by rw [hs]; exact hb.2.1, hb.2.2⟩⟩
 ·rw [if_neg e]
  exact monoTx (agreeTx (h.each j y hj) fun b hb => hne b hb.2.2) fun b hb => ⟨fun hl => hb.1 (by omega), by rw [hs]; exact hb.2.1, hb.2.2⟩
theorem LoneTx.done (h : LoneTx N u rb c xs xs.length vals) : Sq LTxn (fun b => N ≤ b ∧ b < u.heap.size) u (.slice (some ⟨rb, 0, none⟩) xs.length c) xs := by
 have hlt := h.lt
 have hd := World.ownsRow.cellAt h.own
 rcases h.own.2 with ⟨e, -⟩ | ⟨g, cap, cur, hv, hb', hg, hnc, hcm, hcs, ht⟩
 ·cases e
 ·simp only [Value.slice.injEq, Option.some.injEq, Addr.mk.injEq, and_true, true_and] at hv
  obtain ⟨rfl, rfl⟩ := hv
  refine ⟨_, c, vals, rfl, hnc, hcm, (by simp), ⟨h.len, fun j x hj => monoTx (h.each j x hj) fun b hb => ⟨hb.1 (List.getElem?_eq_some_iff.1 hj).1, hb.2.1⟩⟩, fun hp => ⟨rb, 0, rfl, hlt, fun i v hi => ?_⟩⟩
  have hil : i < xs.length * 4 := by rw [← h.len]; exact (List.getElem?_eq_some_iff.1 hi).1
  rw [Nat.zero_add, hd i hil, hi]
theorem LoneTx.bare (h : LoneTx N u rb c xs k vals) (j : Nat) : u.frozen? ⟨rb, j, none⟩ = false := World.ownsRow.frozenAt h.own j
theorem LoneTx.dims (h : LoneTx N u rb c xs k vals) : xs.length ≤ c ∧ c ≤ 9223372036854775807 := by
 rcases h.own.2 with ⟨e, -⟩ | ⟨g, cap, cur, hv, hb', hg, hnc, hcm, hcs, ht⟩
 ·cases e
 ·simp only [Value.slice.injEq, Option.some.injEq, Addr.mk.injEq, and_true, true_and] at hv
  obtain ⟨rfl, rfl⟩ := hv
  exact ⟨hnc, hcm⟩
end
end Go.Proofs.YtajfliemmfdnhaaGreat
