/- The document's own Push of queues. (Written by gen-qudpush.py.) -/
import Derived.Test.YtmknpmamkjjiaaaGreatQuDoc
import Derived.Test.YtmknpmamkjjiaaaGreatRefTxOC
import Derived.Test.YtmknpmamkjjiaaaGreatRefTxF2
import Derived.Deep.Cut
import Derived.Carry
namespace Go.Proofs.YtmknpmamkjjiaaaGreat
open Go.RowKit Plain
set_option linter.unusedVariables false

theorem FitTx.aloneQ {l : List PTxn} (h : ∀ t ∈ l, FitTx t) : ∀ t ∈ l, t.deps.length ≤ 1000000 ∧ t.effs.length ≤ 1000000 ∧ ∀ e ∈ t.effs, e.drops.length ≤ 1000000 := fun t ht => ⟨by have := (h t ht).deps; omega, by have := (h t ht).effs; omega, fun e he => by have := (h t ht).drops e he; omega⟩
/-- a queue and an error's number -/
def GivesRq (w : World) (q : PQueue) (x : Int) (e : Ending) (w' : World) : Prop := ∃ u, e = .returned (.tuple #[u, .int .i64 x]) ∧ IsQueue w' u q ∧ Below w.heap.size w w'
/-- a row of one transaction, laid down: its block, and what the transaction looked at -/
theorem one_txnD {W : World} {N : Nat} {t : PTxn} {dv ev : Value} (hd : Sq LInt (fun b => b < N) W dv t.deps) (he : Sq LEff (fun b => b < N) W ev t.effs) (hN : N ≤ W.heap.size) : Sq LTxn (fun b => b < N ∨ b = W.heap.size) (W.alloc (.cells #[.int .i64 t.node, .int .i64 t.seq, dv, ev] 29)) (.slice (some ⟨W.heap.size, 0, none⟩) 1 1) [t] :=
 (one_txnQ (J := fun b => b < N ∨ b = W.heap.size) (N := fun b => b < N) (ov := .slice none 0 0) hd he (fun b h => Nat.lt_of_lt_of_le h hN) (fun b h => .inl h) (.inr rfl) (fun k h => nil_own h)).mono fun b h => h.1
set_option maxRecDepth 100000 in
set_option maxHeartbeats 16000000 in
/-- the document's own Push -/
theorem rqpush_any {v tv : Value} {q : PQueue} {t : PTxn} {w : World} (h : IsQueue w v q) (ht : IsTxn w tv t) (hl : q.list.length ≤ 1000000) (hf : ∀ t ∈ q.list, FitTx t) (hft : FitTx t) : Calls Tryz.prog 10 #[v, tv] w (GivesRq w (qPush q t) (qErr q t)) := by
 obtain ⟨la, n, lc, rfl, hn, h1⟩ := h
 obtain ⟨da, dn, dc, ea, en, ec, rfl, k1, k2⟩ := ht.parts
 have R0 : Hid (QpAt w q.most la n lc t.node t.seq (.slice da dn dc) (.slice ea en ec) (((w.alloc (.cells #[.int .i64 q.most, .slice la n lc] 24)).alloc (.cells #[.int .i64 t.node, .int .i64 t.seq, .slice da dn dc, .slice ea en ec] 29)).alloc (.cells #[.int .i64 0, .slice none 0 0] 24))) := Lib.hid (qpat_new w q.most la n lc t.node t.seq (.slice da dn dc) (.slice ea en ec))
 have KT := Lib.hid (fun u (hb : Below w.heap.size w u) => (⟨_, _, rfl, k1.below hb, k2.below hb⟩ : IsTxn u (.agg #[.int .i64 t.node, .int .i64 t.seq, .slice da dn dc, .slice ea en ec]) t))
 have KD := Lib.hid (fun u (hb : Below w.heap.size w u) => (IsTxnIn.below (Q := fun b => b < w.heap.size) (v := .agg #[.int .i64 t.node, .int .i64 t.seq, .slice da dn dc, .slice ea en ec]) (t := t) ⟨_, _, rfl, k1, k2⟩ hb (fun b h => h)))
 have KF0 := Lib.hid (fun u (hb : Below w.heap.size w u) r hr => rtformedP (KT.out u hb) (fun e he => by have := hft.drops e he; omega) (fun e he => ⟨(hft.ok.2.2.2 e he).2.2.2.2.1, (hft.ok.2.2.2 e he).2.2.2.2.2.1⟩) (by have := hft.deps; omega) r hr)
 have KC := Lib.hid (fun u (hb : Below w.heap.size w u) => rcopyTx_any (v := .slice la n lc) (xs := q.list) (SeqE.below h1 hb) hl (FitTx.aloneQ hf))
 have E1 := Lib.hid (fun h => qErr_form (q := q) (t := t) h)
 have E2 := Lib.hid (fun h h1 => qErr_gap (q := q) (t := t) h h1)
 have E3 := Lib.hid (fun h h1 h2 => qErr_full (q := q) (t := t) h h1 h2)
 have E4 := Lib.hid (fun h h1 h2 => qErr_ok (q := q) (t := t) h h1 h2)
 have HFN := Lib.hid (fun h => qFormed_node (t := t) h)
 have HS := Lib.hid h1
 have HN := Lib.hid hn
 have HL := Lib.hid hl
 have HD := SeqE.dims (L := LTxn) (show SeqE LTxn w (.slice la n lc) q.list from h1)
 have hnl : (n : Int) ≤ lc := by have := HD.2; omega
 have hnl2 : (lc : Int) ≤ 9223372036854775807 := by have := HD.2; omega
 clear ht hl hf hft h1 hn k1 k2 KT HD
 rw [← HN.out] at E3 E4
 have N0 := Lib.hid (qNext_nil (l := q.list) (t := t))
 have N1 := Lib.hid (qNext_node (l := q.list) (t := t))
 have N2 := Lib.hid (qNext_at (l := q.list) (t := t))
 generalize qNext q.list t = nb at *
 generalize qErr q t = er at *
 generalize qPush q t = res at *
 obtain ⟨fb, hfb⟩ : ∃ b, tformedB t = b := ⟨_, rfl⟩
 have KF := Lib.hid (fun u hb => KF0.out u hb fb hfb)
 rw [hfb] at E1 E2 E3 E4 HFN
 clear hfb KF0
 generalize q.list = l at *
 generalize q.most = qm at *
 go_enter Tryz.func10, Tryz.ntmps10
 go_upto_region 1 with fail
 generalize (((w.alloc (.cells #[.int .i64 qm, .slice la n lc] 24)).alloc (.cells #[.int .i64 t.node, .int .i64 t.seq, .slice da dn dc, .slice ea en ec] 29)).alloc (.cells #[.int .i64 0, .slice none 0 0] 24)) = w0 at *
 obtain ⟨⟨d0, d1⟩, -⟩ := R0.out.pb.c
 obtain ⟨c0, c1, c2, c3⟩ := R0.out.tc
 have K1 := Lib.hid (KF.out _ R0.out.low)
 go_wp2_with fail
 refine K1.out.mono ?_
 rintro e w1 ⟨rfl, hb⟩
 have R1 := Lib.hid (R0.out.below hb)
 clear hb R0 K1 KF c0 c1 c2 c3 d0 d1
 cases fb with
 | false =>
  have HE := Lib.hid (E1.out rfl)
  obtain ⟨⟨y0, y1⟩, f0, f1⟩ := R1.out.rb.c
  have Z := Lib.hid (R1.out.rb.put 0 none 0 0).c.1
  have ZB : Hid (Below w.heap.size w ((w1.setCell ⟨w.heap.size + 1 + 1, 0, none⟩ (.int .i64 0)).setCell ⟨w.heap.size + 1 + 1, 1, none⟩ (.slice none 0 0))) := Lib.hid ((R1.out.low.setCell (by show w.heap.size ≤ w.heap.size + 1 + 1; omega) _).setCell (by show w.heap.size ≤ w.heap.size + 1 + 1; omega) _)
  go_wp2_with fail
  obtain ⟨z0, z1⟩ := Z.out
  refine bodyPost_ret (v := .tuple #[.agg #[.int .i64 0, .slice none 0 0], .int .i64 2]) (by simp [results, Tryz.results10, go_sem, z0, z1]) rfl ?_
  rw [HE.out.1, HE.out.2]
  exact ⟨_, rfl, ⟨none, 0, 0, rfl, rfl, sqNil _ _⟩, ZB.out⟩
 | true =>
  have hs1 := (HFN.out (by trivial)).2.2.1
  have hs2 := (HFN.out (by trivial)).2.2.2
  have hW := seq_wrap hs1 (by omega)
  clear hs1 hs2
  by_cases hz : n = 0
  ·have hl0 : l.length = 0 := HN.out.symm.trans hz
   have HB0 := N0.out hl0
   have HB := Lib.hid HB0
   clear hl0 HB0
   obtain rfl : nb = true := HB.out
   have hz1 : ¬ (0 : Int) < (n : Int) := by omega
   clear N0 N1 N2 HB hz
   obtain ⟨⟨d0, d1⟩, -⟩ := R1.out.pb.c
   go_upto_region 8 with fail
   clear d0 d1
   by_cases hfull : qm ≤ (n : Int)
   ·have HE := Lib.hid (E3.out (by trivial) (by trivial) hfull)
    obtain ⟨⟨d0, d1⟩, -⟩ := R1.out.pb.c
    obtain ⟨⟨y0, y1⟩, f0, f1⟩ := R1.out.rb.c
    have Z := Lib.hid (R1.out.rb.put 0 none 0 0).c.1
    have ZB : Hid (Below w.heap.size w ((w1.setCell ⟨w.heap.size + 1 + 1, 0, none⟩ (.int .i64 0)).setCell ⟨w.heap.size + 1 + 1, 1, none⟩ (.slice none 0 0))) := Lib.hid ((R1.out.low.setCell (by show w.heap.size ≤ w.heap.size + 1 + 1; omega) _).setCell (by show w.heap.size ≤ w.heap.size + 1 + 1; omega) _)
    go_wp2_with fail
    obtain ⟨z0, z1⟩ := Z.out
    refine bodyPost_ret (v := .tuple #[.agg #[.int .i64 0, .slice none 0 0], .int .i64 6]) (by simp [results, Tryz.results10, go_sem, z0, z1]) rfl ?_
    rw [HE.out.1, HE.out.2]
    exact ⟨_, rfl, ⟨none, 0, 0, rfl, rfl, sqNil _ _⟩, ZB.out⟩
   have HE := Lib.hid (E4.out (by trivial) (by trivial) (by omega))
   obtain ⟨⟨d0, d1⟩, -⟩ := R1.out.pb.c
   go_upto_region 10 with fail
   clear d0 d1
   have KE : Hid (∀ x, Below w1.heap.size w1 x → Below w.heap.size w x ∧ (x.cell? ⟨w.heap.size, 0, none⟩ = some (.int .i64 qm) ∧ x.cell? ⟨w.heap.size, 1, none⟩ = some (.slice la n lc)) ∧ (x.cell? ⟨w.heap.size + 1, 0, none⟩ = some (.int .i64 t.node) ∧ x.cell? ⟨w.heap.size + 1, 1, none⟩ = some (.int .i64 t.seq) ∧ x.cell? ⟨w.heap.size + 1, 2, none⟩ = some (.slice da dn dc) ∧ x.cell? ⟨w.heap.size + 1, 3, none⟩ = some (.slice ea en ec))) := Lib.hid (fun x hb => ⟨(R1.out.below hb).low, (R1.out.below hb).pb.c.1, (R1.out.below hb).tc⟩)
   have ZW3 : Hid (w.heap.size + 3 ≤ w1.heap.size) := Lib.hid R1.out.rb.lt
   have KL : Hid (l.length = n ∧ n ≤ 1000000) := Lib.hid ⟨HN.out.symm, by have := HN.out; have := HL.out; omega⟩
   have KC2 := Lib.hid (fun x (hb : Below w1.heap.size w1 x) => KC.out x (R1.out.low.trans (hb.mono R1.out.low.size)))
   have KD2 := Lib.hid (fun x (hb : Below w1.heap.size w1 x) => KD.out x (R1.out.low.trans (hb.mono R1.out.low.size)))
   have BB : Hid (Below w1.heap.size w1 w1.drew) := Lib.hid (Below.refl _ _).drew
   clear KC KD
   refine wp_region_held_drew (S := fun u' => Below w.heap.size w u' ∧ (u'.cell? ⟨w.heap.size, 0, none⟩ = some (.int .i64 qm) ∧ u'.cell? ⟨w.heap.size, 1, none⟩ = some (.slice la n lc)) ∧ (u'.cell? ⟨w.heap.size + 1, 0, none⟩ = some (.int .i64 t.node) ∧ u'.cell? ⟨w.heap.size + 1, 1, none⟩ = some (.int .i64 t.seq) ∧ u'.cell? ⟨w.heap.size + 1, 2, none⟩ = some (.slice da dn dc) ∧ u'.cell? ⟨w.heap.size + 1, 3, none⟩ = some (.slice ea en ec))) (by kernel_rfl) ?_ (fun hHeld => ?_)
   ·(exact KE.out _ BB.out)
   simp only [List.size_toArray, List.length_cons, List.length_nil, Nat.zero_add, Nat.reduceAdd]
   refine tkA (i := 0) (v := ?_) rfl (by kernel_rfl) (fun _ _ _ h => h) (Or.inl ⟨by rfl, ?_⟩) hHeld ?_
   rotate_left
   ·(intro w' hSw; (try dsimp only at hSw); go_simp; try with_reducible rfl)
   simp only [List.getElem_toArray, List.getElem_cons_zero, Act.put, List.setIfInBounds_toArray, List.set_cons_zero, List.set_cons_succ]
   refine tkA (i := 1) (v := ?_) rfl (by kernel_rfl) (fun _ _ _ h => h) (Or.inl ⟨by rfl, ?_⟩) hHeld ?_
   rotate_left
   ·(intro w' hSw; (try dsimp only at hSw); go_simp; try with_reducible rfl)
   simp only [List.getElem_toArray, List.getElem_cons_zero, List.getElem_cons_succ, Act.put, List.setIfInBounds_toArray, List.set_cons_zero, List.set_cons_succ]
   refine tkA (i := 2) (v := ?_) rfl (by kernel_rfl) (fun _ _ _ h => h) (Or.inl ⟨by rfl, ?_⟩) hHeld ?_
   rotate_left
   ·(intro w' hSw; (try dsimp only at hSw); go_simp; try with_reducible rfl)
   simp only [List.getElem_toArray, List.getElem_cons_zero, List.getElem_cons_succ, Act.put, List.setIfInBounds_toArray, List.set_cons_zero, List.set_cons_succ]
   refine tkA (i := 3) (v := ?_) rfl (by kernel_rfl) (fun _ _ _ h => h) (Or.inl ⟨by rfl, ?_⟩) hHeld ?_
   rotate_left
   ·(intro w' hSw; (try dsimp only at hSw); go_simp; try with_reducible rfl)
   simp only [List.getElem_toArray, List.getElem_cons_zero, List.getElem_cons_succ, Act.put, List.setIfInBounds_toArray, List.set_cons_zero, List.set_cons_succ]
   refine tkA (i := 5) (v := ?_) rfl (by kernel_rfl) (fun _ _ _ h => h) (Or.inl ⟨by rfl, ?_⟩) hHeld ?_
   rotate_left
   ·(intro w' hSw; (try dsimp only at hSw); go_simp; try with_reducible rfl)
   simp only [List.getElem_toArray, List.getElem_cons_zero, List.getElem_cons_succ, Act.put, List.setIfInBounds_toArray, List.set_cons_zero, List.set_cons_succ]
   refine wpAnyH_ready (rs := [4, 6]) (by kernel_rfl) (by simp) ?_
   refine AllReadyH.cons rfl (fun K hK => ?_) (AllReadyH.cons rfl (fun K hK => ?_) AllReadyH.nil)
   ·skip
    go_simp
    refine (KC2.out _ BB.out).mono ?_
    rintro e s1 ⟨cv, rfl, ho, hb⟩
    obtain ⟨a5, c5, rfl, -, -, ho⟩ := ho.at n KL.out.1
    have OU : Hid (OwnJ (fun b => b < w.heap.size ∨ w1.heap.size ≤ b) LTxn w1.heap.size s1 (.slice a5 n c5) l) := Lib.hid ((ho.mono BB.out.size).imp fun b h => .inr (Nat.le_trans BB.out.size h))
    replace BB := Lib.hid (BB.out.trans (hb.mono BB.out.size))
    clear ho hb KC2
    refine hK.out _ _ (KE.out _ BB.out) (fun hHeld => ?_)
    clear hK K
    refine wpAnyH_ready (rs := [6]) (by kernel_rfl) (by simp) ?_
    refine AllReadyH.cons rfl (fun K hK => ?_) AllReadyH.nil
    go_simp
    have hb := (Below.refl s1.heap.size s1).alloc (Nat.le_refl _) (.cells #[.int .i64 t.node, .int .i64 t.seq, .slice da dn dc, .slice ea en ec] 29)
    have LX2 := Lib.hid (one_txnD (W := s1) (N := w.heap.size) (t := t) (KD2.out s1 BB.out).deps (KD2.out s1 BB.out).effs (by have := ZW3.out; have := BB.out.size; omega))
    have NB : Hid (∀ j, (Value.slice a5 n c5).ownBlock = some j → j ≠ s1.heap.size) := Lib.hid (fun j h => by have := (OU.out.lt j h).2; omega)
    replace OU := Lib.hid (OU.out.below hb (Nat.le_refl _))
    have BLT2 : Hid (w1.heap.size ≤ s1.heap.size ∧ s1.heap.size < (s1.alloc (.cells #[.int .i64 t.node, .int .i64 t.seq, .slice da dn dc, .slice ea en ec] 29)).heap.size) := Lib.hid ⟨BB.out.size, by simp⟩
    replace BB := Lib.hid (BB.out.trans (hb.mono BB.out.size))
    clear hb
    refine hK.out _ _ (KE.out _ BB.out) (fun hHeld => ?_)
    clear hK K
    generalize s1.heap.size = bl at *
    generalize (s1.alloc (.cells #[.int .i64 t.node, .int .i64 t.seq, .slice da dn dc, .slice ea en ec] 29)) = s2 at *
    refine wpAnyH_ready (rs := [7]) (by kernel_rfl) (by simp) ?_
    refine AllReadyH.cons rfl (fun K hK => ?_) AllReadyH.nil
    refine step_append_elQ (fun b => b < w.heap.size ∨ w1.heap.size ≤ b) LTxn (by rfl) (.tmp 46) (.tmp 48) (by rfl) (w1.heap.size) (by rfl) OU.out (by rfl) LX2.out (fun vs x h => LTxn.mono h fun b hb => ⟨by have := BLT2.out; rcases hb with h | h; exact .inl h; exact .inr (by omega), by have := BLT2.out; have := BB.out.size; have := ZW3.out; rcases hb with h | h <;> omega, fun e => by rcases hb with h | h; (have := (OU.out.lt b e).1; have := ZW3.out; omega); exact NB.out b e h⟩) (by have := KL.out; simp; omega) BB.out.size ?_
    intro v3 u3 ho hg hat
    obtain ⟨a6, c6, rfl, -, -, ho⟩ := ho.at (n + 1) (by have := KL.out; simp; omega)
    have O3 := Lib.hid ho
    replace BB := Lib.hid (BB.out.grown hg BB.out.size (fun j hj => (OU.out.lt j hj).1))
    clear ho hg hat LX2 OU NB BLT2
    refine hK.out _ _ (KE.out _ BB.out) (fun hHeld => ?_)
    clear hK K
    refine tkA (i := 8) (v := ?_) rfl (by kernel_rfl) (fun _ _ _ h => h) (Or.inl ⟨by rfl, ?_⟩) hHeld ?_
    rotate_left
    ·(intro w' hSw; (try dsimp only at hSw); go_simp; try with_reducible rfl)
    simp only [List.getElem_toArray, List.getElem_cons_zero, List.getElem_cons_succ, Act.put, List.setIfInBounds_toArray, List.set_cons_zero, List.set_cons_succ]
    have R9 := Lib.hid (R1.out.below BB.out)
    obtain ⟨⟨y0, y1⟩, g0, g1⟩ := R9.out.rb.c
    have Z := Lib.hid (R9.out.rb.put qm a6 (n + 1) c6).c.1
    have ZB : Hid (Below w.heap.size w ((u3.setCell ⟨w.heap.size + 1 + 1, 0, none⟩ (.int .i64 qm)).setCell ⟨w.heap.size + 1 + 1, 1, none⟩ (.slice a6 (n + 1) c6))) := Lib.hid ((R9.out.low.setCell (by show w.heap.size ≤ w.heap.size + 1 + 1; omega) _).setCell (by show w.heap.size ≤ w.heap.size + 1 + 1; omega) _)
    have ot : ∀ b, b ≠ w.heap.size + 1 + 1 → ((u3.setCell ⟨w.heap.size + 1 + 1, 0, none⟩ (.int .i64 qm)).setCell ⟨w.heap.size + 1 + 1, 1, none⟩ (.slice a6 (n + 1) c6)).heap[b]? = u3.heap[b]? := fun b h => (Below.heap_setCell _ _ _ _ h).trans (Below.heap_setCell _ _ _ _ h)
    have ZO : Hid (SeqE LTxn ((u3.setCell ⟨w.heap.size + 1 + 1, 0, none⟩ (.int .i64 qm)).setCell ⟨w.heap.size + 1 + 1, 1, none⟩ (.slice a6 (n + 1) c6)) (.slice a6 (n + 1) c6) (l ++ [t])) := Lib.hid (by
     have h := O3.out.sq (fun b h _ => .inr h)
     exact (h.agree fun b hb => ot b (by have h2 : b < w.heap.size ∨ w1.heap.size ≤ b := hb.1; have := ZW3.out; omega)).mono fun b hb => (by simpa [World.setCell] using hb.2))
    have SS : Hid (Below w.heap.size w ((u3.setCell ⟨w.heap.size + 1 + 1, 0, none⟩ (.int .i64 qm)).setCell ⟨w.heap.size + 1 + 1, 1, none⟩ (.slice a6 (n + 1) c6)) ∧ (((u3.setCell ⟨w.heap.size + 1 + 1, 0, none⟩ (.int .i64 qm)).setCell ⟨w.heap.size + 1 + 1, 1, none⟩ (.slice a6 (n + 1) c6)).cell? ⟨w.heap.size, 0, none⟩ = some (.int .i64 qm) ∧ ((u3.setCell ⟨w.heap.size + 1 + 1, 0, none⟩ (.int .i64 qm)).setCell ⟨w.heap.size + 1 + 1, 1, none⟩ (.slice a6 (n + 1) c6)).cell? ⟨w.heap.size, 1, none⟩ = some (.slice la n lc)) ∧ (((u3.setCell ⟨w.heap.size + 1 + 1, 0, none⟩ (.int .i64 qm)).setCell ⟨w.heap.size + 1 + 1, 1, none⟩ (.slice a6 (n + 1) c6)).cell? ⟨w.heap.size + 1, 0, none⟩ = some (.int .i64 t.node) ∧ ((u3.setCell ⟨w.heap.size + 1 + 1, 0, none⟩ (.int .i64 qm)).setCell ⟨w.heap.size + 1 + 1, 1, none⟩ (.slice a6 (n + 1) c6)).cell? ⟨w.heap.size + 1, 1, none⟩ = some (.int .i64 t.seq) ∧ ((u3.setCell ⟨w.heap.size + 1 + 1, 0, none⟩ (.int .i64 qm)).setCell ⟨w.heap.size + 1 + 1, 1, none⟩ (.slice a6 (n + 1) c6)).cell? ⟨w.heap.size + 1, 2, none⟩ = some (.slice da dn dc) ∧ ((u3.setCell ⟨w.heap.size + 1 + 1, 0, none⟩ (.int .i64 qm)).setCell ⟨w.heap.size + 1 + 1, 1, none⟩ (.slice a6 (n + 1) c6)).cell? ⟨w.heap.size + 1, 3, none⟩ = some (.slice ea en ec))) := Lib.hid ⟨ZB.out, (R9.out.pb.eq (ot _ (by omega))).c.1, (st4_cells ((ot (w.heap.size + 1) (by omega)).trans R9.out.tb)).1⟩
    clear ot R9 O3 BB KE
    refine wpAnyH_ready (rs := [9]) (by kernel_rfl) (by simp) ?_
    refine AllReadyH.cons rfl (fun K hK => ?_) AllReadyH.nil
    go_simp
    refine hK.out _ _ SS.out (fun hHeld => ?_)
    clear hK K SS y0 y1 g0 g1
    refine tkA (i := 10) (v := ?_) rfl (by kernel_rfl) (fun _ _ _ h => h) (Or.inl ⟨by rfl, ?_⟩) hHeld ?_
    rotate_left
    ·(intro w' hSw; (try dsimp only at hSw); go_simp; try with_reducible rfl)
    simp only [List.getElem_toArray, List.getElem_cons_zero, List.getElem_cons_succ, Act.put, List.setIfInBounds_toArray, List.set_cons_zero, List.set_cons_succ]
    refine wpAnyH_done (by kernel_rfl) ?_ _
    clear hHeld
    go_wp2_with fail
    obtain ⟨z0, z1⟩ := Z.out
    refine bodyPost_ret (v := .tuple #[.agg #[.int .i64 qm, .slice a6 (n + 1) c6], .int .i64 0]) (by simp [results, Tryz.results10, go_sem, z0, z1]) rfl ?_
    rw [HE.out.1, HE.out.2]
    exact ⟨_, rfl, ⟨a6, n + 1, c6, rfl, by rw [List.length_append, KL.out.1]; rfl, ZO.out⟩, ZB.out⟩
   ·skip
    go_simp
    have LX : Hid (Sq LTxn (fun b => b < w.heap.size ∨ b = w1.heap.size) (w1.alloc (.cells #[.int .i64 t.node, .int .i64 t.seq, .slice da dn dc, .slice ea en ec] 29)).drew (.slice (some ⟨w1.heap.size, 0, none⟩) 1 1) [t]) := Lib.hid (one_txnD (W := w1.drew) (N := w.heap.size) (t := t) (KD2.out _ BB.out).deps (KD2.out _ BB.out).effs (show w.heap.size ≤ w1.heap.size by have := ZW3.out; omega))
    have BLT : Hid (w1.heap.size ≤ w1.heap.size ∧ w1.heap.size < (w1.alloc (.cells #[.int .i64 t.node, .int .i64 t.seq, .slice da dn dc, .slice ea en ec] 29)).drew.heap.size) := Lib.hid ⟨Nat.le_refl _, show w1.heap.size < (w1.alloc (.cells #[.int .i64 t.node, .int .i64 t.seq, .slice da dn dc, .slice ea en ec] 29)).heap.size by simp⟩
    replace BB : Hid (Below w1.heap.size w1 (w1.alloc (.cells #[.int .i64 t.node, .int .i64 t.seq, .slice da dn dc, .slice ea en ec] 29)).drew) := Lib.hid (((Below.refl _ _).alloc (Nat.le_refl _) _).trans ((Below.refl _ _).drew.mono (show w1.heap.size ≤ (w1.alloc (.cells #[.int .i64 t.node, .int .i64 t.seq, .slice da dn dc, .slice ea en ec] 29)).heap.size by simp)))
    refine hK.out _ _ (KE.out _ BB.out) (fun hHeld => ?_)
    clear hK K
    generalize (w1.alloc (.cells #[.int .i64 t.node, .int .i64 t.seq, .slice da dn dc, .slice ea en ec] 29)).drew = s0 at *
    obtain ⟨bl, hbl⟩ : ∃ b, b = w1.heap.size := ⟨_, rfl⟩
    have LX1 : Hid (Sq LTxn (fun b => b < w.heap.size ∨ b = bl) s0 (.slice (some ⟨bl, 0, none⟩) 1 1) [t]) := Lib.hid (by rw [hbl]; exact LX.out)
    have BLT1 : Hid (w1.heap.size ≤ bl ∧ bl < s0.heap.size) := Lib.hid (by rw [hbl]; exact BLT.out)
    rw [show (Value.slice (some ⟨w1.heap.size, 0, none⟩) 1 1) = .slice (some ⟨bl, 0, none⟩) 1 1 by rw [hbl]]
    clear LX BLT hbl
    have LX := LX1
    have BLT := BLT1
    clear LX1 BLT1
    refine wpAnyH_ready (rs := [4]) (by kernel_rfl) (by simp) ?_
    refine AllReadyH.cons rfl (fun K hK => ?_) AllReadyH.nil
    go_simp
    refine (KC2.out _ BB.out).mono ?_
    rintro e s1 ⟨cv, rfl, ho, hb⟩
    obtain ⟨a5, c5, rfl, -, -, ho⟩ := ho.at n KL.out.1
    have OU : Hid (OwnJ (fun b => b < w.heap.size ∨ w1.heap.size ≤ b) LTxn w1.heap.size s1 (.slice a5 n c5) l) := Lib.hid ((ho.mono BB.out.size).imp fun b h => .inr (Nat.le_trans BB.out.size h))
    have NB : Hid (∀ j, (Value.slice a5 n c5).ownBlock = some j → j ≠ bl) := Lib.hid (fun j h => by have := (ho.lt j h).1; have := BLT.out; omega)
    have LX2 := Lib.hid (Sq.agree LX.out fun b h => hb.block b (by have := BLT.out; have := BB.out.size; have := ZW3.out; rcases h with h | h <;> omega))
    have BLT2 : Hid (w1.heap.size ≤ bl ∧ bl < s1.heap.size) := Lib.hid ⟨BLT.out.1, Nat.lt_of_lt_of_le BLT.out.2 hb.size⟩
    clear LX BLT
    replace BB := Lib.hid (BB.out.trans (hb.mono BB.out.size))
    clear ho hb KC2
    refine hK.out _ _ (KE.out _ BB.out) (fun hHeld => ?_)
    clear hK K
    refine wpAnyH_ready (rs := [7]) (by kernel_rfl) (by simp) ?_
    refine AllReadyH.cons rfl (fun K hK => ?_) AllReadyH.nil
    refine step_append_elQ (fun b => b < w.heap.size ∨ w1.heap.size ≤ b) LTxn (by rfl) (.tmp 46) (.tmp 48) (by rfl) (w1.heap.size) (by rfl) OU.out (by rfl) LX2.out (fun vs x h => LTxn.mono h fun b hb => ⟨by have := BLT2.out; rcases hb with h | h; exact .inl h; exact .inr (by omega), by have := BLT2.out; have := BB.out.size; have := ZW3.out; rcases hb with h | h <;> omega, fun e => by rcases hb with h | h; (have := (OU.out.lt b e).1; have := ZW3.out; omega); exact NB.out b e h⟩) (by have := KL.out; simp; omega) BB.out.size ?_
    intro v3 u3 ho hg hat
    obtain ⟨a6, c6, rfl, -, -, ho⟩ := ho.at (n + 1) (by have := KL.out; simp; omega)
    have O3 := Lib.hid ho
    replace BB := Lib.hid (BB.out.grown hg BB.out.size (fun j hj => (OU.out.lt j hj).1))
    clear ho hg hat LX2 OU NB BLT2
    refine hK.out _ _ (KE.out _ BB.out) (fun hHeld => ?_)
    clear hK K
    refine tkA (i := 8) (v := ?_) rfl (by kernel_rfl) (fun _ _ _ h => h) (Or.inl ⟨by rfl, ?_⟩) hHeld ?_
    rotate_left
    ·(intro w' hSw; (try dsimp only at hSw); go_simp; try with_reducible rfl)
    simp only [List.getElem_toArray, List.getElem_cons_zero, List.getElem_cons_succ, Act.put, List.setIfInBounds_toArray, List.set_cons_zero, List.set_cons_succ]
    have R9 := Lib.hid (R1.out.below BB.out)
    obtain ⟨⟨y0, y1⟩, g0, g1⟩ := R9.out.rb.c
    have Z := Lib.hid (R9.out.rb.put qm a6 (n + 1) c6).c.1
    have ZB : Hid (Below w.heap.size w ((u3.setCell ⟨w.heap.size + 1 + 1, 0, none⟩ (.int .i64 qm)).setCell ⟨w.heap.size + 1 + 1, 1, none⟩ (.slice a6 (n + 1) c6))) := Lib.hid ((R9.out.low.setCell (by show w.heap.size ≤ w.heap.size + 1 + 1; omega) _).setCell (by show w.heap.size ≤ w.heap.size + 1 + 1; omega) _)
    have ot : ∀ b, b ≠ w.heap.size + 1 + 1 → ((u3.setCell ⟨w.heap.size + 1 + 1, 0, none⟩ (.int .i64 qm)).setCell ⟨w.heap.size + 1 + 1, 1, none⟩ (.slice a6 (n + 1) c6)).heap[b]? = u3.heap[b]? := fun b h => (Below.heap_setCell _ _ _ _ h).trans (Below.heap_setCell _ _ _ _ h)
    have ZO : Hid (SeqE LTxn ((u3.setCell ⟨w.heap.size + 1 + 1, 0, none⟩ (.int .i64 qm)).setCell ⟨w.heap.size + 1 + 1, 1, none⟩ (.slice a6 (n + 1) c6)) (.slice a6 (n + 1) c6) (l ++ [t])) := Lib.hid (by
     have h := O3.out.sq (fun b h _ => .inr h)
     exact (h.agree fun b hb => ot b (by have h2 : b < w.heap.size ∨ w1.heap.size ≤ b := hb.1; have := ZW3.out; omega)).mono fun b hb => (by simpa [World.setCell] using hb.2))
    have SS : Hid (Below w.heap.size w ((u3.setCell ⟨w.heap.size + 1 + 1, 0, none⟩ (.int .i64 qm)).setCell ⟨w.heap.size + 1 + 1, 1, none⟩ (.slice a6 (n + 1) c6)) ∧ (((u3.setCell ⟨w.heap.size + 1 + 1, 0, none⟩ (.int .i64 qm)).setCell ⟨w.heap.size + 1 + 1, 1, none⟩ (.slice a6 (n + 1) c6)).cell? ⟨w.heap.size, 0, none⟩ = some (.int .i64 qm) ∧ ((u3.setCell ⟨w.heap.size + 1 + 1, 0, none⟩ (.int .i64 qm)).setCell ⟨w.heap.size + 1 + 1, 1, none⟩ (.slice a6 (n + 1) c6)).cell? ⟨w.heap.size, 1, none⟩ = some (.slice la n lc)) ∧ (((u3.setCell ⟨w.heap.size + 1 + 1, 0, none⟩ (.int .i64 qm)).setCell ⟨w.heap.size + 1 + 1, 1, none⟩ (.slice a6 (n + 1) c6)).cell? ⟨w.heap.size + 1, 0, none⟩ = some (.int .i64 t.node) ∧ ((u3.setCell ⟨w.heap.size + 1 + 1, 0, none⟩ (.int .i64 qm)).setCell ⟨w.heap.size + 1 + 1, 1, none⟩ (.slice a6 (n + 1) c6)).cell? ⟨w.heap.size + 1, 1, none⟩ = some (.int .i64 t.seq) ∧ ((u3.setCell ⟨w.heap.size + 1 + 1, 0, none⟩ (.int .i64 qm)).setCell ⟨w.heap.size + 1 + 1, 1, none⟩ (.slice a6 (n + 1) c6)).cell? ⟨w.heap.size + 1, 2, none⟩ = some (.slice da dn dc) ∧ ((u3.setCell ⟨w.heap.size + 1 + 1, 0, none⟩ (.int .i64 qm)).setCell ⟨w.heap.size + 1 + 1, 1, none⟩ (.slice a6 (n + 1) c6)).cell? ⟨w.heap.size + 1, 3, none⟩ = some (.slice ea en ec))) := Lib.hid ⟨ZB.out, (R9.out.pb.eq (ot _ (by omega))).c.1, (st4_cells ((ot (w.heap.size + 1) (by omega)).trans R9.out.tb)).1⟩
    clear ot R9 O3 BB KE
    refine wpAnyH_ready (rs := [9]) (by kernel_rfl) (by simp) ?_
    refine AllReadyH.cons rfl (fun K hK => ?_) AllReadyH.nil
    go_simp
    refine hK.out _ _ SS.out (fun hHeld => ?_)
    clear hK K SS y0 y1 g0 g1
    refine tkA (i := 10) (v := ?_) rfl (by kernel_rfl) (fun _ _ _ h => h) (Or.inl ⟨by rfl, ?_⟩) hHeld ?_
    rotate_left
    ·(intro w' hSw; (try dsimp only at hSw); go_simp; try with_reducible rfl)
    simp only [List.getElem_toArray, List.getElem_cons_zero, List.getElem_cons_succ, Act.put, List.setIfInBounds_toArray, List.set_cons_zero, List.set_cons_succ]
    refine wpAnyH_done (by kernel_rfl) ?_ _
    clear hHeld
    go_wp2_with fail
    obtain ⟨z0, z1⟩ := Z.out
    refine bodyPost_ret (v := .tuple #[.agg #[.int .i64 qm, .slice a6 (n + 1) c6], .int .i64 0]) (by simp [results, Tryz.results10, go_sem, z0, z1]) rfl ?_
    rw [HE.out.1, HE.out.2]
    exact ⟨_, rfl, ⟨a6, n + 1, c6, rfl, by rw [List.length_append, KL.out.1]; rfl, ZO.out⟩, ZB.out⟩
  obtain ⟨lb, lo, rfl, hlb, hc'⟩ := txns_atQ (fun b h => h) HS.out (by omega)
  obtain ⟨xa, xn, xc, ya, yn, yc, hW2⟩ := hc' (n - 1) (by omega)
  have hI : (n : Int) - 1 = ((n - 1 : Nat) : Int) := by omega
  have hz1 : (0 : Int) < (n : Int) := by omega
  have hz3 : ((n - 1 : Nat) : Int) < n := by omega
  have hW3 : IntKind.i64.wrap ((n : Int) - 1) = ((n - 1 : Nat) : Int) := by rw [hI]; exact qwrap (by omega)
  have HX := Lib.hid (fun u (hb : Below w.heap.size w u) => (hW2 u hb).1)
  rw [show otx l (n - 1) = qEnd l by unfold qEnd; rw [← HN.out]] at HX
  replace N1 := Lib.hid (N1.out (by have := HN.out; omega))
  replace N2 := Lib.hid (N2.out (by have := HN.out; omega))
  clear hc' hW2 hlb N0
  generalize qEnd l = a at *
  generalize hn1 : n - 1 = n1 at *
  clear hn1
  obtain ⟨x0, x1, x2, x3⟩ := HX.out _ R1.out.low
  obtain ⟨⟨d0, d1⟩, -⟩ := R1.out.pb.c
  have hb := (Below.refl w1.heap.size w1).alloc (Nat.le_refl _) (.cells #[.int .i64 a.node, .int .i64 a.seq, .slice xa xn xc, .slice ya yn yc] 29)
  have A0 := Lib.hid (st4_cells (heap_alloc_new w1 (.cells #[.int .i64 a.node, .int .i64 a.seq, .slice xa xn xc, .slice ya yn yc] 29))).1
  have R2 := Lib.hid (R1.out.below hb)
  clear hb HX R1
  go_upto_region 6 with fail
  clear d0 d1 x0 x1 x2 x3
  generalize (w1.alloc (.cells #[.int .i64 a.node, .int .i64 a.seq, .slice xa xn xc, .slice ya yn yc] 29)) = w2 at *
  generalize w1.heap.size = ga at *
  obtain ⟨a0, a1, a2, a3⟩ := A0.out
  obtain ⟨c0, c1, -, -⟩ := R2.out.tc
  by_cases e1 : t.node = a.node
  rotate_left
  ·have b1 : (a.node != t.node) = true := by simp; exact fun e => e1 e.symm
   have HB : Hid (nb = false) := Lib.hid (N1.out e1)
   obtain rfl : nb = false := HB.out
   have HE := Lib.hid (E2.out (by trivial) (by trivial))
   clear N1 N2 HB
   obtain ⟨⟨y0, y1⟩, f0, f1⟩ := R2.out.rb.c
   have Z := Lib.hid (R2.out.rb.put 0 none 0 0).c.1
   have ZB : Hid (Below w.heap.size w ((w2.setCell ⟨w.heap.size + 1 + 1, 0, none⟩ (.int .i64 0)).setCell ⟨w.heap.size + 1 + 1, 1, none⟩ (.slice none 0 0))) := Lib.hid ((R2.out.low.setCell (by show w.heap.size ≤ w.heap.size + 1 + 1; omega) _).setCell (by show w.heap.size ≤ w.heap.size + 1 + 1; omega) _)
   go_wp2_with fail
   obtain ⟨z0, z1⟩ := Z.out
   refine bodyPost_ret (v := .tuple #[.agg #[.int .i64 0, .slice none 0 0], .int .i64 9]) (by simp [results, Tryz.results10, go_sem, z0, z1]) rfl ?_
   rw [HE.out.1, HE.out.2]
   exact ⟨_, rfl, ⟨none, 0, 0, rfl, rfl, sqNil _ _⟩, ZB.out⟩
  have b1 : (a.node != t.node) = false := by simp; exact e1.symm
  by_cases e2 : t.seq - 1 = a.seq
  rotate_left
  ·have b2 : (a.seq != t.seq - 1) = true := by simp; exact fun e => e2 e.symm
   have HB : Hid (nb = false) := Lib.hid ((N2.out e1).trans (decide_eq_false e2))
   obtain rfl : nb = false := HB.out
   have HE := Lib.hid (E2.out (by trivial) (by trivial))
   clear N1 N2 HB e1 e2
   obtain ⟨⟨y0, y1⟩, f0, f1⟩ := R2.out.rb.c
   have Z := Lib.hid (R2.out.rb.put 0 none 0 0).c.1
   have ZB : Hid (Below w.heap.size w ((w2.setCell ⟨w.heap.size + 1 + 1, 0, none⟩ (.int .i64 0)).setCell ⟨w.heap.size + 1 + 1, 1, none⟩ (.slice none 0 0))) := Lib.hid ((R2.out.low.setCell (by show w.heap.size ≤ w.heap.size + 1 + 1; omega) _).setCell (by show w.heap.size ≤ w.heap.size + 1 + 1; omega) _)
   go_wp2_with fail
   obtain ⟨z0, z1⟩ := Z.out
   refine bodyPost_ret (v := .tuple #[.agg #[.int .i64 0, .slice none 0 0], .int .i64 9]) (by simp [results, Tryz.results10, go_sem, z0, z1]) rfl ?_
   rw [HE.out.1, HE.out.2]
   exact ⟨_, rfl, ⟨none, 0, 0, rfl, rfl, sqNil _ _⟩, ZB.out⟩
  have b2 : (a.seq != t.seq - 1) = false := by simp; exact e2.symm
  have HB : Hid (nb = true) := Lib.hid ((N2.out e1).trans (decide_eq_true e2))
  obtain rfl : nb = true := HB.out
  clear N1 N2 HB e1 e2
  go_upto_region 8 with fail
  clear a0 a1 a2 a3 c0 c1 A0
  by_cases hfull : qm ≤ (n : Int)
  ·have HE := Lib.hid (E3.out (by trivial) (by trivial) hfull)
   obtain ⟨⟨d0, d1⟩, -⟩ := R2.out.pb.c
   obtain ⟨⟨y0, y1⟩, f0, f1⟩ := R2.out.rb.c
   have Z := Lib.hid (R2.out.rb.put 0 none 0 0).c.1
   have ZB : Hid (Below w.heap.size w ((w2.setCell ⟨w.heap.size + 1 + 1, 0, none⟩ (.int .i64 0)).setCell ⟨w.heap.size + 1 + 1, 1, none⟩ (.slice none 0 0))) := Lib.hid ((R2.out.low.setCell (by show w.heap.size ≤ w.heap.size + 1 + 1; omega) _).setCell (by show w.heap.size ≤ w.heap.size + 1 + 1; omega) _)
   go_wp2_with fail
   obtain ⟨z0, z1⟩ := Z.out
   refine bodyPost_ret (v := .tuple #[.agg #[.int .i64 0, .slice none 0 0], .int .i64 6]) (by simp [results, Tryz.results10, go_sem, z0, z1]) rfl ?_
   rw [HE.out.1, HE.out.2]
   exact ⟨_, rfl, ⟨none, 0, 0, rfl, rfl, sqNil _ _⟩, ZB.out⟩
  have HE := Lib.hid (E4.out (by trivial) (by trivial) (by omega))
  obtain ⟨⟨d0, d1⟩, -⟩ := R2.out.pb.c
  go_upto_region 10 with fail
  clear d0 d1
  have KE : Hid (∀ x, Below w2.heap.size w2 x → Below w.heap.size w x ∧ (x.cell? ⟨w.heap.size, 0, none⟩ = some (.int .i64 qm) ∧ x.cell? ⟨w.heap.size, 1, none⟩ = some (.slice (some ⟨lb, lo, none⟩) n lc)) ∧ (x.cell? ⟨w.heap.size + 1, 0, none⟩ = some (.int .i64 t.node) ∧ x.cell? ⟨w.heap.size + 1, 1, none⟩ = some (.int .i64 t.seq) ∧ x.cell? ⟨w.heap.size + 1, 2, none⟩ = some (.slice da dn dc) ∧ x.cell? ⟨w.heap.size + 1, 3, none⟩ = some (.slice ea en ec))) := Lib.hid (fun x hb => ⟨(R2.out.below hb).low, (R2.out.below hb).pb.c.1, (R2.out.below hb).tc⟩)
  have ZW3 : Hid (w.heap.size + 3 ≤ w2.heap.size) := Lib.hid R2.out.rb.lt
  have KL : Hid (l.length = n ∧ n ≤ 1000000) := Lib.hid ⟨HN.out.symm, by have := HN.out; have := HL.out; omega⟩
  have KC2 := Lib.hid (fun x (hb : Below w2.heap.size w2 x) => KC.out x (R2.out.low.trans (hb.mono R2.out.low.size)))
  have KD2 := Lib.hid (fun x (hb : Below w2.heap.size w2 x) => KD.out x (R2.out.low.trans (hb.mono R2.out.low.size)))
  have BB : Hid (Below w2.heap.size w2 w2.drew) := Lib.hid (Below.refl _ _).drew
  clear KC KD
  refine wp_region_held_drew (S := fun u' => Below w.heap.size w u' ∧ (u'.cell? ⟨w.heap.size, 0, none⟩ = some (.int .i64 qm) ∧ u'.cell? ⟨w.heap.size, 1, none⟩ = some (.slice (some ⟨lb, lo, none⟩) n lc)) ∧ (u'.cell? ⟨w.heap.size + 1, 0, none⟩ = some (.int .i64 t.node) ∧ u'.cell? ⟨w.heap.size + 1, 1, none⟩ = some (.int .i64 t.seq) ∧ u'.cell? ⟨w.heap.size + 1, 2, none⟩ = some (.slice da dn dc) ∧ u'.cell? ⟨w.heap.size + 1, 3, none⟩ = some (.slice ea en ec))) (by kernel_rfl) ?_ (fun hHeld => ?_)
  ·(exact KE.out _ BB.out)
  simp only [List.size_toArray, List.length_cons, List.length_nil, Nat.zero_add, Nat.reduceAdd]
  refine tkA (i := 0) (v := ?_) rfl (by kernel_rfl) (fun _ _ _ h => h) (Or.inl ⟨by rfl, ?_⟩) hHeld ?_
  rotate_left
  ·(intro w' hSw; (try dsimp only at hSw); go_simp; try with_reducible rfl)
  simp only [List.getElem_toArray, List.getElem_cons_zero, Act.put, List.setIfInBounds_toArray, List.set_cons_zero, List.set_cons_succ]
  refine tkA (i := 1) (v := ?_) rfl (by kernel_rfl) (fun _ _ _ h => h) (Or.inl ⟨by rfl, ?_⟩) hHeld ?_
  rotate_left
  ·(intro w' hSw; (try dsimp only at hSw); go_simp; try with_reducible rfl)
  simp only [List.getElem_toArray, List.getElem_cons_zero, List.getElem_cons_succ, Act.put, List.setIfInBounds_toArray, List.set_cons_zero, List.set_cons_succ]
  refine tkA (i := 2) (v := ?_) rfl (by kernel_rfl) (fun _ _ _ h => h) (Or.inl ⟨by rfl, ?_⟩) hHeld ?_
  rotate_left
  ·(intro w' hSw; (try dsimp only at hSw); go_simp; try with_reducible rfl)
  simp only [List.getElem_toArray, List.getElem_cons_zero, List.getElem_cons_succ, Act.put, List.setIfInBounds_toArray, List.set_cons_zero, List.set_cons_succ]
  refine tkA (i := 3) (v := ?_) rfl (by kernel_rfl) (fun _ _ _ h => h) (Or.inl ⟨by rfl, ?_⟩) hHeld ?_
  rotate_left
  ·(intro w' hSw; (try dsimp only at hSw); go_simp; try with_reducible rfl)
  simp only [List.getElem_toArray, List.getElem_cons_zero, List.getElem_cons_succ, Act.put, List.setIfInBounds_toArray, List.set_cons_zero, List.set_cons_succ]
  refine tkA (i := 5) (v := ?_) rfl (by kernel_rfl) (fun _ _ _ h => h) (Or.inl ⟨by rfl, ?_⟩) hHeld ?_
  rotate_left
  ·(intro w' hSw; (try dsimp only at hSw); go_simp; try with_reducible rfl)
  simp only [List.getElem_toArray, List.getElem_cons_zero, List.getElem_cons_succ, Act.put, List.setIfInBounds_toArray, List.set_cons_zero, List.set_cons_succ]
  refine wpAnyH_ready (rs := [4, 6]) (by kernel_rfl) (by simp) ?_
  refine AllReadyH.cons rfl (fun K hK => ?_) (AllReadyH.cons rfl (fun K hK => ?_) AllReadyH.nil)
  ·skip
   go_simp
   refine (KC2.out _ BB.out).mono ?_
   rintro e s1 ⟨cv, rfl, ho, hb⟩
   obtain ⟨a5, c5, rfl, -, -, ho⟩ := ho.at n KL.out.1
   have OU : Hid (OwnJ (fun b => b < w.heap.size ∨ w2.heap.size ≤ b) LTxn w2.heap.size s1 (.slice a5 n c5) l) := Lib.hid ((ho.mono BB.out.size).imp fun b h => .inr (Nat.le_trans BB.out.size h))
   replace BB := Lib.hid (BB.out.trans (hb.mono BB.out.size))
   clear ho hb KC2
   refine hK.out _ _ (KE.out _ BB.out) (fun hHeld => ?_)
   clear hK K
   refine wpAnyH_ready (rs := [6]) (by kernel_rfl) (by simp) ?_
   refine AllReadyH.cons rfl (fun K hK => ?_) AllReadyH.nil
   go_simp
   have hb := (Below.refl s1.heap.size s1).alloc (Nat.le_refl _) (.cells #[.int .i64 t.node, .int .i64 t.seq, .slice da dn dc, .slice ea en ec] 29)
   have LX2 := Lib.hid (one_txnD (W := s1) (N := w.heap.size) (t := t) (KD2.out s1 BB.out).deps (KD2.out s1 BB.out).effs (by have := ZW3.out; have := BB.out.size; omega))
   have NB : Hid (∀ j, (Value.slice a5 n c5).ownBlock = some j → j ≠ s1.heap.size) := Lib.hid (fun j h => by have := (OU.out.lt j h).2; omega)
   replace OU := Lib.hid (OU.out.below hb (Nat.le_refl _))
   have BLT2 : Hid (w2.heap.size ≤ s1.heap.size ∧ s1.heap.size < (s1.alloc (.cells #[.int .i64 t.node, .int .i64 t.seq, .slice da dn dc, .slice ea en ec] 29)).heap.size) := Lib.hid ⟨BB.out.size, by simp⟩
   replace BB := Lib.hid (BB.out.trans (hb.mono BB.out.size))
   clear hb
   refine hK.out _ _ (KE.out _ BB.out) (fun hHeld => ?_)
   clear hK K
   generalize s1.heap.size = bl at *
   generalize (s1.alloc (.cells #[.int .i64 t.node, .int .i64 t.seq, .slice da dn dc, .slice ea en ec] 29)) = s2 at *
   refine wpAnyH_ready (rs := [7]) (by kernel_rfl) (by simp) ?_
   refine AllReadyH.cons rfl (fun K hK => ?_) AllReadyH.nil
   refine step_append_elQ (fun b => b < w.heap.size ∨ w2.heap.size ≤ b) LTxn (by rfl) (.tmp 46) (.tmp 48) (by rfl) (w2.heap.size) (by rfl) OU.out (by rfl) LX2.out (fun vs x h => LTxn.mono h fun b hb => ⟨by have := BLT2.out; rcases hb with h | h; exact .inl h; exact .inr (by omega), by have := BLT2.out; have := BB.out.size; have := ZW3.out; rcases hb with h | h <;> omega, fun e => by rcases hb with h | h; (have := (OU.out.lt b e).1; have := ZW3.out; omega); exact NB.out b e h⟩) (by have := KL.out; simp; omega) BB.out.size ?_
   intro v3 u3 ho hg hat
   obtain ⟨a6, c6, rfl, -, -, ho⟩ := ho.at (n + 1) (by have := KL.out; simp; omega)
   have O3 := Lib.hid ho
   replace BB := Lib.hid (BB.out.grown hg BB.out.size (fun j hj => (OU.out.lt j hj).1))
   clear ho hg hat LX2 OU NB BLT2
   refine hK.out _ _ (KE.out _ BB.out) (fun hHeld => ?_)
   clear hK K
   refine tkA (i := 8) (v := ?_) rfl (by kernel_rfl) (fun _ _ _ h => h) (Or.inl ⟨by rfl, ?_⟩) hHeld ?_
   rotate_left
   ·(intro w' hSw; (try dsimp only at hSw); go_simp; try with_reducible rfl)
   simp only [List.getElem_toArray, List.getElem_cons_zero, List.getElem_cons_succ, Act.put, List.setIfInBounds_toArray, List.set_cons_zero, List.set_cons_succ]
   have R9 := Lib.hid (R2.out.below BB.out)
   obtain ⟨⟨y0, y1⟩, g0, g1⟩ := R9.out.rb.c
   have Z := Lib.hid (R9.out.rb.put qm a6 (n + 1) c6).c.1
   have ZB : Hid (Below w.heap.size w ((u3.setCell ⟨w.heap.size + 1 + 1, 0, none⟩ (.int .i64 qm)).setCell ⟨w.heap.size + 1 + 1, 1, none⟩ (.slice a6 (n + 1) c6))) := Lib.hid ((R9.out.low.setCell (by show w.heap.size ≤ w.heap.size + 1 + 1; omega) _).setCell (by show w.heap.size ≤ w.heap.size + 1 + 1; omega) _)
   have ot : ∀ b, b ≠ w.heap.size + 1 + 1 → ((u3.setCell ⟨w.heap.size + 1 + 1, 0, none⟩ (.int .i64 qm)).setCell ⟨w.heap.size + 1 + 1, 1, none⟩ (.slice a6 (n + 1) c6)).heap[b]? = u3.heap[b]? := fun b h => (Below.heap_setCell _ _ _ _ h).trans (Below.heap_setCell _ _ _ _ h)
   have ZO : Hid (SeqE LTxn ((u3.setCell ⟨w.heap.size + 1 + 1, 0, none⟩ (.int .i64 qm)).setCell ⟨w.heap.size + 1 + 1, 1, none⟩ (.slice a6 (n + 1) c6)) (.slice a6 (n + 1) c6) (l ++ [t])) := Lib.hid (by
    have h := O3.out.sq (fun b h _ => .inr h)
    exact (h.agree fun b hb => ot b (by have h2 : b < w.heap.size ∨ w2.heap.size ≤ b := hb.1; have := ZW3.out; omega)).mono fun b hb => (by simpa [World.setCell] using hb.2))
   have SS : Hid (Below w.heap.size w ((u3.setCell ⟨w.heap.size + 1 + 1, 0, none⟩ (.int .i64 qm)).setCell ⟨w.heap.size + 1 + 1, 1, none⟩ (.slice a6 (n + 1) c6)) ∧ (((u3.setCell ⟨w.heap.size + 1 + 1, 0, none⟩ (.int .i64 qm)).setCell ⟨w.heap.size + 1 + 1, 1, none⟩ (.slice a6 (n + 1) c6)).cell? ⟨w.heap.size, 0, none⟩ = some (.int .i64 qm) ∧ ((u3.setCell ⟨w.heap.size + 1 + 1, 0, none⟩ (.int .i64 qm)).setCell ⟨w.heap.size + 1 + 1, 1, none⟩ (.slice a6 (n + 1) c6)).cell? ⟨w.heap.size, 1, none⟩ = some (.slice (some ⟨lb, lo, none⟩) n lc)) ∧ (((u3.setCell ⟨w.heap.size + 1 + 1, 0, none⟩ (.int .i64 qm)).setCell ⟨w.heap.size + 1 + 1, 1, none⟩ (.slice a6 (n + 1) c6)).cell? ⟨w.heap.size + 1, 0, none⟩ = some (.int .i64 t.node) ∧ ((u3.setCell ⟨w.heap.size + 1 + 1, 0, none⟩ (.int .i64 qm)).setCell ⟨w.heap.size + 1 + 1, 1, none⟩ (.slice a6 (n + 1) c6)).cell? ⟨w.heap.size + 1, 1, none⟩ = some (.int .i64 t.seq) ∧ ((u3.setCell ⟨w.heap.size + 1 + 1, 0, none⟩ (.int .i64 qm)).setCell ⟨w.heap.size + 1 + 1, 1, none⟩ (.slice a6 (n + 1) c6)).cell? ⟨w.heap.size + 1, 2, none⟩ = some (.slice da dn dc) ∧ ((u3.setCell ⟨w.heap.size + 1 + 1, 0, none⟩ (.int .i64 qm)).setCell ⟨w.heap.size + 1 + 1, 1, none⟩ (.slice a6 (n + 1) c6)).cell? ⟨w.heap.size + 1, 3, none⟩ = some (.slice ea en ec))) := Lib.hid ⟨ZB.out, (R9.out.pb.eq (ot _ (by omega))).c.1, (st4_cells ((ot (w.heap.size + 1) (by omega)).trans R9.out.tb)).1⟩
   clear ot R9 O3 BB KE
   refine wpAnyH_ready (rs := [9]) (by kernel_rfl) (by simp) ?_
   refine AllReadyH.cons rfl (fun K hK => ?_) AllReadyH.nil
   go_simp
   refine hK.out _ _ SS.out (fun hHeld => ?_)
   clear hK K SS y0 y1 g0 g1
   refine tkA (i := 10) (v := ?_) rfl (by kernel_rfl) (fun _ _ _ h => h) (Or.inl ⟨by rfl, ?_⟩) hHeld ?_
   rotate_left
   ·(intro w' hSw; (try dsimp only at hSw); go_simp; try with_reducible rfl)
   simp only [List.getElem_toArray, List.getElem_cons_zero, List.getElem_cons_succ, Act.put, List.setIfInBounds_toArray, List.set_cons_zero, List.set_cons_succ]
   refine wpAnyH_done (by kernel_rfl) ?_ _
   clear hHeld
   go_wp2_with fail
   obtain ⟨z0, z1⟩ := Z.out
   refine bodyPost_ret (v := .tuple #[.agg #[.int .i64 qm, .slice a6 (n + 1) c6], .int .i64 0]) (by simp [results, Tryz.results10, go_sem, z0, z1]) rfl ?_
   rw [HE.out.1, HE.out.2]
   exact ⟨_, rfl, ⟨a6, n + 1, c6, rfl, by rw [List.length_append, KL.out.1]; rfl, ZO.out⟩, ZB.out⟩
  ·skip
   go_simp
   have LX : Hid (Sq LTxn (fun b => b < w.heap.size ∨ b = w2.heap.size) (w2.alloc (.cells #[.int .i64 t.node, .int .i64 t.seq, .slice da dn dc, .slice ea en ec] 29)).drew (.slice (some ⟨w2.heap.size, 0, none⟩) 1 1) [t]) := Lib.hid (one_txnD (W := w2.drew) (N := w.heap.size) (t := t) (KD2.out _ BB.out).deps (KD2.out _ BB.out).effs (show w.heap.size ≤ w2.heap.size by have := ZW3.out; omega))
   have BLT : Hid (w2.heap.size ≤ w2.heap.size ∧ w2.heap.size < (w2.alloc (.cells #[.int .i64 t.node, .int .i64 t.seq, .slice da dn dc, .slice ea en ec] 29)).drew.heap.size) := Lib.hid ⟨Nat.le_refl _, show w2.heap.size < (w2.alloc (.cells #[.int .i64 t.node, .int .i64 t.seq, .slice da dn dc, .slice ea en ec] 29)).heap.size by simp⟩
   replace BB : Hid (Below w2.heap.size w2 (w2.alloc (.cells #[.int .i64 t.node, .int .i64 t.seq, .slice da dn dc, .slice ea en ec] 29)).drew) := Lib.hid (((Below.refl _ _).alloc (Nat.le_refl _) _).trans ((Below.refl _ _).drew.mono (show w2.heap.size ≤ (w2.alloc (.cells #[.int .i64 t.node, .int .i64 t.seq, .slice da dn dc, .slice ea en ec] 29)).heap.size by simp)))
   refine hK.out _ _ (KE.out _ BB.out) (fun hHeld => ?_)
   clear hK K
   generalize (w2.alloc (.cells #[.int .i64 t.node, .int .i64 t.seq, .slice da dn dc, .slice ea en ec] 29)).drew = s0 at *
   obtain ⟨bl, hbl⟩ : ∃ b, b = w2.heap.size := ⟨_, rfl⟩
   have LX1 : Hid (Sq LTxn (fun b => b < w.heap.size ∨ b = bl) s0 (.slice (some ⟨bl, 0, none⟩) 1 1) [t]) := Lib.hid (by rw [hbl]; exact LX.out)
   have BLT1 : Hid (w2.heap.size ≤ bl ∧ bl < s0.heap.size) := Lib.hid (by rw [hbl]; exact BLT.out)
   rw [show (Value.slice (some ⟨w2.heap.size, 0, none⟩) 1 1) = .slice (some ⟨bl, 0, none⟩) 1 1 by rw [hbl]]
   clear LX BLT hbl
   have LX := LX1
   have BLT := BLT1
   clear LX1 BLT1
   refine wpAnyH_ready (rs := [4]) (by kernel_rfl) (by simp) ?_
   refine AllReadyH.cons rfl (fun K hK => ?_) AllReadyH.nil
   go_simp
   refine (KC2.out _ BB.out).mono ?_
   rintro e s1 ⟨cv, rfl, ho, hb⟩
   obtain ⟨a5, c5, rfl, -, -, ho⟩ := ho.at n KL.out.1
   have OU : Hid (OwnJ (fun b => b < w.heap.size ∨ w2.heap.size ≤ b) LTxn w2.heap.size s1 (.slice a5 n c5) l) := Lib.hid ((ho.mono BB.out.size).imp fun b h => .inr (Nat.le_trans BB.out.size h))
   have NB : Hid (∀ j, (Value.slice a5 n c5).ownBlock = some j → j ≠ bl) := Lib.hid (fun j h => by have := (ho.lt j h).1; have := BLT.out; omega)
   have LX2 := Lib.hid (Sq.agree LX.out fun b h => hb.block b (by have := BLT.out; have := BB.out.size; have := ZW3.out; rcases h with h | h <;> omega))
   have BLT2 : Hid (w2.heap.size ≤ bl ∧ bl < s1.heap.size) := Lib.hid ⟨BLT.out.1, Nat.lt_of_lt_of_le BLT.out.2 hb.size⟩
   clear LX BLT
   replace BB := Lib.hid (BB.out.trans (hb.mono BB.out.size))
   clear ho hb KC2
   refine hK.out _ _ (KE.out _ BB.out) (fun hHeld => ?_)
   clear hK K
   refine wpAnyH_ready (rs := [7]) (by kernel_rfl) (by simp) ?_
   refine AllReadyH.cons rfl (fun K hK => ?_) AllReadyH.nil
   refine step_append_elQ (fun b => b < w.heap.size ∨ w2.heap.size ≤ b) LTxn (by rfl) (.tmp 46) (.tmp 48) (by rfl) (w2.heap.size) (by rfl) OU.out (by rfl) LX2.out (fun vs x h => LTxn.mono h fun b hb => ⟨by have := BLT2.out; rcases hb with h | h; exact .inl h; exact .inr (by omega), by have := BLT2.out; have := BB.out.size; have := ZW3.out; rcases hb with h | h <;> omega, fun e => by rcases hb with h | h; (have := (OU.out.lt b e).1; have := ZW3.out; omega); exact NB.out b e h⟩) (by have := KL.out; simp; omega) BB.out.size ?_
   intro v3 u3 ho hg hat
   obtain ⟨a6, c6, rfl, -, -, ho⟩ := ho.at (n + 1) (by have := KL.out; simp; omega)
   have O3 := Lib.hid ho
   replace BB := Lib.hid (BB.out.grown hg BB.out.size (fun j hj => (OU.out.lt j hj).1))
   clear ho hg hat LX2 OU NB BLT2
   refine hK.out _ _ (KE.out _ BB.out) (fun hHeld => ?_)
   clear hK K
   refine tkA (i := 8) (v := ?_) rfl (by kernel_rfl) (fun _ _ _ h => h) (Or.inl ⟨by rfl, ?_⟩) hHeld ?_
   rotate_left
   ·(intro w' hSw; (try dsimp only at hSw); go_simp; try with_reducible rfl)
   simp only [List.getElem_toArray, List.getElem_cons_zero, List.getElem_cons_succ, Act.put, List.setIfInBounds_toArray, List.set_cons_zero, List.set_cons_succ]
   have R9 := Lib.hid (R2.out.below BB.out)
   obtain ⟨⟨y0, y1⟩, g0, g1⟩ := R9.out.rb.c
   have Z := Lib.hid (R9.out.rb.put qm a6 (n + 1) c6).c.1
   have ZB : Hid (Below w.heap.size w ((u3.setCell ⟨w.heap.size + 1 + 1, 0, none⟩ (.int .i64 qm)).setCell ⟨w.heap.size + 1 + 1, 1, none⟩ (.slice a6 (n + 1) c6))) := Lib.hid ((R9.out.low.setCell (by show w.heap.size ≤ w.heap.size + 1 + 1; omega) _).setCell (by show w.heap.size ≤ w.heap.size + 1 + 1; omega) _)
   have ot : ∀ b, b ≠ w.heap.size + 1 + 1 → ((u3.setCell ⟨w.heap.size + 1 + 1, 0, none⟩ (.int .i64 qm)).setCell ⟨w.heap.size + 1 + 1, 1, none⟩ (.slice a6 (n + 1) c6)).heap[b]? = u3.heap[b]? := fun b h => (Below.heap_setCell _ _ _ _ h).trans (Below.heap_setCell _ _ _ _ h)
   have ZO : Hid (SeqE LTxn ((u3.setCell ⟨w.heap.size + 1 + 1, 0, none⟩ (.int .i64 qm)).setCell ⟨w.heap.size + 1 + 1, 1, none⟩ (.slice a6 (n + 1) c6)) (.slice a6 (n + 1) c6) (l ++ [t])) := Lib.hid (by
    have h := O3.out.sq (fun b h _ => .inr h)
    exact (h.agree fun b hb => ot b (by have h2 : b < w.heap.size ∨ w2.heap.size ≤ b := hb.1; have := ZW3.out; omega)).mono fun b hb => (by simpa [World.setCell] using hb.2))
   have SS : Hid (Below w.heap.size w ((u3.setCell ⟨w.heap.size + 1 + 1, 0, none⟩ (.int .i64 qm)).setCell ⟨w.heap.size + 1 + 1, 1, none⟩ (.slice a6 (n + 1) c6)) ∧ (((u3.setCell ⟨w.heap.size + 1 + 1, 0, none⟩ (.int .i64 qm)).setCell ⟨w.heap.size + 1 + 1, 1, none⟩ (.slice a6 (n + 1) c6)).cell? ⟨w.heap.size, 0, none⟩ = some (.int .i64 qm) ∧ ((u3.setCell ⟨w.heap.size + 1 + 1, 0, none⟩ (.int .i64 qm)).setCell ⟨w.heap.size + 1 + 1, 1, none⟩ (.slice a6 (n + 1) c6)).cell? ⟨w.heap.size, 1, none⟩ = some (.slice (some ⟨lb, lo, none⟩) n lc)) ∧ (((u3.setCell ⟨w.heap.size + 1 + 1, 0, none⟩ (.int .i64 qm)).setCell ⟨w.heap.size + 1 + 1, 1, none⟩ (.slice a6 (n + 1) c6)).cell? ⟨w.heap.size + 1, 0, none⟩ = some (.int .i64 t.node) ∧ ((u3.setCell ⟨w.heap.size + 1 + 1, 0, none⟩ (.int .i64 qm)).setCell ⟨w.heap.size + 1 + 1, 1, none⟩ (.slice a6 (n + 1) c6)).cell? ⟨w.heap.size + 1, 1, none⟩ = some (.int .i64 t.seq) ∧ ((u3.setCell ⟨w.heap.size + 1 + 1, 0, none⟩ (.int .i64 qm)).setCell ⟨w.heap.size + 1 + 1, 1, none⟩ (.slice a6 (n + 1) c6)).cell? ⟨w.heap.size + 1, 2, none⟩ = some (.slice da dn dc) ∧ ((u3.setCell ⟨w.heap.size + 1 + 1, 0, none⟩ (.int .i64 qm)).setCell ⟨w.heap.size + 1 + 1, 1, none⟩ (.slice a6 (n + 1) c6)).cell? ⟨w.heap.size + 1, 3, none⟩ = some (.slice ea en ec))) := Lib.hid ⟨ZB.out, (R9.out.pb.eq (ot _ (by omega))).c.1, (st4_cells ((ot (w.heap.size + 1) (by omega)).trans R9.out.tb)).1⟩
   clear ot R9 O3 BB KE
   refine wpAnyH_ready (rs := [9]) (by kernel_rfl) (by simp) ?_
   refine AllReadyH.cons rfl (fun K hK => ?_) AllReadyH.nil
   go_simp
   refine hK.out _ _ SS.out (fun hHeld => ?_)
   clear hK K SS y0 y1 g0 g1
   refine tkA (i := 10) (v := ?_) rfl (by kernel_rfl) (fun _ _ _ h => h) (Or.inl ⟨by rfl, ?_⟩) hHeld ?_
   rotate_left
   ·(intro w' hSw; (try dsimp only at hSw); go_simp; try with_reducible rfl)
   simp only [List.getElem_toArray, List.getElem_cons_zero, List.getElem_cons_succ, Act.put, List.setIfInBounds_toArray, List.set_cons_zero, List.set_cons_succ]
   refine wpAnyH_done (by kernel_rfl) ?_ _
   clear hHeld
   go_wp2_with fail
   obtain ⟨z0, z1⟩ := Z.out
   refine bodyPost_ret (v := .tuple #[.agg #[.int .i64 qm, .slice a6 (n + 1) c6], .int .i64 0]) (by simp [results, Tryz.results10, go_sem, z0, z1]) rfl ?_
   rw [HE.out.1, HE.out.2]
   exact ⟨_, rfl, ⟨a6, n + 1, c6, rfl, by rw [List.length_append, KL.out.1]; rfl, ZO.out⟩, ZB.out⟩
end Go.Proofs.YtmknpmamkjjiaaaGreat
