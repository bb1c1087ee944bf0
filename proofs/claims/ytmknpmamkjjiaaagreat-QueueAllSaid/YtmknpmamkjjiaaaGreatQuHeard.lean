/- What the program's own Heard of a queue leaves. (Written by gen-quheard.py.) -/
import Derived.Test.YtmknpmamkjjiaaaGreatQuAlone
import Derived.Test.YtmknpmamkjjiaaaGreatVcAll
import Derived.Deep.Cut
import Derived.Carry
namespace Go.Proofs.YtmknpmamkjjiaaaGreat
open Go.RowKit Plain
set_option linter.unusedVariables false

set_option maxRecDepth 100000 in
set_option maxHeartbeats 16000000 in
/-- Heard -/
theorem quheard_any {v vv : Value} {q : PQueue} {x : Ints} {w : World} (h : IsQueue w v q) (hv : SeqI w vv x) (hl : q.list.length ≤ 1000000) (hf : ∀ t ∈ q.list, FitTx t) : Calls Tryz.prog 11 #[v, vv] w (GivesQuN w (qHeard q x)) := by
 obtain ⟨la, n, lc, rfl, hn, h1⟩ := h
 have HV := Lib.hid hv
 obtain ⟨va, vc, rfl, -, -, -, -⟩ := hv.parts
 have HR : Hid (qHeard q x = ⟨q.most, qLeft q.list x⟩) := Lib.hid rfl
 rw [HR.out]
 have R0 : Hid (QhAt w q.most none 0 0 [] (((w.alloc (.cells #[.int .i64 q.most, .slice la n lc] 24)).alloc (.cells #[.int .i64 0, .slice none 0 0] 24)).alloc (.cells #[.int .i64 q.most, .slice none 0 0] 24))) := Lib.hid (qhat_new w q.most la n lc)
 have C0 : Hid (((((w.alloc (.cells #[.int .i64 q.most, .slice la n lc] 24)).alloc (.cells #[.int .i64 0, .slice none 0 0] 24)).alloc (.cells #[.int .i64 q.most, .slice none 0 0] 24))).cell? ⟨w.heap.size, 0, none⟩ = some (.int .i64 q.most) ∧ ((((w.alloc (.cells #[.int .i64 q.most, .slice la n lc] 24)).alloc (.cells #[.int .i64 0, .slice none 0 0] 24)).alloc (.cells #[.int .i64 q.most, .slice none 0 0] 24))).cell? ⟨w.heap.size, 1, none⟩ = some (.slice la n lc)) := Lib.hid (quparam w q.most la n lc)
 have HS := Lib.hid h1
 have HF := Lib.hid hf
 have HN := Lib.hid hn
 have D := SeqE.dims (L := LTxn) (show SeqE LTxn w (.slice la n lc) q.list from h1)
 have D1 := Lib.hid D
 have hnl : n ≤ 1000000 := by omega
 generalize q.list = l at *
 generalize q.most = qm at *
 clear hv h1 hf hn hl HR D
 generalize x.length = vn at *
 go_enter Tryz.func11, Tryz.ntmps11
 go_upto_region 1 with fail
 have c0 : (((w.alloc (.cells #[.int .i64 qm, .slice la n lc] 24)).alloc (.cells #[.int .i64 0, .slice none 0 0] 24))).cell? ⟨w.heap.size, 0, none⟩ = some (.int .i64 qm) := quparam0 w qm la n lc
 go_upto_region 2 with fail
 clear c0
 generalize (((w.alloc (.cells #[.int .i64 qm, .slice la n lc] 24)).alloc (.cells #[.int .i64 0, .slice none 0 0] 24)).alloc (.cells #[.int .i64 qm, .slice none 0 0] 24)) = w0 at *
 obtain ⟨c0, c1⟩ := C0.out
 go_wp2_with fail
 clear c0 c1 C0
 go_loopw [14] (fun i wr => ∃ (k m : Nat) (a : Option Addr) (c : Nat), k ≤ n ∧ i = .int .i64 k ∧ Aside (QhAt w qm a m c (qLeft (l.take k) x) wr)) (fun i _ => n - (intOf i).toNat)
 case atStart => exact ⟨0, 0, none, 0, Nat.zero_le _, rfl, R0.out⟩
 case round =>
  clear R0
  obtain ⟨k, m, a, c, hk, rfl, hrel⟩ := hrel
  have R := Lib.hid (Aside.out hrel)
  clear hrel
  by_cases hlt : k < n
  ·obtain ⟨lb, lo, rfl, hlb, hc'⟩ := txns_atQ (fun b h => h) HS.out (by omega)
   obtain ⟨da, dn, dc, ea, en, ec, hW⟩ := hc' k hlt
   have hkl : k < l.length := by have := HN.out; omega
   have hft := HF.out (otx l k) (by rw [otx_lt hkl]; exact List.getElem_mem hkl)
   have TK := Lib.hid (qLeft_take (v := x) hkl)
   have HTC := Lib.hid (fun u (hb : Below w.heap.size w u) => (hW u hb).1)
   have KA := Lib.hid (fun u (hb : Below w.heap.size w u) => qualone_any ((hW u hb).2.is fun b h => Nat.lt_of_lt_of_le h hb.size) hft)
   obtain ⟨c0, c1, c2, c3⟩ := HTC.out wr R.out.low
   obtain ⟨d0, d1, d2⟩ := D1.out
   have hk1 : (k : Int) < n := by omega
   have hk2 : (n : Int) ≤ lc := by omega
   have hk3 : (lc : Int) ≤ 9223372036854775807 := by omega
   clear hW hc' hft HTC d0 d1 d2 hlb
   generalize otx l k = t at *
   have hb := (Below.refl wr.heap.size wr).alloc (Nat.le_refl _) (.cells #[.int .i64 t.node, .int .i64 t.seq, .slice da dn dc, .slice ea en ec] 29)
   have R1 := Lib.hid (R.out.below hb)
   have T1 := Lib.hid (heap_alloc_new wr (.cells #[.int .i64 t.node, .int .i64 t.seq, .slice da dn dc, .slice ea en ec] 29))
   have GN : Hid (some wr.heap.size ≠ (Value.slice a m c).ownBlock) := Lib.hid (fun e => by have := (R.out.ow.lt _ e.symm).2; omega)
   have GV : Hid (wr.heap.size ≠ w.heap.size + 2) := Lib.hid (by have := R.out.lb.lt; omega)
   have HX := Lib.hid (fun u (hb : Below w.heap.size w u) => vc_has_any (HV.out.below hb) t.node t.seq 0)
   have HQ : Hid ((decide (1 ≤ t.seq) && decide (t.seq ≤ saysI x t.node)) = qHas x t) := Lib.hid rfl
   rw [HQ.out] at HX
   clear hb R HQ
   go_upto_region 5 with fail
   clear c0 c1 c2 c3
   generalize (wr.alloc (.cells #[.int .i64 t.node, .int .i64 t.seq, .slice da dn dc, .slice ea en ec] 29)) = wa at *
   generalize wr.heap.size = gt at *
   obtain ⟨⟨c0, c1, c2, c3⟩, -⟩ := st4_cells T1.out
   go_wp2_with fail
   refine txdotP.mono ?_
   rintro e w1 ⟨rfl, hb⟩
   have R2 := Lib.hid (R1.out.below hb)
   have T2 := Lib.hid ((hb.block _ (Array.getElem?_eq_some_iff.1 T1.out).1).trans T1.out)
   have K2 := Lib.hid (HX.out w1 R2.out.low)
   clear hb R1 T1 HX c0 c1 c2 c3
   go_wp2_with fail
   refine K2.out.mono ?_
   rintro e wb ⟨rfl, hb⟩
   have R3 := Lib.hid (R2.out.below hb)
   have T3 := Lib.hid ((hb.block _ (Array.getElem?_eq_some_iff.1 T2.out).1).trans T2.out)
   clear hb R2 T2 K2
   generalize qHas x t = hb8 at *
   cases hb8 with
   | true =>
    go_wp2_with fail
    go_roundw
    case rel => exact ⟨k + 1, m, a, c, by omega, by go_num, by rw [TK.out]; have h := R3.out; simp only [if_true, List.append_nil]; exact h⟩
    case measure => simp [intOf]; omega
   | false =>
    have NL : Hid (qLeft (l.take (k + 1)) x = qLeft (l.take k) x ++ [t]) := Lib.hid (TK.out.trans (by simp))
    have KL := Lib.hid R3.out.len
    have KL2 : Hid (m ≤ n) := Lib.hid (by have h1 := qLeft_len (l.take k) x; rw [List.length_take] at h1; have := KL.out; omega)
    generalize hxs : qLeft (l.take k) x = xs at *
    clear hxs TK
    go_upto_region 6 with fail
    have BU : Hid (Below w.heap.size w wb.drew) := Lib.hid (R3.out.low.trans ((Below.refl _ _).drew.mono R3.out.low.size))
    have TU : Hid (wb.drew.heap[gt]? = some (.cells #[.int .i64 t.node, .int .i64 t.seq, .slice da dn dc, .slice ea en ec] 29 (0, 0))) := Lib.hid T3.out
    have LU : Hid (QuBox (w.heap.size + 2) qm a m c wb.drew) := Lib.hid ⟨R3.out.lb.b⟩
    have OU : Hid (OwnJ (fun b => w.heap.size + 3 ≤ b) LTxn (w.heap.size + 3) wb.drew (.slice a m c) xs) := Lib.hid (R3.out.ow.below (Below.refl _ _).drew (Nat.le_refl _))
    have KF : Hid (∀ u : World, Below w.heap.size w u → u.heap[gt]? = some (.cells #[.int .i64 t.node, .int .i64 t.seq, .slice da dn dc, .slice ea en ec] 29 (0, 0)) → Below w.heap.size w u ∧ (u.cell? ⟨gt, 0, none⟩ = some (.int .i64 t.node) ∧ u.cell? ⟨gt, 1, none⟩ = some (.int .i64 t.seq) ∧ u.cell? ⟨gt, 2, none⟩ = some (.slice da dn dc) ∧ u.cell? ⟨gt, 3, none⟩ = some (.slice ea en ec))) := Lib.hid (fun u hb h => ⟨hb, (st4_cells h).1⟩)
    have ZU : Hid (w.heap.size + 3 ≤ wb.heap.size) := Lib.hid R3.out.lb.lt
    have NW : Hid (w.heap.size ≤ w.heap.size + 3) := Lib.hid (by omega)
    have JN : Hid (∀ b, wb.heap.size ≤ b → w.heap.size + 3 ≤ b) := Lib.hid (fun b h => Nat.le_trans ZU.out h)
    have OL : Hid (∀ j, (Value.slice a m c).ownBlock = some j → j < wb.heap.size) := Lib.hid (fun j h => (R3.out.ow.lt j h).2)
    have VN : Hid (¬ w.heap.size + 3 ≤ w.heap.size + 2 ∧ (Value.slice a m c).ownBlock ≠ some (w.heap.size + 2)) := Lib.hid ⟨by omega, fun e => by have := (R3.out.ow.lt _ e).1; omega⟩
    have VL : Hid (w.heap.size + 2 < wb.heap.size) := Lib.hid R3.out.lb.lt
    have VW : Hid (w.heap.size ≤ w.heap.size + 2) := Lib.hid (by omega)
    have BD : Hid (wb.heap.size ≤ wb.drew.heap.size) := Lib.hid (Nat.le_refl _)
    have RB : Hid (QuBox (w.heap.size + 1) 0 none 0 0 wb) := Lib.hid R3.out.rb
    have BK : Hid (Below (w.heap.size + 3) wb wb.drew) := Lib.hid (Below.refl _ _).drew
    clear R3 T3
    refine wp_region_held_drew (S := fun u' => Below w.heap.size w u' ∧ (u'.cell? ⟨gt, 0, none⟩ = some (.int .i64 t.node) ∧ u'.cell? ⟨gt, 1, none⟩ = some (.int .i64 t.seq) ∧ u'.cell? ⟨gt, 2, none⟩ = some (.slice da dn dc) ∧ u'.cell? ⟨gt, 3, none⟩ = some (.slice ea en ec))) (by kernel_rfl) ?_ (fun hHeld => ?_)
    ·(exact KF.out _ BU.out TU.out)
    simp only [List.size_toArray, List.length_cons, List.length_nil, Nat.zero_add, Nat.reduceAdd]
    refine tkA (i := 0) (v := ?_) rfl (by kernel_rfl) (fun _ _ _ h => h) (Or.inl ⟨by rfl, ?_⟩) hHeld ?_
    rotate_left
    ·(intro w' hSw; (try dsimp only at hSw); go_simp; try with_reducible rfl)
    simp only [List.getElem_toArray, List.getElem_cons_zero, Act.put, List.setIfInBounds_toArray, List.set_cons_zero, List.set_cons_succ]
    refine tkA (i := 2) (v := ?_) rfl (by kernel_rfl) (fun _ _ _ h => h) (Or.inl ⟨by rfl, ?_⟩) hHeld ?_
    rotate_left
    ·(intro w' hSw; (try dsimp only at hSw); go_simp; try with_reducible rfl)
    simp only [List.getElem_toArray, List.getElem_cons_zero, List.getElem_cons_succ, Act.put, List.setIfInBounds_toArray, List.set_cons_zero, List.set_cons_succ]
    refine wpAnyH_ready (rs := [1, 3]) (by kernel_rfl) (by simp) ?_
    refine AllReadyH.cons rfl (fun K hK => ?_) (AllReadyH.cons rfl (fun K hK => ?_) AllReadyH.nil)
    ·skip
     obtain ⟨⟨y0, y1⟩, -⟩ := LU.out.c
     go_simp
     refine hK.out _ _ (KF.out _ BU.out TU.out) (fun hHeld => ?_)
     clear hK K y0 y1
     refine wpAnyH_ready (rs := [3]) (by kernel_rfl) (by simp) ?_
     refine AllReadyH.cons rfl (fun K hK => ?_) AllReadyH.nil
     go_simp
     refine (KA.out _ BU.out).mono ?_
     rintro e u1 ⟨ua, rfl, hu, hb⟩
     obtain ⟨a1, n1, e1, a2, n2, e2, rfl, hu⟩ := hu.parts
     have UU : Hid (IsTxnIn (fun b => wb.heap.size ≤ b ∧ b < u1.heap.size) u1 (.agg #[.int .i64 t.node, .int .i64 t.seq, .slice a1 n1 e1, .slice a2 n2 e2]) t) := Lib.hid (hu.mono fun b h => ⟨Nat.le_trans BD.out h.1, h.2⟩)
     replace BD := Lib.hid (Nat.le_trans BD.out hb.size)
     replace TU := Lib.hid ((hb.block _ (Array.getElem?_eq_some_iff.1 TU.out).1).trans TU.out)
     replace LU := Lib.hid (LU.out.below hb)
     replace OU := Lib.hid (OU.out.below hb (Nat.le_refl _))
     replace BU := Lib.hid (BU.out.trans (hb.mono BU.out.size))
     replace BK := Lib.hid (BK.out.trans (hb.mono (Nat.le_trans ZU.out BK.out.size)))
     clear hu hb KA
     refine hK.out _ _ (KF.out _ BU.out TU.out) (fun hHeld => ?_)
     clear hK K
     refine wpAnyH_ready (rs := [4]) (by kernel_rfl) (by simp) ?_
     refine AllReadyH.cons rfl (fun K hK => ?_) AllReadyH.nil
     go_simp
     have hb := (Below.refl u1.heap.size u1).alloc (Nat.le_refl _) (.cells #[.int .i64 t.node, .int .i64 t.seq, .slice a1 n1 e1, .slice a2 n2 e2] 29)
     have LX := Lib.hid (one_txnQ (J := (fun b => w.heap.size + 3 ≤ b)) (N := fun b => wb.heap.size ≤ b ∧ b < u1.heap.size) (W := u1) (x := t) (ov := .slice a m c) UU.out.deps UU.out.effs (fun b h => h.2) (fun b h => JN.out b h.1) (JN.out _ BD.out) (fun q hq => by have h1 := OL.out q hq; have h2 := BD.out; exact ⟨fun h => by omega, by omega⟩))
     have LZ : Hid ((u1.alloc (.cells #[.int .i64 t.node, .int .i64 t.seq, .slice a1 n1 e1, .slice a2 n2 e2] 29)).heap.size = u1.heap.size + 1) := Lib.hid (by simp)
     replace BD := Lib.hid (Nat.le_trans BD.out hb.size)
     replace TU := Lib.hid ((hb.block _ (Array.getElem?_eq_some_iff.1 TU.out).1).trans TU.out)
     replace LU := Lib.hid (LU.out.below hb)
     replace OU := Lib.hid (OU.out.below hb (Nat.le_refl _))
     replace BU := Lib.hid (BU.out.trans (hb.mono BU.out.size))
     replace BK := Lib.hid (BK.out.trans (hb.mono (Nat.le_trans ZU.out BK.out.size)))
     clear hb UU
     refine hK.out _ _ (KF.out _ BU.out TU.out) (fun hHeld => ?_)
     clear hK K LZ
     generalize u1.heap.size = bk at *
     generalize (u1.alloc (.cells #[.int .i64 t.node, .int .i64 t.seq, .slice a1 n1 e1, .slice a2 n2 e2] 29)) = u2 at *
     refine wpAnyH_ready (rs := [5]) (by kernel_rfl) (by simp) ?_
     refine AllReadyH.cons rfl (fun K hK => ?_) AllReadyH.nil
     refine step_append_elQ ((fun b => w.heap.size + 3 ≤ b)) LTxn (by rfl) (.tmp 24) (.tmp 27) (by rfl) ((w.heap.size + 3)) (by rfl) OU.out (by rfl) LX.out (fun vs x h => h) (by have := KL.out; have := KL2.out; simp; omega) (by have := ZU.out; have := BD.out; omega) ?_
     intro v2 u3 ho hg hat
     obtain ⟨a3, c3, rfl, -, -, ho⟩ := ho.at (m + 1) (by have := KL.out; simp; omega)
     replace TU := Lib.hid ((hg.block _ (Array.getElem?_eq_some_iff.1 TU.out).1 GN.out).trans TU.out)
     replace LU := Lib.hid (LU.out.eq (hg.block _ LU.out.lt (fun e => VN.out.2 e.symm)))
     replace BU := Lib.hid (BU.out.grown hg BU.out.size (fun j hj => by have := OU.out.lt j hj; have := NW.out; omega))
     replace BK := Lib.hid (BK.out.grown hg (Nat.le_trans ZU.out BK.out.size) (fun j hj => (OU.out.lt j hj).1))
     have VA : Hid (∀ j, (Value.slice a3 (m + 1) c3).ownBlock = some j → j ≠ (w.heap.size + 2)) := Lib.hid (fun j e => by rcases hat with h | h; exact fun e2 => VN.out.2 (by rw [← h, e, e2]); have h2 := Option.some.inj (e.symm.trans h); have := VL.out; have := BD.out; omega)
     replace OU := Lib.hid ho
     replace BD := Lib.hid (Nat.le_trans BD.out hg.size)
     clear ho hg hat LX
     refine hK.out _ _ (KF.out _ BU.out TU.out) (fun hHeld => ?_)
     clear hK K
     refine tkA (i := 6) (v := ?_) rfl (by kernel_rfl) (fun _ _ _ h => h) (Or.inl ⟨by rfl, ?_⟩) hHeld ?_
     rotate_left
     ·(intro w' hSw; (try dsimp only at hSw); go_simp; try with_reducible rfl)
     simp only [List.getElem_toArray, List.getElem_cons_zero, List.getElem_cons_succ, Act.put, List.setIfInBounds_toArray, List.set_cons_zero, List.set_cons_succ]
     obtain ⟨⟨y0, y1⟩, g0, g1⟩ := LU.out.c
     refine wpAnyH_ready (rs := [7]) (by kernel_rfl) (by simp) ?_
     refine AllReadyH.cons rfl (fun K hK => ?_) AllReadyH.nil
     go_simp
     have hbs : Below w.heap.size w (u3.setCell ⟨(w.heap.size + 2), 1, none⟩ (.slice a3 (m + 1) c3)) := BU.out.setCell VW.out _
     have hto : ∀ b, b ≠ (w.heap.size + 2) → (u3.setCell ⟨(w.heap.size + 2), 1, none⟩ (.slice a3 (m + 1) c3)).heap[b]? = u3.heap[b]? := fun b h => Below.heap_setCell _ _ _ _ h
     refine hK.out _ _ (KF.out _ hbs ((hto _ GV.out).trans TU.out)) (fun hHeld => ?_)
     replace LU := Lib.hid (LU.out.put1 a3 (m + 1) c3)
     replace OU := Lib.hid (OU.out.keptQ (w' := u3.setCell ⟨(w.heap.size + 2), 1, none⟩ (.slice a3 (m + 1) c3)) (by simp [World.setCell]) (fun b hb h => hto b (by rcases h with h | h; exact fun e => (by subst e; exact VN.out.1 h); exact VA.out b h)))
     replace BU := Lib.hid hbs
     have HTO := Lib.hid hto
     clear hK K y0 y1 g0 g1 hbs hto VA
     refine wpAnyH_done (by kernel_rfl) ?_ _
     clear hHeld KF TU
     go_wp2_with fail
     go_roundw
     case rel => exact ⟨k + 1, m + 1, a3, c3, by omega, by go_num, BU.out, RB.out.eq ((HTO.out _ (by omega)).trans (BK.out.block _ (by omega))), LU.out, by rw [NL.out, List.length_append, KL.out]; rfl, by rw [NL.out]; exact OU.out⟩
     case measure => simp [intOf]; omega
    ·skip
     go_simp
     refine (KA.out _ BU.out).mono ?_
     rintro e u1 ⟨ua, rfl, hu, hb⟩
     obtain ⟨a1, n1, e1, a2, n2, e2, rfl, hu⟩ := hu.parts
     have UU : Hid (IsTxnIn (fun b => wb.heap.size ≤ b ∧ b < u1.heap.size) u1 (.agg #[.int .i64 t.node, .int .i64 t.seq, .slice a1 n1 e1, .slice a2 n2 e2]) t) := Lib.hid (hu.mono fun b h => ⟨Nat.le_trans BD.out h.1, h.2⟩)
     replace BD := Lib.hid (Nat.le_trans BD.out hb.size)
     replace TU := Lib.hid ((hb.block _ (Array.getElem?_eq_some_iff.1 TU.out).1).trans TU.out)
     replace LU := Lib.hid (LU.out.below hb)
     replace OU := Lib.hid (OU.out.below hb (Nat.le_refl _))
     replace BU := Lib.hid (BU.out.trans (hb.mono BU.out.size))
     replace BK := Lib.hid (BK.out.trans (hb.mono (Nat.le_trans ZU.out BK.out.size)))
     clear hu hb KA
     refine hK.out _ _ (KF.out _ BU.out TU.out) (fun hHeld => ?_)
     clear hK K
     refine wpAnyH_ready (rs := [1, 4]) (by kernel_rfl) (by simp) ?_
     refine AllReadyH.cons rfl (fun K hK => ?_) (AllReadyH.cons rfl (fun K hK => ?_) AllReadyH.nil)
     ·skip
      obtain ⟨⟨y0, y1⟩, -⟩ := LU.out.c
      go_simp
      refine hK.out _ _ (KF.out _ BU.out TU.out) (fun hHeld => ?_)
      clear hK K y0 y1
      refine wpAnyH_ready (rs := [4]) (by kernel_rfl) (by simp) ?_
      refine AllReadyH.cons rfl (fun K hK => ?_) AllReadyH.nil
      go_simp
      have hb := (Below.refl u1.heap.size u1).alloc (Nat.le_refl _) (.cells #[.int .i64 t.node, .int .i64 t.seq, .slice a1 n1 e1, .slice a2 n2 e2] 29)
      have LX := Lib.hid (one_txnQ (J := (fun b => w.heap.size + 3 ≤ b)) (N := fun b => wb.heap.size ≤ b ∧ b < u1.heap.size) (W := u1) (x := t) (ov := .slice a m c) UU.out.deps UU.out.effs (fun b h => h.2) (fun b h => JN.out b h.1) (JN.out _ BD.out) (fun q hq => by have h1 := OL.out q hq; have h2 := BD.out; exact ⟨fun h => by omega, by omega⟩))
      have LZ : Hid ((u1.alloc (.cells #[.int .i64 t.node, .int .i64 t.seq, .slice a1 n1 e1, .slice a2 n2 e2] 29)).heap.size = u1.heap.size + 1) := Lib.hid (by simp)
      replace BD := Lib.hid (Nat.le_trans BD.out hb.size)
      replace TU := Lib.hid ((hb.block _ (Array.getElem?_eq_some_iff.1 TU.out).1).trans TU.out)
      replace LU := Lib.hid (LU.out.below hb)
      replace OU := Lib.hid (OU.out.below hb (Nat.le_refl _))
      replace BU := Lib.hid (BU.out.trans (hb.mono BU.out.size))
      replace BK := Lib.hid (BK.out.trans (hb.mono (Nat.le_trans ZU.out BK.out.size)))
      clear hb UU
      refine hK.out _ _ (KF.out _ BU.out TU.out) (fun hHeld => ?_)
      clear hK K LZ
      generalize u1.heap.size = bk at *
      generalize (u1.alloc (.cells #[.int .i64 t.node, .int .i64 t.seq, .slice a1 n1 e1, .slice a2 n2 e2] 29)) = u2 at *
      refine wpAnyH_ready (rs := [5]) (by kernel_rfl) (by simp) ?_
      refine AllReadyH.cons rfl (fun K hK => ?_) AllReadyH.nil
      refine step_append_elQ ((fun b => w.heap.size + 3 ≤ b)) LTxn (by rfl) (.tmp 24) (.tmp 27) (by rfl) ((w.heap.size + 3)) (by rfl) OU.out (by rfl) LX.out (fun vs x h => h) (by have := KL.out; have := KL2.out; simp; omega) (by have := ZU.out; have := BD.out; omega) ?_
      intro v2 u3 ho hg hat
      obtain ⟨a3, c3, rfl, -, -, ho⟩ := ho.at (m + 1) (by have := KL.out; simp; omega)
      replace TU := Lib.hid ((hg.block _ (Array.getElem?_eq_some_iff.1 TU.out).1 GN.out).trans TU.out)
      replace LU := Lib.hid (LU.out.eq (hg.block _ LU.out.lt (fun e => VN.out.2 e.symm)))
      replace BU := Lib.hid (BU.out.grown hg BU.out.size (fun j hj => by have := OU.out.lt j hj; have := NW.out; omega))
      replace BK := Lib.hid (BK.out.grown hg (Nat.le_trans ZU.out BK.out.size) (fun j hj => (OU.out.lt j hj).1))
      have VA : Hid (∀ j, (Value.slice a3 (m + 1) c3).ownBlock = some j → j ≠ (w.heap.size + 2)) := Lib.hid (fun j e => by rcases hat with h | h; exact fun e2 => VN.out.2 (by rw [← h, e, e2]); have h2 := Option.some.inj (e.symm.trans h); have := VL.out; have := BD.out; omega)
      replace OU := Lib.hid ho
      replace BD := Lib.hid (Nat.le_trans BD.out hg.size)
      clear ho hg hat LX
      refine hK.out _ _ (KF.out _ BU.out TU.out) (fun hHeld => ?_)
      clear hK K
      refine tkA (i := 6) (v := ?_) rfl (by kernel_rfl) (fun _ _ _ h => h) (Or.inl ⟨by rfl, ?_⟩) hHeld ?_
      rotate_left
      ·(intro w' hSw; (try dsimp only at hSw); go_simp; try with_reducible rfl)
      simp only [List.getElem_toArray, List.getElem_cons_zero, List.getElem_cons_succ, Act.put, List.setIfInBounds_toArray, List.set_cons_zero, List.set_cons_succ]
      obtain ⟨⟨y0, y1⟩, g0, g1⟩ := LU.out.c
      refine wpAnyH_ready (rs := [7]) (by kernel_rfl) (by simp) ?_
      refine AllReadyH.cons rfl (fun K hK => ?_) AllReadyH.nil
      go_simp
      have hbs : Below w.heap.size w (u3.setCell ⟨(w.heap.size + 2), 1, none⟩ (.slice a3 (m + 1) c3)) := BU.out.setCell VW.out _
      have hto : ∀ b, b ≠ (w.heap.size + 2) → (u3.setCell ⟨(w.heap.size + 2), 1, none⟩ (.slice a3 (m + 1) c3)).heap[b]? = u3.heap[b]? := fun b h => Below.heap_setCell _ _ _ _ h
      refine hK.out _ _ (KF.out _ hbs ((hto _ GV.out).trans TU.out)) (fun hHeld => ?_)
      replace LU := Lib.hid (LU.out.put1 a3 (m + 1) c3)
      replace OU := Lib.hid (OU.out.keptQ (w' := u3.setCell ⟨(w.heap.size + 2), 1, none⟩ (.slice a3 (m + 1) c3)) (by simp [World.setCell]) (fun b hb h => hto b (by rcases h with h | h; exact fun e => (by subst e; exact VN.out.1 h); exact VA.out b h)))
      replace BU := Lib.hid hbs
      have HTO := Lib.hid hto
      clear hK K y0 y1 g0 g1 hbs hto VA
      refine wpAnyH_done (by kernel_rfl) ?_ _
      clear hHeld KF TU
      go_wp2_with fail
      go_roundw
      case rel => exact ⟨k + 1, m + 1, a3, c3, by omega, by go_num, BU.out, RB.out.eq ((HTO.out _ (by omega)).trans (BK.out.block _ (by omega))), LU.out, by rw [NL.out, List.length_append, KL.out]; rfl, by rw [NL.out]; exact OU.out⟩
      case measure => simp [intOf]; omega
     ·skip
      go_simp
      have hb := (Below.refl u1.heap.size u1).alloc (Nat.le_refl _) (.cells #[.int .i64 t.node, .int .i64 t.seq, .slice a1 n1 e1, .slice a2 n2 e2] 29)
      have LX := Lib.hid (one_txnQ (J := (fun b => w.heap.size + 3 ≤ b)) (N := fun b => wb.heap.size ≤ b ∧ b < u1.heap.size) (W := u1) (x := t) (ov := .slice a m c) UU.out.deps UU.out.effs (fun b h => h.2) (fun b h => JN.out b h.1) (JN.out _ BD.out) (fun q hq => by have h1 := OL.out q hq; have h2 := BD.out; exact ⟨fun h => by omega, by omega⟩))
      have LZ : Hid ((u1.alloc (.cells #[.int .i64 t.node, .int .i64 t.seq, .slice a1 n1 e1, .slice a2 n2 e2] 29)).heap.size = u1.heap.size + 1) := Lib.hid (by simp)
      replace BD := Lib.hid (Nat.le_trans BD.out hb.size)
      replace TU := Lib.hid ((hb.block _ (Array.getElem?_eq_some_iff.1 TU.out).1).trans TU.out)
      replace LU := Lib.hid (LU.out.below hb)
      replace OU := Lib.hid (OU.out.below hb (Nat.le_refl _))
      replace BU := Lib.hid (BU.out.trans (hb.mono BU.out.size))
      replace BK := Lib.hid (BK.out.trans (hb.mono (Nat.le_trans ZU.out BK.out.size)))
      clear hb UU
      refine hK.out _ _ (KF.out _ BU.out TU.out) (fun hHeld => ?_)
      clear hK K LZ
      generalize u1.heap.size = bk at *
      generalize (u1.alloc (.cells #[.int .i64 t.node, .int .i64 t.seq, .slice a1 n1 e1, .slice a2 n2 e2] 29)) = u2 at *
      refine wpAnyH_ready (rs := [1]) (by kernel_rfl) (by simp) ?_
      refine AllReadyH.cons rfl (fun K hK => ?_) AllReadyH.nil
      obtain ⟨⟨y0, y1⟩, -⟩ := LU.out.c
      go_simp
      refine hK.out _ _ (KF.out _ BU.out TU.out) (fun hHeld => ?_)
      clear hK K y0 y1
      refine wpAnyH_ready (rs := [5]) (by kernel_rfl) (by simp) ?_
      refine AllReadyH.cons rfl (fun K hK => ?_) AllReadyH.nil
      refine step_append_elQ ((fun b => w.heap.size + 3 ≤ b)) LTxn (by rfl) (.tmp 24) (.tmp 27) (by rfl) ((w.heap.size + 3)) (by rfl) OU.out (by rfl) LX.out (fun vs x h => h) (by have := KL.out; have := KL2.out; simp; omega) (by have := ZU.out; have := BD.out; omega) ?_
      intro v2 u3 ho hg hat
      obtain ⟨a3, c3, rfl, -, -, ho⟩ := ho.at (m + 1) (by have := KL.out; simp; omega)
      replace TU := Lib.hid ((hg.block _ (Array.getElem?_eq_some_iff.1 TU.out).1 GN.out).trans TU.out)
      replace LU := Lib.hid (LU.out.eq (hg.block _ LU.out.lt (fun e => VN.out.2 e.symm)))
      replace BU := Lib.hid (BU.out.grown hg BU.out.size (fun j hj => by have := OU.out.lt j hj; have := NW.out; omega))
      replace BK := Lib.hid (BK.out.grown hg (Nat.le_trans ZU.out BK.out.size) (fun j hj => (OU.out.lt j hj).1))
      have VA : Hid (∀ j, (Value.slice a3 (m + 1) c3).ownBlock = some j → j ≠ (w.heap.size + 2)) := Lib.hid (fun j e => by rcases hat with h | h; exact fun e2 => VN.out.2 (by rw [← h, e, e2]); have h2 := Option.some.inj (e.symm.trans h); have := VL.out; have := BD.out; omega)
      replace OU := Lib.hid ho
      replace BD := Lib.hid (Nat.le_trans BD.out hg.size)
      clear ho hg hat LX
      refine hK.out _ _ (KF.out _ BU.out TU.out) (fun hHeld => ?_)
      clear hK K
      refine tkA (i := 6) (v := ?_) rfl (by kernel_rfl) (fun _ _ _ h => h) (Or.inl ⟨by rfl, ?_⟩) hHeld ?_
      rotate_left
      ·(intro w' hSw; (try dsimp only at hSw); go_simp; try with_reducible rfl)
      simp only [List.getElem_toArray, List.getElem_cons_zero, List.getElem_cons_succ, Act.put, List.setIfInBounds_toArray, List.set_cons_zero, List.set_cons_succ]
      obtain ⟨⟨y0, y1⟩, g0, g1⟩ := LU.out.c
      refine wpAnyH_ready (rs := [7]) (by kernel_rfl) (by simp) ?_
      refine AllReadyH.cons rfl (fun K hK => ?_) AllReadyH.nil
      go_simp
      have hbs : Below w.heap.size w (u3.setCell ⟨(w.heap.size + 2), 1, none⟩ (.slice a3 (m + 1) c3)) := BU.out.setCell VW.out _
      have hto : ∀ b, b ≠ (w.heap.size + 2) → (u3.setCell ⟨(w.heap.size + 2), 1, none⟩ (.slice a3 (m + 1) c3)).heap[b]? = u3.heap[b]? := fun b h => Below.heap_setCell _ _ _ _ h
      refine hK.out _ _ (KF.out _ hbs ((hto _ GV.out).trans TU.out)) (fun hHeld => ?_)
      replace LU := Lib.hid (LU.out.put1 a3 (m + 1) c3)
      replace OU := Lib.hid (OU.out.keptQ (w' := u3.setCell ⟨(w.heap.size + 2), 1, none⟩ (.slice a3 (m + 1) c3)) (by simp [World.setCell]) (fun b hb h => hto b (by rcases h with h | h; exact fun e => (by subst e; exact VN.out.1 h); exact VA.out b h)))
      replace BU := Lib.hid hbs
      have HTO := Lib.hid hto
      clear hK K y0 y1 g0 g1 hbs hto VA
      refine wpAnyH_done (by kernel_rfl) ?_ _
      clear hHeld KF TU
      go_wp2_with fail
      go_roundw
      case rel => exact ⟨k + 1, m + 1, a3, c3, by omega, by go_num, BU.out, RB.out.eq ((HTO.out _ (by omega)).trans (BK.out.block _ (by omega))), LU.out, by rw [NL.out, List.length_append, KL.out]; rfl, by rw [NL.out]; exact OU.out⟩
      case measure => simp [intOf]; omega
  ·obtain rfl : k = n := by omega
   have hk1 : ¬ (k : Int) < k := by omega
   have HL : Hid (qLeft (l.take k) x = qLeft l x) := Lib.hid (by rw [show k = l.length from HN.out, List.take_length])
   have R1 := Lib.hid R.out
   clear R
   obtain ⟨⟨c0, c1⟩, -⟩ := R1.out.lb.c
   obtain ⟨⟨y0, y1⟩, f0, f1⟩ := R1.out.rb.c
   have Z := Lib.hid ((R1.out.rb.put qm a m c).c.1)
   have ZO : Hid (OwnJ (fun b => w.heap.size ≤ b) LTxn w.heap.size ((wr.setCell ⟨w.heap.size + 1, 0, none⟩ (.int .i64 qm)).setCell ⟨w.heap.size + 1, 1, none⟩ (.slice a m c)) (.slice a m c) (qLeft l x)) := Lib.hid (by
    have h := R1.out.ow.kept (w' := (wr.setCell ⟨w.heap.size + 1, 0, none⟩ (.int .i64 qm)).setCell ⟨w.heap.size + 1, 1, none⟩ (.slice a m c)) (by simp [World.setCell]) fun b hb h => (Below.heap_setCell _ _ _ _ (by have h2 : w.heap.size + 3 ≤ b ∨ w.heap.size + 3 ≤ b := h; show b ≠ w.heap.size + 1; omega)).trans (Below.heap_setCell _ _ _ _ (by have h2 : w.heap.size + 3 ≤ b ∨ w.heap.size + 3 ≤ b := h; show b ≠ w.heap.size + 1; omega))
    rw [HL.out] at h
    exact (h.mono (by omega)).imp fun b hb => by omega)
   have ZB : Hid (Below w.heap.size w ((wr.setCell ⟨w.heap.size + 1, 0, none⟩ (.int .i64 qm)).setCell ⟨w.heap.size + 1, 1, none⟩ (.slice a m c))) := Lib.hid ((R1.out.low.setCell (by show w.heap.size ≤ w.heap.size + 1; omega) _).setCell (by show w.heap.size ≤ w.heap.size + 1; omega) _)
   have ZL : Hid ((qLeft l x).length = m) := Lib.hid (by rw [← HL.out]; exact R1.out.len)
   clear R1 HL
   go_wp2_with fail
   obtain ⟨z0, z1⟩ := Z.out
   refine bodyPost_ret (v := .agg #[.int .i64 qm, .slice a m c]) (by simp [results, Tryz.results11, go_sem, z0, z1]) rfl ?_
   exact ⟨a, m, c, rfl, ZL.out, ZO.out, ZB.out⟩
end Go.Proofs.YtmknpmamkjjiaaaGreat
