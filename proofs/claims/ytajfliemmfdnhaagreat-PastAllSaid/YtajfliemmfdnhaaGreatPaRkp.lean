/- What the document's own Keep and Prune of a past leave; variables that hold pasts and are stored into. (Written by gen-ref16.py.) -/
import Derived.Test.YtajfliemmfdnhaaGreatPaRfz
import Derived.Test.YtajfliemmfdnhaaGreatVcAll
import Derived.Deep.RegionHeld3
import Derived.Deep.DeepCutAuto
namespace Go.Proofs.YtajfliemmfdnhaaGreat
open Go.RowKit Plain
set_option linter.unusedVariables false


set_option maxRecDepth 100000 in
set_option maxHeartbeats 16000000 in
theorem rkeep_any {v tv : Value} {p : PPast} {t : PTxn} {w : World} (hp : IsPast w v p) (ht : IsTxn w tv t) (hl : p.floor.length ≤ 1000) (hn : p.list.length ≤ 1000000) (hft : FitR t) : Calls Tryz.prog 10 #[v, tv] w (GivesI w (pErr p t)) := by
 obtain ⟨fa, fn, fc, la, ln, lc, rfl, h1, h2⟩ := hp.slices
 obtain ⟨da, dn, dc, ea, en, ec, rfl, k1, k2⟩ := ht.parts
 have b1 := (Below.refl w.heap.size w).alloc (Nat.le_refl _) (.cells #[.slice fa fn fc, .slice la ln lc] 26)
 have b2 := (Below.refl (w.alloc (.cells #[.slice fa fn fc, .slice la ln lc] 26)).heap.size (w.alloc (.cells #[.slice fa fn fc, .slice la ln lc] 26))).alloc (Nat.le_refl _) (.cells #[.int .i64 t.node, .int .i64 t.seq, .slice da dn dc, .slice ea en ec] 29)
 have G := Lib.hid (b1.trans (b2.mono b1.size))
 have PB := Lib.hid ((pabox_new (p := p) h1 h2).below b2)
 have TB : Hid (TxBox (w.heap.size + 1) t da dn dc ea en ec ((w.alloc (.cells #[.slice fa fn fc, .slice la ln lc] 26)).alloc (.cells #[.int .i64 t.node, .int .i64 t.seq, .slice da dn dc, .slice ea en ec] 29))) := Lib.hid (by have h := txbox_new (t := t) (w := w.alloc (.cells #[.slice fa fn fc, .slice la ln lc] 26)) (k1.below b1) (k2.below b1); rwa [show (w.alloc (.cells #[.slice fa fn fc, .slice la ln lc] 26)).heap.size = w.heap.size + 1 by simp] at h)
 have HL := Lib.hid hl
 have HN := Lib.hid hn
 have FT := Lib.hid hft
 have DL := Lib.hid h2.dims
 have EL : Hid ((pEnd p).length ≤ 1000000) := Lib.hid (by
  have e1 := oEnd_len p.list p.floor
  have e2 := trim_len (oEnd p.floor p.list)
  unfold pEnd
  omega)
 have O1 := Lib.hid (fun h => (keep_form (p := p) (t := t) h).1)
 have O2 := Lib.hid (fun h h1 => (keep_old (p := p) (t := t) h h1).1)
 have O3 := Lib.hid (fun h h1 h2 => (keep_gap (p := p) (t := t) h h1 h2).1)
 have O4 := Lib.hid (fun h h1 h2 h3 => (keep_full (p := p) (t := t) h h1 h2 h3).1)
 have O5 := Lib.hid (fun h h1 h2 h3 => (keep_ok (p := p) (t := t) h h1 h2 h3).1)
 clear hp ht hl hn hft h1 h2 k1 k2 b1 b2
 generalize pErr p t = er at *
 go_enter Tryz.func10, Tryz.ntmps10
 go_upto_region 1 with fail
 generalize ((w.alloc (.cells #[.slice fa fn fc, .slice la ln lc] 26)).alloc (.cells #[.int .i64 t.node, .int .i64 t.seq, .slice da dn dc, .slice ea en ec] 29)) = wb at *
 generalize hg0 : w.heap.size = g0 at PB TB ⊢
 have K1 := Lib.hid (rend_any PB.out.is HL.out HN.out)
 obtain ⟨c0, c1⟩ := PB.out.c
 go_wp2_with fail
 refine K1.out.mono ?_
 rintro e w1 ⟨v1, rfl, ho, hb⟩
 have SE := Lib.hid ho.seq
 obtain ⟨e1, ec1, rfl, -, -, -, -⟩ := ho.parts
 replace PB := Lib.hid (PB.out.below hb)
 replace TB := Lib.hid (TB.out.below hb)
 replace G := Lib.hid (G.out.trans (hb.mono G.out.size))
 clear hb ho K1 c0 c1
 obtain ⟨fb, hfb⟩ : ∃ b, b = tformedB t := ⟨_, rfl⟩
 have K2 := Lib.hid (rformedT TB.out.is FT.out fb hfb.symm)
 rw [← hfb] at O1 O2 O3 O4 O5
 clear hfb
 obtain ⟨d0, d1, d2, d3⟩ := TB.out.c
 go_wp2_with fail
 refine K2.out.mono ?_
 rintro e w2 ⟨rfl, hb⟩
 replace PB := Lib.hid (PB.out.below hb)
 replace TB := Lib.hid (TB.out.below hb)
 replace G := Lib.hid (G.out.trans (hb.mono G.out.size))
 replace SE := Lib.hid (SE.out.below hb)
 clear hb K2 d0 d1 d2 d3
 cases fb with
 | false =>
  have HZ := Lib.hid (O1.out (by decide))
  go_wp2_with fail
  go_ret
  first | exact ⟨by rw [HZ.out]; rfl, G.out⟩ | exact ⟨by rw [HZ.out]; rfl, hg0 ▸ G.out⟩
 | true =>
  have K3 := Lib.hid (rheardT_any SE.out TB.out.is)
  obtain ⟨hb8, hh⟩ : ∃ b, b = pHeard (pEnd p) t := ⟨_, rfl⟩
  rw [← hh] at K3 O2 O3 O4 O5
  clear hh
  obtain ⟨d0, d1, d2, d3⟩ := TB.out.c
  go_wp2_with fail
  refine K3.out.mono ?_
  rintro e w3 ⟨rfl, hb⟩
  replace PB := Lib.hid (PB.out.below hb)
  replace TB := Lib.hid (TB.out.below hb)
  replace G := Lib.hid (G.out.trans (hb.mono G.out.size))
  replace SE := Lib.hid (SE.out.below hb)
  clear hb K3 d0 d1 d2 d3
  cases hb8 with
  | true =>
   have HZ := Lib.hid (O2.out (by decide) (by decide))
   go_wp2_with fail
   go_ret
   first | exact ⟨by rw [HZ.out]; rfl, G.out⟩ | exact ⟨by rw [HZ.out]; rfl, hg0 ▸ G.out⟩
  | false =>
   have K4 := Lib.hid (oreadyR_any SE.out TB.out.is EL.out (by have := FT.out.tx.deps; omega) ((i64_in FT.out.tx.ok.2.1).2))
   obtain ⟨rb, hrb⟩ : ∃ b, b = oReady (pEnd p) t := ⟨_, rfl⟩
   rw [← hrb] at K4 O3 O4 O5
   clear hrb
   obtain ⟨d0, d1, d2, d3⟩ := TB.out.c
   go_wp2_with fail
   refine K4.out.mono ?_
   rintro e w4 ⟨rfl, hb⟩
   replace PB := Lib.hid (PB.out.below hb)
   replace TB := Lib.hid (TB.out.below hb)
   replace G := Lib.hid (G.out.trans (hb.mono G.out.size))
   clear hb K4 d0 d1 d2 d3
   cases rb with
   | false =>
    have HZ := Lib.hid (O3.out (by decide) (by decide) (by decide))
    go_wp2_with fail
    go_ret
    first | exact ⟨by rw [HZ.out]; rfl, G.out⟩ | exact ⟨by rw [HZ.out]; rfl, hg0 ▸ G.out⟩
   | true =>
    obtain ⟨c0, c1⟩ := PB.out.c
    by_cases hfull : 4096 ≤ ln
    ·have hfi : (4096 : Int) ≤ (ln : Int) := by omega
     have HZ := Lib.hid (O4.out (by decide) (by decide) (by decide) (by rw [DL.out.1]; exact hfull))
     clear hfull
     go_wp2_with fail
     go_ret
     first | exact ⟨by rw [HZ.out]; rfl, G.out⟩ | exact ⟨by rw [HZ.out]; rfl, hg0 ▸ G.out⟩
    ·have hfi : ¬ (4096 : Int) ≤ (ln : Int) := by omega
     have HZ := Lib.hid (O5.out (by decide) (by decide) (by decide) (by rw [DL.out.1]; exact hfull))
     clear hfull
     go_wp2_with fail
     go_ret
     first | exact ⟨by rw [HZ.out]; rfl, G.out⟩ | exact ⟨by rw [HZ.out]; rfl, hg0 ▸ G.out⟩
def GivesPaS (w : World) (p : PPast) (e : Ending) (w' : World) : Prop := ∃ fa fn fc la ln lc, e = .returned (.agg #[.slice fa fn fc, .slice la ln lc]) ∧ SeqE LInt w' (.slice fa fn fc) p.floor ∧ SeqE LTxn w' (.slice la ln lc) p.list ∧ Below w.heap.size w w'
set_option maxRecDepth 100000 in
set_option maxHeartbeats 16000000 in
theorem rprune_any {v tv : Value} {p : PPast} {tw : Ints} {w : World} (hp : IsPast w v p) (ht : SeqI w tv tw) (hl : p.floor.length ≤ 1000) (hn : p.list.length ≤ 1000000) (htl : tw.length ≤ 1000) :
  Calls Tryz.prog 18 #[v, tv] w (GivesPaS w (pPrune p tw)) := by
 obtain ⟨fa, fn, fc, la, ln, lc, rfl, h1, h2⟩ := hp.slices
 have DA := Lib.hid (prat_new w fa fn fc la ln lc)
 have EL : Hid ((pEnd p).length ≤ 1000000) := Lib.hid (by
  have e1 := oEnd_len p.list p.floor
  have e2 := trim_len (oEnd p.floor p.list)
  unfold pEnd
  omega)
 have ML : Hid ((meet tw (pEnd p)).length ≤ 1000000) := Lib.hid (by have := meet_len tw (pEnd p); omega)
 have KE : Hid (∀ u, PrAt w fa fn fc la ln lc u → PrAt w fa fn fc la ln lc u ∧ u.cell? ⟨w.heap.size, 0, none⟩ = some (.slice fa fn fc) ∧ u.cell? ⟨w.heap.size, 1, none⟩ = some (.slice la ln lc)) := Lib.hid (fun u k => ⟨k, (st2_cells k.sb).1⟩)
 have KD := Lib.hid (fun u (k : PrAt w fa fn fc la ln lc u) => rend_any (p := p) ⟨_, _, rfl, h1.below k.low, h2.below k.low⟩ hl hn)
 have KM := Lib.hid (fun u ev (k : PrAt w fa fn fc la ln lc u) (he : SeqI u ev (pEnd p)) => vc_rmeet_any (ht.below k.low) he (by omega) EL.out)
 have KJ : Hid (∀ u ev, PrAt w fa fn fc la ln lc u → SeqI u ev (meet tw (pEnd p)) → Calls Tryz.prog 47 #[.slice fa fn fc, ev, .bool true] u (MadeI u (pFloor p tw))) := Lib.hid (fun u ev k he => vc_rjoin_any (seqI_of (h1.below k.low)) he (by omega) ML.out)
 have KU := Lib.hid (fun u ev (k : PrAt w fa fn fc la ln lc u) (he : SeqI u ev (pFloor p tw)) => rleft_any (h2.below k.low) he hn)
 obtain ⟨ta, tc, rfl, -⟩ := ht.parts
 have HR : Hid (pPrune p tw = ⟨pFloor p tw, pLeft p.list (pFloor p tw)⟩) := Lib.hid rfl
 rw [HR.out]
 clear hp ht hl hn htl h1 h2 EL ML HR
 generalize pLeft p.list (pFloor p tw) = ll at *
 generalize pFloor p tw = pf at *
 generalize meet tw (pEnd p) = me at *
 generalize pEnd p = pe at *
 generalize tw.length = tn at *
 go_enter Tryz.func18, Tryz.ntmps18
 go_upto_region 1 with fail
 generalize ((w.alloc (.cells #[.slice fa fn fc, .slice la ln lc] 26)).alloc (.cells #[.slice none 0 0, .slice none 0 0] 26)) = w0 at *
 refine wp_region_held_drew (S := fun u' => PrAt w fa fn fc la ln lc u' ∧ u'.cell? ⟨w.heap.size, 0, none⟩ = some (.slice fa fn fc) ∧ u'.cell? ⟨w.heap.size, 1, none⟩ = some (.slice la ln lc)) (by kernel_rfl) ?_ (fun hHeld => ?_)
 ·(exact KE.out _ (DA.out.below (Below.refl _ _).drew))
 simp only [List.size_toArray, List.length_cons, List.length_nil, Nat.zero_add, Nat.reduceAdd]
 refine tkB (i := 0) hHeld ?_
 refine tkB (i := 1) hHeld ?_
 refine tkB (i := 2) hHeld ?_
 refine tkB (i := 3) hHeld ?_
 refine wpAnyH_ready (rs := [4]) (by kernel_rfl) (by simp) ?_
 refine AllReadyH.cons rfl (fun K hK => ?_) AllReadyH.nil
 go_simp
 refine (KD.out _ hHeld.1).mono ?_
 rintro e s1 ⟨v1, rfl, ho, hb⟩; have S1 := Lib.hid ho.seq; obtain ⟨a1, c1, rfl, -, -, -, -⟩ := ho.parts; clear ho
 refine hK.out _ _ (KE.out _ (hHeld.1.below hb)) (fun hHeld => ?_)
 clear hK K hb
 refine wpAnyH_ready (rs := [5]) (by kernel_rfl) (by simp) ?_
 refine AllReadyH.cons rfl (fun K hK => ?_) AllReadyH.nil
 go_simp
 refine (KM.out _ _ hHeld.1 S1.out).mono ?_
 rintro e s2 ⟨v2, rfl, ho, hb⟩; have S2 := Lib.hid ho.seq; obtain ⟨a2, c2, rfl, -, -, -, -⟩ := ho.parts; clear ho S1
 refine hK.out _ _ (KE.out _ (hHeld.1.below hb)) (fun hHeld => ?_)
 clear hK K hb
 refine wpAnyH_ready (rs := [6]) (by kernel_rfl) (by simp) ?_
 refine AllReadyH.cons rfl (fun K hK => ?_) AllReadyH.nil
 go_simp
 refine (KJ.out _ _ hHeld.1 S2.out).mono ?_
 rintro e s3 ⟨v3, rfl, ho, hb⟩; have S3 := Lib.hid (ho.newI hHeld.1.low.size); obtain ⟨a3, c3, rfl, -, -, -, -⟩ := ho.parts; clear ho S2
 refine hK.out _ _ (KE.out _ (hHeld.1.below hb)) (fun hHeld => ?_)
 clear hK K hb
 refine tkB (i := 7) hHeld ?_
 refine wpAnyH_done (by kernel_rfl) ?_ _
 have D3 := Lib.hid hHeld.1
 clear hHeld KE KD KM KJ DA
 obtain ⟨c0, c1⟩ := (st2_cells D3.out.sb).1
 obtain ⟨fl3, hfl3⟩ : ∃ n, n = pf.length := ⟨_, rfl⟩
 rw [← hfl3] at S3 ⊢
 clear hfl3
 have K4 := Lib.hid (KU.out _ _ D3.out (seqI_of S3.out.new))
 go_wp2_with fail
 refine K4.out.mono ?_
 rintro e w4 ⟨v4, rfl, ho, hb⟩
 have D4 := Lib.hid (D3.out.below hb)
 have S4 := Lib.hid (S3.out.new.below hb)
 have L4 := Lib.hid ho.seq
 obtain ⟨a4, c4, rfl, -, -, -, -⟩ := ho.parts
 obtain ⟨n4, hn4⟩ : ∃ n, n = ll.length := ⟨_, rfl⟩
 rw [← hn4] at L4 ⊢
 clear ho hb K4 KU D3 S3 c0 c1 hn4
 obtain ⟨ra, rn, rc, ra', rn', rc', q0, q1, f0, f1⟩ := D4.out.res
 have DZ := Lib.hid (D4.out.done (.slice a3 fl3 c3) (.slice a4 n4 c4))
 have TW := Lib.hid D4.out.two
 have N5 := Lib.hid (seq_int_but TW.out (st2_but _ _ (.slice a3 fl3 c3) (.slice a4 n4 c4)) S4.out)
 have I5 := Lib.hid (seq_txn_but TW.out (st2_but _ _ (.slice a3 fl3 c3) (.slice a4 n4 c4)) L4.out)
 have LZ := Lib.hid ((D4.out.set a3 fl3 c3 a4 n4 c4).low)
 go_wp2_with fail
 obtain ⟨z0, z1⟩ := DZ.out
 refine bodyPost_ret (v := .agg #[.slice a3 fl3 c3, .slice a4 n4 c4]) (by simp [results, Tryz.results18, go_sem, z0, z1]) rfl ?_
 exact ⟨_, _, _, _, _, _, rfl, N5.out, I5.out, LZ.out⟩
theorem PaBox.two {g : Nat} {p : PPast} {fa la : Option Addr} {fn fc ln lc : Nat} {u : World} (k : PaBox g p fa fn fc la ln lc u) : Two u g := ⟨_, _, _, _, _, _, _, k.b⟩
theorem PaBox.but {g R : Nat} {p : PPast} {fa la : Option Addr} {fn fc ln lc : Nat} {u u' : World} (k : PaBox g p fa fn fc la ln lc u) (h2 : Two u R) (hb : But R u u') (hne : g ≠ R) : PaBox g p fa fn fc la ln lc u' :=
 ⟨(hb.block g k.lt hne).trans k.b, seq_int_but h2 hb k.f, seq_txn_but h2 hb k.l⟩
theorem pabox_set {w : World} {R : Nat} {p : PPast} {fa la : Option Addr} {fn fc ln lc : Nat} (h2 : Two w R) (h1 : SeqE LInt w (.slice fa fn fc) p.floor) (h3 : SeqE LTxn w (.slice la ln lc) p.list) (ht : ∃ x y, w.heap[R]? = some (.cells #[x, y] 26 (0, 0))) :
  PaBox R p fa fn fc la ln lc ((w.setCell ⟨R, 0, none⟩ (.slice fa fn fc)).setCell ⟨R, 1, none⟩ (.slice la ln lc)) := by
 obtain ⟨x, y, ht⟩ := ht
 exact ⟨st2_heap ht _ _, seq_int_but h2 (st2_but w R _ _) h1, seq_txn_but h2 (st2_but w R _ _) h3⟩
end Go.Proofs.YtajfliemmfdnhaaGreat
