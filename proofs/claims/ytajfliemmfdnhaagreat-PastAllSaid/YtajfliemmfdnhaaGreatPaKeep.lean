/- What the program's own Keep of a past leaves. (Written by gen-prog.py.) -/
import Derived.Test.YtajfliemmfdnhaaGreatPaBox
import Derived.Test.YtajfliemmfdnhaaGreatPaEnd
import Derived.Test.YtajfliemmfdnhaaGreatPaSin
import Derived.Test.YtajfliemmfdnhaaGreatPaLists
import Derived.Test.YtajfliemmfdnhaaGreatOrCon
import Derived.Test.YtajfliemmfdnhaaGreatPaPru
import Derived.Test.YtajfliemmfdnhaaGreatTxFrm
import Derived.Deep.DeepCutAuto
namespace Go.Proofs.YtajfliemmfdnhaaGreat
open Go.RowKit Plain
set_option linter.unusedVariables false


set_option maxRecDepth 100000 in
set_option maxHeartbeats 16000000 in
theorem pakeep_any {v tv : Value} {p : PPast} {t : PTxn} {w : World} (hp : IsPast w v p) (ht : IsTxn w tv t) (hl : p.floor.length ≤ 1000) (hn : p.list.length ≤ 1000000) (hf : ∀ x ∈ p.list, FitTx x) (hft : FitTx t) :
  Calls Tryz.prog 9 #[v, tv] w (GivesPaE w (pKeep p t) (pErr p t)) := by
 obtain ⟨fa, fn, fc, la, ln, lc, rfl, h1, h2⟩ := hp.slices
 obtain ⟨da, dn, dc, ea, en, ec, rfl, k1, k2⟩ := ht.parts
 have DA := Lib.hid (kpat_new w t fa fn fc la ln lc da dn dc ea en ec)
 have KE := Lib.hid (fun u (k : KpAt w t fa fn fc la ln lc da dn dc ea en ec u) => paend_any (p := p) ⟨_, _, rfl, h1.below k.low, h2.below k.low⟩ (by omega) hn)
 have KF := Lib.hid (fun u (k : KpAt w t fa fn fc la ln lc da dn dc ea en ec u) r hr => txformedP (k.txn k1 k2) hft r hr)
 have EL : Hid ((pEnd p).length ≤ 1000000) := Lib.hid (by
  have e1 := oEnd_len p.list p.floor
  have e2 := trim_len (oEnd p.floor p.list)
  unfold pEnd
  omega)
 have KQ := Lib.hid (fun u (k : KpAt w t fa fn fc la ln lc da dn dc ea en ec u) ev (he : SeqI u ev (pEnd p)) => oreadyP_any he (k.txn k1 k2) EL.out (by have := hft.deps; omega) ((i64_in hft.ok.2.1).2))
 have KC := Lib.hid (fun u (k : KpAt w t fa fn fc la ln lc da dn dc ea en ec u) => tclone_any (h1.below k.low) (by omega))
 have HF1 := Lib.hid (fun u (k : KpAt w t fa fn fc la ln lc da dn dc ea en ec u) => h2.below k.low)
 have HT1 := Lib.hid (fun u (k : KpAt w t fa fn fc la ln lc da dn dc ea en ec u) => one_txn (w := u) (k1.below k.low) (k2.below k.low))
 have HH := Lib.hid (fun u ev (he : SeqI u ev (pEnd p)) => vc_has_any he t.node t.seq 0)
 have O1 := Lib.hid (fun h => keep_form (p := p) (t := t) h)
 have O2 := Lib.hid (fun h h1 => keep_old (p := p) (t := t) h h1)
 have O3 := Lib.hid (fun h h1 h2 => keep_gap (p := p) (t := t) h h1 h2)
 have O4 := Lib.hid (fun h h1 h2 h3 => keep_full (p := p) (t := t) h h1 h2 h3)
 have O5 := Lib.hid (fun h h1 h2 h3 => keep_ok (p := p) (t := t) h h1 h2 h3)
 have HLL := Lib.hid h2.dims.1
 have HNN := Lib.hid hn
 have HAL : Hid (∀ x ∈ p.list ++ [t], x.deps.length ≤ 1000000 ∧ x.effs.length ≤ 1000000 ∧ ∀ e ∈ x.effs, e.drops.length ≤ 1000000) := Lib.hid (FitTx.alone fun x hx => by
  rcases List.mem_append.1 hx with h | h
  ·exact hf x h
  ·rw [List.mem_singleton.1 h]; exact hft)
 clear hp ht hl hf hft h1 h2 k1 k2 hn
 generalize pErr p t = er at *
 generalize pKeep p t = st at *
 obtain ⟨fb, hfb⟩ : ∃ b, b = tformedB t := ⟨_, rfl⟩
 have KF1 := Lib.hid (fun u k => KF.out u k fb hfb.symm)
 rw [← hfb] at O1 O2 O3 O4 O5
 clear KF hfb
 have HPH : Hid ((decide (1 ≤ t.seq) && decide (t.seq ≤ saysI (pEnd p) t.node)) = pHeard (pEnd p) t) := Lib.hid rfl
 rw [HPH.out] at HH
 clear HPH
 generalize pHeard (pEnd p) t = hb8 at *
 generalize oReady (pEnd p) t = rb at *
 generalize pEnd p = pe at *
 obtain ⟨fl, hfl⟩ : ∃ f, f = p.floor := ⟨_, rfl⟩
 obtain ⟨l, hll⟩ : ∃ f, f = p.list := ⟨_, rfl⟩
 rw [← hfl] at O5 KC
 rw [← hll] at O4 O5 HF1 HLL HNN HAL
 obtain ⟨lx, hlx⟩ : ∃ x, x = l ++ [t] := ⟨_, rfl⟩
 rw [← hlx] at O5 HAL
 have HLX := Lib.hid hlx
 clear hfl hll hlx
 go_enter Tryz.func9, Tryz.ntmps9
 go_upto_region 1 with fail
 generalize (((w.alloc (.cells #[.slice fa fn fc, .slice la ln lc] 26)).alloc (.cells #[.int .i64 t.node, .int .i64 t.seq, .slice da dn dc, .slice ea en ec] 29)).alloc (.cells #[.slice none 0 0, .slice none 0 0] 26)) = w0 at *
 obtain ⟨⟨c0, c1⟩, -, -, -, -⟩ := DA.out.cells
 have K1 := Lib.hid (KE.out _ DA.out)
 go_wp2_with fail
 refine K1.out.mono ?_
 rintro e w1 ⟨v1, rfl, ho, hb⟩
 have D1 := Lib.hid (DA.out.below hb)
 have S1 := Lib.hid ho.seq
 obtain ⟨e1, ec1, rfl, -, -, -, -⟩ := ho.parts
 clear hb ho K1 KE DA c0 c1
 generalize pe.length = pn at *
 obtain ⟨-, d0, d1, d2, d3⟩ := D1.out.cells
 have K2 := Lib.hid (KF1.out _ D1.out)
 go_wp2_with fail
 refine K2.out.mono ?_
 rintro e w2 ⟨rfl, hb⟩
 have D2 := Lib.hid (D1.out.below hb)
 have S2 := Lib.hid (S1.out.below hb)
 clear hb K2 KF1 D1 S1 d0 d1 d2 d3
 cases fb with
 | false =>
  obtain ⟨ra, rn, rc, ra', rn', rc', q0, q1, f0, f1⟩ := D2.out.res
  have DZ := Lib.hid (D2.out.done (.slice none 0 0) (.slice none 0 0))
  have LZ := Lib.hid ((D2.out.set none 0 0 none 0 0).low)
  have HZ := Lib.hid (O1.out (by decide))
  go_wp2_with fail
  obtain ⟨z0, z1⟩ := DZ.out
  refine bodyPost_ret (v := .tuple #[.agg #[.slice none 0 0, .slice none 0 0], .int .i64 2]) (by simp [results, Tryz.results9, go_sem, z0, z1]) rfl ?_
  rw [HZ.out.1, HZ.out.2]
  exact ⟨_, _, _, _, _, _, rfl, Sq.nil _ _, Sq.nil _ _, LZ.out⟩
 | true =>
  obtain ⟨-, d0, d1, d2, d3⟩ := D2.out.cells
  go_wp2_with fail
  refine (txdotP).mono ?_
  rintro e w3 ⟨rfl, hb⟩
  have D3 := Lib.hid (D2.out.below hb)
  have S3 := Lib.hid (S2.out.below hb)
  have K3 := Lib.hid (HH.out w3 _ S3.out)
  clear hb D2 S2 d0 d1 d2 d3
  go_wp2_with fail
  refine K3.out.mono ?_
  rintro e w4 ⟨rfl, hb⟩
  have D4 := Lib.hid (D3.out.below hb)
  have S4 := Lib.hid (S3.out.below hb)
  clear hb D3 S3 K3 HH
  cases hb8 with
  | true =>
   obtain ⟨ra, rn, rc, ra', rn', rc', q0, q1, f0, f1⟩ := D4.out.res
   have DZ := Lib.hid (D4.out.done (.slice none 0 0) (.slice none 0 0))
   have LZ := Lib.hid ((D4.out.set none 0 0 none 0 0).low)
   have HZ := Lib.hid (O2.out (by decide) (by decide))
   go_wp2_with fail
   obtain ⟨z0, z1⟩ := DZ.out
   refine bodyPost_ret (v := .tuple #[.agg #[.slice none 0 0, .slice none 0 0], .int .i64 8]) (by simp [results, Tryz.results9, go_sem, z0, z1]) rfl ?_
   rw [HZ.out.1, HZ.out.2]
   exact ⟨_, _, _, _, _, _, rfl, Sq.nil _ _, Sq.nil _ _, LZ.out⟩
  | false =>
   obtain ⟨-, d0, d1, d2, d3⟩ := D4.out.cells
   have K4 := Lib.hid (KQ.out _ D4.out _ S4.out)
   go_wp2_with fail
   refine K4.out.mono ?_
   rintro e w5 ⟨rfl, hb⟩
   have D5 := Lib.hid (D4.out.below hb)
   clear hb D4 S4 K4 KQ d0 d1 d2 d3
   cases rb with
   | false =>
    obtain ⟨ra, rn, rc, ra', rn', rc', q0, q1, f0, f1⟩ := D5.out.res
    have DZ := Lib.hid (D5.out.done (.slice none 0 0) (.slice none 0 0))
    have LZ := Lib.hid ((D5.out.set none 0 0 none 0 0).low)
    have HZ := Lib.hid (O3.out (by decide) (by decide) (by decide))
    go_wp2_with fail
    obtain ⟨z0, z1⟩ := DZ.out
    refine bodyPost_ret (v := .tuple #[.agg #[.slice none 0 0, .slice none 0 0], .int .i64 9]) (by simp [results, Tryz.results9, go_sem, z0, z1]) rfl ?_
    rw [HZ.out.1, HZ.out.2]
    exact ⟨_, _, _, _, _, _, rfl, Sq.nil _ _, Sq.nil _ _, LZ.out⟩
   | true =>
    obtain ⟨⟨c0, c1⟩, -, -, -, -⟩ := D5.out.cells
    by_cases hfull : 4096 ≤ ln
    ·have hfi : (4096 : Int) ≤ (ln : Int) := by omega
     have HFU : Hid (4096 ≤ l.length) := Lib.hid (by rw [HLL.out]; exact hfull)
     clear hfull
     obtain ⟨ra, rn, rc, ra', rn', rc', q0, q1, f0, f1⟩ := D5.out.res
     have DZ := Lib.hid (D5.out.done (.slice none 0 0) (.slice none 0 0))
     have LZ := Lib.hid ((D5.out.set none 0 0 none 0 0).low)
     have HZ := Lib.hid (O4.out (by decide) (by decide) (by decide) HFU.out)
     go_wp2_with fail
     obtain ⟨z0, z1⟩ := DZ.out
     refine bodyPost_ret (v := .tuple #[.agg #[.slice none 0 0, .slice none 0 0], .int .i64 6]) (by simp [results, Tryz.results9, go_sem, z0, z1]) rfl ?_
     rw [HZ.out.1, HZ.out.2]
     exact ⟨_, _, _, _, _, _, rfl, Sq.nil _ _, Sq.nil _ _, LZ.out⟩
    ·have hfi : ¬ (4096 : Int) ≤ (ln : Int) := by omega
     have HFU : Hid (¬ 4096 ≤ l.length) := Lib.hid (by rw [HLL.out]; exact hfull)
     clear hfull
     obtain ⟨-, d0, d1, d2, d3⟩ := D5.out.cells
     have A1 := Lib.hid (HT1.out _ D5.out)
     have B1 := Lib.hid ((Below.refl w5.heap.size w5).alloc (Nat.le_refl _) (.cells #[.int .i64 t.node, .int .i64 t.seq, .slice da dn dc, .slice ea en ec] 29))
     have Z1 : Hid ((w5.alloc (.cells #[.int .i64 t.node, .int .i64 t.seq, .slice da dn dc, .slice ea en ec] 29)).heap.size = w5.heap.size + 1) := Lib.hid (by simp)
     have L1 := Lib.hid ((HF1.out _ D5.out).below B1.out)
     have B2 := Lib.hid ((Below.refl (w5.alloc (.cells #[.int .i64 t.node, .int .i64 t.seq, .slice da dn dc, .slice ea en ec] 29)).heap.size (w5.alloc (.cells #[.int .i64 t.node, .int .i64 t.seq, .slice da dn dc, .slice ea en ec] 29))).alloc (Nat.le_refl _) (.cells #[.slice la ln lc, .slice (some ⟨w5.heap.size, 0, none⟩) 1 1] 24))
     have X2 := Lib.hid (heap_alloc_new (w5.alloc (.cells #[.int .i64 t.node, .int .i64 t.seq, .slice da dn dc, .slice ea en ec] 29)) (.cells #[.slice la ln lc, .slice (some ⟨w5.heap.size, 0, none⟩) 1 1] 24))
     have KX := Lib.hid (concatX_two (w5.heap.size + 1) 2 ((w5.alloc (.cells #[.int .i64 t.node, .int .i64 t.seq, .slice da dn dc, .slice ea en ec] 29)).alloc (.cells #[.slice la ln lc, .slice (some ⟨w5.heap.size, 0, none⟩) 1 1] 24)) (by have := X2.out; rw [Z1.out] at this; exact (st2_cells this).1.1) (by have := X2.out; rw [Z1.out] at this; exact (st2_cells this).1.2) (L1.out.below B2.out) (A1.out.below B2.out) (by have := HNN.out; simp; omega))
     rw [← HLX.out] at KX
     have D6 := Lib.hid (D5.out.below (B1.out.trans (B2.out.mono B1.out.size)))
     clear A1 B1 L1 B2 X2 Z1 D5
     go_wp2_with fail
     clear c0 c1 d0 d1 d2 d3
     generalize ((w5.alloc (.cells #[.int .i64 t.node, .int .i64 t.seq, .slice da dn dc, .slice ea en ec] 29)).alloc (.cells #[.slice la ln lc, .slice (some ⟨w5.heap.size, 0, none⟩) 1 1] 24)) = w6 at *
     refine KX.out.mono ?_
     rintro e w7 ⟨v7, rfl, ho, hb⟩
     have O7 := Lib.hid ho
     have D7 := Lib.hid (D6.out.below hb)
     have ZB : Hid (w6.heap.size ≤ w7.heap.size) := Lib.hid hb.size
     have ZW : Hid (w.heap.size ≤ w6.heap.size) := Lib.hid D6.out.low.size
     have D6S : Hid (w.heap.size + 2 < w6.heap.size) := Lib.hid D6.out.top
     obtain ⟨a7, c7, rfl, -, -, -, -⟩ := ho.parts
     obtain ⟨n7, hn7⟩ : ∃ n, n = lx.length := ⟨_, rfl⟩
     rw [← hn7] at O7 ⊢
     clear hn7
     clear ho hb KX D6
     obtain ⟨⟨c0, c1⟩, -, -, -, -⟩ := D7.out.cells
     have K7 := Lib.hid (KC.out _ D7.out)
     go_wp2_with fail
     refine K7.out.mono ?_
     rintro e w8 ⟨v8, rfl, ho, hb⟩
     have D8 := Lib.hid (D7.out.below hb)
     have O8 := Lib.hid (O7.out.below hb (Nat.le_refl _))
     have F8 := Lib.hid (ho.new flat_int)
     have OL := Lib.hid O7.out.lt
     have KA := Lib.hid (paalone_any O8.out (by have := ZB.out; have := hb.size; omega) HAL.out)
     obtain ⟨a8, c8, rfl, -, -, -, -⟩ := ho.parts
     clear ho hb K7 D7 O7 O8 c0 c1
     go_wp2_with fail
     refine KA.out.mono ?_
     rintro e w9 ⟨a9, n9, c9, rfl, ho, hg, hb⟩
     have HG9 := Lib.hid hg
     have HB9 : Hid (Below w6.heap.size w8 w9) := Lib.hid hb
     have L9 : Hid (Sq LTxn (fun b => w.heap.size ≤ b ∧ b < w9.heap.size) w9 (.slice a9 n9 c9) lx) := Lib.hid (ho.mono fun b h => ⟨by have := ZW.out; omega, h.2⟩)
     clear ho hb hg KA
     have D9 := Lib.hid (D8.out.belowN HB9.out D6S.out)
     have F9 : Hid (Sq LInt (fun b => w.heap.size ≤ b ∧ b < w9.heap.size) w9 (.slice a8 fl.length c8) fl) := Lib.hid ((F8.out.agree fun b h => HG9.out.block b h.2 fun e => by have := (OL.out b e.symm).2; have := h.1; omega).mono fun b h => ⟨by have := ZB.out; have := ZW.out; omega, Nat.lt_of_lt_of_le h.2 HG9.out.size⟩)
     obtain ⟨ra, rn, rc, ra', rn', rc', q0, q1, f0, f1⟩ := D9.out.res
     have DZ := Lib.hid (D9.out.done (.slice a8 fl.length c8) (.slice a9 n9 c9))
     have TW := Lib.hid D9.out.two
     have N5 := Lib.hid (Sq.set2 (st2_but _ _ (.slice a8 fl.length c8) (.slice a9 n9 c9)) (int_no2 TW.out F9.out))
     have I5 := Lib.hid (Sq.set2 (st2_but _ _ (.slice a8 fl.length c8) (.slice a9 n9 c9)) (txn_no2 TW.out L9.out))
     have LZ := Lib.hid ((D9.out.set a8 fl.length c8 a9 n9 c9).low)
     have HZ := Lib.hid (O5.out (by decide) (by decide) (by decide) HFU.out)
     go_wp2_with fail
     obtain ⟨z0, z1⟩ := DZ.out
     refine bodyPost_ret (v := .tuple #[.agg #[.slice a8 fl.length c8, .slice a9 n9 c9], .int .i64 0]) (by simp [results, Tryz.results9, go_sem, z0, z1]) rfl ?_
     rw [HZ.out.1, HZ.out.2]
     exact ⟨_, _, _, _, _, _, rfl, N5.out, I5.out, LZ.out⟩
end Go.Proofs.YtajfliemmfdnhaaGreat
