/- What the document's own Do of effects leaves. What the document's own Do of stores leaves. (Written by gen-do.py.) -/
import Derived.Test.YtpnpomocjkmncaaGreatISets
import Derived.Test.YtpnpomocjkmncaaGreatRefIs
import Derived.Test.YtpnpomocjkmncaaGreatRefNm
import Derived.Test.YtpnpomocjkmncaaGreatRefE69
import Derived.Test.YtpnpomocjkmncaaGreatEDos
import Derived.Deep.Cut
import Derived.Test.YtpnpomocjkmncaaGreatStDoP
import Derived.Test.YtpnpomocjkmncaaGreatOrCon
import Derived.Test.YtpnpomocjkmncaaGreatRefTxF2
import Derived.Deep.RegionHeld3
namespace Go.Proofs.YtpnpomocjkmncaaGreat
open Go.RowKit Plain
set_option linter.unusedVariables false

theorem edo_take {node seq : Int} {s : List PItem} {l : List PEff} {k : Nat} (hk : k < l.length) : edo node seq s (l.take (k + 1)) = inorm (iwithout (edo node seq s (l.take k)) (l.getD k default).drops ++ makes node seq (l.getD k default)) := by
 rw [List.take_succ_eq_append_getElem hk]
 unfold edo
 rw [List.foldl_append]
 have : l.getD k default = l[k] := by simp [List.getD, List.getElem?_eq_getElem hk]
 rw [this]
 rfl
set_option maxRecDepth 100000 in
set_option maxHeartbeats 8000000 in
theorem rdoE_any (node seq : Int) {u v : Value} {xs : List PItem} {l : List PEff} {w : World} (hu : SeqE LItem w u xs) (hv : SeqE LEff w v l) (hx : xs.length ≤ 100000) (hn : l.length ≤ 1000) (hd : ∀ e ∈ l, e.drops.length ≤ 1000) :
  Calls Tryz.prog 42 #[u, .int .i64 node, .int .i64 seq, v] w (MadeE LItem w (edo node seq xs l)) := by
 have KC := Lib.hid (rcopyI_any hu (by omega))
 obtain ⟨la, lc, rfl, L1, L2, -, h⟩ := hv.parts
 have HL := Lib.hid h
 have HDM := Lib.hid (fun k hk => hd _ (mem_defE (l := l) (k := k) hk))
 have HEL : Hid (∀ k, k ≤ l.length → (edo node seq xs (l.take k)).length ≤ 101000) := Lib.hid (fun k hk => by have h1 := edo_len node seq (l.take k) xs; rw [List.length_take] at h1; omega)
 have HT := Lib.hid (fun k hk => edo_take (node := node) (seq := seq) (s := xs) (l := l) (k := k) hk)
 have H0 : Hid (edo node seq xs (l.take 0) = xs) := Lib.hid rfl
 have HA : Hid (edo node seq xs (l.take l.length) = edo node seq xs l) := Lib.hid (by rw [List.take_length])
 obtain ⟨ua, uc, rfl, -, -, -, -⟩ := hu.parts
 obtain ⟨n, hN⟩ : ∃ n, l.length = n := ⟨_, rfl⟩
 rw [hN] at L1 HL HDM HEL HT HA hn ⊢
 have LN := Lib.hid hN
 clear hu hv h hx hd hN
 generalize xs.length = nx at *
 go_enter Tryz.func42, Tryz.ntmps42
 go_wp2_with fail
 refine KC.out.mono ?_
 rintro e w1 ⟨v1, rfl, ho, hb⟩
 have S1 := Lib.hid ho
 have G1 := Lib.hid hb
 obtain ⟨a1, c1, rfl, -⟩ := ho.parts
 clear ho hb KC
 go_wp2_with fail
 go_loopw [9, 10] (fun z i wr => ∃ k : Nat, k ≤ n ∧ i = .int .i64 k ∧ OwnE LItem w.heap.size wr z (edo node seq xs (l.take k)) ∧ Below w.heap.size w wr) (fun _ i _ => n - (intOf i).toNat)
 case atStart => exact ⟨0, Nat.zero_le _, rfl, by rw [H0.out]; exact S1.out, G1.out⟩
 case round =>
  obtain ⟨k, hk, rfl, hs, hb⟩ := hrel
  have S := Lib.hid hs
  have G := Lib.hid hb
  have ELK := Lib.hid (HEL.out k hk)
  obtain ⟨zl, hzl⟩ : ∃ m, (edo node seq xs (l.take k)).length = m := ⟨_, rfl⟩
  obtain ⟨za, zc, rfl, -, -, -⟩ := hs.at zl hzl
  clear hs hb S1 G1 hzl
  by_cases hlt : k < n
  ·obtain ⟨b, o, c, hv, -, -, -, hc⟩ := effs_spot (HL.out.below G.out) (by rw [LN.out]; omega)
   rw [LN.out] at hv
   simp only [Value.slice.injEq] at hv
   obtain ⟨rfl, -, rfl⟩ := hv
   obtain ⟨pv, EX, hsd⟩ := hc k (by rw [LN.out]; exact hlt)
   have HTK := Lib.hid (HT.out k hlt)
   have HMK := Lib.hid (HDM.out k hlt)
   obtain ⟨pa, pc, rfl, -, -, -, hsd⟩ := hsd.parts
   have k1 : (k : Int) < n := by omega
   have k2 : (n : Int) ≤ lc := by omega
   have k3 : (lc : Int) ≤ 9223372036854775807 := by omega
   clear hc
   generalize l.getD k default = x at *
   have HEX := Lib.hid (fun u (hb : Below wr.heap.size wr u) => EX.below hb (World.block_lt_of_cell? wr _ EX.c0))
   have HLW : Hid ((iwithout (edo node seq xs (l.take k)) x.drops).length ≤ 101000) := Lib.hid (by have := iwithout_len (edo node seq xs (l.take k)) x.drops; have := ELK.out; omega)
   have KW := Lib.hid (rwithoutI_any S.out.seq hsd (by have := ELK.out; omega) (by have := HMK.out; omega))
   obtain ⟨c0, c1', c2, c3, c4, c5, c6⟩ := EX
   obtain ⟨m, hM⟩ : ∃ m, x.drops.length = m := ⟨_, rfl⟩
   rw [hM] at c6 KW HEX
   have KM := Lib.hid (fun W => rmade_any node seq x pa m pc W)
   clear hsd hM HMK
   generalize iwithout (edo node seq xs (l.take k)) x.drops = iw at *
   generalize edo node seq xs (l.take k) = ik at *
   by_cases hz : x.kind = 0
   ·have b0 : (x.kind != 0) = false := by rw [hz]; rfl
    have HR : Hid (edo node seq xs (l.take (k + 1)) = inorm iw) := Lib.hid (by rw [HTK.out]; unfold makes; rw [if_pos hz, List.append_nil])
    clear hz HTK KM
    go_wp2_with (go_at_call 75; refine KW.out.mono ?_; rintro e w2 ⟨v2, rfl, ho, hb⟩; have O2 := Lib.hid (ho.mono G.out.size); have G2 := Lib.hid (G.out.trans (hb.mono G.out.size)); obtain ⟨wa, wc, rfl, -⟩ := ho.parts; have KN := Lib.hid (rnormI_any O2.out.seq (by have := HLW.out; omega)); have E2 := Lib.hid (HEX.out w2 hb); clear ho hb KW c0 c1' c2 c3 c4 c5 c6; have c3 := E2.out.c3)
    refine KN.out.mono ?_
    rintro e w4 ⟨v4, rfl, ho, hb⟩
    have O4 := Lib.hid (ho.mono G2.out.size)
    rw [← HR.out] at O4
    have G4 := Lib.hid (G2.out.trans (hb.mono G2.out.size))
    obtain ⟨na, nc, rfl, -⟩ := ho.parts
    clear ho hb KN c3
    go_wp2_with fail
    go_roundw
    case rel => exact ⟨k + 1, by omega, by go_num, O4.out, G4.out⟩
    case measure => simp [intOf]; omega
   ·have b0 : (x.kind != 0) = true := bne_iff_ne.2 hz
    have HR : Hid (edo node seq xs (l.take (k + 1)) = inorm (iw ++ [madeI node seq x])) := Lib.hid (by rw [HTK.out]; unfold makes; rw [if_neg hz])
    clear hz HTK
    go_wp2_with (first
     | (go_at_call 75; refine KW.out.mono ?_; rintro e w2 ⟨v2, rfl, ho, hb⟩; have O2 := Lib.hid (ho.mono G.out.size); have G2 := Lib.hid (G.out.trans (hb.mono G.out.size)); obtain ⟨wa, wc, rfl, -⟩ := ho.parts; have E2 := Lib.hid (HEX.out w2 hb); clear ho hb KW c0 c1' c2 c3 c4 c5 c6; obtain ⟨c0, c1', c2, c3, c4, c5, c6⟩ := E2.out)
     | (go_at_call 76; refine (KM.out _).mono ?_; rintro e w3 ⟨rfl, hb⟩; have O3 := Lib.hid (O2.out.below hb (Nat.le_refl _)); have G3 := Lib.hid (G2.out.trans (hb.mono G2.out.size)); clear hb KM c0 c1' c2 c3 c4 c5 c6)
     | (at_builtin; refine wpList_append_el LItem rfl (.tmp 32) (.tmp 40) rfl w.heap.size rfl (O3.out.alloc _) rfl (one_item w3 (madeI node seq x)) (fun _ _ h => h) (by have := HLW.out; simp; omega) (by have := G3.out.size; simp; omega) ?_))
    intro v5 w5 ho5 hg5 hat5
    have OA := Lib.hid (O3.out.alloc (.cells #[.string (bt x.key), .string (bt x.field), .int .i64 x.kind, .string (bt x.elem), .int .i64 x.n, .int .i64 node, .int .i64 seq, .int .i64 x.pos] 64))
    have BA : Hid (Below w.heap.size w (w3.alloc (.cells #[.string (bt x.key), .string (bt x.field), .int .i64 x.kind, .string (bt x.elem), .int .i64 x.n, .int .i64 node, .int .i64 seq, .int .i64 x.pos] 64))) := Lib.hid (G3.out.alloc G3.out.size _)
    have G5 : Hid (Below w.heap.size w w5) := Lib.hid (BA.out.grown hg5 BA.out.size fun b hb => (OA.out.lt b hb).1)
    have O5 := Lib.hid ho5
    have KN := Lib.hid (rnormI_any ho5.seq (by rw [List.length_append]; have := HLW.out; simp; omega))
    rw [← HR.out] at KN
    obtain ⟨a5, c5, rfl, -⟩ := ho5.parts
    clear ho5 hg5 hat5
    generalize (iw ++ [madeI node seq x]).length = n5 at *
    go_wp2_with fail
    refine KN.out.mono ?_
    rintro e w6 ⟨v6, rfl, ho, hb⟩
    have O6 := Lib.hid (ho.mono G5.out.size)
    have G6 := Lib.hid (G5.out.trans (hb.mono G5.out.size))
    obtain ⟨na, nc, rfl, -⟩ := ho.parts
    clear ho hb KN
    go_wp2_with fail
    go_roundw
    case rel => exact ⟨k + 1, by omega, by go_num, O6.out, G6.out⟩
    case measure => simp [intOf]; omega
  ·obtain rfl : k = n := by omega
   rw [HA.out] at S
   go_wp2_with fail
   go_ret
   exact ⟨_, rfl, S.out, G.out⟩
end Go.Proofs.YtpnpomocjkmncaaGreat
namespace Go.Proofs.YtpnpomocjkmncaaGreat
open Go.RowKit Plain
set_option linter.unusedVariables false

set_option maxRecDepth 100000 in
set_option maxHeartbeats 16000000 in
theorem stDoR_any {v tv : Value} {s : PStore} {t : PTxn} {w : World} (hs : IsStore w v s) (ht : IsTxn w tv t) (hl : s.heard.length ≤ 1000000) (hi : s.items.length ≤ 90000) (hd : ∀ x ∈ s.items, dotOk x.dot) (hf : FitB t) (hx : ∀ e ∈ t.effs, e.key.length ≤ 1000000 ∧ e.field.length ≤ 1000000) :
  Calls Tryz.prog 15 #[v, tv] w (GivesStE w (doSt s t) (doErr s t)) := by
 obtain ⟨ha, hn, hc, ia, im, ic, rfl, h1, h2⟩ := hs.slices
 obtain ⟨da, dn, dc, ea, en, ec, rfl, k1, k2⟩ := ht.slices
 have DA := Lib.hid (doat_new w t ha hn hc ia im ic da dn dc ea en ec)
 have KE : Hid (∀ u, DoAt w t ha hn hc ia im ic da dn dc ea en ec u → DoAt w t ha hn hc ia im ic da dn dc ea en ec u ∧ (u.cell? ⟨w.heap.size, 0, none⟩ = some (.slice ha hn hc) ∧ u.cell? ⟨w.heap.size, 1, none⟩ = some (.slice ia im ic)) ∧ u.cell? ⟨w.heap.size + 1, 0, none⟩ = some (.int .i64 t.node) ∧ u.cell? ⟨w.heap.size + 1, 1, none⟩ = some (.int .i64 t.seq) ∧ u.cell? ⟨w.heap.size + 1, 2, none⟩ = some (.slice da dn dc) ∧ u.cell? ⟨w.heap.size + 1, 3, none⟩ = some (.slice ea en ec)) := Lib.hid (fun u k => ⟨k, k.cells⟩)
 have KF := Lib.hid (fun u (k : DoAt w t ha hn hc ia im ic da dn dc ea en ec u) r hr => rtformedP (k.txn k1 k2) (fun e he => by have := hf.drops e he; omega) (fun e he => by have := hx e he; omega) (by have := hf.tx.deps; omega) r hr)
 have KQ := Lib.hid (fun u (k : DoAt w t ha hn hc ia im ic da dn dc ea en ec u) => oreadyR_any (seqI_of (h1.below k.low)) (k.txn k1 k2) hl (by have := hf.tx.deps; omega) ((i64_in hf.tx.ok.2.1).2))
 have KN := Lib.hid (fun u (k : DoAt w t ha hn hc ia im ic da dn dc ea en ec u) => onextR_any (seqI_of (h1.below k.low)) (k.txn k1 k2) hl)
 have KD := Lib.hid (fun u (k : DoAt w t ha hn hc ia im ic da dn dc ea en ec u) => rdoE_any t.node t.seq (h2.below k.low) (k2.below k.low) (by omega) (by have := hf.effs; omega) (fun e he => by have := hf.drops e he; omega))
 have KH := Lib.hid (fun u (k : DoAt w t ha hn hc ia im ic da dn dc ea en ec u) => vc_rat_any (seqI_of (h1.below k.low)) t.node)
 have O1 := Lib.hid (fun h => do_form (s := s) (t := t) h)
 have O2 := Lib.hid (fun h h1 => do_old (s := s) (t := t) h h1)
 have O3 := Lib.hid (fun h h1 h2 => do_gap (s := s) (t := t) h h1 h2)
 have O4 := Lib.hid (fun h h1 h2 => do_ok (s := s) (t := t) h h1 h2)
 have HS1 := Lib.hid (fun h => formed_seq (t := t) h)
 have HDN : Hid ((edo t.node t.seq s.items t.effs).length ≤ 1000000) := Lib.hid (by have h1 := edo_len t.node t.seq t.effs s.items; have := hf.effs; omega)
 clear hs ht hl hi hd hf h1 h2 k1 k2 hx
 generalize doErr s t = er at *
 generalize doSt s t = st at *
 generalize edo t.node t.seq s.items t.effs = ei at *
 generalize oNext s.heard t = nx at *
 obtain ⟨fb, hfb⟩ : ∃ b, b = tformedB t := ⟨_, rfl⟩
 have KF1 := Lib.hid (fun u k => KF.out u k fb hfb.symm)
 rw [← hfb] at O1 O2 O3 O4 HS1
 clear KF hfb
 generalize oReady s.heard t = rb at *
 generalize saysI s.heard t.node = sy at *
 go_enter Tryz.func15, Tryz.ntmps15
 go_upto_region 1 with fail
 generalize (((w.alloc (.cells #[.slice ha hn hc, .slice ia im ic] 26)).alloc (.cells #[.int .i64 t.node, .int .i64 t.seq, .slice da dn dc, .slice ea en ec] 30)).alloc (.cells #[.slice none 0 0, .slice none 0 0] 26)) = w0 at *
 obtain ⟨⟨c0, c1⟩, d0, d1, d2, d3⟩ := DA.out.cells
 have K1 := KF1.out _ DA.out
 go_wp2_with fail
 refine K1.mono ?_
 rintro e w1 ⟨rfl, hb⟩
 have D1 := Lib.hid (DA.out.below hb)
 clear hb K1 KF1 DA c0 c1 d0 d1 d2 d3
 cases fb with
 | false =>
  obtain ⟨ra, rn, rc, ra', rn', rc', q0, q1, f0, f1⟩ := D1.out.res
  have DZ := Lib.hid (D1.out.done (.slice none 0 0) (.slice none 0 0))
  have LZ := Lib.hid ((D1.out.set none 0 0 none 0 0).low)
  have HZ := Lib.hid (O1.out (by decide))
  go_wp2_with fail
  obtain ⟨z0, z1⟩ := DZ.out
  refine bodyPost_ret (v := .tuple #[.agg #[.slice none 0 0, .slice none 0 0], .int .i64 2]) (by simp [results, Tryz.results15, go_sem, z0, z1]) rfl ?_
  rw [HZ.out.1, HZ.out.2]
  exact ⟨_, _, _, _, _, _, rfl, Sq.nil _ _, Sq.nil _ _, LZ.out⟩
 | true =>
  have HSQ := HS1.out (by decide)
  clear HS1
  go_upto_region 3 with fail
  refine wp_region_held_drew (S := fun u' => DoAt w t ha hn hc ia im ic da dn dc ea en ec u' ∧ (u'.cell? ⟨w.heap.size, 0, none⟩ = some (.slice ha hn hc) ∧ u'.cell? ⟨w.heap.size, 1, none⟩ = some (.slice ia im ic)) ∧ u'.cell? ⟨w.heap.size + 1, 0, none⟩ = some (.int .i64 t.node) ∧ u'.cell? ⟨w.heap.size + 1, 1, none⟩ = some (.int .i64 t.seq) ∧ u'.cell? ⟨w.heap.size + 1, 2, none⟩ = some (.slice da dn dc) ∧ u'.cell? ⟨w.heap.size + 1, 3, none⟩ = some (.slice ea en ec)) (by kernel_rfl) ?_ (fun hHeld => ?_)
  ·(exact KE.out _ (D1.out.below (Below.refl _ _).drew))
  simp only [List.size_toArray, List.length_cons, List.length_nil, Nat.zero_add, Nat.reduceAdd]
  refine tkB (i := 0) hHeld ?_
  refine tkB (i := 1) hHeld ?_
  refine tkB (i := 2) hHeld ?_
  refine tkB (i := 3) hHeld ?_
  refine tkB (i := 4) hHeld ?_
  refine tkB (i := 5) hHeld ?_
  refine wpAnyH_ready (rs := [6]) (by kernel_rfl) (by simp) ?_
  refine AllReadyH.cons rfl (fun K hK => ?_) AllReadyH.nil
  go_simp
  refine (KH.out _ hHeld.1).mono ?_
  rintro e s2 ⟨rfl, hz⟩
  have hb := below_of_same hz
  clear hz
  refine hK.out _ _ (KE.out _ (hHeld.1.below hb)) (fun hHeld => ?_)
  clear hK K hb
  refine tkB (i := 7) hHeld ?_
  refine wpAnyH_done (by kernel_rfl) ?_ _
  have D2 := Lib.hid hHeld.1
  clear hHeld D1 KH
  by_cases hsy : t.seq ≤ sy
  ·skip
   have HSY := Lib.hid hsy
   skip
   obtain ⟨ra, rn, rc, ra', rn', rc', q0, q1, f0, f1⟩ := D2.out.res
   have DZ := Lib.hid (D2.out.done (.slice none 0 0) (.slice none 0 0))
   have LZ := Lib.hid ((D2.out.set none 0 0 none 0 0).low)
   have HZ := Lib.hid (O2.out (by decide) HSY.out)
   go_wp2_with fail
   obtain ⟨z0, z1⟩ := DZ.out
   refine bodyPost_ret (v := .tuple #[.agg #[.slice none 0 0, .slice none 0 0], .int .i64 8]) (by simp [results, Tryz.results15, go_sem, z0, z1]) rfl ?_
   rw [HZ.out.1, HZ.out.2]
   exact ⟨_, _, _, _, _, _, rfl, Sq.nil _ _, Sq.nil _ _, LZ.out⟩
  ·skip
   have HSY := Lib.hid hsy
   skip
   obtain ⟨⟨c0, c1⟩, d0, d1, d2, d3⟩ := D2.out.cells
   have K5 := KQ.out _ D2.out
   go_wp2_with fail
   refine K5.mono ?_
   rintro e w5 ⟨rfl, hb⟩
   have D5 := Lib.hid (D2.out.below hb)
   clear hb K5 KQ D2 c0 c1 d0 d1 d2 d3 HSQ hsy
   cases rb with
   | false =>
    obtain ⟨ra, rn, rc, ra', rn', rc', q0, q1, f0, f1⟩ := D5.out.res
    have DZ := Lib.hid (D5.out.done (.slice none 0 0) (.slice none 0 0))
    have LZ := Lib.hid ((D5.out.set none 0 0 none 0 0).low)
    have HZ := Lib.hid (O3.out (by decide) HSY.out (by decide))
    go_wp2_with fail
    obtain ⟨z0, z1⟩ := DZ.out
    refine bodyPost_ret (v := .tuple #[.agg #[.slice none 0 0, .slice none 0 0], .int .i64 9]) (by simp [results, Tryz.results15, go_sem, z0, z1]) rfl ?_
    rw [HZ.out.1, HZ.out.2]
    exact ⟨_, _, _, _, _, _, rfl, Sq.nil _ _, Sq.nil _ _, LZ.out⟩
   | true =>
    go_upto_region 7 with fail
    refine wp_region_held_drew (S := fun u' => DoAt w t ha hn hc ia im ic da dn dc ea en ec u' ∧ (u'.cell? ⟨w.heap.size, 0, none⟩ = some (.slice ha hn hc) ∧ u'.cell? ⟨w.heap.size, 1, none⟩ = some (.slice ia im ic)) ∧ u'.cell? ⟨w.heap.size + 1, 0, none⟩ = some (.int .i64 t.node) ∧ u'.cell? ⟨w.heap.size + 1, 1, none⟩ = some (.int .i64 t.seq) ∧ u'.cell? ⟨w.heap.size + 1, 2, none⟩ = some (.slice da dn dc) ∧ u'.cell? ⟨w.heap.size + 1, 3, none⟩ = some (.slice ea en ec)) (by kernel_rfl) ?_ (fun hHeld => ?_)
    ·(exact KE.out _ (D5.out.below (Below.refl _ _).drew))
    simp only [List.size_toArray, List.length_cons, List.length_nil, Nat.zero_add, Nat.reduceAdd]
    refine tkB (i := 0) hHeld ?_
    refine tkB (i := 1) hHeld ?_
    refine tkB (i := 2) hHeld ?_
    refine tkB (i := 4) hHeld ?_
    refine tkB (i := 5) hHeld ?_
    refine tkB (i := 6) hHeld ?_
    refine tkB (i := 7) hHeld ?_
    refine tkB (i := 8) hHeld ?_
    refine tkB (i := 9) hHeld ?_
    refine tkB (i := 10) hHeld ?_
    refine tkB (i := 11) hHeld ?_
    refine wpAnyH_ready (rs := [3]) (by kernel_rfl) (by simp) ?_
    refine AllReadyH.cons rfl (fun K hK => ?_) AllReadyH.nil
    go_simp
    refine (KN.out _ hHeld.1).mono ?_
    rintro e s3 ⟨va, rfl, ho, hb⟩
    have N3 := Lib.hid (ho.newI hHeld.1.low.size)
    obtain ⟨na, nc, rfl, -, -, -, -⟩ := ho.parts
    clear ho
    refine hK.out _ _ (KE.out _ (hHeld.1.below hb)) (fun hHeld => ?_)
    clear hK K hb
    refine wpAnyH_ready (rs := [12]) (by kernel_rfl) (by simp) ?_
    refine AllReadyH.cons rfl (fun K hK => ?_) AllReadyH.nil
    go_simp
    refine (KD.out _ hHeld.1).mono ?_
    rintro e s4 ⟨vb, rfl, ho, hb⟩
    have N4 := Lib.hid (N3.out.later hb)
    have I4 := Lib.hid ((ho.mono hHeld.1.low.size).new flat_item)
    obtain ⟨ba, bc, rfl, -⟩ := ho.parts
    clear ho N3
    refine hK.out _ _ (KE.out _ (hHeld.1.below hb)) (fun hHeld => ?_)
    clear hK K hb
    refine tkB (i := 13) hHeld ?_
    obtain ⟨ra, rn, rc, ra', rn', rc', q0, q1, f0, f1⟩ := hHeld.1.res
    have DZ := Lib.hid (hHeld.1.done (.slice na nx.length nc) (.slice ba ei.length bc))
    have TW := Lib.hid hHeld.1.two
    have N5 := Lib.hid (Sq.set2 (st2_but _ _ (.slice na nx.length nc) (.slice ba ei.length bc)) (int_no2 TW.out N4.out))
    have I5 := Lib.hid (Sq.set2 (st2_but _ _ (.slice na nx.length nc) (.slice ba ei.length bc)) (item_no2 TW.out I4.out))
    refine wpAnyH_ready (rs := [14]) (by kernel_rfl) (by simp) ?_
    refine AllReadyH.cons rfl (fun K hK => ?_) AllReadyH.nil
    go_simp
    refine hK.out _ _ (KE.out _ (hHeld.1.set na nx.length nc ba ei.length bc)) (fun hHeld => ?_)
    clear hK K q0 q1 f0 f1
    refine tkB (i := 15) hHeld ?_
    refine wpAnyH_done (by kernel_rfl) ?_ _
    have LZ := Lib.hid hHeld.1.low
    clear hHeld
    have HZ := Lib.hid (O4.out (by decide) HSY.out (by decide))
    obtain ⟨z0, z1⟩ := DZ.out
    go_wp2_with fail
    refine bodyPost_ret (v := .tuple #[.agg #[.slice na nx.length nc, .slice ba ei.length bc], .int .i64 0]) (by simp [results, Tryz.results15, go_sem, z0, z1]) rfl ?_
    rw [HZ.out.1, HZ.out.2]
    exact ⟨_, _, _, _, _, _, rfl, N5.out, I5.out, LZ.out⟩
end Go.Proofs.YtpnpomocjkmncaaGreat
