/- What the document's own Left, End, Sound, Keep and Prune of a past leave. (Written by gen-ref16.py.) -/
import Derived.Test.YtajfliemmfdnhaaGreatPaRef
import Derived.Test.YtajfliemmfdnhaaGreatPaBox
import Derived.Test.YtajfliemmfdnhaaGreatPaEnd
import Derived.Test.YtajfliemmfdnhaaGreatVcAll
import Derived.Test.YtajfliemmfdnhaaGreatOrChns
import Derived.Test.YtajfliemmfdnhaaGreatOrCon
import Derived.Test.YtajfliemmfdnhaaGreatPaPru
import Derived.Test.YtajfliemmfdnhaaGreatRefTxF2
import Derived.Deep.RegionHeld3
import Derived.Deep.DeepCutAuto
namespace Go.Proofs.YtajfliemmfdnhaaGreat
open Go.RowKit Plain
set_option linter.unusedVariables false


theorem one_txnJ {W : World} {N : Nat} {t : PTxn} {dv ev : Value} (hd : Sq LInt (· < N) W dv t.deps) (he : Sq LEff (· < N) W ev t.effs) (hN : N ≤ W.heap.size) : Sq LTxn (fun b => b < N ∨ b = W.heap.size) (W.alloc (.cells #[.int .i64 t.node, .int .i64 t.seq, dv, ev] 29)) (.slice (some ⟨W.heap.size, 0, none⟩) 1 1) [t] := by
 have hB : Below W.heap.size W (W.alloc (.cells #[.int .i64 t.node, .int .i64 t.seq, dv, ev] 29)) := (Below.refl _ _).alloc (Nat.le_refl _) _
 refine ⟨_, 1, cellsTx t dv ev, rfl, Nat.le_refl _, by unfold maxLen; simp, (by simp), Rows.of_one ⟨_, _, rfl, (hd.agree fun b hb => hB.block b (Nat.lt_of_lt_of_le hb hN)).mono fun b hb => .inl hb, (he.agree fun b hb => hB.block b (Nat.lt_of_lt_of_le hb hN)).mono fun b hb => .inl hb⟩, fun _ => ⟨_, 0, rfl, .inr rfl, fun i u' hu => ?_⟩⟩
 rw [Nat.zero_add]
 have := World.cell?_alloc_new W #[.int .i64 t.node, .int .i64 t.seq, dv, ev] 29 i
 rw [this, ← Array.getElem?_toList]
 exact hu
theorem own_room2 {N : Nat} {W : World} {v : Value} {xs : List PTxn} (h : OwnE LTxn N W v xs) (hN : N ≤ W.heap.size) (o : Obj) : ∀ vs x, LTxn.R (fun b => b < N ∨ b = W.heap.size) (W.alloc o) vs x → LTxn.R (fun b => b < (W.alloc o).heap.size ∧ v.ownBlock ≠ some b) (W.alloc o) vs x :=
 fun vs x hr => LTxn.mono hr fun b hb => by
  have hz : (W.alloc o).heap.size = W.heap.size + 1 := by simp
  rw [hz]
  refine ⟨by omega, fun e => ?_⟩
  have := h.lt b e
  omega
theorem left_yes {l : List PTxn} {v : Ints} {k : Nat} (hk : k < l.length) (h : pHeard v (otx l k) = true) : pLeft (l.take (k + 1)) v = pLeft (l.take k) v := pLeft_yes hk (by rw [← otx_lt hk]; exact h)
theorem left_no {l : List PTxn} {v : Ints} {k : Nat} (hk : k < l.length) (h : pHeard v (otx l k) = false) : pLeft (l.take (k + 1)) v = pLeft (l.take k) v ++ [otx l k] := by
 rw [otx_lt hk] at h ⊢
 exact pLeft_no hk h
set_option maxRecDepth 100000 in
set_option maxHeartbeats 8000000 in
theorem rleft_any {lv vv : Value} {l : List PTxn} {v : Ints} {w : World} (hlv : SeqE LTxn w lv l) (hv : SeqI w vv v) (hl : l.length ≤ 1000000) : Calls Tryz.prog 22 #[lv, vv] w (MadeE LTxn w (pLeft l v)) := by
 obtain ⟨la, lc, rfl, L1, L2, -, -⟩ := hlv.parts
 obtain ⟨va, vc, rfl, -⟩ := hv.parts
 have HL := Lib.hid hlv
 have HV := Lib.hid hv
 have HLL := Lib.hid hl
 obtain ⟨n, hn⟩ : ∃ n, n = l.length := ⟨_, rfl⟩
 have HN := Lib.hid hn
 rw [← hn] at HL L1 ⊢
 have i1 : (n : Int) ≤ lc := by omega
 have i2 : (lc : Int) ≤ 9223372036854775807 := by omega
 have HT : Hid (pLeft (l.take n) v = pLeft l v) := Lib.hid (by rw [hn, List.take_length])
 clear hlv hv hn hl L1 L2
 obtain ⟨vn, hvn⟩ : ∃ n, n = v.length := ⟨_, rfl⟩
 rw [← hvn] at HV ⊢
 clear hvn
 go_enter Tryz.func22, Tryz.ntmps22
 go_wp2_with fail
 go_loopw [5, 6] (fun s5 i wr => ∃ k : Nat, k ≤ n ∧ i = .int .i64 k ∧ OwnE LTxn w.heap.size wr s5 (pLeft (l.take k) v) ∧ Below w.heap.size w wr) (fun _ i _ => n - (intOf i).toNat)
 case atStart => exact ⟨0, Nat.zero_le _, rfl, OwnE.nil _ _, Below.refl _ _⟩
 case round =>
  obtain ⟨k, hk, rfl, ho, hb⟩ := hrel
  have OW := Lib.hid ho
  have GB := Lib.hid hb
  clear ho hb
  by_cases hlt : k < n
  ·have hkl : k < l.length := by rw [← HN.out]; exact hlt
   obtain ⟨lb, lo, rfl, hc⟩ := txns_at HL.out (by omega)
   obtain ⟨da, dn, dc, ea, en, ec, hW⟩ := hc k hlt
   have KH := Lib.hid (rheardT_any (HV.out.below GB.out) (hW wr GB.out).2)
   have HC := Lib.hid (fun W (hb : Below w.heap.size w W) => (hW W hb).1)
   obtain ⟨da', dn', dc', ea', en', ec', he, s1, s2⟩ := (hW w (Below.refl _ _)).2.parts
   simp only [Value.agg.injEq, Array.mk.injEq, List.cons.injEq, and_true, true_and] at he
   obtain ⟨e1, e2⟩ := he
   rw [← e1] at s1
   rw [← e2] at s2
   have S1 := Lib.hid s1
   have S2 := Lib.hid s2
   have LY := Lib.hid (left_yes (v := v) hkl)
   have LN := Lib.hid (left_no (v := v) hkl)
   have PL : Hid ((pLeft (l.take k) v).length ≤ 1000000) := Lib.hid (by have h1 := pLeft_len (l.take k) v; have h2 := List.length_take_le k l; have := HLL.out; omega)
   have k1 : (k : Int) < n := by omega
   clear hc hW hkl s1 s2 e1 e2
   generalize otx l k = t at *
   obtain ⟨c0, c1, c2, c3⟩ := HC.out wr GB.out
   obtain ⟨b, hb⟩ : ∃ b, b = pHeard v t := ⟨_, rfl⟩
   rw [← hb] at KH LY LN
   clear hb
   go_wp2_with fail
   refine KH.out.mono ?_
   rintro e w2 ⟨rfl, hb⟩
   have G2 := Lib.hid (GB.out.trans (hb.mono GB.out.size))
   have O2 := Lib.hid (OW.out.below hb (Nat.le_refl _))
   clear hb KH OW c0 c1 c2 c3
   cases b with
   | true =>
    have E := LY.out (by decide)
    have HE := Lib.hid E
    clear E
    go_wp2_with fail
    go_roundw
    case rel => exact ⟨k + 1, by omega, by go_num, by rw [HE.out]; exact O2.out, G2.out⟩
    case measure => simp [intOf]; omega
   | false =>
    have HE := Lib.hid (LN.out (by decide))
    obtain ⟨c0, c1, c2, c3⟩ := HC.out w2 G2.out
    have ONE := Lib.hid (one_txnJ (t := t) (S1.out.agree fun b hb => G2.out.block b hb) (S2.out.agree fun b hb => G2.out.block b hb) G2.out.size)
    have BA := Lib.hid ((Below.refl w2.heap.size w2).alloc (Nat.le_refl _) (.cells #[.int .i64 t.node, .int .i64 t.seq, .slice da dn dc, .slice ea en ec] 29))
    go_wp2_with (at_builtin; refine wpList_append_el LTxn rfl (.tmp 20) (.tmp 25) rfl w.heap.size rfl (O2.out.alloc _) rfl ONE.out (own_room2 O2.out G2.out.size _) (by have := PL.out; simp; omega) (by have := G2.out.size; simp; omega) ?_)
    intro v3 w3 ho3 hg3 _
    have G3 : Hid (Below w.heap.size w w3) := Lib.hid ((G2.out.trans (BA.out.mono G2.out.size)).grown hg3 (by have := G2.out.size; simp; omega) (fun j hj => (O2.out.lt j hj).1))
    have O3 := Lib.hid ho3
    clear ho3 hg3 c0 c1 c2 c3
    go_wp2_with fail
    go_roundw
    case rel => exact ⟨k + 1, by omega, by go_num, by rw [HE.out]; exact O3.out, G3.out⟩
    case measure => simp [intOf]; omega
  ·obtain rfl : k = n := by omega
   go_wp2_with fail
   go_ret
   exact ⟨_, rfl, by rw [← HT.out]; exact OW.out, GB.out⟩
set_option maxRecDepth 100000 in
set_option maxHeartbeats 16000000 in
theorem rend_any {v : Value} {p : PPast} {w : World} (h : IsPast w v p) (hl : p.floor.length ≤ 1000) (hn : p.list.length ≤ 1000000) : Calls Tryz.prog 16 #[v] w (MadeI w (pEnd p)) := by
 obtain ⟨fa, fn, fc, la, ln, lc, rfl, h1, h2⟩ := h.slices
 have PB := Lib.hid (pabox_new (p := p) h1 h2)
 have B0 := Lib.hid ((Below.refl w.heap.size w).alloc (Nat.le_refl _) (.cells #[.slice fa fn fc, .slice la ln lc] 26))
 have DL := Lib.hid h2.dims
 have HL := Lib.hid hl
 have HE : Hid (pEnd p = trim (oEnd p.floor p.list)) := Lib.hid rfl
 have EL : Hid ((oEnd p.floor p.list).length ≤ 1000000) := Lib.hid (by have := oEnd_len p.list p.floor; omega)
 rw [HE.out]
 clear h h1 h2 hl hn HE
 go_enter Tryz.func16, Tryz.ntmps16
 go_upto_region 1 with fail
 generalize (w.alloc (.cells #[.slice fa fn fc, .slice la ln lc] 26)) = wb at *
 obtain ⟨c0, c1⟩ := PB.out.c
 have i1 : (ln : Int) ≤ lc := by have := DL.out; omega
 have i2 : (lc : Int) ≤ 9223372036854775807 := by have := DL.out; omega
 go_wp2_with fail
 clear c0 c1
 go_loopw [3, 4] (fun s0 i wr => ∃ (k : Nat) (u : Ints), k ≤ ln ∧ i = .int .i64 k ∧ SeqI wr s0 u ∧ Aside (u = oEnd p.floor (p.list.take k) ∧ u.length ≤ 1000000 ∧ Below wb.heap.size wb wr)) (fun _ i _ => ln - (intOf i).toNat)
 case atStart => exact ⟨0, p.floor, Nat.zero_le _, rfl, seqI_of PB.out.f, rfl, by have := HL.out; omega, Below.refl _ _⟩
 case round =>
  obtain ⟨k, u, hk, rfl, hs, hrel⟩ := hrel
  obtain ⟨h2, h3, h4⟩ := Aside.out hrel
  have C2 := Lib.hid h2
  have C3 := Lib.hid h3
  have GB := Lib.hid h4
  have SU := Lib.hid hs
  obtain ⟨ua, uc, rfl, -, -, -, -⟩ := hs.parts
  clear hrel h2 h3 h4 hs
  have PB2 := Lib.hid (PB.out.below GB.out)
  obtain ⟨c0, c1⟩ := PB2.out.c
  by_cases hlt : k < ln
  ·have hkl : k < p.list.length := by rw [DL.out.1]; exact hlt
   obtain ⟨lb, lo, rfl, hc⟩ := txns_at PB.out.l (by omega)
   obtain ⟨da, dn, dc, ea, en, ec, hW⟩ := hc k hlt
   have GO : Hid (oNext u (otx p.list k) = oEnd p.floor (p.list.take (k + 1))) := Lib.hid (by rw [C2.out]; exact end_go hkl)
   have NL : Hid ((oNext u (otx p.list k)).length ≤ 1000000) := Lib.hid (by have := oNext_len u (otx p.list k); have := C3.out; omega)
   have KN := Lib.hid (onextR_any SU.out (hW wr GB.out).2 C3.out)
   obtain ⟨d0, d1, d2, d3⟩ := (hW wr GB.out).1
   have k1 : (k : Int) < ln := by omega
   clear hc hW hkl
   generalize otx p.list k = t at *
   go_wp2_with fail
   refine KN.out.mono ?_
   rintro e w3 ⟨v3, rfl, ho3, hb3⟩
   have S3 := Lib.hid ho3.seq
   have H3 := Lib.hid (GB.out.trans (hb3.mono GB.out.size))
   clear ho3 hb3 KN d0 d1 d2 d3 c0 c1
   go_wp2_with fail
   go_roundw
   case rel => exact ⟨k + 1, _, by omega, by go_num, S3.out, GO.out, NL.out, H3.out⟩
   case measure => simp [intOf]; omega
  ·obtain rfl : k = ln := by omega
   have UE : Hid (u = oEnd p.floor p.list) := Lib.hid (by rw [C2.out]; congr 1; exact List.take_of_length_le (by have := DL.out.1; omega))
   have KT : Hid (Calls Tryz.prog 41 #[.slice ua u.length uc] wr (MadeI wr (trim (oEnd p.floor p.list)))) := Lib.hid (by have := vc_rtrim_any SU.out C3.out; rw [UE.out] at this ⊢; exact this)
   go_wp2_with fail
   refine KT.out.mono ?_
   rintro e w4 ⟨v4, rfl, ho, hb⟩
   have BW := Lib.hid (B0.out.trans (GB.out.mono B0.out.size))
   have O4 := Lib.hid (ho.mono BW.out.size)
   have G4 := Lib.hid (BW.out.trans (hb.mono BW.out.size))
   clear ho hb KT c0 c1
   go_wp2_with fail
   go_ret
   exact ⟨_, rfl, O4.out, G4.out⟩
theorem rs_form {p : PPast} {k : Nat} (hk : k < p.list.length) (h : tformedB (otx p.list k) = false) : pSound p = false := by
 cases e : pSound p with
 | false => rfl
 | true =>
  have := (pSound_iff.1 e).formed (otx p.list k) (by rw [otx_lt hk]; exact List.getElem_mem hk)
  rw [h] at this
  cases this
theorem rs_chain {p : PPast} (h : oChain p.floor p.list = false) : pSound p = false := by
 cases e : pSound p with
 | false => rfl
 | true => rw [(pSound_iff.1 e).chain] at h; cases h
theorem rs_floor {p : PPast} (h : decide (p.floor = trim p.floor) = false) : pSound p = false := by
 cases e : pSound p with
 | false => rfl
 | true => exact absurd (pSound_iff.1 e).floor.symm (of_decide_eq_false h)
theorem rs_all {p : PPast} (h1 : decide (p.floor = trim p.floor) = true) (h2 : oChain p.floor p.list = true) (h3 : ∀ j, j < p.list.length → tformedB (otx p.list j) = true) : pSound p = true :=
 pSound_iff.2 ⟨(of_decide_eq_true h1).symm, h2, fun t ht => by
  obtain ⟨j, hj, rfl⟩ := List.getElem_of_mem ht
  have := h3 j hj
  rwa [otx_lt hj] at this⟩
structure FitR (t : PTxn) : Prop where
 tx : FitTx t
 texts : ∀ e ∈ t.effs, e.key.length ≤ 9223372036854775807 ∧ e.field.length ≤ 9223372036854775807
theorem rformedT {v : Value} {t : PTxn} {w : World} (h : IsTxn w v t) (hf : FitR t) (r : Bool) (hr : tformedB t = r) : Calls Tryz.prog 32 #[v] w (GivesB w r) :=
 rtformedP h (fun e he => by have := hf.tx.drops e he; omega) hf.texts (by have := hf.tx.deps; omega) r hr
set_option maxRecDepth 100000 in
set_option maxHeartbeats 16000000 in
theorem rsound_any {v : Value} {p : PPast} {w : World} (h : IsPast w v p) (hl : p.floor.length ≤ 1000) (hn : p.list.length ≤ 1000000) (hf : ∀ t ∈ p.list, FitR t) (r : Bool) (hr : pSound p = r) : Calls Tryz.prog 13 #[v] w (GivesB w r) := by
 obtain ⟨fa, fn, fc, la, ln, lc, rfl, h1, h2⟩ := h.slices
 have PB := Lib.hid (pabox_new (p := p) h1 h2)
 have B0 := Lib.hid ((Below.refl w.heap.size w).alloc (Nat.le_refl _) (.cells #[.slice fa fn fc, .slice la ln lc] 26))
 have DL := Lib.hid h2.dims
 have HL := Lib.hid hl
 have HF := Lib.hid (fun k (hk : k < p.list.length) => hf (otx p.list k) (by rw [otx_lt hk]; exact List.getElem_mem hk))
 have R1 := Lib.hid (fun k (hk : k < p.list.length) h => (rs_form hk h).symm.trans hr)
 have R2 := Lib.hid (fun h => (rs_chain (p := p) h).symm.trans hr)
 have R3 := Lib.hid (fun h => (rs_floor (p := p) h).symm.trans hr)
 have R4 := Lib.hid (fun h h2 h3 => (rs_all (p := p) h h2 h3).symm.trans hr)
 clear h h1 h2 hl hn hf hr
 go_enter Tryz.func13, Tryz.ntmps13
 go_upto_region 1 with fail
 generalize (w.alloc (.cells #[.slice fa fn fc, .slice la ln lc] 26)) = wb at *
 obtain ⟨c0, c1⟩ := PB.out.c
 have i1 : (ln : Int) ≤ lc := by have := DL.out; omega
 have i2 : (lc : Int) ≤ 9223372036854775807 := by have := DL.out; omega
 have KT := Lib.hid (vc_rtrim_any (seqI_of PB.out.f) (by have := HL.out; omega))
 go_wp2_with fail
 refine KT.out.mono ?_
 rintro e w1 ⟨v1, rfl, ho, hb⟩
 have G1 := Lib.hid hb
 have S1 := Lib.hid ho.seq
 obtain ⟨a1, tc1, rfl, -, -, -, -⟩ := ho.parts
 clear ho hb KT c0 c1
 have KE := Lib.hid (vc_requal_any (seqI_of (PB.out.below G1.out).f) S1.out)
 obtain ⟨fb, hfb⟩ : ∃ b, b = decide (p.floor = trim p.floor) := ⟨_, rfl⟩
 rw [← hfb] at KE R3 R4
 clear hfb S1
 go_wp2_with fail
 refine KE.out.mono ?_
 rintro e w2 ⟨rfl, q, hq⟩
 have G2 : Hid (Below wb.heap.size wb w2) := Lib.hid (by rw [hq]; exact below_drewN G1.out q)
 clear hq KE
 cases fb with
 | false =>
  obtain rfl : false = r := R3.out (by decide)
  go_wp2_with fail
  go_ret
  exact ⟨rfl, B0.out.trans (G2.out.mono B0.out.size)⟩
 | true =>
  have PB2 := Lib.hid (PB.out.below G2.out)
  obtain ⟨c0, c1⟩ := PB2.out.c
  go_wp2_with fail
  clear c0 c1
  go_loopw [3, 4] (fun s0 i wr => ∃ (k : Nat) (u : Ints), k ≤ ln ∧ i = .int .i64 k ∧ SeqI wr s0 u ∧ Aside ((u = oEnd p.floor (p.list.take k) ∧ oChain p.floor (p.list.take k) = true ∧ ∀ j, j < k → tformedB (otx p.list j) = true) ∧ u.length ≤ 1000000 ∧ Below wb.heap.size wb wr)) (fun _ i _ => ln - (intOf i).toNat)
  case atStart => exact ⟨0, p.floor, Nat.zero_le _, rfl, seqI_of PB2.out.f, ⟨rfl, rfl, fun j hj => absurd hj (Nat.not_lt_zero _)⟩, by have := HL.out; omega, G2.out⟩
  case round =>
   obtain ⟨k, u, hk, rfl, hs, hrel⟩ := hrel
   obtain ⟨h2, h3, h4⟩ := Aside.out hrel
   have C2 := Lib.hid h2
   have C3 := Lib.hid h3
   have GB := Lib.hid h4
   have SU := Lib.hid hs
   obtain ⟨ua, uc, rfl, -, -, -, -⟩ := hs.parts
   clear hrel h2 h3 h4 hs
   have PB3 := Lib.hid (PB.out.below GB.out)
   obtain ⟨c0, c1⟩ := PB3.out.c
   by_cases hlt : k < ln
   ·have hkl : k < p.list.length := by rw [DL.out.1]; exact hlt
    obtain ⟨lb, lo, rfl, hc⟩ := txns_at PB.out.l (by omega)
    obtain ⟨da, dn, dc, ea, en, ec, hW⟩ := hc k hlt
    have FT := Lib.hid (HF.out k hkl)
    have R1K := Lib.hid (R1.out k hkl)
    have GO := Lib.hid (chain_go hkl C2.out.2.1 C2.out.1)
    have NO := Lib.hid (chain_no hkl C2.out.2.1 C2.out.1)
    have ALL : Hid (tformedB (otx p.list k) = true → ∀ j, j < k + 1 → tformedB (otx p.list j) = true) := Lib.hid (fun h j hj => by
     by_cases e : j = k
     ·rw [e]; exact h
     ·exact C2.out.2.2 j (by omega))
    have NL : Hid ((oNext u (otx p.list k)).length ≤ 1000000) := Lib.hid (by have := oNext_len u (otx p.list k); have := C3.out; omega)
    have HC := Lib.hid (fun W (hb : Below wb.heap.size wb W) => hW W hb)
    have k1 : (k : Int) < ln := by omega
    clear hc hW hkl
    generalize otx p.list k = t at *
    obtain ⟨b1, hb1⟩ : ∃ b, b = tformedB t := ⟨_, rfl⟩
    have KF := Lib.hid (rformedT (HC.out wr GB.out).2 FT.out b1 hb1.symm)
    rw [← hb1] at R1K ALL
    clear hb1
    obtain ⟨⟨d0, d1, d2, d3⟩, -⟩ := HC.out wr GB.out
    go_wp2_with fail
    refine KF.out.mono ?_
    rintro e w3 ⟨rfl, hb⟩
    have G3 := Lib.hid (GB.out.trans (hb.mono GB.out.size))
    have SU3 := Lib.hid (SU.out.below hb)
    clear hb KF d0 d1 d2 d3 c0 c1
    cases b1 with
    | false =>
     obtain rfl : false = r := R1K.out (by decide)
     go_wp2_with fail
     go_ret
     exact ⟨rfl, B0.out.trans (G3.out.mono B0.out.size)⟩
    | true =>
     have AL := Lib.hid (ALL.out (by decide))
     obtain ⟨b2, hb2⟩ : ∃ b, b = oReady u t := ⟨_, rfl⟩
     have KR : Hid (Calls Tryz.prog 34 #[.slice ua u.length uc, .agg #[.int .i64 t.node, .int .i64 t.seq, .slice da dn dc, .slice ea en ec]] w3 (GivesB w3 b2)) := Lib.hid (by rw [hb2]; exact oreadyR_any SU3.out (HC.out w3 G3.out).2 C3.out (by have := FT.out.tx.deps; omega) ((i64_in FT.out.tx.ok.2.1).2))
     rw [← hb2] at GO NO
     clear hb2
     obtain ⟨⟨d0, d1, d2, d3⟩, -⟩ := HC.out w3 G3.out
     have PB4 := Lib.hid (PB.out.below G3.out)
     obtain ⟨c0, c1⟩ := PB4.out.c
     go_wp2_with fail
     refine KR.out.mono ?_
     rintro e w4 ⟨rfl, hb⟩
     have G4 := Lib.hid (G3.out.trans (hb.mono G3.out.size))
     have SU4 := Lib.hid (SU3.out.below hb)
     clear hb KR d0 d1 d2 d3 c0 c1
     cases b2 with
     | false =>
      obtain rfl : false = r := R2.out (NO.out (by decide))
      go_wp2_with fail
      go_ret
      exact ⟨rfl, B0.out.trans (G4.out.mono B0.out.size)⟩
     | true =>
      have GG := Lib.hid (GO.out (by decide))
      have KN := Lib.hid (onextR_any SU4.out (HC.out w4 G4.out).2 C3.out)
      obtain ⟨⟨d0, d1, d2, d3⟩, -⟩ := HC.out w4 G4.out
      have PB5 := Lib.hid (PB.out.below G4.out)
      obtain ⟨c0, c1⟩ := PB5.out.c
      go_wp2_with fail
      refine KN.out.mono ?_
      rintro e w5 ⟨v5, rfl, ho3, hb3⟩
      have S5 := Lib.hid ho3.seq
      have G5 := Lib.hid (G4.out.trans (hb3.mono G4.out.size))
      clear ho3 hb3 KN d0 d1 d2 d3 c0 c1
      go_wp2_with fail
      go_roundw
      case rel => exact ⟨k + 1, _, by omega, by go_num, S5.out, ⟨GG.out.2, GG.out.1, AL.out⟩, NL.out, G5.out⟩
      case measure => simp [intOf]; omega
   ·obtain rfl : k = ln := by omega
    obtain rfl : true = r := R4.out (by decide) (by have := C2.out.2.1; rwa [List.take_of_length_le (by have := DL.out.1; omega)] at this) (by rw [DL.out.1]; exact C2.out.2.2)
    go_wp2_with fail
    go_ret
    exact ⟨rfl, B0.out.trans (GB.out.mono B0.out.size)⟩
end Go.Proofs.YtajfliemmfdnhaaGreat
