/-
  For any store, any transactions and any texts the law StoreUnder answers true: what stands under a zone behind transactions is what their effects under it make of what stood there. No condition.
  (The frame was written by the guide's proof-skeleton.mjs, turned for stores and slices of transactions; the walk is ours.)
-/
import Derived.Test.YtpnpomocjkmncaaGreatRows
import Derived.WalkKit
import Derived.ProofKit
import Derived.OpenShut
import Derived.ShutString
import Derived.ChangeOld
import Derived.Below
import Derived.Test.YtpnpomocjkmncaaGreatStSz
import Derived.Deep.DeepCutAuto
import Derived.Deep.RegionHeld3
import Derived.Test.YtpnpomocjkmncaaGreatRefZs
namespace Go.Proofs.YtpnpomocjkmncaaGreat.storeUnder
open Go.ChangeShapes Go.WideShapes Go.ChangeAt Go.RowKit
open Go.ChangeMaps (open_string shut_string)
set_option linter.unusedVariables false

theorem own : ownKnob Tryz.prog.godebug = none := by kernel_rfl
theorem laidOut : laidOutB Tryz.prog = true := by kernel_rfl

open Plain

set_option maxRecDepth 100000 in
theorem open0 {H : Type} {enc : TypeId × Value → H} {W : World} {r : Reach} {b : Nat} {v : Value} {d : DataW H} {p : List MemPlace} (hv : Value.okWide Tryz.prog W r b 26 v) (h : DataW.Trod enc Tryz.prog W 0 (fun _ => true) true 26 v d p) : IsStoreA W v := store_of_trod hv h
set_option maxRecDepth 100000 in
theorem open1 {H : Type} {enc : TypeId × Value → H} {W : World} {r : Reach} {b : Nat} {v : Value} {d : DataW H} {p : List MemPlace} (hv : Value.okWide Tryz.prog W r b 27 v) (h : DataW.Trod enc Tryz.prog W 0 (fun _ => true) true 27 v d p) : IsTxns W v := txns_of_trod hv h
set_option maxRecDepth 100000 in
theorem open2 {H : Type} {enc : TypeId × Value → H} {W : World} {r : Reach} {b : Nat} {v : Value} {d : DataW H} {p : List MemPlace} (hv : Value.okWide Tryz.prog W r b 31 v) (h : DataW.Trod enc Tryz.prog W 0 (fun _ => true) true 31 v d p) : IsTexts W v := texts_of_trod hv h

set_option maxRecDepth 100000 in
set_option maxHeartbeats 32000000 in
theorem walk (v0 : Value) (v1 : Value) (v2 : Value) (w : World) (w0 : IsStoreA w v0) (w1 : IsTxns w v1) (w2 : IsTexts w v2) :
    Calls Tryz.prog 6 #[v0, v1, v2] w fun e w' => e = .returned (.bool true) ∧ Below w.heap.size w w' := by
  obtain ⟨s, hs, hok⟩ := w0
  obtain ⟨ha, hn, hc, ia, im, ic, hv0, h1, h2⟩ := hs.slices
  subst hv0
  obtain ⟨l, sl, okl⟩ := w1
  obtain ⟨a1, c1, hv1, L1, L2, -, -⟩ := sl.parts
  subst hv1
  have OKS := Lib.hid hok
  have OKL := Lib.hid okl
  obtain ⟨n, hnn⟩ : ∃ n, n = l.length := ⟨_, rfl⟩
  have HN := Lib.hid hnn
  rw [← hnn] at sl L1 ⊢
  have hb := (Below.refl w.heap.size w).alloc (Nat.le_refl _) (.cells #[.slice ha hn hc, .slice ia im ic] 26)
  have SB := Lib.hid (stbox_new (s := s) h1 h2)
  have SL := Lib.hid (sl.below hb)
  have G := Lib.hid hb
  have IMM := Lib.hid h2.dims
  obtain ⟨zs, sz0⟩ := w2
  obtain ⟨za, zc, hvz, -, -, -, kz⟩ := sz0.parts
  subst hvz
  have SZ := Lib.hid (kz.below hb)
  clear sz0 kz
  obtain ⟨zn, hzn⟩ : ∃ q, zs.length = q := ⟨_, rfl⟩
  rw [hzn] at SZ ⊢
  clear hzn
  clear hs hok hb h1 h2 sl okl hnn
  go_enter Tryz.func6, Tryz.ntmps6
  go_upto_region 1 with fail
  generalize (w.alloc (.cells #[.slice ha hn hc, .slice ia im ic] 26)) = wB at *
  generalize hg0 : w.heap.size = g0 at SB ⊢
  go_wp2_with fail
  refine (stawake_any _).mono ?_
  rintro e u3 ⟨rfl, hb⟩
  replace SB := Lib.hid (SB.out.below hb)
  replace SL := Lib.hid (SL.out.below hb)
  replace SZ := Lib.hid (SZ.out.below hb)
  replace G := Lib.hid (G.out.trans (hb.mono G.out.size))
  clear hb
  obtain ⟨sa, hsa⟩ : ∃ b, b = stShort s := ⟨_, rfl⟩
  have Hsa := Lib.hid hsa
  clear hsa
  obtain ⟨x0a, x0b⟩ := SB.out.c
  have K := Lib.hid (stShortR SB.out.is sa Hsa.out.symm)
  cases sa
  · go_wp2_with fail
    refine (K.out).mono ?_
    rintro e u4 ⟨rfl, hb⟩
    clear K
    replace SB := Lib.hid (SB.out.below hb)
    replace SL := Lib.hid (SL.out.below hb)
    replace SZ := Lib.hid (SZ.out.below hb)
    replace G := Lib.hid (G.out.trans (hb.mono G.out.size))
    clear hb
    clear x0a x0b
    go_wp2_with fail
    go_ret
    exact ⟨rfl, G.out⟩
  go_wp2_with fail
  refine (K.out).mono ?_
  rintro e u4 ⟨rfl, hb⟩
  clear K
  replace SB := Lib.hid (SB.out.below hb)
  replace SL := Lib.hid (SL.out.below hb)
  replace SZ := Lib.hid (SZ.out.below hb)
  replace G := Lib.hid (G.out.trans (hb.mono G.out.size))
  clear hb
  clear x0a x0b
  obtain ⟨sb, hsb⟩ : ∃ b, b = shortTx l := ⟨_, rfl⟩
  have Hsb := Lib.hid hsb
  clear hsb
  have K := Lib.hid (rshortTx_any SL.out sb Hsb.out.symm)
  cases sb
  · go_wp2_with fail
    refine (K.out).mono ?_
    rintro e u5 ⟨rfl, hb⟩
    clear K
    replace SB := Lib.hid (SB.out.below hb)
    replace SL := Lib.hid (SL.out.below hb)
    replace SZ := Lib.hid (SZ.out.below hb)
    replace G := Lib.hid (G.out.trans (hb.mono G.out.size))
    clear hb
    go_wp2_with fail
    go_ret
    exact ⟨rfl, G.out⟩
  go_wp2_with fail
  refine (K.out).mono ?_
  rintro e u5 ⟨rfl, hb⟩
  clear K
  replace SB := Lib.hid (SB.out.below hb)
  replace SL := Lib.hid (SL.out.below hb)
  replace SZ := Lib.hid (SZ.out.below hb)
  replace G := Lib.hid (G.out.trans (hb.mono G.out.size))
  clear hb
  obtain ⟨sz, hsz⟩ : ∃ b, b = shortB zs := ⟨_, rfl⟩
  have Hsz := Lib.hid hsz
  clear hsz
  have K := Lib.hid (rshortS SZ.out sz Hsz.out.symm)
  cases sz
  · go_wp2_with fail
    refine (K.out).mono ?_
    rintro e u6 ⟨rfl, hb⟩
    clear K
    replace SB := Lib.hid (SB.out.below hb)
    replace SL := Lib.hid (SL.out.below hb)
    replace SZ := Lib.hid (SZ.out.below hb)
    replace G := Lib.hid (G.out.trans (hb.mono G.out.size))
    clear hb
    go_wp2_with fail
    go_ret
    exact ⟨rfl, G.out⟩
  go_wp2_with fail
  refine (K.out).mono ?_
  rintro e u6 ⟨rfl, hb⟩
  clear K
  replace SB := Lib.hid (SB.out.below hb)
  replace SL := Lib.hid (SL.out.below hb)
  replace SZ := Lib.hid (SZ.out.below hb)
  replace G := Lib.hid (G.out.trans (hb.mono G.out.size))
  clear hb
  have FS := Lib.hid (stfit_of Hsa.out.symm OKS.out)
  have FL := Lib.hid (fitB_of Hsb.out.symm OKL.out)
  have FS1 : Hid (StFit s 1000) := Lib.hid ⟨FS.out.1.heard, by have := FS.out.1.items; omega, FS.out.1.dots⟩
  have HLN : Hid (n ≤ 24) := Lib.hid (by rw [HN.out]; exact FL.out.1)
  have FZ := Lib.hid (short_iff.1 Hsz.out.symm)
  by_cases hap : oApart l
  rotate_left
  · have HAP := Lib.hid hap
    clear hap
    go_wp2_with fail
    refine (twice_yes SL.out (by have := FL.out.1; omega) HAP.out).mono ?_
    rintro e u7 ⟨rfl, hb⟩
    replace SB := Lib.hid (SB.out.below hb)
    replace SL := Lib.hid (SL.out.below hb)
    replace SZ := Lib.hid (SZ.out.below hb)
    replace G := Lib.hid (G.out.trans (hb.mono G.out.size))
    clear hb
    go_wp2_with fail
    go_ret
    exact ⟨rfl, G.out⟩
  have HAP := Lib.hid hap
  clear hap
  go_wp2_with fail
  refine (twice_no SL.out (by have := FL.out.1; omega) HAP.out).mono ?_
  rintro e u7 ⟨rfl, hb⟩
  replace SB := Lib.hid (SB.out.below hb)
  replace SL := Lib.hid (SL.out.below hb)
  replace SZ := Lib.hid (SZ.out.below hb)
  replace G := Lib.hid (G.out.trans (hb.mono G.out.size))
  clear hb
  obtain ⟨sd, hsd⟩ : ∃ b, b = soundB s := ⟨_, rfl⟩
  have Hsd := Lib.hid hsd
  clear hsd
  obtain ⟨x0a, x0b⟩ := SB.out.c
  have K := Lib.hid (stSoundS SB.out.is FS1.out sd Hsd.out.symm)
  cases sd
  · go_wp2_with fail
    refine (K.out).mono ?_
    rintro e u8 ⟨rfl, hb⟩
    clear K
    replace SB := Lib.hid (SB.out.below hb)
    replace SL := Lib.hid (SL.out.below hb)
    replace SZ := Lib.hid (SZ.out.below hb)
    replace G := Lib.hid (G.out.trans (hb.mono G.out.size))
    clear hb
    clear x0a x0b
    go_wp2_with fail
    go_ret
    exact ⟨rfl, G.out⟩
  go_wp2_with fail
  refine (K.out).mono ?_
  rintro e u8 ⟨rfl, hb⟩
  clear K
  replace SB := Lib.hid (SB.out.below hb)
  replace SL := Lib.hid (SL.out.below hb)
  replace SZ := Lib.hid (SZ.out.below hb)
  replace G := Lib.hid (G.out.trans (hb.mono G.out.size))
  clear hb
  clear x0a x0b
  have SD := Lib.hid (sound_iff.1 Hsd.out.symm)
  obtain ⟨x0a, x0b⟩ := SB.out.c
  have K := Lib.hid (stOwn_any SB.out.i SL.out (by have := FS1.out.items; omega) (by have := FL.out.1; omega) FL.out.2.1)
  go_wp2_with fail
  refine (K.out).mono ?_
  rintro e u9 ⟨ow, rfl, how, hb⟩
  have HOW := Lib.hid how
  clear how K
  replace SB := Lib.hid (SB.out.below hb)
  replace SL := Lib.hid (SL.out.below hb)
  replace SZ := Lib.hid (SZ.out.below hb)
  replace G := Lib.hid (G.out.trans (hb.mono G.out.size))
  clear hb
  clear x0a x0b
  cases ow
  · skip
    go_wp2_with fail
    go_ret
    exact ⟨rfl, G.out⟩
  have OWN := Lib.hid (HOW.out rfl)
  clear HOW
  obtain ⟨P, hP⟩ : ∃ P : Nat → List PTxn, P = fun k => sPart (l.take k) zs := ⟨_, rfl⟩
  have P0 : Hid (P 0 = []) := Lib.hid (by rw [hP]; rfl)
  have PN : Hid (P n = sPart l zs) := Lib.hid (by rw [hP, HN.out]; show sPart (l.take l.length) zs = _; rw [List.take_length])
  have PY : Hid (∀ k, k < n → tformedB (otx l k) = true → P (k + 1) = P k ++ [tonly (otx l k) zs]) := Lib.hid (fun k hk h => by rw [hP]; exact sPart_yes zs (by rw [← HN.out]; exact hk) h)
  have PQ : Hid (∀ k, k < n → tformedB (otx l k) = false → P (k + 1) = P k) := Lib.hid (fun k hk h => by rw [hP]; exact sPart_no zs (by rw [← HN.out]; exact hk) h)
  have PL : Hid (∀ k, (P k).length ≤ 24) := Lib.hid (fun k => by rw [hP]; have h1 := sPart_len (l.take k) zs; have h2 := FL.out.1; rw [List.length_take] at h1; show (sPart (l.take k) zs).length ≤ 24; omega)
  clear hP
  go_wp2_with fail
  go_loopw [7, 8] (fun z i wr => ∃ k : Nat, k ≤ n ∧ i = .int .i64 k ∧ OwnE LTxn u9.heap.size wr z (P k) ∧ Below u9.heap.size u9 wr) (fun _ i _ => n - (intOf i).toNat)
  case atStart => exact ⟨0, Nat.zero_le _, rfl, by rw [P0.out]; exact OwnE.nil _ _, Below.refl _ _⟩
  case round =>
    obtain ⟨k, hk, rfl, ho, hbb⟩ := hrel
    have HO := Lib.hid ho
    have HB := Lib.hid hbb
    have l0 : n ≤ 24 := HLN.out
    obtain ⟨ol, hol⟩ : ∃ q, (P k).length = q := ⟨_, rfl⟩
    obtain ⟨oa, oc, rfl, -, -, -⟩ := ho.at ol hol
    have HOL := Lib.hid hol
    clear ho hbb hol
    by_cases hlt : k < n
    · have hkl : k < l.length := by rw [← HN.out]; exact hlt
      obtain ⟨lb, lo, rfl, hc'⟩ := txns_atS SL.out (by omega)
      obtain ⟨da, dn, dc, ea, en, ec, hW, hsd, hse⟩ := hc' k hlt
      have hft := FL.out.2.1 (otx l k) (by rw [otx_lt hkl]; exact List.getElem_mem hkl)
      have hfx := FL.out.2.2 (otx l k) (by rw [otx_lt hkl]; exact List.getElem_mem hkl)
      have PYK := Lib.hid (PY.out k hlt)
      have PQK := Lib.hid (PQ.out k hlt)
      have PLK := Lib.hid (PL.out k)
      have k1 : (k : Int) < n := by omega
      have k2 : (n : Int) ≤ c1 := by omega
      have k3 : (c1 : Int) ≤ 9223372036854775807 := by omega
      clear hc' hkl
      generalize otx l k = t at *
      have HW := Lib.hid (fun W (hb : Below u9.heap.size u9 W) => hW W hb)
      have SDD : Hid (∀ W, Below u9.heap.size u9 W → Sq LInt (fun b => b < u9.heap.size) W (.slice da dn dc) t.deps) := Lib.hid (fun W hb => hsd.agree fun b hq => hb.block b hq)
      have SEE : Hid (∀ W, Below u9.heap.size u9 W → Sq LEff (fun b => b < u9.heap.size) W (.slice ea en ec) t.effs) := Lib.hid (fun W hb => hse.agree fun b hq => hb.block b hq)
      have HFT := Lib.hid hft
      have HFX := Lib.hid hfx
      obtain ⟨fb, hfb⟩ : ∃ b, b = tformedB t := ⟨_, rfl⟩
      have KF := Lib.hid (rtformedP (hW wr HB.out).2 (fun e he => by have := hft.drops e he; omega) (fun e he => by have := hfx e he; omega) (by have := hft.tx.deps; omega) fb hfb.symm)
      rw [← hfb] at PYK PQK
      obtain ⟨x0, x1, x2', x3⟩ := (hW wr HB.out).1
      clear hW hsd hse hft hfx hfb
      cases fb
      · have E := Lib.hid (PQK.out rfl)
        go_wp2_with (go_at_call 26; refine KF.out.mono ?_; rintro e w2 ⟨rfl, hb⟩; have O2 := Lib.hid (HO.out.below hb (Nat.le_refl _)); have B2 := Lib.hid (HB.out.trans (hb.mono HB.out.size)); clear hb x0 x1 x2' x3 KF)
        go_roundw
        case rel => exact ⟨k + 1, by omega, by go_num, by rw [E.out]; exact O2.out, B2.out⟩
        case measure => simp [intOf]; omega
      · have E := Lib.hid (PYK.out rfl)
        go_wp2_with (first
          | (go_at_call 26; refine KF.out.mono ?_; rintro e w2 ⟨rfl, hb⟩; have O2 := Lib.hid (HO.out.below hb (Nat.le_refl _)); have B2 := Lib.hid (HB.out.trans (hb.mono HB.out.size)); clear hb x0 x1 x2' x3 KF; obtain ⟨x0, x1, x2', x3⟩ := (HW.out w2 B2.out).1; have KO := Lib.hid (rtxonlyN (N := u9.heap.size) (SDD.out w2 B2.out) (SEE.out w2 B2.out) B2.out.size (SZ.out.below B2.out) (fun s hs => by have := FZ.out.2 s hs; omega) (by have := FZ.out.1; omega) (fun e he => by have := HFX.out e he; omega) (by have := HFT.out.effs; omega)))
          | (go_at_call 27; refine KO.out.mono ?_; rintro e w3 ⟨qa, qn, qc, rfl, hq, hb⟩; have Z2 := Lib.hid hb.size; have LT2 : Hid (∀ j, (Value.slice oa ol oc).ownBlock = some j → u9.heap.size ≤ j ∧ j < w2.heap.size) := Lib.hid O2.out.lt; have O3 := Lib.hid (O2.out.below hb (Nat.le_refl _)); have B3 := Lib.hid (B2.out.trans (hb.mono B2.out.size)); have Q3 := Lib.hid hq; clear hb hq KO x0 x1 x2' x3)
          | (at_builtin; refine wpList_append_el LTxn rfl (.tmp 55) (.tmp 62) rfl u9.heap.size rfl (O3.out.alloc _) rfl (one_txnM (t := t) (zs := zs) ((SDD.out w3 B3.out).mono fun b h => Or.inl h) Q3.out (fun b h => h.elim (fun h => ⟨by have := Z2.out; have := B2.out.size; omega, fun e => by have := LT2.out b e; omega⟩) (fun h => ⟨h.2, fun e => by have := LT2.out b e; omega⟩)) (fun j hj => by have := LT2.out j hj; have := Z2.out; omega)) (fun vs x h => h) (by have := PLK.out; simp; omega) (by have := B3.out.size; simp; omega) ?_))
        intro v5 w5 ho5 hg5 hat5
        have B5 : Hid (Below u9.heap.size u9 w5) := Lib.hid ((B3.out.alloc B3.out.size _).grown hg5 (by have := B3.out.size; simp; omega) fun b hb => (O3.out.lt b hb).1)
        rw [← E.out] at ho5
        have O5 := Lib.hid ho5
        clear ho5 hg5 hat5
        go_wp2_with fail
        go_roundw
        case rel => exact ⟨k + 1, by omega, by go_num, O5.out, B5.out⟩
        case measure => simp [intOf]; omega
    · obtain rfl : k = n := by omega
      have hb := HB.out
      have SO : Hid (SeqE LTxn wr (.slice oa ol oc) (sPart l zs)) := Lib.hid (by rw [← PN.out]; exact HO.out.seq)
      have PF : Hid (∀ t ∈ sPart l zs, FitB t) := Lib.hid (sPart_fit FL.out.2.1)
      have PLL : Hid ((sPart l zs).length ≤ 24) := Lib.hid (by have h := PL.out k; rw [PN.out] at h; exact h)
      have HUE := Lib.hid (sAll_underE zs SD.out OWN.out)
      generalize sPart l zs = m at *
      replace SB := Lib.hid (SB.out.below hb)
      replace SL := Lib.hid (SL.out.below hb)
      replace SZ := Lib.hid (SZ.out.below hb)
      replace G := Lib.hid (G.out.trans (hb.mono G.out.size))
      clear hb HO HB P0 PN PY PQ PL
      obtain ⟨x0a, x0b⟩ := SB.out.c
      have K := Lib.hid (stAllS SB.out.is SL.out FS1.out FL.out.1 FL.out.2.1)
      go_upto_region 12 with (go_at_call 19; refine K.out.mono ?_; rintro e u20 ⟨pha, phn, phc, pia, pim, pic, pta, ptn, ptc, rfl, hh, hi, ht, hb⟩; have PB := Lib.hid (stbox_new (s := sAll s l) hh hi); have PT := Lib.hid (ht.below ((Below.refl u20.heap.size u20).alloc (Nat.le_refl _) (.cells #[.slice pha phn phc, .slice pia pim pic] 26))); have PBD := Lib.hid (And.intro hh.dims (And.intro hi.dims ht.dims)); replace hb := hb.trans (((Below.refl u20.heap.size u20).alloc (Nat.le_refl _) (.cells #[.slice pha phn phc, .slice pia pim pic] 26)).mono hb.size); replace SB := Lib.hid (SB.out.below hb); replace SL := Lib.hid (SL.out.below hb); replace SZ := Lib.hid (SZ.out.below hb); replace SO := Lib.hid (SO.out.below hb); replace G := Lib.hid (G.out.trans (hb.mono G.out.size)); clear hb hh hi ht K x0a x0b)
      generalize (u20.alloc (.cells #[.slice pha phn phc, .slice pia pim pic] 26)) = u21 at *
      generalize u20.heap.size = pg at PB ⊢
      obtain ⟨x0a, x0b⟩ := SB.out.c
      have KU := Lib.hid (stUnderS SB.out.is SZ.out FS1.out FZ.out.1)
      go_upto_region 13 with (first | (go_at_call 21; refine KU.out.mono ?_; rintro e u22 ⟨uha, uhn, uhc, uia, uim, uic, rfl, hh, hi, hb⟩; replace SB := Lib.hid (SB.out.below hb); replace SL := Lib.hid (SL.out.below hb); replace SZ := Lib.hid (SZ.out.below hb); replace SO := Lib.hid (SO.out.below hb); replace PB := Lib.hid (PB.out.below hb); replace PT := Lib.hid (PT.out.below hb); replace G := Lib.hid (G.out.trans (hb.mono G.out.size)); clear hb KU; have K := Lib.hid (stAllS (s := ⟨s.heard, iunder s.items zs⟩) ⟨_, _, rfl, hh, hi⟩ SO.out (stfit_under FS1.out zs) PLL.out PF.out); clear hh hi) | (go_at_call 19; refine K.out.mono ?_; rintro e u23 ⟨qha, qhn, qhc, qia, qim, qic, qta, qtn, qtc, rfl, hh, hi, ht, hb⟩; have QB := Lib.hid (stbox_new (s := sAll ⟨s.heard, iunder s.items zs⟩ m) hh hi); replace hb := hb.trans (((Below.refl u23.heap.size u23).alloc (Nat.le_refl _) (.cells #[.slice qha qhn qhc, .slice qia qim qic] 26)).mono hb.size); replace SB := Lib.hid (SB.out.below hb); replace SL := Lib.hid (SL.out.below hb); replace SZ := Lib.hid (SZ.out.below hb); replace SO := Lib.hid (SO.out.below hb); replace PB := Lib.hid (PB.out.below hb); replace PT := Lib.hid (PT.out.below hb); replace G := Lib.hid (G.out.trans (hb.mono G.out.size)); clear hb hh hi ht K x0a x0b))
      generalize (u23.alloc (.cells #[.slice qha qhn qhc, .slice qia qim qic] 26)) = u24 at *
      generalize u23.heap.size = qg at QB ⊢
      have FA0 : Hid (StFit (sAll s l) 1000) := Lib.hid (stfit_all FS.out.1 FL.out.1 FL.out.2.1 (by omega))
      have KE : Hid (∀ v, Below u24.heap.size u24 v → Below u24.heap.size u24 v ∧ (v.cell? ⟨pg, 0, none⟩ = some (.slice pha phn phc) ∧ v.cell? ⟨pg, 1, none⟩ = some (.slice pia pim pic)) ∧ v.cell? ⟨qg, 0, none⟩ = some (.slice qha qhn qhc) ∧ v.cell? ⟨qg, 1, none⟩ = some (.slice qia qim qic)) := Lib.hid (fun v hb => ⟨hb, (PB.out.below hb).c, (QB.out.below hb).c⟩)
      have KU := Lib.hid (fun v (hb : Below u24.heap.size u24 v) => stUnderS (PB.out.below hb).is (SZ.out.below hb) FA0.out FZ.out.1)
      have KS := Lib.hid (fun v (hb : Below u24.heap.size u24 v) av (hs : IsStore v av ⟨(sAll s l).heard, iunder (sAll s l).items zs⟩) => stSameR hs (QB.out.below hb).is true (decide_eq_true HUE.out))
      refine wp_region_held_drew (S := fun u' => Below u24.heap.size u24 u' ∧ (u'.cell? ⟨pg, 0, none⟩ = some (.slice pha phn phc) ∧ u'.cell? ⟨pg, 1, none⟩ = some (.slice pia pim pic)) ∧ u'.cell? ⟨qg, 0, none⟩ = some (.slice qha qhn qhc) ∧ u'.cell? ⟨qg, 1, none⟩ = some (.slice qia qim qic)) (by kernel_rfl) ?_ (fun hHeld => ?_)
      · (exact KE.out _ (Below.refl _ _).drew)
      simp only [List.size_toArray, List.length_cons, List.length_nil, Nat.zero_add, Nat.reduceAdd]
      refine tkB (i := 0) hHeld ?_
      refine tkB (i := 1) hHeld ?_
      refine tkB (i := 3) hHeld ?_
      refine wpAnyH_ready (rs := [2]) (by kernel_rfl) (by simp) ?_
      refine AllReadyH.cons rfl (fun K hK => ?_) AllReadyH.nil
      go_simp
      refine (KU.out _ hHeld.1).mono ?_
      rintro e s1 ⟨vha, vhn, vhc, via, vim, vic, rfl, hh, hi, hb⟩
      have IS1 : Hid (IsStore s1 (.agg #[.slice vha vhn vhc, .slice via vim vic]) ⟨(sAll s l).heard, iunder (sAll s l).items zs⟩) := Lib.hid ⟨_, _, rfl, hh, hi⟩
      refine hK.out _ _ (KE.out _ (holdC hHeld hb)) (fun hHeld => ?_)
      clear hK K hb hh hi
      refine wpAnyH_ready (rs := [4]) (by kernel_rfl) (by simp) ?_
      refine AllReadyH.cons rfl (fun K hK => ?_) AllReadyH.nil
      go_simp
      refine (KS.out _ hHeld.1 _ IS1.out).mono ?_
      rintro e s2 ⟨rfl, hb⟩
      refine hK.out _ _ (KE.out _ (holdC hHeld hb)) (fun hHeld => ?_)
      clear hK K hb
      refine tkB (i := 5) hHeld ?_
      refine wpAnyH_done (by kernel_rfl) ?_ _
      have GZ := Lib.hid (G.out.trans (hHeld.1.mono G.out.size))
      clear hHeld
      go_wp2_with fail
      go_ret
      exact ⟨rfl, GZ.out⟩

set_option maxRecDepth 100000 in
theorem lifted (os : Os) (started : os.Started) (H : Type) (enc : TypeId × Value → H) :
    ReturnsInHanded {} Tryz.checked os 6 .any (Rows.storeUnderSpec.pre6 enc Tryz.prog Tryz.f6 Rows.storeUnderRow.domain false) (Rows.storeUnderSpec.post enc Tryz.prog Tryz.f6 false true false false) := by
  refine returnsInHanded_of_change (C := Tryz.checked) own started (by kernel_rfl) Tryz.func6
    (ChangeSpec.witness6 (enc := enc) (C := Tryz.checked) false ⟨#[], #[.agg #[.slice none 0 0, .slice none 0 0], .slice none 0 0, .slice none 0 0], []⟩ 8 (by kernel_rfl) (by kernel_rfl) (by kernel_rfl) (by kernel_rfl)) ?_
  intro W base args ds gs before hval0 hW hcnd _
  have hval : ∀ (j : Nat) t v, Tryz.f6.params[j]? = some t → args[j]? = some v → Value.okWide Tryz.prog W .any base t v := hval0
  have hW' := hW
  obtain ⟨p, q, hA0, hV, rfl, hfz, hnd⟩ := hW
  have hA : DataW.TrodAll enc Tryz.prog W 0 (fun _ => true) true Tryz.f6.params.toList args.toList ds p := hA0
  rw [Tryz.params6] at hA hval
  obtain ⟨v0, vs0, d0, ds0, p0, q0, hargs, rfl, rfl, h0, r0⟩ := trodAll_cons hA
  obtain ⟨v1, vs1, d1, ds1, p1, q1, rfl, rfl, rfl, h1, r1⟩ := trodAll_cons r0
  obtain ⟨v2, vs2, d2, ds2, p2, q2, rfl, rfl, rfl, h2, r2⟩ := trodAll_cons r1
  obtain ⟨rfl, rfl, rfl⟩ := trodAll_nil r2
  obtain rfl : args = #[v0, v1, v2] := by cases args; simp_all
  obtain ⟨rfl, rfl⟩ := trodVars_none hV
  have k0 := h0
  have lt0 : ∀ x ∈ p0, x.block < W.heap.size := by obtain ⟨m, hm⟩ := k0; exact DataW.trod_lt m _ _ _ hm
  have w0 := open0 (hval 0 26 v0 rfl rfl) h0
  have k1 := h1
  have lt1 : ∀ x ∈ p1, x.block < W.heap.size := by obtain ⟨m, hm⟩ := k1; exact DataW.trod_lt m _ _ _ hm
  have w1 := open1 (hval 1 27 v1 rfl rfl) h1
  have k2 := h2
  have lt2 : ∀ x ∈ p2, x.block < W.heap.size := by obtain ⟨m, hm⟩ := k2; exact DataW.trod_lt m _ _ _ hm
  have w2 := open2 (hval 2 31 v2 rfl rfl) h2
  clear hA0 hval0
  refine (walk v0 v1 v2 W w0 w1 w2).mono fun e W' ⟨he, bel⟩ => ?_
  subst he
  exact ⟨_, rfl, _, _, _, [], _, [], hW', trodAll_mk1 (shut_bool Tryz.underlying4 _), (trodAll_cons_mk (Below.trod laidOut (by kernel_rfl) (of_decide_eq_true (by kernel_rfl)) k0 bel lt0) (trodAll_cons_mk (Below.trod laidOut (by kernel_rfl) (of_decide_eq_true (by kernel_rfl)) k1 bel lt1) (trodAll_cons_mk (Below.trod laidOut (by kernel_rfl) (of_decide_eq_true (by kernel_rfl)) k2 bel lt2) trodAll_mk0))), rfl, bel.frame _, fun h => by cases h⟩

theorem over : Rows.storeUnderRow.holds Tryz.pinned (OpenSpec.ofChange Rows.storeUnderSpec) :=
  OpenClaim.holds_of_wide 6 Tryz.f6 rfl rfl rfl rfl rfl rfl rfl ⟨rfl, rfl, rfl, rfl, rfl⟩ rfl rfl rfl rfl rfl (by kernel_rfl) Tryz.func6 (by kernel_rfl)
    (of_decide_eq_true (by kernel_rfl)) (by unfold Func.isWrapper; first | (rw [if_pos (by decide +kernel)]; kernel_rfl) | (rw [if_neg (by decide +kernel)]; exact ⟨rfl, rfl⟩))
    (fun os started H enc _ => lifted os started H enc)

/-- the given statement -/
theorem proved : Rows.StoreUnderSaid := over
#print axioms proved
end Go.Proofs.YtpnpomocjkmncaaGreat.storeUnder
