/-
  For any transaction and any two texts of bytes the law TxnBack answers true: a transaction is read as it was written, with what stands behind it; what is read is written as it stood. No condition.
  (The frame was written by the guide's proof-skeleton.mjs, turned for slices of items and for fields; the walk is ours.)
-/
import Derived.Test.YtkanklppgioacaaRows
import Derived.WalkKit
import Derived.ProofKit
import Derived.OpenShut
import Derived.ShutString
import Derived.ChangeOld
import Derived.Below
import Derived.Test.YtkanklppgioacaaTxUses
import Derived.Deep.DeepCutAuto
namespace Go.Proofs.Ytkanklppgioacaa.txnBack
open Go.ChangeShapes Go.WideShapes Go.ChangeAt Go.RowKit
open Go.ChangeMaps (open_string shut_string)
set_option linter.unusedVariables false

theorem own : ownKnob Try.prog.godebug = none := by kernel_rfl
theorem laidOut : laidOutB Try.prog = true := by kernel_rfl

open Plain

set_option maxRecDepth 100000 in
theorem open0 {H : Type} {enc : TypeId × Value → H} {W : World} {r : Reach} {b : Nat} {v : Value} {d : DataW H} {p : List MemPlace} (hv : Value.okWide Try.prog W r b 26 v) (h : DataW.Trod enc Try.prog W 0 (fun _ => true) true 26 v d p) : IsTxnA W v := txn_of_trod hv h
set_option maxRecDepth 100000 in
theorem open1 {H : Type} {enc : TypeId × Value → H} {W : World} {r : Reach} {b : Nat} {v : Value} {d : DataW H} {p : List MemPlace} (hv : Value.okWide Try.prog W r b 27 v) (h : DataW.Trod enc Try.prog W 0 (fun _ => true) true 27 v d p) : IsBytesA W v := bytes_of_trod hv h
set_option maxRecDepth 100000 in
theorem open2 {H : Type} {enc : TypeId × Value → H} {W : World} {r : Reach} {b : Nat} {v : Value} {d : DataW H} {p : List MemPlace} (hv : Value.okWide Try.prog W r b 27 v) (h : DataW.Trod enc Try.prog W 0 (fun _ => true) true 27 v d p) : IsBytesA W v := bytes_of_trod hv h

set_option maxRecDepth 100000 in
set_option maxHeartbeats 16000000 in
theorem walk (v0 : Value) (v1 : Value) (v2 : Value) (w : World) (w0 : IsTxnA w v0) (w1 : IsBytesA w v1) (w2 : IsBytesA w v2) :
    Calls Try.prog 3 #[v0, v1, v2] w fun e w' => e = .returned (.bool true) ∧ Below w.heap.size w w' := by
  obtain ⟨m, h1⟩ := w1
  obtain ⟨a1, n1, c1, hv1, e1, g11, g12, k1⟩ := byParts h1
  subst hv1
  have Sm := Lib.hid k1
  have Nm := Lib.hid e1
  clear h1 k1 e1
  obtain ⟨b, h2⟩ := w2
  obtain ⟨a2, n2, c2, hv2, e2, g21, g22, k2⟩ := byParts h2
  subst hv2
  have Sb := Lib.hid k2
  have Nb := Lib.hid e2
  clear h2 k2 e2
  obtain ⟨t, ht, hok⟩ := w0
  have OK := Lib.hid hok
  obtain ⟨da, dn, dc, ea, en, ec, hvt, hd, he⟩ := ht.parts
  subst hvt
  have hb := (Below.refl w.heap.size w).alloc (Nat.le_refl _) (.cells #[.int .i64 t.node, .int .i64 t.seq, .slice da dn dc, .slice ea en ec] 26)
  have TB := Lib.hid (txbox_new hd he)
  have G := Lib.hid hb
  replace Sm := Lib.hid (Sm.out.below hb)
  replace Sb := Lib.hid (Sb.out.below hb)
  clear ht hok hd he hb
  show Calls Try.prog 3 #[.agg #[.int .i64 t.node, .int .i64 t.seq, .slice da dn dc, .slice ea en ec], _, _] w _
  go_enter Try.func3, Try.ntmps3
  go_upto_region 1 with fail
  generalize (w.alloc (.cells #[.int .i64 t.node, .int .i64 t.seq, .slice da dn dc, .slice ea en ec] 26)) = wB at *
  have G0 := G
  replace G := Lib.hid (Below.refl wB.heap.size wB)
  go_wp2_with fail
  refine (tawake_any _).mono ?_
  rintro e u2 ⟨rfl, hb⟩
  replace G := Lib.hid (G.out.trans (hb.mono G.out.size))
  clear hb
  have TBc := TB.out.below G.out
  obtain ⟨y0, y1, y2, y3⟩ := TBc.c
  have hb := (Below.refl u2.heap.size u2).alloc (Nat.le_refl _) (.cells #[.int .i64 t.node, .int .i64 t.seq, .slice da dn dc, .slice ea en ec] 26)
  have KS := Lib.hid (fun r hr => rshortTx_any (one_txn TBc.d TBc.e) r hr)
  replace G := Lib.hid (G.out.trans (hb.mono G.out.size))
  clear hb
  cases hA : shortTx [t] with
  | false =>
    go_wp2_with fail
    refine (KS.out _ hA).mono ?_
    rintro e u3 ⟨rfl, hb⟩
    replace G := Lib.hid (G.out.trans (hb.mono G.out.size))
    clear hb KS TBc
    clear y0 y1 y2 y3
    go_wp2_with fail
    go_ret
    exact ⟨rfl, G0.out.trans (G.out.mono G0.out.size)⟩
  | true =>
    go_wp2_with fail
    refine (KS.out _ hA).mono ?_
    rintro e u3 ⟨rfl, hb⟩
    replace G := Lib.hid (G.out.trans (hb.mono G.out.size))
    clear hb KS TBc
    clear y0 y1 y2 y3
    have FX := Lib.hid (fitTx_of hA OK.out)
    clear hA
    by_cases h1000 : (1000 : Int) < (n1 : Int)
    · skip
      go_wp2_with fail
      go_ret
      exact ⟨rfl, G0.out.trans (G.out.mono G0.out.size)⟩
    by_cases h6000 : (6000 : Int) < (n2 : Int)
    · skip
      go_wp2_with fail
      go_ret
      exact ⟨rfl, G0.out.trans (G.out.mono G0.out.size)⟩
    have L1 : Hid (n1 ≤ 1000) := Lib.hid (by omega)
    have L2 : Hid (n2 ≤ 6000) := Lib.hid (by omega)
    have TBc := TB.out.below G.out
    obtain ⟨y0, y1, y2, y3⟩ := TBc.c
    have K := txputP (By.Seq.nil _) (by simp) TBc.is FX.out
    go_wp2_with fail
    refine K.mono ?_
    intro e u4 hg
    have hb := hg.2.2
    have HG := Lib.hid G.out.size
    replace G := Lib.hid (G.out.trans (hb.mono G.out.size))
    clear hb K TBc
    clear y0 y1 y2 y3
    cases hT : tformedB t with
    | false =>
      obtain ⟨pa, pc, rfl⟩ := hg.2.1 hT
      clear hg hT HG
      have Sbc := Sb.out.below G.out
      have HLB : b.length ≤ 100000 := by have := L2.out; rw [← Nb.out]; omega
      cases hR : txnC.get b with
      | err k =>
        have hk0 := txnC.bad hR
        have ek : (k == 0) = false := beq_false_of_ne hk0
        obtain ⟨d, hd⟩ : ∃ d : PTxn, default = d := ⟨_, rfl⟩
        have K := txreadP Sbc HLB _ hR
        go_wp2_with fail
        refine (K).mono ?_
        rintro e u5 ⟨ut, vr, rfl, hu, hr, hb⟩
        replace G := Lib.hid (G.out.trans (hb.mono G.out.size))
        clear hb
        rw [hd] at hu
        clear K hR hk0 Sbc
        obtain ⟨pa5, pn5, pc5, qa5, qn5, qc5, hvu, h1, h2⟩ := hu.parts
        subst hvu
        obtain ⟨ra5, rn5, rc5, hvr, hrn, gr51, gr52, hrs⟩ := byParts hr
        subst hvr
        have Srr := Lib.hid hrs
        have Nrr := Lib.hid hrn
        have hb := (Below.refl u5.heap.size u5).alloc (Nat.le_refl _) (.cells #[.int .i64 d.node, .int .i64 d.seq, .slice pa5 pn5 pc5, .slice qa5 qn5 qc5] 26)
        have DB := Lib.hid (txbox_new h1 h2)
        replace Srr := Lib.hid (Srr.out.below hb)
        replace G := Lib.hid (G.out.trans (hb.mono G.out.size))
        clear hb h1 h2 hu hr hrs hrn
        go_upto_region 11 with fail
        generalize (u5.alloc (.cells #[.int .i64 d.node, .int .i64 d.seq, .slice pa5 pn5 pc5, .slice qa5 qn5 qc5] 26)) = wd5 at *
        obtain ⟨z0, z1, z2, z3⟩ := DB.out.c
        have KS := rsameTx DB.out.is (by rw [← hd]; exact txn_zero wd5) true (decide_eq_true rfl)
        clear hd
        go_wp2_with fail
        refine (KS).mono ?_
        rintro e u6 ⟨rfl, hb⟩
        replace Srr := Lib.hid (Srr.out.below hb)
        replace DB := Lib.hid (DB.out.below hb)
        replace G := Lib.hid (G.out.trans (hb.mono G.out.size))
        clear hb KS
        clear z0 z1 z2 z3
        go_wp2_with fail
        go_ret
        exact ⟨rfl, G0.out.trans (G.out.mono G0.out.size)⟩
      | ok u rest =>
        have OKU := Lib.hid (txnC.bwd hR).1
        have HE := Lib.hid (txnC.bwd hR).2
        have K := txreadP Sbc HLB _ hR
        have FU := Lib.hid (fitTx_back OKU.out)
        clear hR
        go_wp2_with fail
        refine (K).mono ?_
        rintro e u5 ⟨ut, vr, rfl, hu, hr, hb⟩
        replace G := Lib.hid (G.out.trans (hb.mono G.out.size))
        clear hb
        clear K Sbc
        obtain ⟨pa5, pn5, pc5, qa5, qn5, qc5, hvu, h1, h2⟩ := hu.parts
        subst hvu
        obtain ⟨ra5, rn5, rc5, hvr, hrn, gr51, gr52, hrs⟩ := byParts hr
        subst hvr
        have Srr := Lib.hid hrs
        have Nrr := Lib.hid hrn
        have hb := (Below.refl u5.heap.size u5).alloc (Nat.le_refl _) (.cells #[.int .i64 u.node, .int .i64 u.seq, .slice pa5 pn5 pc5, .slice qa5 qn5 qc5] 26)
        have DB := Lib.hid (txbox_new h1 h2)
        replace Srr := Lib.hid (Srr.out.below hb)
        replace G := Lib.hid (G.out.trans (hb.mono G.out.size))
        clear hb h1 h2 hu hr hrs hrn
        go_upto_region 11 with fail
        generalize (u5.alloc (.cells #[.int .i64 u.node, .int .i64 u.seq, .slice pa5 pn5 pc5, .slice qa5 qn5 qc5] 26)) = wd5 at *
        obtain ⟨z0, z1, z2, z3⟩ := DB.out.c
        have K := txputP (By.Seq.nil _) (by simp) DB.out.is FU.out
        go_wp2_with fail
        refine K.mono ?_
        intro e u6 hg
        have hb := hg.2.2
        have HG := Lib.hid G.out.size
        replace Srr := Lib.hid (Srr.out.below hb)
        replace DB := Lib.hid (DB.out.below hb)
        replace G := Lib.hid (G.out.trans (hb.mono G.out.size))
        obtain ⟨v, rfl, ho⟩ := hg.1 OKU.out.2
        rw [List.nil_append] at ho
        have ho2 := ho.mono HG.out
        obtain ⟨ma, mc, hvm, -, -, ho3, -⟩ := ho2.parts
        subst hvm
        have HO := Lib.hid ho3
        clear hg ho ho2 ho3 HG hb K
        clear z0 z1 z2 z3
        have HL := Lib.hid (txnC_len OKU.out.2)
        have HRL : Hid (rest.length ≤ 100000) := Lib.hid (by have := congrArg List.length HE.out; rw [List.length_append] at this; omega)
        generalize txnC.put u = pu at *
        obtain ⟨mn, hmn⟩ : ∃ m, pu.length = m := ⟨_, rfl⟩
        rw [hmn] at HO HL ⊢
        have Nmn := Lib.hid hmn
        clear hmn
        obtain ⟨z0, z1, z2, z3⟩ := DB.out.c
        have KF := txformedP DB.out.is FU.out true OKU.out.2
        go_wp2_with fail
        refine KF.mono ?_
        rintro e u7 ⟨rfl, hb⟩
        replace HO := Lib.hid (HO.out.below hb (Nat.le_refl _))
        replace Srr := Lib.hid (Srr.out.below hb)
        replace DB := Lib.hid (DB.out.below hb)
        replace G := Lib.hid (G.out.trans (hb.mono G.out.size))
        clear hb KF
        clear z0 z1 z2 z3
        go_wp2_with (at_builtin; refine By.wpList_append_want (by rfl) (.tmp 85) (.tmp 86) rfl wB.heap.size rfl HO.out rfl Srr.out (by have := HL.out; have := HRL.out; rw [Nmn.out]; omega) G.out.size ?_)
        intro v2 w2 ho2 hgr _
        have HO2 := Lib.hid ho2
        replace G := Lib.hid (G.out.grown hgr G.out.size (fun j hj => (HO.out.lt j hj).1))
        clear ho2 hgr HO
        obtain ⟨xa2, xn2, xc2, hvx2, hxn2, gy1, gy2, hxs2⟩ := byParts HO2.out.seq
        subst hvx2
        rw [HE.out] at hxs2
        have KE := rsameBy hxs2 (Sb.out.below G.out)
        clear HO2 hxs2 hxn2
        go_wp2_with fail
        refine (KE).mono ?_
        rintro e u8 ⟨rfl, hb⟩
        replace G := Lib.hid (G.out.trans (hb.mono G.out.size))
        clear hb KE
        go_wp2_with fail
        go_ret
        exact ⟨rfl, G0.out.trans (G.out.mono G0.out.size)⟩
    | true =>
      obtain ⟨v, rfl, ho⟩ := hg.1 hT
      rw [List.nil_append] at ho
      have ho2 := ho.mono HG.out
      obtain ⟨pa, pc, hvp, -, -, ho3, -⟩ := ho2.parts
      subst hvp
      have HO := Lib.hid ho3
      have HL := Lib.hid (txnC_len hT)
      have HG2 := Lib.hid (txnC.fwd t m (txnC_ok hT (fits_effs OK.out)))
      clear hg ho ho2 ho3 hT HG
      generalize txnC.put t = pt at *
      obtain ⟨pn, hpn⟩ : ∃ k, pt.length = k := ⟨_, rfl⟩
      rw [hpn] at HO HL ⊢
      have NP := Lib.hid hpn
      clear hpn
      have SM := Lib.hid (Sm.out.below G.out)
      go_wp2_with (at_builtin; refine By.wpList_append_seq rfl (.tmp 41) (.tmp 42) rfl wB.heap.size rfl HO.out rfl SM.out (by have := HL.out; have := L1.out; rw [NP.out, ← Nm.out]; omega) G.out.size ?_)
      intro v2 w2 ho2 hgr _
      have HO2 := Lib.hid ho2
      replace G := Lib.hid (G.out.grown hgr G.out.size (fun j hj => (HO.out.lt j hj).1))
      clear ho2 hgr HO SM
      obtain ⟨xa, xn, xc, hvx, hxn, gx1, gx2, hxs⟩ := byParts HO2.out.seq
      subst hvx
      have SX := Lib.hid hxs
      have K := txreadP SX.out (by rw [List.length_append]; have := HL.out; have := L1.out; rw [NP.out, ← Nm.out]; omega) _ HG2.out
      clear HO2 hxs hxn
      go_wp2_with fail
      refine (K).mono ?_
      rintro e u5 ⟨ut, vr, rfl, hu, hr, hb⟩
      replace G := Lib.hid (G.out.trans (hb.mono G.out.size))
      clear hb
      clear K
      obtain ⟨pa5, pn5, pc5, qa5, qn5, qc5, hvu, h1, h2⟩ := hu.parts
      subst hvu
      obtain ⟨ra5, rn5, rc5, hvr, hrn, gr51, gr52, hrs⟩ := byParts hr
      subst hvr
      have Srm := Lib.hid hrs
      have Nrm := Lib.hid hrn
      have hb := (Below.refl u5.heap.size u5).alloc (Nat.le_refl _) (.cells #[.int .i64 t.node, .int .i64 t.seq, .slice pa5 pn5 pc5, .slice qa5 qn5 qc5] 26)
      have EB := Lib.hid (txbox_new h1 h2)
      replace Srm := Lib.hid (Srm.out.below hb)
      replace G := Lib.hid (G.out.trans (hb.mono G.out.size))
      clear hb h1 h2 hu hr hrs hrn
      go_upto_region 8 with fail
      generalize (u5.alloc (.cells #[.int .i64 t.node, .int .i64 t.seq, .slice pa5 pn5 pc5, .slice qa5 qn5 qc5] 26)) = wd5 at *
      have TBc := TB.out.below G.out
      obtain ⟨y0, y1, y2, y3⟩ := TBc.c
      obtain ⟨z0, z1, z2, z3⟩ := EB.out.c
      have KS := rsameTx TBc.is EB.out.is true (decide_eq_true rfl)
      go_wp2_with fail
      refine (KS).mono ?_
      rintro e u6 ⟨rfl, hb⟩
      replace Srm := Lib.hid (Srm.out.below hb)
      replace EB := Lib.hid (EB.out.below hb)
      replace G := Lib.hid (G.out.trans (hb.mono G.out.size))
      clear hb KS TBc
      clear y0 y1 y2 y3
      clear z0 z1 z2 z3
      have KM := rsameBy Srm.out (Sm.out.below G.out)
      go_wp2_with fail
      refine (KM).mono ?_
      rintro e u7 ⟨rfl, hb⟩
      replace Srm := Lib.hid (Srm.out.below hb)
      replace EB := Lib.hid (EB.out.below hb)
      replace G := Lib.hid (G.out.trans (hb.mono G.out.size))
      clear hb KM
      have Sbc := Sb.out.below G.out
      have HLB : b.length ≤ 100000 := by have := L2.out; rw [← Nb.out]; omega
      cases hR : txnC.get b with
      | err k =>
        have hk0 := txnC.bad hR
        have ek : (k == 0) = false := beq_false_of_ne hk0
        obtain ⟨d, hd⟩ : ∃ d : PTxn, default = d := ⟨_, rfl⟩
        have K := txreadP Sbc HLB _ hR
        go_wp2_with fail
        refine (K).mono ?_
        rintro e u8 ⟨ut, vr, rfl, hu, hr, hb⟩
        replace Srm := Lib.hid (Srm.out.below hb)
        replace EB := Lib.hid (EB.out.below hb)
        replace G := Lib.hid (G.out.trans (hb.mono G.out.size))
        clear hb
        rw [hd] at hu
        clear K hR hk0 Sbc
        obtain ⟨pa8, pn8, pc8, qa8, qn8, qc8, hvu, h1, h2⟩ := hu.parts
        subst hvu
        obtain ⟨ra8, rn8, rc8, hvr, hrn, gr81, gr82, hrs⟩ := byParts hr
        subst hvr
        have Srr := Lib.hid hrs
        have Nrr := Lib.hid hrn
        have hb := (Below.refl u8.heap.size u8).alloc (Nat.le_refl _) (.cells #[.int .i64 d.node, .int .i64 d.seq, .slice pa8 pn8 pc8, .slice qa8 qn8 qc8] 26)
        have DB := Lib.hid (txbox_new h1 h2)
        replace Srm := Lib.hid (Srm.out.below hb)
        replace EB := Lib.hid (EB.out.below hb)
        replace Srr := Lib.hid (Srr.out.below hb)
        replace G := Lib.hid (G.out.trans (hb.mono G.out.size))
        clear hb h1 h2 hu hr hrs hrn
        go_upto_region 11 with fail
        generalize (u8.alloc (.cells #[.int .i64 d.node, .int .i64 d.seq, .slice pa8 pn8 pc8, .slice qa8 qn8 qc8] 26)) = wd8 at *
        obtain ⟨z0, z1, z2, z3⟩ := DB.out.c
        have KS := rsameTx DB.out.is (by rw [← hd]; exact txn_zero wd8) true (decide_eq_true rfl)
        clear hd
        go_wp2_with fail
        refine (KS).mono ?_
        rintro e u9 ⟨rfl, hb⟩
        replace Srm := Lib.hid (Srm.out.below hb)
        replace EB := Lib.hid (EB.out.below hb)
        replace Srr := Lib.hid (Srr.out.below hb)
        replace DB := Lib.hid (DB.out.below hb)
        replace G := Lib.hid (G.out.trans (hb.mono G.out.size))
        clear hb KS
        clear z0 z1 z2 z3
        go_wp2_with fail
        go_ret
        exact ⟨rfl, G0.out.trans (G.out.mono G0.out.size)⟩
      | ok u rest =>
        have OKU := Lib.hid (txnC.bwd hR).1
        have HE := Lib.hid (txnC.bwd hR).2
        have K := txreadP Sbc HLB _ hR
        have FU := Lib.hid (fitTx_back OKU.out)
        clear hR
        go_wp2_with fail
        refine (K).mono ?_
        rintro e u8 ⟨ut, vr, rfl, hu, hr, hb⟩
        replace Srm := Lib.hid (Srm.out.below hb)
        replace EB := Lib.hid (EB.out.below hb)
        replace G := Lib.hid (G.out.trans (hb.mono G.out.size))
        clear hb
        clear K Sbc
        obtain ⟨pa8, pn8, pc8, qa8, qn8, qc8, hvu, h1, h2⟩ := hu.parts
        subst hvu
        obtain ⟨ra8, rn8, rc8, hvr, hrn, gr81, gr82, hrs⟩ := byParts hr
        subst hvr
        have Srr := Lib.hid hrs
        have Nrr := Lib.hid hrn
        have hb := (Below.refl u8.heap.size u8).alloc (Nat.le_refl _) (.cells #[.int .i64 u.node, .int .i64 u.seq, .slice pa8 pn8 pc8, .slice qa8 qn8 qc8] 26)
        have DB := Lib.hid (txbox_new h1 h2)
        replace Srm := Lib.hid (Srm.out.below hb)
        replace EB := Lib.hid (EB.out.below hb)
        replace Srr := Lib.hid (Srr.out.below hb)
        replace G := Lib.hid (G.out.trans (hb.mono G.out.size))
        clear hb h1 h2 hu hr hrs hrn
        go_upto_region 11 with fail
        generalize (u8.alloc (.cells #[.int .i64 u.node, .int .i64 u.seq, .slice pa8 pn8 pc8, .slice qa8 qn8 qc8] 26)) = wd8 at *
        obtain ⟨z0, z1, z2, z3⟩ := DB.out.c
        have K := txputP (By.Seq.nil _) (by simp) DB.out.is FU.out
        go_wp2_with fail
        refine K.mono ?_
        intro e u9 hg
        have hb := hg.2.2
        have HG := Lib.hid G.out.size
        replace Srm := Lib.hid (Srm.out.below hb)
        replace EB := Lib.hid (EB.out.below hb)
        replace Srr := Lib.hid (Srr.out.below hb)
        replace DB := Lib.hid (DB.out.below hb)
        replace G := Lib.hid (G.out.trans (hb.mono G.out.size))
        obtain ⟨v, rfl, ho⟩ := hg.1 OKU.out.2
        rw [List.nil_append] at ho
        have ho2 := ho.mono HG.out
        obtain ⟨ma, mc, hvm, -, -, ho3, -⟩ := ho2.parts
        subst hvm
        have HO := Lib.hid ho3
        clear hg ho ho2 ho3 HG hb K
        clear z0 z1 z2 z3
        have HL := Lib.hid (txnC_len OKU.out.2)
        have HRL : Hid (rest.length ≤ 100000) := Lib.hid (by have := congrArg List.length HE.out; rw [List.length_append] at this; omega)
        generalize txnC.put u = pu at *
        obtain ⟨mn, hmn⟩ : ∃ m, pu.length = m := ⟨_, rfl⟩
        rw [hmn] at HO HL ⊢
        have Nmn := Lib.hid hmn
        clear hmn
        obtain ⟨z0, z1, z2, z3⟩ := DB.out.c
        have KF := txformedP DB.out.is FU.out true OKU.out.2
        go_wp2_with fail
        refine KF.mono ?_
        rintro e u10 ⟨rfl, hb⟩
        replace HO := Lib.hid (HO.out.below hb (Nat.le_refl _))
        replace Srm := Lib.hid (Srm.out.below hb)
        replace EB := Lib.hid (EB.out.below hb)
        replace Srr := Lib.hid (Srr.out.below hb)
        replace DB := Lib.hid (DB.out.below hb)
        replace G := Lib.hid (G.out.trans (hb.mono G.out.size))
        clear hb KF
        clear z0 z1 z2 z3
        go_wp2_with (at_builtin; refine By.wpList_append_want (by rfl) (.tmp 85) (.tmp 86) rfl wB.heap.size rfl HO.out rfl Srr.out (by have := HL.out; have := HRL.out; rw [Nmn.out]; omega) G.out.size ?_)
        intro v2 w2 ho2 hgr _
        have HO2 := Lib.hid ho2
        replace G := Lib.hid (G.out.grown hgr G.out.size (fun j hj => (HO.out.lt j hj).1))
        clear ho2 hgr HO
        obtain ⟨xa2, xn2, xc2, hvx2, hxn2, gy1, gy2, hxs2⟩ := byParts HO2.out.seq
        subst hvx2
        rw [HE.out] at hxs2
        have KE := rsameBy hxs2 (Sb.out.below G.out)
        clear HO2 hxs2 hxn2
        go_wp2_with fail
        refine (KE).mono ?_
        rintro e u11 ⟨rfl, hb⟩
        replace G := Lib.hid (G.out.trans (hb.mono G.out.size))
        clear hb KE
        go_wp2_with fail
        go_ret
        exact ⟨rfl, G0.out.trans (G.out.mono G0.out.size)⟩

set_option maxRecDepth 100000 in
theorem lifted (os : Os) (started : os.Started) (H : Type) (enc : TypeId × Value → H) :
    ReturnsInHanded {} Try.checked os 3 .any (Rows.txnBackSpec.pre6 enc Try.prog Try.f3 Rows.txnBackRow.domain false) (Rows.txnBackSpec.post enc Try.prog Try.f3 false true false false) := by
  refine returnsInHanded_of_change (C := Try.checked) own started (by kernel_rfl) Try.func3
    (ChangeSpec.witness6 (enc := enc) (C := Try.checked) false ⟨#[], #[.agg #[.int .i64 0, .int .i64 0, .slice none 0 0, .slice none 0 0], .slice none 0 0, .slice none 0 0], []⟩ 8 (by kernel_rfl) (by kernel_rfl) (by kernel_rfl) (by kernel_rfl)) ?_
  intro W base args ds gs before hval0 hW hcnd _
  have hval : ∀ (j : Nat) t v, Try.f3.params[j]? = some t → args[j]? = some v → Value.okWide Try.prog W .any base t v := hval0
  have hW' := hW
  obtain ⟨p, q, hA0, hV, rfl, hfz, hnd⟩ := hW
  have hA : DataW.TrodAll enc Try.prog W 0 (fun _ => true) true Try.f3.params.toList args.toList ds p := hA0
  rw [Try.params3] at hA hval
  obtain ⟨v0, vs0, d0, ds0, p0, q0, hargs, rfl, rfl, h0, r0⟩ := trodAll_cons hA
  obtain ⟨v1, vs1, d1, ds1, p1, q1, rfl, rfl, rfl, h1, r1⟩ := trodAll_cons r0
  obtain ⟨v2, vs2, d2, ds2, p2, q2, rfl, rfl, rfl, h2, r2⟩ := trodAll_cons r1
  obtain ⟨rfl, rfl, rfl⟩ := trodAll_nil r2
  obtain rfl : args = #[v0, v1, v2] := by cases args; simp_all
  obtain ⟨rfl, rfl⟩ := trodVars_none hV
  have k0 := h0
  have lt0 : ∀ x ∈ p0, x.block < W.heap.size := by obtain ⟨m, hm⟩ := k0; exact DataW.trod_lt m _ _ _ hm
  have w0 := open0 (hval 0 26 v0 rfl rfl) h0
  have k1 := h1
  have lt1 : ∀ x ∈ p1, x.block < W.heap.size := by obtain ⟨m, hm⟩ := k1; exact DataW.trod_lt m _ _ _ hm
  have w1 := open1 (hval 1 27 v1 rfl rfl) h1
  have k2 := h2
  have lt2 : ∀ x ∈ p2, x.block < W.heap.size := by obtain ⟨m, hm⟩ := k2; exact DataW.trod_lt m _ _ _ hm
  have w2 := open2 (hval 2 27 v2 rfl rfl) h2
  clear hA0 hval0
  refine (walk v0 v1 v2 W w0 w1 w2).mono fun e W' ⟨he, bel⟩ => ?_
  subst he
  exact ⟨_, rfl, _, _, _, [], _, [], hW', trodAll_mk1 (shut_bool Try.underlying4 _), (trodAll_cons_mk (Below.trod laidOut (by kernel_rfl) (of_decide_eq_true (by kernel_rfl)) k0 bel lt0) (trodAll_cons_mk (Below.trod laidOut (by kernel_rfl) (of_decide_eq_true (by kernel_rfl)) k1 bel lt1) (trodAll_cons_mk (Below.trod laidOut (by kernel_rfl) (of_decide_eq_true (by kernel_rfl)) k2 bel lt2) trodAll_mk0))), rfl, bel.frame _, fun h => by cases h⟩

theorem over : Rows.txnBackRow.holds Try.pinned (OpenSpec.ofChange Rows.txnBackSpec) :=
  OpenClaim.holds_of_wide 3 Try.f3 rfl rfl rfl rfl rfl rfl rfl ⟨rfl, rfl, rfl, rfl, rfl⟩ rfl rfl rfl rfl rfl (by kernel_rfl) Try.func3 (by kernel_rfl)
    (of_decide_eq_true (by kernel_rfl)) (by unfold Func.isWrapper; first | (rw [if_pos (by decide +kernel)]; kernel_rfl) | (rw [if_neg (by decide +kernel)]; exact ⟨rfl, rfl⟩))
    (fun os started H enc _ => lifted os started H enc)

/-- the given statement -/
theorem proved : Rows.TxnBackSaid := over
#print axioms proved
end Go.Proofs.Ytkanklppgioacaa.txnBack
