/-
  For any store, any transactions and any number the law StoreAgain answers true: what comes once more changes nothing, and what comes in two parts leaves what it leaves at once. No condition.
  (The frame was written by the guide's proof-skeleton.mjs, turned for stores and slices of transactions; the walk is ours.)
-/
import Derived.Test.YtpnpomocjkmncaaGreatRows
import Derived.WalkKit
import Derived.ProofKit
import Derived.OpenShut
import Derived.ShutString
import Derived.ChangeOld
import Derived.Below
import Derived.Test.YtpnpomocjkmncaaGreatStSz
import Derived.Deep.DeepCutAuto
import Derived.Deep.RegionHeld3
namespace Go.Proofs.YtpnpomocjkmncaaGreat.storeAgain
open Go.ChangeShapes Go.WideShapes Go.ChangeAt Go.RowKit
open Go.ChangeMaps (open_string shut_string)
set_option linter.unusedVariables false

theorem own : ownKnob Tryz.prog.godebug = none := by kernel_rfl
theorem laidOut : laidOutB Tryz.prog = true := by kernel_rfl

open Plain

set_option maxRecDepth 100000 in
theorem open0 {H : Type} {enc : TypeId × Value → H} {W : World} {r : Reach} {b : Nat} {v : Value} {d : DataW H} {p : List MemPlace} (hv : Value.okWide Tryz.prog W r b 26 v) (h : DataW.Trod enc Tryz.prog W 0 (fun _ => true) true 26 v d p) : IsStoreA W v := store_of_trod hv h
set_option maxRecDepth 100000 in
theorem open1 {H : Type} {enc : TypeId × Value → H} {W : World} {r : Reach} {b : Nat} {v : Value} {d : DataW H} {p : List MemPlace} (hv : Value.okWide Tryz.prog W r b 27 v) (h : DataW.Trod enc Tryz.prog W 0 (fun _ => true) true 27 v d p) : IsTxns W v := txns_of_trod hv h

set_option maxRecDepth 100000 in
set_option maxHeartbeats 32000000 in
theorem walk (v0 : Value) (v1 : Value) (x2 : Int) (w : World) (w0 : IsStoreA w v0) (w1 : IsTxns w v1) (w2 : (Lit.int .i64 x2).wf = true) :
    Calls Tryz.prog 7 #[v0, v1, .int .i64 x2] w fun e w' => e = .returned (.bool true) ∧ Below w.heap.size w w' := by
  obtain ⟨s, hs, hok⟩ := w0
  obtain ⟨ha, hn, hc, ia, im, ic, hv0, h1, h2⟩ := hs.slices
  subst hv0
  obtain ⟨l, sl, okl⟩ := w1
  obtain ⟨a1, c1, hv1, L1, L2, -, -⟩ := sl.parts
  subst hv1
  have OKS := Lib.hid hok
  have OKL := Lib.hid okl
  obtain ⟨n, hnn⟩ : ∃ n, n = l.length := ⟨_, rfl⟩
  have HN := Lib.hid hnn
  rw [← hnn] at sl L1 ⊢
  have hb := (Below.refl w.heap.size w).alloc (Nat.le_refl _) (.cells #[.slice ha hn hc, .slice ia im ic] 26)
  have SB := Lib.hid (stbox_new (s := s) h1 h2)
  have SL := Lib.hid (sl.below hb)
  have G := Lib.hid hb
  have IMM := Lib.hid h2.dims
  clear hs hok hb h1 h2 sl okl hnn
  go_enter Tryz.func7, Tryz.ntmps7
  go_upto_region 1 with fail
  generalize (w.alloc (.cells #[.slice ha hn hc, .slice ia im ic] 26)) = wB at *
  generalize hg0 : w.heap.size = g0 at SB ⊢
  go_wp2_with fail
  refine (stawake_any _).mono ?_
  rintro e u3 ⟨rfl, hb⟩
  replace SB := Lib.hid (SB.out.below hb)
  replace SL := Lib.hid (SL.out.below hb)
  replace G := Lib.hid (G.out.trans (hb.mono G.out.size))
  clear hb
  obtain ⟨sa, hsa⟩ : ∃ b, b = stShort s := ⟨_, rfl⟩
  have Hsa := Lib.hid hsa
  clear hsa
  obtain ⟨x0a, x0b⟩ := SB.out.c
  have K := Lib.hid (stShortR SB.out.is sa Hsa.out.symm)
  cases sa
  · go_wp2_with fail
    refine (K.out).mono ?_
    rintro e u4 ⟨rfl, hb⟩
    clear K
    replace SB := Lib.hid (SB.out.below hb)
    replace SL := Lib.hid (SL.out.below hb)
    replace G := Lib.hid (G.out.trans (hb.mono G.out.size))
    clear hb
    clear x0a x0b
    go_wp2_with fail
    go_ret
    exact ⟨rfl, G.out⟩
  go_wp2_with fail
  refine (K.out).mono ?_
  rintro e u4 ⟨rfl, hb⟩
  clear K
  replace SB := Lib.hid (SB.out.below hb)
  replace SL := Lib.hid (SL.out.below hb)
  replace G := Lib.hid (G.out.trans (hb.mono G.out.size))
  clear hb
  clear x0a x0b
  obtain ⟨sb, hsb⟩ : ∃ b, b = shortTx l := ⟨_, rfl⟩
  have Hsb := Lib.hid hsb
  clear hsb
  have K := Lib.hid (rshortTx_any SL.out sb Hsb.out.symm)
  cases sb
  · go_wp2_with fail
    refine (K.out).mono ?_
    rintro e u5 ⟨rfl, hb⟩
    clear K
    replace SB := Lib.hid (SB.out.below hb)
    replace SL := Lib.hid (SL.out.below hb)
    replace G := Lib.hid (G.out.trans (hb.mono G.out.size))
    clear hb
    go_wp2_with fail
    go_ret
    exact ⟨rfl, G.out⟩
  go_wp2_with fail
  refine (K.out).mono ?_
  rintro e u5 ⟨rfl, hb⟩
  clear K
  replace SB := Lib.hid (SB.out.below hb)
  replace SL := Lib.hid (SL.out.below hb)
  replace G := Lib.hid (G.out.trans (hb.mono G.out.size))
  clear hb
  have FS := Lib.hid (stfit_of Hsa.out.symm OKS.out)
  have FL := Lib.hid (fitB_of Hsb.out.symm OKL.out)
  have FS1 : Hid (StFit s 1000) := Lib.hid ⟨FS.out.1.heard, by have := FS.out.1.items; omega, FS.out.1.dots⟩
  have HLN : Hid (n ≤ 24) := Lib.hid (by rw [HN.out]; exact FL.out.1)
  by_cases hap : oApart l
  rotate_left
  · have HAP := Lib.hid hap
    clear hap
    go_wp2_with fail
    refine (twice_yes SL.out (by have := FL.out.1; omega) HAP.out).mono ?_
    rintro e u6 ⟨rfl, hb⟩
    replace SB := Lib.hid (SB.out.below hb)
    replace SL := Lib.hid (SL.out.below hb)
    replace G := Lib.hid (G.out.trans (hb.mono G.out.size))
    clear hb
    go_wp2_with fail
    go_ret
    exact ⟨rfl, G.out⟩
  have HAP := Lib.hid hap
  clear hap
  go_wp2_with fail
  refine (twice_no SL.out (by have := FL.out.1; omega) HAP.out).mono ?_
  rintro e u6 ⟨rfl, hb⟩
  replace SB := Lib.hid (SB.out.below hb)
  replace SL := Lib.hid (SL.out.below hb)
  replace G := Lib.hid (G.out.trans (hb.mono G.out.size))
  clear hb
  obtain ⟨sd, hsd⟩ : ∃ b, b = soundB s := ⟨_, rfl⟩
  have Hsd := Lib.hid hsd
  clear hsd
  obtain ⟨x0a, x0b⟩ := SB.out.c
  have K := Lib.hid (stSoundS SB.out.is FS1.out sd Hsd.out.symm)
  cases sd
  · go_wp2_with fail
    refine (K.out).mono ?_
    rintro e u7 ⟨rfl, hb⟩
    clear K
    replace SB := Lib.hid (SB.out.below hb)
    replace SL := Lib.hid (SL.out.below hb)
    replace G := Lib.hid (G.out.trans (hb.mono G.out.size))
    clear hb
    clear x0a x0b
    go_wp2_with fail
    go_ret
    exact ⟨rfl, G.out⟩
  go_wp2_with fail
  refine (K.out).mono ?_
  rintro e u7 ⟨rfl, hb⟩
  clear K
  replace SB := Lib.hid (SB.out.below hb)
  replace SL := Lib.hid (SL.out.below hb)
  replace G := Lib.hid (G.out.trans (hb.mono G.out.size))
  clear hb
  clear x0a x0b
  have SD := Lib.hid (sound_iff.1 Hsd.out.symm)
  by_cases hneg : x2 < 0
  · skip
    go_wp2_with fail
    go_ret
    exact ⟨rfl, G.out⟩
  by_cases hbig : (n : Int) < x2
  · skip
    go_wp2_with fail
    go_ret
    exact ⟨rfl, G.out⟩
  obtain ⟨m, rfl⟩ := Int.eq_ofNat_of_zero_le (show 0 ≤ x2 by omega)
  have hm : m ≤ n := by omega
  have HM := Lib.hid hm
  have HPF : Hid (∀ t ∈ l.take m, FitB t) := Lib.hid (fun t ht => FL.out.2.1 t (List.mem_of_mem_take ht))
  have HPL : Hid ((l.take m).length ≤ 24) := Lib.hid (by rw [List.length_take]; have := FL.out.1; omega)
  have FA := Lib.hid (stfit_all FS1.out FL.out.1 FL.out.2.1 (Nat.le_refl _))
  have FA0 : Hid (StFit (sAll s l) 1000) := Lib.hid (stfit_all FS.out.1 FL.out.1 FL.out.2.1 (by omega))
  have FC0 : Hid (StFit (sAll s (l.take m)) 1000) := Lib.hid (stfit_all FS.out.1 HPL.out HPF.out (by omega))
  have E1 := Lib.hid (sAll_again s l)
  have E2 := Lib.hid (sAll_parts (s := s) (p := l.take m) HAP.out fun t ht => List.mem_of_mem_take ht)
  obtain ⟨x0a, x0b⟩ := SB.out.c
  have K := Lib.hid (stAllS SB.out.is SL.out FS1.out FL.out.1 FL.out.2.1)
  go_upto_region 6 with (go_at_call 19; refine K.out.mono ?_; rintro e u8 ⟨pha, phn, phc, pia, pim, pic, pta, ptn, ptc, rfl, hh, hi, ht, hb⟩; have PB := Lib.hid (stbox_new (s := sAll s l) hh hi); have PT := Lib.hid (ht.below ((Below.refl u8.heap.size u8).alloc (Nat.le_refl _) (.cells #[.slice pha phn phc, .slice pia pim pic] 26))); have PBD := Lib.hid (And.intro hh.dims (And.intro hi.dims ht.dims)); replace hb := hb.trans (((Below.refl u8.heap.size u8).alloc (Nat.le_refl _) (.cells #[.slice pha phn phc, .slice pia pim pic] 26)).mono hb.size); replace SB := Lib.hid (SB.out.below hb); replace SL := Lib.hid (SL.out.below hb); replace G := Lib.hid (G.out.trans (hb.mono G.out.size)); clear hb hh hi ht K x0a x0b)
  generalize (u8.alloc (.cells #[.slice pha phn phc, .slice pia pim pic] 26)) = u9 at *
  generalize u8.heap.size = pg at PB ⊢
  obtain ⟨x0a, x0b⟩ := PB.out.c
  have K := Lib.hid (stAllS PB.out.is SL.out FA0.out FL.out.1 FL.out.2.1)
  go_upto_region 7 with (go_at_call 19; refine K.out.mono ?_; rintro e u10 ⟨qha, qhn, qhc, qia, qim, qic, qta, qtn, qtc, rfl, hh, hi, ht, hb⟩; have QB := Lib.hid (stbox_new (s := sAll (sAll s l) l) hh hi); have QT := Lib.hid (ht.below ((Below.refl u10.heap.size u10).alloc (Nat.le_refl _) (.cells #[.slice qha qhn qhc, .slice qia qim qic] 26))); have QBD := Lib.hid (And.intro hh.dims (And.intro hi.dims ht.dims)); replace hb := hb.trans (((Below.refl u10.heap.size u10).alloc (Nat.le_refl _) (.cells #[.slice qha qhn qhc, .slice qia qim qic] 26)).mono hb.size); replace SB := Lib.hid (SB.out.below hb); replace SL := Lib.hid (SL.out.below hb); replace PB := Lib.hid (PB.out.below hb); replace PT := Lib.hid (PT.out.below hb); replace G := Lib.hid (G.out.trans (hb.mono G.out.size)); clear hb hh hi ht K x0a x0b)
  generalize (u10.alloc (.cells #[.slice qha qhn qhc, .slice qia qim qic] 26)) = u11 at *
  generalize u10.heap.size = qg at QB ⊢
  have i1 : (m : Int) ≤ n := by omega
  have i2 : (n : Int) ≤ c1 := by omega
  have i3 : (c1 : Int) ≤ 9223372036854775807 := by omega
  have i4 : m ≤ c1 := by omega
  have KE : Hid (∀ v, Below u11.heap.size u11 v → Below u11.heap.size u11 v ∧ v.cell? ⟨g0, 0, none⟩ = some (.slice ha hn hc) ∧ v.cell? ⟨g0, 1, none⟩ = some (.slice ia im ic)) := Lib.hid (fun v hb => ⟨hb, (SB.out.below hb).c⟩)
  have KR := Lib.hid (fun v (hb : Below u11.heap.size u11 v) => stAllS (SB.out.below hb).is (SeqE.below (SL.out.first m HM.out) hb) FS1.out HPL.out HPF.out)
  go_cut [11, 12] (fun s11 s12 wx => ∃ (nb : Nat) (qa : Option Addr) (qn qc : Nat) (pa : Option Addr) (pn pc : Nat) (ra : Option Addr) (rn rc : Nat), s11 = .pointer (some ⟨nb, 0, none⟩) ∧ s12 = .slice ra rn rc ∧ StBox nb (sAll s (l.take m)) qa qn qc pa pn pc wx ∧ Below u11.heap.size u11 wx)
  case first =>
    refine wp_region_held_drew (S := fun u' => Below u11.heap.size u11 u' ∧ u'.cell? ⟨g0, 0, none⟩ = some (.slice ha hn hc) ∧ u'.cell? ⟨g0, 1, none⟩ = some (.slice ia im ic)) (by kernel_rfl) ?_ (fun hHeld => ?_)
    · (exact KE.out _ (Below.refl _ _).drew)
    simp only [List.size_toArray, List.length_cons, List.length_nil, Nat.zero_add, Nat.reduceAdd]
    refine tkB (i := 0) hHeld ?_
    refine tkB (i := 1) hHeld ?_
    refine tkB (i := 2) hHeld ?_
    refine tkB (i := 3) hHeld ?_
    refine wpAnyH_ready (rs := [4, 8]) (by kernel_rfl) (by simp) ?_
    refine AllReadyH.cons rfl (fun K hK => ?_) (AllReadyH.cons rfl (fun K hK => ?_) AllReadyH.nil)
    · go_simp
      have ZH := Lib.hid hHeld.1.size
      refine (KR.out _ hHeld.1).mono ?_
      rintro e s1 ⟨qa, qn, qc, pa, pn, pc, ra, rn, rc, rfl, hh, hi, ht, hb⟩
      have N1 := Lib.hid hh
      have I1 := Lib.hid hi
      clear hh hi ht
      refine hK.out _ _ (KE.out _ (holdC hHeld hb)) (fun hHeld => ?_)
      clear hK K
      refine tkB (i := 5) hHeld ?_
      refine tkB (i := 6) hHeld ?_
      refine tkB (i := 7) hHeld ?_
      have DQ : Hid ((s1.alloc (.cells #[.slice none 0 0, .slice none 0 0] 26)).heap[s1.heap.size]? = some (.cells #[.slice none 0 0, .slice none 0 0] 26 (0, 0))) := Lib.hid (heap_alloc_new s1 _)
      have DW : Hid (u11.heap.size ≤ s1.heap.size) := Lib.hid hHeld.1.size
      have NQ := Lib.hid (N1.out.below_alloc (.cells #[.slice none 0 0, .slice none 0 0] 26))
      have IQ := Lib.hid (I1.out.below_alloc (.cells #[.slice none 0 0, .slice none 0 0] 26))
      clear hb N1 I1
      refine wpAnyH_ready (rs := [8]) (by kernel_rfl) (by simp) ?_
      refine AllReadyH.cons rfl (fun K hK => ?_) AllReadyH.nil
      go_simp
      refine hK.out _ _ (KE.out _ (hHeld.1.alloc hHeld.1.size _)) (fun hHeld => ?_)
      clear hK K
      generalize hD : s1.heap.size = gd at *
      generalize (s1.alloc (.cells #[.slice none 0 0, .slice none 0 0] 26)) = s2 at *
      obtain ⟨⟨t0, t1⟩, f0, f1⟩ := st2_cells DQ.out
      have DS := Lib.hid (stbox_set (s := sAll s (l.take m)) ⟨_, _, _, _, _, _, _, DQ.out⟩ NQ.out IQ.out ⟨_, _, DQ.out⟩)
      have DB := Lib.hid hHeld.1
      refine wpAnyH_ready (rs := [9]) (by kernel_rfl) (by simp) ?_
      refine AllReadyH.cons rfl (fun K hK => ?_) AllReadyH.nil
      go_simp
      refine hK.out _ _ (KE.out _ ((DB.out.setCell DW.out _).setCell DW.out _)) (fun hHeld => ?_)
      clear hK K t0 t1 f0 f1
      refine tkB (i := 10) hHeld ?_
      refine wpAnyH_done (by kernel_rfl) ?_ _
      have GZ := Lib.hid hHeld.1
      clear hHeld
      go_wp2_with fail
      go_meet
      exact ⟨gd, _, _, _, _, _, _, _, _, _, rfl, rfl, DS.out, GZ.out⟩
    · go_simp
      have DQ0 : Hid ((u11.drew.alloc (.cells #[.slice none 0 0, .slice none 0 0] 26)).heap[u11.heap.size]? = some (.cells #[.slice none 0 0, .slice none 0 0] 26 (0, 0))) := Lib.hid (heap_alloc_new u11.drew _)
      have ZD : Hid (u11.heap.size < (u11.drew.alloc (.cells #[.slice none 0 0, .slice none 0 0] 26)).heap.size) := Lib.hid (by simp)
      refine hK.out _ _ (KE.out _ (hHeld.1.alloc hHeld.1.size _)) (fun hHeld => ?_)
      clear hK K
      refine wpAnyH_ready (rs := [4]) (by kernel_rfl) (by simp) ?_
      refine AllReadyH.cons rfl (fun K hK => ?_) AllReadyH.nil
      go_simp
      have ZH := Lib.hid hHeld.1.size
      refine (KR.out _ hHeld.1).mono ?_
      rintro e s1 ⟨qa, qn, qc, pa, pn, pc, ra, rn, rc, rfl, hh, hi, ht, hb⟩
      have N1 := Lib.hid hh
      have I1 := Lib.hid hi
      clear hh hi ht
      have DQ : Hid (s1.heap[u11.heap.size]? = some (.cells #[.slice none 0 0, .slice none 0 0] 26 (0, 0))) := Lib.hid ((hb.block _ ZD.out).trans DQ0.out)
      have NQ := N1
      have IQ := I1
      refine hK.out _ _ (KE.out _ (holdC hHeld hb)) (fun hHeld => ?_)
      clear hK K hb
      refine tkB (i := 5) hHeld ?_
      refine tkB (i := 6) hHeld ?_
      refine tkB (i := 7) hHeld ?_
      have DW : Hid (u11.heap.size ≤ u11.heap.size) := Lib.hid (Nat.le_refl _)
      obtain ⟨⟨t0, t1⟩, f0, f1⟩ := st2_cells DQ.out
      have DS := Lib.hid (stbox_set (s := sAll s (l.take m)) ⟨_, _, _, _, _, _, _, DQ.out⟩ NQ.out IQ.out ⟨_, _, DQ.out⟩)
      have DB := Lib.hid hHeld.1
      refine wpAnyH_ready (rs := [9]) (by kernel_rfl) (by simp) ?_
      refine AllReadyH.cons rfl (fun K hK => ?_) AllReadyH.nil
      go_simp
      refine hK.out _ _ (KE.out _ ((DB.out.setCell DW.out _).setCell DW.out _)) (fun hHeld => ?_)
      clear hK K t0 t1 f0 f1
      refine tkB (i := 10) hHeld ?_
      refine wpAnyH_done (by kernel_rfl) ?_ _
      have GZ := Lib.hid hHeld.1
      clear hHeld
      go_wp2_with fail
      go_meet
      exact ⟨u11.heap.size, _, _, _, _, _, _, _, _, _, rfl, rfl, DS.out, GZ.out⟩
  case rest =>
    obtain ⟨nb, qa, qn, qc, pa, pn, pc, ra, rn, rc, rfl, rfl, hbx, hb⟩ := hcut
    replace SB := Lib.hid (SB.out.below hb)
    replace SL := Lib.hid (SL.out.below hb)
    replace PB := Lib.hid (PB.out.below hb)
    replace PT := Lib.hid (PT.out.below hb)
    replace QB := Lib.hid (QB.out.below hb)
    replace QT := Lib.hid (QT.out.below hb)
    replace G := Lib.hid (G.out.trans (hb.mono G.out.size))
    have CB := Lib.hid hbx
    clear hb hbx KE KR
    obtain ⟨x0a, x0b⟩ := CB.out.c
    have K := Lib.hid (stAllS CB.out.is SL.out FC0.out FL.out.1 FL.out.2.1)
    go_upto_region 9 with (go_at_call 19; refine K.out.mono ?_; rintro e u22 ⟨dha, dhn, dhc, dia, dim, dic, dta, dtn, dtc, rfl, hh, hi, ht, hb⟩; have DBX := Lib.hid (stbox_new (s := sAll (sAll s (l.take m)) l) hh hi); have DTX := Lib.hid (ht.below ((Below.refl u22.heap.size u22).alloc (Nat.le_refl _) (.cells #[.slice dha dhn dhc, .slice dia dim dic] 26))); have DBXD := Lib.hid (And.intro hh.dims (And.intro hi.dims ht.dims)); replace hb := hb.trans (((Below.refl u22.heap.size u22).alloc (Nat.le_refl _) (.cells #[.slice dha dhn dhc, .slice dia dim dic] 26)).mono hb.size); replace SB := Lib.hid (SB.out.below hb); replace SL := Lib.hid (SL.out.below hb); replace PB := Lib.hid (PB.out.below hb); replace PT := Lib.hid (PT.out.below hb); replace QB := Lib.hid (QB.out.below hb); replace QT := Lib.hid (QT.out.below hb); replace CB := Lib.hid (CB.out.below hb); replace G := Lib.hid (G.out.trans (hb.mono G.out.size)); clear hb hh hi ht K x0a x0b)
    generalize (u22.alloc (.cells #[.slice dha dhn dhc, .slice dia dim dic] 26)) = u23 at *
    generalize u22.heap.size = dg at DBX ⊢
    obtain rfl : qtn = 0 := by have h1 := QBD.out.2.2.1; rw [E1.out.1] at h1; exact h1.symm
    have K := Lib.hid (stSameR PB.out.is QB.out.is true (decide_eq_true E1.out.2.symm))
    obtain ⟨x0a, x0b⟩ := PB.out.c
    obtain ⟨x1a, x1b⟩ := QB.out.c
    go_wp2_with fail
    refine (K.out).mono ?_
    rintro e u24 ⟨rfl, hb⟩
    clear K
    replace SB := Lib.hid (SB.out.below hb)
    replace SL := Lib.hid (SL.out.below hb)
    replace PB := Lib.hid (PB.out.below hb)
    replace PT := Lib.hid (PT.out.below hb)
    replace QB := Lib.hid (QB.out.below hb)
    replace QT := Lib.hid (QT.out.below hb)
    replace CB := Lib.hid (CB.out.below hb)
    replace DBX := Lib.hid (DBX.out.below hb)
    replace DTX := Lib.hid (DTX.out.below hb)
    replace G := Lib.hid (G.out.trans (hb.mono G.out.size))
    clear hb
    clear x0a x0b x1a x1b
    have K := Lib.hid (stSameR PB.out.is DBX.out.is true (decide_eq_true E2.out.symm))
    obtain ⟨x0a, x0b⟩ := PB.out.c
    obtain ⟨x1a, x1b⟩ := DBX.out.c
    go_wp2_with fail
    refine (K.out).mono ?_
    rintro e u25 ⟨rfl, hb⟩
    clear K
    replace SB := Lib.hid (SB.out.below hb)
    replace SL := Lib.hid (SL.out.below hb)
    replace PB := Lib.hid (PB.out.below hb)
    replace PT := Lib.hid (PT.out.below hb)
    replace QB := Lib.hid (QB.out.below hb)
    replace QT := Lib.hid (QT.out.below hb)
    replace CB := Lib.hid (CB.out.below hb)
    replace DBX := Lib.hid (DBX.out.below hb)
    replace DTX := Lib.hid (DTX.out.below hb)
    replace G := Lib.hid (G.out.trans (hb.mono G.out.size))
    clear hb
    clear x0a x0b x1a x1b
    go_wp2_with fail
    go_ret
    exact ⟨rfl, G.out⟩

set_option maxRecDepth 100000 in
theorem lifted (os : Os) (started : os.Started) (H : Type) (enc : TypeId × Value → H) :
    ReturnsInHanded {} Tryz.checked os 7 .any (Rows.storeAgainSpec.pre6 enc Tryz.prog Tryz.f7 Rows.storeAgainRow.domain false) (Rows.storeAgainSpec.post enc Tryz.prog Tryz.f7 false true false false) := by
  refine returnsInHanded_of_change (C := Tryz.checked) own started (by kernel_rfl) Tryz.func7
    (ChangeSpec.witness6 (enc := enc) (C := Tryz.checked) false ⟨#[], #[.agg #[.slice none 0 0, .slice none 0 0], .slice none 0 0, .int .i64 0], []⟩ 8 (by kernel_rfl) (by kernel_rfl) (by kernel_rfl) (by kernel_rfl)) ?_
  intro W base args ds gs before hval0 hW hcnd _
  have hval : ∀ (j : Nat) t v, Tryz.f7.params[j]? = some t → args[j]? = some v → Value.okWide Tryz.prog W .any base t v := hval0
  have hW' := hW
  obtain ⟨p, q, hA0, hV, rfl, hfz, hnd⟩ := hW
  have hA : DataW.TrodAll enc Tryz.prog W 0 (fun _ => true) true Tryz.f7.params.toList args.toList ds p := hA0
  rw [Tryz.params7] at hA hval
  obtain ⟨v0, vs0, d0, ds0, p0, q0, hargs, rfl, rfl, h0, r0⟩ := trodAll_cons hA
  obtain ⟨v1, vs1, d1, ds1, p1, q1, rfl, rfl, rfl, h1, r1⟩ := trodAll_cons r0
  obtain ⟨v2, vs2, d2, ds2, p2, q2, rfl, rfl, rfl, h2, r2⟩ := trodAll_cons r1
  obtain ⟨rfl, rfl, rfl⟩ := trodAll_nil r2
  obtain rfl : args = #[v0, v1, v2] := by cases args; simp_all
  obtain ⟨rfl, rfl⟩ := trodVars_none hV
  have k0 := h0
  have lt0 : ∀ x ∈ p0, x.block < W.heap.size := by obtain ⟨m, hm⟩ := k0; exact DataW.trod_lt m _ _ _ hm
  have w0 := open0 (hval 0 26 v0 rfl rfl) h0
  have k1 := h1
  have lt1 : ∀ x ∈ p1, x.block < W.heap.size := by obtain ⟨m, hm⟩ := k1; exact DataW.trod_lt m _ _ _ hm
  have w1 := open1 (hval 1 27 v1 rfl rfl) h1
  obtain ⟨a2, rfl, rfl, rfl, w2⟩ := open_int Tryz.underlying3 (hval 2 3 v2 rfl rfl) h2
  clear hA0 hval0
  refine (walk v0 v1 a2 W w0 w1 w2).mono fun e W' ⟨he, bel⟩ => ?_
  subst he
  exact ⟨_, rfl, _, _, _, [], _, [], hW', trodAll_mk1 (shut_bool Tryz.underlying4 _), (trodAll_cons_mk (Below.trod laidOut (by kernel_rfl) (of_decide_eq_true (by kernel_rfl)) k0 bel lt0) (trodAll_cons_mk (Below.trod laidOut (by kernel_rfl) (of_decide_eq_true (by kernel_rfl)) k1 bel lt1) (trodAll_cons_mk (shut_int Tryz.underlying3 w2) trodAll_mk0))), rfl, bel.frame _, fun h => by cases h⟩

theorem over : Rows.storeAgainRow.holds Tryz.pinned (OpenSpec.ofChange Rows.storeAgainSpec) :=
  OpenClaim.holds_of_wide 7 Tryz.f7 rfl rfl rfl rfl rfl rfl rfl ⟨rfl, rfl, rfl, rfl, rfl⟩ rfl rfl rfl rfl rfl (by kernel_rfl) Tryz.func7 (by kernel_rfl)
    (of_decide_eq_true (by kernel_rfl)) (by unfold Func.isWrapper; first | (rw [if_pos (by decide +kernel)]; kernel_rfl) | (rw [if_neg (by decide +kernel)]; exact ⟨rfl, rfl⟩))
    (fun os started H enc _ => lifted os started H enc)

/-- the given statement -/
theorem proved : Rows.StoreAgainSaid := over
#print axioms proved
end Go.Proofs.YtpnpomocjkmncaaGreat.storeAgain
