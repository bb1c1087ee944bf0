/-
  For any lists of items, of dots and of texts the law ItemParts answers true: of a list in its one form what is left without dots, under a zone, or of a key, has it, too; the parts of the keys are all, and their sizes the whole. No condition.
  (The frame was written by the guide's proof-skeleton.mjs, turned for slices of items; the walk is ours.)
-/
import Derived.Test.YtnjkkhfaggkgjaaRows
import Derived.WalkKit
import Derived.ProofKit
import Derived.OpenShut
import Derived.ShutString
import Derived.ChangeOld
import Derived.Below
import Derived.Test.YtnjkkhfaggkgjaaAwakeI
import Derived.Test.YtnjkkhfaggkgjaaOpenZ
namespace Go.Proofs.Ytnjkkhfaggkgjaa.itemParts
open Go.ChangeShapes Go.WideShapes Go.ChangeAt Go.RowKit
open Go.ChangeMaps (open_string shut_string)
set_option linter.unusedVariables false

theorem own : ownKnob Try.prog.godebug = none := by kernel_rfl
theorem laidOut : laidOutB Try.prog = true := by kernel_rfl

open Plain

set_option maxRecDepth 100000 in
theorem open0 {H : Type} {enc : TypeId × Value → H} {W : World} {r : Reach} {b : Nat} {v : Value} {d : DataW H} {p : List MemPlace} (hv : Value.okWide Try.prog W r b 22 v) (h : DataW.Trod enc Try.prog W 0 (fun _ => true) true 22 v d p) : IsItems W v := items_of_trod hv h
set_option maxRecDepth 100000 in
theorem open1 {H : Type} {enc : TypeId × Value → H} {W : World} {r : Reach} {b : Nat} {v : Value} {d : DataW H} {p : List MemPlace} (hv : Value.okWide Try.prog W r b 27 v) (h : DataW.Trod enc Try.prog W 0 (fun _ => true) true 27 v d p) : IsDots W v := dots_of_trod hv h
set_option maxRecDepth 100000 in
theorem open2 {H : Type} {enc : TypeId × Value → H} {W : World} {r : Reach} {b : Nat} {v : Value} {d : DataW H} {p : List MemPlace} (hv : Value.okWide Try.prog W r b 28 v) (h : DataW.Trod enc Try.prog W 0 (fun _ => true) true 28 v d p) : IsTexts W v := texts_of_trod hv h

set_option maxRecDepth 100000 in
set_option maxHeartbeats 16000000 in
theorem walk (v0 v1 v2 : Value) (w : World) (w0 : IsItems w v0) (w1 : IsDots w v1) (w2 : IsTexts w v2) :
    Calls Try.prog 5 #[v0, v1, v2] w fun e w' => e = .returned (.bool true) ∧ Below w.heap.size w w' := by
  obtain ⟨xs, s0, q0⟩ := w0
  have Q0 := Lib.hid q0
  clear q0
  obtain ⟨ds, s1, q1⟩ := w1
  have QD := Lib.hid q1
  clear q1
  obtain ⟨zs, s2⟩ := w2
  have Sx := Lib.hid s0
  have Sd := Lib.hid s1
  have Sz := Lib.hid s2
  clear s0 s1 s2
  have G := Lib.hid (Below.refl w.heap.size w)
  obtain ⟨aD, cD, hvD, -, -, -, hD⟩ := Sd.out.parts
  subst hvD
  obtain ⟨D, eD⟩ : ∃ n, ds.length = n := ⟨_, rfl⟩
  replace Sd := Lib.hid hD
  rw [eD] at Sd ⊢
  have ND := Lib.hid eD
  clear hD eD
  go_enter Try.func5, Try.ntmps5
  go_wp2_with fail
  refine (awake_any _).mono ?_
  rintro e u2 ⟨rfl, hb⟩
  replace Sx := Lib.hid (Sx.out.below hb)
  replace Sd := Lib.hid (Sd.out.below hb)
  replace Sz := Lib.hid (Sz.out.below hb)
  replace G := Lib.hid (G.out.trans (hb.mono G.out.size))
  clear hb
  cases hA : shortI xs with
  | false =>
    go_wp2_with fail
    refine (rshortR Sx.out hA).mono ?_
    rintro e u3 ⟨rfl, hb⟩
    replace Sx := Lib.hid (Sx.out.below hb)
    replace Sd := Lib.hid (Sd.out.below hb)
    replace Sz := Lib.hid (Sz.out.below hb)
    replace G := Lib.hid (G.out.trans (hb.mono G.out.size))
    clear hb
    go_wp2_with fail
    go_ret
    exact ⟨rfl, G.out⟩
  | true =>
    go_wp2_with fail
    refine (rshortR Sx.out hA).mono ?_
    rintro e u4 ⟨rfl, hb⟩
    replace Sx := Lib.hid (Sx.out.below hb)
    replace Sd := Lib.hid (Sd.out.below hb)
    replace Sz := Lib.hid (Sz.out.below hb)
    replace G := Lib.hid (G.out.trans (hb.mono G.out.size))
    clear hb
    have Mx := Lib.hid (smallI_of hA Q0.out)
    clear hA
    cases hB : shortB zs with
    | false =>
      go_wp2_with fail
      refine (rshortTR Sz.out hB).mono ?_
      rintro e u5 ⟨rfl, hb⟩
      replace Sx := Lib.hid (Sx.out.below hb)
      replace Sd := Lib.hid (Sd.out.below hb)
      replace Sz := Lib.hid (Sz.out.below hb)
      replace G := Lib.hid (G.out.trans (hb.mono G.out.size))
      clear hb
      go_wp2_with fail
      go_ret
      exact ⟨rfl, G.out⟩
    | true =>
      go_wp2_with fail
      refine (rshortTR Sz.out hB).mono ?_
      rintro e u6 ⟨rfl, hb⟩
      replace Sx := Lib.hid (Sx.out.below hb)
      replace Sd := Lib.hid (Sd.out.below hb)
      replace Sz := Lib.hid (Sz.out.below hb)
      replace G := Lib.hid (G.out.trans (hb.mono G.out.size))
      clear hb
      have Mz := Lib.hid (smallT_of hB)
      clear hB
      by_cases hD : D ≤ 60
      rotate_left
      · have hD1 : (60 : Int) < (D : Int) := by omega
        clear hD
        go_wp2_with fail
        go_ret
        exact ⟨rfl, G.out⟩
      have MD := Lib.hid (show ds.length ≤ 60 by rw [ND.out]; exact hD)
      have hD1 : ¬ (60 : Int) < (D : Int) := by omega
      clear hD
      go_wp2_with fail
      refine (inormS Sx.out Mx.out).mono ?_
      rintro e u7 ⟨v7, rfl, hs, hb⟩
      replace Sx := Lib.hid (Sx.out.below hb)
      replace Sd := Lib.hid (Sd.out.below hb)
      replace Sz := Lib.hid (Sz.out.below hb)
      replace G := Lib.hid (G.out.trans (hb.mono G.out.size))
      have Sn := Lib.hid hs
      clear hs hb
      have MN := Lib.hid (smallI_norm Mx.out)
      have HRI := Lib.hid (ris_inorm xs)
      have HW := Lib.hid (parts_without (ris_inorm xs) (apart_inorm xs) ds)
      have HU := Lib.hid (parts_under (ris_inorm xs) (apart_inorm xs) zs)
      have HPA := Lib.hid (partsOf_all (ris_inorm xs))
      have HPL := Lib.hid (partsOf_le (ris_inorm xs))
      have HKL := Lib.hid (ikeys_len (inorm xs))
      generalize inorm xs = M at *
      have HPN := Lib.hid (fun j hj => partsOf_next (l := M) (ks := ikeys M) (j := j) hj)
      have HUW := Lib.hid (iunder_without M ds zs)
      have MA := Lib.hid (smallI_without MN.out ds)
      have MB := Lib.hid (smallI_under MN.out zs)
      have HZM := Lib.hid (smallI_size MN.out)
      go_wp2_with fail
      refine (iwithoutS Sn.out Sd.out MN.out MD.out QD.out).mono ?_
      rintro e u8 ⟨v8, rfl, hs, hb⟩
      replace Sx := Lib.hid (Sx.out.below hb)
      replace Sd := Lib.hid (Sd.out.below hb)
      replace Sz := Lib.hid (Sz.out.below hb)
      replace Sn := Lib.hid (Sn.out.below hb)
      replace G := Lib.hid (G.out.trans (hb.mono G.out.size))
      have Sa := Lib.hid hs
      clear hs hb
      go_wp2_with fail
      refine (iunderS Sn.out Sz.out MN.out Mz.out).mono ?_
      rintro e u9 ⟨v9, rfl, hs, hb⟩
      replace Sx := Lib.hid (Sx.out.below hb)
      replace Sd := Lib.hid (Sd.out.below hb)
      replace Sz := Lib.hid (Sz.out.below hb)
      replace Sn := Lib.hid (Sn.out.below hb)
      replace Sa := Lib.hid (Sa.out.below hb)
      replace G := Lib.hid (G.out.trans (hb.mono G.out.size))
      have Sb := Lib.hid hs
      clear hs hb
      go_wp2_with fail
      refine (inormS Sa.out MA.out).mono ?_
      rintro e u10 ⟨v10, rfl, hs, hb⟩
      replace Sx := Lib.hid (Sx.out.below hb)
      replace Sd := Lib.hid (Sd.out.below hb)
      replace Sz := Lib.hid (Sz.out.below hb)
      replace Sn := Lib.hid (Sn.out.below hb)
      replace Sa := Lib.hid (Sa.out.below hb)
      replace Sb := Lib.hid (Sb.out.below hb)
      replace G := Lib.hid (G.out.trans (hb.mono G.out.size))
      have Sp := Lib.hid hs
      clear hs hb
      rw [HW.out] at Sp
      go_wp2_with fail
      refine (rsame_eq Sp.out Sa.out rfl).mono ?_
      rintro e u11 ⟨rfl, hb⟩
      replace Sx := Lib.hid (Sx.out.below hb)
      replace Sd := Lib.hid (Sd.out.below hb)
      replace Sz := Lib.hid (Sz.out.below hb)
      replace Sn := Lib.hid (Sn.out.below hb)
      replace Sa := Lib.hid (Sa.out.below hb)
      replace Sb := Lib.hid (Sb.out.below hb)
      replace Sp := Lib.hid (Sp.out.below hb)
      replace G := Lib.hid (G.out.trans (hb.mono G.out.size))
      clear hb
      clear Sp
      go_wp2_with fail
      refine (inormS Sb.out MB.out).mono ?_
      rintro e u12 ⟨v12, rfl, hs, hb⟩
      replace Sx := Lib.hid (Sx.out.below hb)
      replace Sd := Lib.hid (Sd.out.below hb)
      replace Sz := Lib.hid (Sz.out.below hb)
      replace Sn := Lib.hid (Sn.out.below hb)
      replace Sa := Lib.hid (Sa.out.below hb)
      replace Sb := Lib.hid (Sb.out.below hb)
      replace G := Lib.hid (G.out.trans (hb.mono G.out.size))
      have Sq := Lib.hid hs
      clear hs hb
      rw [HU.out] at Sq
      go_wp2_with fail
      refine (rsame_eq Sq.out Sb.out rfl).mono ?_
      rintro e u13 ⟨rfl, hb⟩
      replace Sx := Lib.hid (Sx.out.below hb)
      replace Sd := Lib.hid (Sd.out.below hb)
      replace Sz := Lib.hid (Sz.out.below hb)
      replace Sn := Lib.hid (Sn.out.below hb)
      replace Sa := Lib.hid (Sa.out.below hb)
      replace Sb := Lib.hid (Sb.out.below hb)
      replace Sq := Lib.hid (Sq.out.below hb)
      replace G := Lib.hid (G.out.trans (hb.mono G.out.size))
      clear hb
      clear Sq
      go_wp2_with fail
      refine (ikeysS Sn.out MN.out).mono ?_
      rintro e u14 ⟨v14, rfl, hs, hb⟩
      replace Sx := Lib.hid (Sx.out.below hb)
      replace Sd := Lib.hid (Sd.out.below hb)
      replace Sz := Lib.hid (Sz.out.below hb)
      replace Sn := Lib.hid (Sn.out.below hb)
      replace Sa := Lib.hid (Sa.out.below hb)
      replace Sb := Lib.hid (Sb.out.below hb)
      replace G := Lib.hid (G.out.trans (hb.mono G.out.size))
      have Sk := Lib.hid hs
      clear hs hb
      have HP0 : Hid (partsOf M ((ikeys M).take 0) = []) := Lib.hid rfl
      have HPE : Hid (partsOf M ((ikeys M).take (ikeys M).length) = M) := Lib.hid (by rw [List.take_length]; exact HPA.out)
      obtain ⟨ak, ck, hvk, k1, k2, k0, hks⟩ := Sk.out.parts
      subst hvk
      obtain ⟨K, eK⟩ : ∃ n, (ikeys M).length = n := ⟨_, rfl⟩
      replace Sk := Lib.hid hks
      have hkl := HKL.out
      have hm200 := MN.out.1
      rw [eK] at Sk hkl HPE HPN ⊢
      rw [eK] at k1
      have NK := Lib.hid eK
      clear hks eK k0
      rename World => wk
      generalize ikeys M = ks at *
      generalize hPO : (fun j => partsOf M (ks.take j)) = PO at *
      have HPO : Hid (∀ j, partsOf M (ks.take j) = PO j) := Lib.hid (fun j => congrFun hPO j)
      clear hPO
      go_wp2_with fail
      go_loopw [10, 11, 13, 14] (fun al sz i _ wr => ∃ j : Nat, j ≤ K ∧ i = .int .i64 j ∧ sz = .int .i64 (isize (PO j) : Int) ∧ OwnE LItem wk.heap.size wr al (PO j) ∧ Below wk.heap.size wk wr) (fun _ _ i _ _ => K - (intOf i).toNat)
      case atStart => exact ⟨0, Nat.zero_le _, rfl, by rw [← HPO.out, HP0.out]; rfl, by rw [← HPO.out, HP0.out]; exact OwnE.nil _ _, Below.refl _ _⟩
      case round =>
        obtain ⟨j, hj, rfl, rfl, ho, hb⟩ := hrel
        obtain ⟨P, hP⟩ : ∃ n, (PO j).length = n := ⟨_, rfl⟩
        obtain ⟨aal, cal, rfl, -, -, ho⟩ := ho.at P hP
        have HPP := Lib.hid hP
        have HO := Lib.hid ho
        have HB := Lib.hid hb
        clear hP
        have SxJ := Lib.hid (Sx.out.below hb)
        have SdJ := Lib.hid (Sd.out.below hb)
        have SzJ := Lib.hid (Sz.out.below hb)
        have SnJ := Lib.hid (Sn.out.below hb)
        have SaJ := Lib.hid (Sa.out.below hb)
        have SbJ := Lib.hid (Sb.out.below hb)
        have SkJ := Lib.hid (Sk.out.below hb)
        have GJ : Hid (Below w.heap.size w wr) := Lib.hid (G.out.trans (hb.mono G.out.size))
        clear ho hb
        by_cases hlt : j < K
        · have hp1 := (HPL.out (j + 1)).1
          have hp2 := (HPL.out j).2
          rw [HPO.out] at hp1 hp2
          have hpn := HPN.out j hlt
          rw [HPO.out, HPO.out] at hpn
          have HPX := Lib.hid hpn
          have hzm := HZM.out
          have hsz : isize (PO (j + 1)) = isize (PO j) + isize (iof M (ks.getD j [])) := by rw [hpn, isize_append]
          have HSZ := Lib.hid hsz
          have hle : isize (PO j) + isize (iof M (ks.getD j [])) ≤ 184800 := by omega
          clear hpn hsz hp1
          obtain ⟨b, o, c, hv, -, -, -, hc⟩ := SkJ.out.spot (by rw [NK.out]; omega)
          rw [NK.out] at hv
          simp only [Value.slice.injEq] at hv
          obtain ⟨rfl, -, rfl⟩ := hv
          have c0 := hc j (by rw [NK.out]; exact hlt)
          unfold tv at c0
          have KO := Lib.hid (iofS (s := ks.getD j []) SnJ.out MN.out)
          have MO := Lib.hid (smallI_of_key MN.out (ks.getD j []))
          have LO := Lib.hid (iof_len M (ks.getD j []))
          clear hc
          generalize iof M (ks.getD j []) = q at *
          generalize bt (ks.getD j []) = key at *
          generalize hPj : PO j = pj at *
          generalize isize pj = sj at *
          have HOL := Lib.hid HO.out.lt
          go_wp2_with fail
          refine KO.out.mono ?_
          rintro e w1 ⟨v1', rfl, hs, hb⟩
          have HO1 := Lib.hid (HO.out.below hb (Nat.le_refl _))
          have HB1 := Lib.hid (HB.out.trans (hb.mono HB.out.size))
          have SQ := Lib.hid hs
          obtain ⟨aq, cq, hvq, -⟩ := SQ.out.seq.parts
          subst hvq
          clear hs hb KO c0
          go_wp2_with (at_builtin; refine wpList_append_el LItem rfl (.tmp 64) (.tmp 65) rfl wk.heap.size rfl HO1.out rfl SQ.out (fun _ _ h => h) (by have := LO.out; omega) HB1.out.size ?_)
          intro v' w2 ho' hgr _
          have O2 := Lib.hid ho'
          have HB2 : Hid (Below wk.heap.size wk w2) := Lib.hid (HB1.out.grown hgr HB1.out.size (fun j hj => (HO1.out.lt j hj).1))
          have SQ2 := Lib.hid (SQ.out.grown hgr (fun k hk => (HOL.out k hk).2))
          have KZ := Lib.hid (isizeS SQ2.out MO.out)
          clear ho' hgr
          rw [← HPX.out] at O2
          generalize q.length = lq at *
          generalize hsq : isize q = sq at *
          have iw : IntKind.i64.wrap ((sj : Int) + sq) = (sj : Int) + sq := IntWalk.i64_in _ (by omega)
          go_wp2_with fail
          refine KZ.out.mono ?_
          rintro e w3 ⟨rfl, hb⟩
          have O3 := Lib.hid (O2.out.below hb (Nat.le_refl _))
          have HB3 := Lib.hid (HB2.out.trans (hb.mono HB2.out.size))
          clear hb KZ
          go_wp2_with fail
          go_roundw
          case rel => exact ⟨j + 1, by omega, by go_num, by rw [HSZ.out]; go_num, O3.out, HB3.out⟩
          case measure => simp [intOf]; omega
        · obtain rfl : j = K := by omega
          rw [HPO.out] at HPE
          clear HPN HPL HP0 HPA HPO
          rw [HPE.out] at HO ⊢
          have SAL := Lib.hid HO.out.seq
          clear G Sx Sd Sz Sn Sa Sb Sk HO HB
          have G := GJ
          clear GJ
          have hsz2 := HZM.out
          skip
          go_wp2_with fail
          refine (rsame_eq SAL.out SnJ.out rfl).mono ?_
          rintro e u15 ⟨rfl, hb⟩
          replace SxJ := Lib.hid (SxJ.out.below hb)
          replace SdJ := Lib.hid (SdJ.out.below hb)
          replace SzJ := Lib.hid (SzJ.out.below hb)
          replace SnJ := Lib.hid (SnJ.out.below hb)
          replace SaJ := Lib.hid (SaJ.out.below hb)
          replace SbJ := Lib.hid (SbJ.out.below hb)
          replace SkJ := Lib.hid (SkJ.out.below hb)
          replace SAL := Lib.hid (SAL.out.below hb)
          replace G := Lib.hid (G.out.trans (hb.mono G.out.size))
          clear hb
          go_wp2_with fail
          refine (isizeS SnJ.out MN.out).mono ?_
          rintro e u16 ⟨rfl, hb⟩
          replace SxJ := Lib.hid (SxJ.out.below hb)
          replace SdJ := Lib.hid (SdJ.out.below hb)
          replace SzJ := Lib.hid (SzJ.out.below hb)
          replace SnJ := Lib.hid (SnJ.out.below hb)
          replace SaJ := Lib.hid (SaJ.out.below hb)
          replace SbJ := Lib.hid (SbJ.out.below hb)
          replace SkJ := Lib.hid (SkJ.out.below hb)
          replace SAL := Lib.hid (SAL.out.below hb)
          replace G := Lib.hid (G.out.trans (hb.mono G.out.size))
          clear hb
          go_wp2_with fail
          refine (iunderS SaJ.out SzJ.out MA.out Mz.out).mono ?_
          rintro e u17 ⟨v17, rfl, hs, hb⟩
          replace SxJ := Lib.hid (SxJ.out.below hb)
          replace SdJ := Lib.hid (SdJ.out.below hb)
          replace SzJ := Lib.hid (SzJ.out.below hb)
          replace SnJ := Lib.hid (SnJ.out.below hb)
          replace SaJ := Lib.hid (SaJ.out.below hb)
          replace SbJ := Lib.hid (SbJ.out.below hb)
          replace SkJ := Lib.hid (SkJ.out.below hb)
          replace SAL := Lib.hid (SAL.out.below hb)
          replace G := Lib.hid (G.out.trans (hb.mono G.out.size))
          have Se := Lib.hid hs
          clear hs hb
          go_wp2_with fail
          refine (iwithoutS SbJ.out SdJ.out MB.out MD.out QD.out).mono ?_
          rintro e u18 ⟨v18, rfl, hs, hb⟩
          replace SxJ := Lib.hid (SxJ.out.below hb)
          replace SdJ := Lib.hid (SdJ.out.below hb)
          replace SzJ := Lib.hid (SzJ.out.below hb)
          replace SnJ := Lib.hid (SnJ.out.below hb)
          replace SaJ := Lib.hid (SaJ.out.below hb)
          replace SbJ := Lib.hid (SbJ.out.below hb)
          replace SkJ := Lib.hid (SkJ.out.below hb)
          replace SAL := Lib.hid (SAL.out.below hb)
          replace Se := Lib.hid (Se.out.below hb)
          replace G := Lib.hid (G.out.trans (hb.mono G.out.size))
          have Sf := Lib.hid hs
          clear hs hb
          rw [HUW.out] at Se
          go_wp2_with fail
          refine (rsame_eq Se.out Sf.out rfl).mono ?_
          rintro e u19 ⟨rfl, hb⟩
          replace SxJ := Lib.hid (SxJ.out.below hb)
          replace SdJ := Lib.hid (SdJ.out.below hb)
          replace SzJ := Lib.hid (SzJ.out.below hb)
          replace SnJ := Lib.hid (SnJ.out.below hb)
          replace SaJ := Lib.hid (SaJ.out.below hb)
          replace SbJ := Lib.hid (SbJ.out.below hb)
          replace SkJ := Lib.hid (SkJ.out.below hb)
          replace SAL := Lib.hid (SAL.out.below hb)
          replace Se := Lib.hid (Se.out.below hb)
          replace Sf := Lib.hid (Sf.out.below hb)
          replace G := Lib.hid (G.out.trans (hb.mono G.out.size))
          clear hb
          go_wp2_with fail
          go_ret
          exact ⟨rfl, G.out⟩

set_option maxRecDepth 100000 in
theorem lifted (os : Os) (started : os.Started) (H : Type) (enc : TypeId × Value → H) :
    ReturnsInHanded {} Try.checked os 5 .any (Rows.itemPartsSpec.pre6 enc Try.prog Try.f5 Rows.itemPartsRow.domain false) (Rows.itemPartsSpec.post enc Try.prog Try.f5 false true false false) := by
  refine returnsInHanded_of_change (C := Try.checked) own started (by kernel_rfl) Try.func5
    (ChangeSpec.witness6 (enc := enc) (C := Try.checked) false ⟨#[], #[.slice none 0 0, .slice none 0 0, .slice none 0 0], []⟩ 8 (by kernel_rfl) (by kernel_rfl) (by kernel_rfl) (by kernel_rfl)) ?_
  intro W base args ds gs before hval0 hW hcnd _
  have hval : ∀ (j : Nat) t v, Try.f5.params[j]? = some t → args[j]? = some v → Value.okWide Try.prog W .any base t v := hval0
  have hW' := hW
  obtain ⟨p, q, hA0, hV, rfl, hfz, hnd⟩ := hW
  have hA : DataW.TrodAll enc Try.prog W 0 (fun _ => true) true Try.f5.params.toList args.toList ds p := hA0
  rw [Try.params5] at hA hval
  obtain ⟨v0, vs0, d0, ds0, p0, q0, hargs, rfl, rfl, h0, r0⟩ := trodAll_cons hA
  obtain ⟨v1, vs1, d1, ds1, p1, q1, rfl, rfl, rfl, h1, r1⟩ := trodAll_cons r0
  obtain ⟨v2, vs2, d2, ds2, p2, q2, rfl, rfl, rfl, h2, r2⟩ := trodAll_cons r1
  obtain ⟨rfl, rfl, rfl⟩ := trodAll_nil r2
  obtain rfl : args = #[v0, v1, v2] := by cases args; simp_all
  obtain ⟨rfl, rfl⟩ := trodVars_none hV
  have k0 := h0
  have lt0 : ∀ x ∈ p0, x.block < W.heap.size := by obtain ⟨m, hm⟩ := k0; exact DataW.trod_lt m _ _ _ hm
  have w0 := open0 (hval 0 22 v0 rfl rfl) h0
  have k1 := h1
  have lt1 : ∀ x ∈ p1, x.block < W.heap.size := by obtain ⟨m, hm⟩ := k1; exact DataW.trod_lt m _ _ _ hm
  have w1 := open1 (hval 1 27 v1 rfl rfl) h1
  have k2 := h2
  have lt2 : ∀ x ∈ p2, x.block < W.heap.size := by obtain ⟨m, hm⟩ := k2; exact DataW.trod_lt m _ _ _ hm
  have w2 := open2 (hval 2 28 v2 rfl rfl) h2
  clear hA0 hval0
  refine (walk v0 v1 v2 W w0 w1 w2).mono fun e W' ⟨he, bel⟩ => ?_
  subst he
  exact ⟨_, rfl, _, _, _, [], _, [], hW', trodAll_mk1 (shut_bool Try.underlying4 _), (trodAll_cons_mk (Below.trod laidOut (by kernel_rfl) (of_decide_eq_true (by kernel_rfl)) k0 bel lt0) (trodAll_cons_mk (Below.trod laidOut (by kernel_rfl) (of_decide_eq_true (by kernel_rfl)) k1 bel lt1) (trodAll_cons_mk (Below.trod laidOut (by kernel_rfl) (of_decide_eq_true (by kernel_rfl)) k2 bel lt2) trodAll_mk0))), rfl, bel.frame _, fun h => by cases h⟩

theorem over : Rows.itemPartsRow.holds Try.pinned (OpenSpec.ofChange Rows.itemPartsSpec) :=
  OpenClaim.holds_of_wide 5 Try.f5 rfl rfl rfl rfl rfl rfl rfl ⟨rfl, rfl, rfl, rfl, rfl⟩ rfl rfl rfl rfl rfl (by kernel_rfl) Try.func5 (by kernel_rfl)
    (of_decide_eq_true (by kernel_rfl)) (by unfold Func.isWrapper; first | (rw [if_pos (by decide +kernel)]; kernel_rfl) | (rw [if_neg (by decide +kernel)]; exact ⟨rfl, rfl⟩))
    (fun os started H enc _ => lifted os started H enc)

/-- the given statement -/
theorem proved : Rows.ItemPartsSaid := over
#print axioms proved
end Go.Proofs.Ytnjkkhfaggkgjaa.itemParts
