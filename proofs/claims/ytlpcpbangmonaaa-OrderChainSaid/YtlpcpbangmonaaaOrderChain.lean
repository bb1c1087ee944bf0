/-
  For any vector and any transactions the law OrderChain answers true: what is taken is a chain, taken from it again it is all of it, and of what was left nothing is ready. No condition.
  (The frame was written by the guide's proof-skeleton.mjs, turned for slices of transactions; the walk is ours.)
-/
import Derived.Test.YtlpcpbangmonaaaRows
import Derived.WalkKit
import Derived.ProofKit
import Derived.OpenShut
import Derived.ShutString
import Derived.ChangeOld
import Derived.Below
import Derived.Test.YtlpcpbangmonaaaOrRTks
import Derived.Test.YtlpcpbangmonaaaRefTxOC
import Derived.Test.YtlpcpbangmonaaaVcAll
import Derived.Deep.DeepCutAuto
namespace Go.Proofs.Ytlpcpbangmonaaa.orderChain
open Go.ChangeShapes Go.WideShapes Go.ChangeAt Go.RowKit
open Go.ChangeMaps (open_string shut_string)
set_option linter.unusedVariables false

theorem own : ownKnob Try.prog.godebug = none := by kernel_rfl
theorem laidOut : laidOutB Try.prog = true := by kernel_rfl

open Plain

set_option maxRecDepth 100000 in
theorem open1 {H : Type} {enc : TypeId × Value → H} {W : World} {r : Reach} {b : Nat} {v : Value} {d : DataW H} {p : List MemPlace} (hv : Value.okWide Try.prog W r b 24 v) (h : DataW.Trod enc Try.prog W 0 (fun _ => true) true 24 v d p) : IsTxns W v := txns_of_trod hv h

set_option maxRecDepth 100000 in
set_option maxHeartbeats 32000000 in
theorem walk (a0 : Option Addr) (n0 c0 : Nat) (z0 : List Int) (v1 : Value) (w : World) (w0 : IsRow .i64 w a0 n0 c0 z0) (w1 : IsTxns w v1) :
    Calls Try.prog 4 #[.slice a0 n0 c0, v1] w fun e w' => e = .returned (.bool true) ∧ Below w.heap.size w w' := by
  obtain ⟨v, sv, lv, c0l⟩ := row_ints w0
  obtain ⟨l, sl, okl⟩ := w1
  obtain ⟨a1, c1, hv1, L1, L2, -, -⟩ := sl.parts
  subst hv1
  have SV := Lib.hid sv
  have SW := Lib.hid sv
  have SL := Lib.hid sl
  have OK := Lib.hid okl
  have LV := Lib.hid lv
  obtain ⟨n, hn⟩ : ∃ n, n = l.length := ⟨_, rfl⟩
  have HN := Lib.hid hn
  rw [← hn] at SL L1 ⊢
  have G := Lib.hid (Below.refl w.heap.size w)
  clear w0 sv sl okl lv hn
  go_enter Try.func4, Try.ntmps4
  go_wp2_with fail
  refine (oawake_any _).mono ?_
  rintro e u2 ⟨rfl, hb⟩
  replace SV := Lib.hid (SV.out.below hb)
  replace SL := Lib.hid (SL.out.below hb)
  replace G := Lib.hid (G.out.trans (hb.mono G.out.size))
  clear hb
  by_cases h60 : 60 < n0
  · have i60 : ((60 : Int) < (n0 : Int)) := by omega
    go_wp2_with fail
    go_ret
    exact ⟨rfl, G.out⟩
  · have i60 : ¬ ((60 : Int) < (n0 : Int)) := by omega
    have HV : Hid (v.length ≤ 60) := Lib.hid (by rw [LV.out]; omega)
    obtain ⟨sh, hsh⟩ : ∃ b, b = shortTx l := ⟨_, rfl⟩
    have HSH := Lib.hid hsh
    have KS := Lib.hid (rshortTx_any SL.out sh hsh.symm)
    clear hsh h60
    cases sh
    · go_wp2_with (go_at_call 9; refine KS.out.mono ?_; rintro e u3 ⟨rfl, hb⟩; have G3 := Lib.hid (G.out.trans (hb.mono G.out.size)); clear hb)
      go_ret
      exact ⟨rfl, G3.out⟩
    · have HFS := Lib.hid (fitS_of HSH.out.symm OK.out)
      have HF : Hid (∀ t ∈ l, FitW t) := Lib.hid (fun t ht => (HFS.out.2 t ht).w)
      have HL : Hid (l.length ≤ 1000000) := Lib.hid (by have := HFS.out.1; omega)
      have HLN : Hid (n ≤ 24) := Lib.hid (by rw [HN.out]; exact HFS.out.1)
      by_cases hap : oApart l
      · have HAP := Lib.hid hap
        clear hap
        obtain ⟨m, hm⟩ : ∃ m, m = oTake v l := ⟨_, rfl⟩
        obtain ⟨x, hx⟩ : ∃ x, x = oEnd v m := ⟨_, rfl⟩
        obtain ⟨nm, hnm⟩ : ∃ nm, nm = m.length := ⟨_, rfl⟩
        obtain ⟨nx, hnx⟩ : ∃ nx, nx = x.length := ⟨_, rfl⟩
        have HNM := Lib.hid hnm
        have HNX := Lib.hid hnx
        have HXE := Lib.hid hx
        have KT := Lib.hid (fun (u : World) (h1 : SeqI u (.slice a0 n0 c0) v) (h2 : SeqE LTxn u (.slice a1 n c1) l) => takeP_any h1 h2 HL.out HF.out (by have := HV.out; omega))
        have HTM : Hid (oTake v m = m) := Lib.hid (by rw [hm]; exact oTake_again v l)
        have HCM : Hid (oChain v m = true) := Lib.hid (by rw [hm]; exact oTake_chain v l)
        have HFA : Hid (∀ t ∈ m, FitW t) := Lib.hid (fun t ht => HF.out t (oTake_sub (by rw [← hm]; exact ht)))
        have HNA : Hid (nm ≤ n) := Lib.hid (by rw [hnm, hm, HN.out]; exact oTake_len v l)
        have HLA : Hid (m.length ≤ 1000000) := Lib.hid (by have := HNA.out; have := HLN.out; omega)
        have HDO : Hid (∀ t ∈ l, t ∈ m ∨ oReady x t = false) := Lib.hid (fun t ht => by
          have := oTake_done (v := v) ht
          rw [← hm, ← hx] at this
          exact this.imp id fun h => by simpa using h)
        have HWI : Hid (within v x = true) := Lib.hid (by rw [hx]; exact within_true (oEnd_up HCM.out))
        have HXL : Hid (x.length ≤ 1000000) := Lib.hid (by rw [hx]; have := oEnd_len m v; have := HV.out; omega)
        rw [← hm, ← hx] at KT
        clear hm hx hnm hnx
        go_wp2_with (first
          | (first
          | (go_at_call 9; refine KS.out.mono ?_; rintro e u3 ⟨rfl, hb⟩; replace SV := Lib.hid (SV.out.below hb); replace SL := Lib.hid (SL.out.below hb); replace G := Lib.hid (G.out.trans (hb.mono G.out.size)); clear hb KS)
          | (go_at_call 22; refine (twice_no SL.out HL.out HAP.out).mono ?_; rintro e u4 ⟨rfl, hb⟩; replace SV := Lib.hid (SV.out.below hb); replace SL := Lib.hid (SL.out.below hb); replace G := Lib.hid (G.out.trans (hb.mono G.out.size)); clear hb))
          | (go_at_call 12; refine (KT.out _ SV.out SL.out).mono ?_; rintro e u6 ⟨a, xv, rfl, ha, hx, hb⟩; replace SV := Lib.hid (SV.out.below hb); replace SL := Lib.hid (SL.out.below hb); replace G := Lib.hid (G.out.trans (hb.mono G.out.size)); have SA := Lib.hid ha; have SX := Lib.hid hx; obtain ⟨aa, ac, hv6, A1, A2, -, -⟩ := ha.parts; rw [← HNM.out] at hv6 A1; subst hv6; have HAC := Lib.hid (And.intro A1 A2); clear A1 A2; obtain ⟨xa, xc, hv7, -, -, -, -⟩ := hx.parts; rw [← HNX.out] at hv7; subst hv7; have KT2 := Lib.hid (takeP_any SV.out SA.out HLA.out HFA.out (by have := HV.out; omega)); rw [HTM.out, ← HXE.out] at KT2; clear ha hx hb KT)
          | (go_at_call 12; refine KT2.out.mono ?_; rintro e u7 ⟨b, yv, rfl, ha, hx, hb⟩; replace SV := Lib.hid (SV.out.below hb); replace SL := Lib.hid (SL.out.below hb); replace SA := Lib.hid (SA.out.below hb); replace SX := Lib.hid (SX.out.below hb); replace G := Lib.hid (G.out.trans (hb.mono G.out.size)); have SB := Lib.hid ha; have SY := Lib.hid hx; obtain ⟨ba, bc, hv6, -, -, -, -⟩ := ha.parts; rw [← HNM.out] at hv6; subst hv6; obtain ⟨ya, yc, hv7, -, -, -, -⟩ := hx.parts; rw [← HNX.out] at hv7; subst hv7; have KC := Lib.hid (chainP_any SV.out SA.out HLA.out HFA.out (by have := HV.out; omega)); rw [HCM.out] at KC; clear ha hx hb KT2)
          | (go_at_call 16; refine KC.out.mono ?_; rintro e u8 ⟨rfl, hb⟩; replace SV := Lib.hid (SV.out.below hb); replace SL := Lib.hid (SL.out.below hb); replace SA := Lib.hid (SA.out.below hb); replace SX := Lib.hid (SX.out.below hb); replace SB := Lib.hid (SB.out.below hb); replace SY := Lib.hid (SY.out.below hb); replace G := Lib.hid (G.out.trans (hb.mono G.out.size)); have KS := Lib.hid (sameAll_any SA.out SB.out HLA.out); rw [decide_eq_true (rfl : m = m)] at KS; clear hb KC)
          | (go_at_call 14; refine KS.out.mono ?_; rintro e u9 ⟨rfl, hb⟩; replace SV := Lib.hid (SV.out.below hb); replace SL := Lib.hid (SL.out.below hb); replace SA := Lib.hid (SA.out.below hb); replace SX := Lib.hid (SX.out.below hb); replace SB := Lib.hid (SB.out.below hb); replace SY := Lib.hid (SY.out.below hb); replace G := Lib.hid (G.out.trans (hb.mono G.out.size)); clear hb KS)
          | (go_at_call 15; refine (vc_requal_yes (seqI_of SX.out) (seqI_of SY.out)).mono ?_; rintro e u10 ⟨rfl, q, hq⟩; have hb : Below u9.heap.size u9 u10 := (by rw [hq]; exact below_drewN (Below.refl _ _) q); clear hq; replace SV := Lib.hid (SV.out.below hb); replace SL := Lib.hid (SL.out.below hb); replace SA := Lib.hid (SA.out.below hb); replace SX := Lib.hid (SX.out.below hb); replace G := Lib.hid (G.out.trans (hb.mono G.out.size)); clear hb SB SY))
        go_loopw [9] (fun i wr => ∃ k : Nat, k ≤ n ∧ i = .int .i64 k ∧ Aside (SeqI wr (.slice a0 n0 c0) v ∧ SeqE LTxn wr (.slice a1 n c1) l ∧ SeqE LTxn wr (.slice aa nm ac) m ∧ SeqE LInt wr (.slice xa nx xc) x ∧ Below w.heap.size w wr)) (fun i _ => n - (intOf i).toNat)
        case atStart => exact ⟨0, Nat.zero_le _, rfl, SV.out, SL.out, SA.out, SX.out, G.out⟩
        case round =>
          obtain ⟨k, hk, rfl, hrel⟩ := hrel
          obtain ⟨r1, r2, r3, r4, r5⟩ := Aside.out hrel
          replace SV := Lib.hid r1
          replace SL := Lib.hid r2
          replace SA := Lib.hid r3
          replace SX := Lib.hid r4
          replace G := Lib.hid r5
          clear hrel r1 r2 r3 r4 r5
          have l1 : n ≤ 24 := HLN.out
          have l2 : nm ≤ n := HNA.out
          by_cases hlt : k < n
          · have hkl : k < l.length := by rw [← HN.out]; exact hlt
            obtain ⟨lb, lo, hsl, hc⟩ := txns_at SL.out (by omega)
            subst hsl
            obtain ⟨da, dn, dc, ea, en, ec, hW⟩ := hc k hlt
            have hft := otx_fit HF.out hkl
            have KR := Lib.hid (fun W (hb : Below wr.heap.size wr W) => oreadyP_any ((seqI_of SX.out).below hb) (hW W hb).2 HXL.out hft.deps hft.small)
            have HDN : Hid ((∀ j, j < nm → ¬ ((otx m j).node = (otx l k).node ∧ (otx m j).seq = (otx l k).seq)) → oReady x (otx l k) = false) := Lib.hid (fun h => by
              rw [HNM.out] at h
              rcases HDO.out (otx l k) (by rw [otx_lt hkl]; exact List.getElem_mem hkl) with h1 | h1
              · obtain ⟨j, hj, he⟩ := List.mem_iff_getElem.1 h1
                exact absurd (by rw [otx_lt hj, he]; exact ⟨rfl, rfl⟩) (h j hj)
              · exact h1)
            obtain ⟨c0', c1', c2', c3'⟩ := (hW wr (Below.refl _ _)).1
            have k1 : (k : Int) < n := by omega
            have k2 : (n : Int) ≤ c1 := by omega
            have k3 : (c1 : Int) ≤ 9223372036854775807 := by omega
            clear hc hW hft hkl
            generalize otx l k = t at *
            go_wp2_with fail
            go_loopw [10, 11] (fun s i wi => ∃ (j q : Nat) (b : Bool), j ≤ nm ∧ s = .bool b ∧ i = .int .i64 j ∧ Aside (b = false → ∀ j', j' < j → ¬ ((otx m j').node = t.node ∧ (otx m j').seq = t.seq)) ∧ wi = wr.drewN q) (fun _ i _ => nm - (intOf i).toNat)
            case atStart => exact ⟨0, 0, false, Nat.zero_le _, rfl, rfl, fun _ j hj => absurd hj (Nat.not_lt_zero _), rfl⟩
            case round =>
              obtain ⟨j, q, b, hj, rfl, rfl, hrel, rfl⟩ := hrel
              have A2 := Lib.hid (Aside.out hrel)
              clear hrel
              by_cases hlt2 : j < nm
              · obtain ⟨ab, ao, hsl, hc⟩ := txns_at SA.out (by omega)
                subst hsl
                obtain ⟨da2, dn2, dc2, ea2, en2, ec2, hW2⟩ := hc j hlt2
                obtain ⟨d0, d1, -, -⟩ := (hW2 wr (Below.refl _ _)).1
                have j1 : (j : Int) < nm := by omega
                have j2 : (nm : Int) ≤ ac := by have := HAC.out.1; omega
                have j3 : (ac : Int) ≤ 9223372036854775807 := by have := HAC.out.2; omega
                clear hW2 hc
                cases b
                · have NO : Hid (¬ ((otx m j).node = t.node ∧ (otx m j).seq = t.seq) → ∀ j', j' < j + 1 → ¬ ((otx m j').node = t.node ∧ (otx m j').seq = t.seq)) := Lib.hid (fun e b hb => by
                    by_cases c : b = j
                    · rw [c]; exact e
                    · exact A2.out rfl b (by omega))
                  generalize (otx m j).node = y0 at *
                  generalize (otx m j).seq = y1 at *
                  obtain ⟨x0, hx0⟩ : ∃ x0, x0 = t.node := ⟨_, rfl⟩
                  obtain ⟨x1, hx1⟩ : ∃ x1, x1 = t.seq := ⟨_, rfl⟩
                  rw [← hx0] at c0' NO
                  rw [← hx1] at c1' NO
                  have HX0 := Lib.hid hx0
                  have HX1 := Lib.hid hx1
                  clear hx0 hx1
                  by_cases e0 : y0 = x0
                  · have b0 : (y0 == x0) = true := by simp [e0]
                    by_cases e1 : y1 = x1
                    · have b1 : (y1 == x1) = true := by simp [e1]
                      clear e0 e1
                      go_wp2_with fail
                      go_quiet (fail)
                      go_wp2_with fail
                      go_roundw
                      case rel => exact ⟨j + 1, _, true, by omega, rfl, by go_num, (fun h => nomatch h), rfl⟩
                      case measure => simp [intOf]; omega
                    · have b1 : (y1 == x1) = false := by simp [e1]
                      have HN2 := Lib.hid (NO.out fun e => e1 e.2)
                      rw [HX0.out, HX1.out] at HN2
                      clear e0 e1
                      go_wp2_with fail
                      go_quiet (fail)
                      go_wp2_with fail
                      go_roundw
                      case rel => exact ⟨j + 1, _, false, by omega, rfl, by go_num, fun _ => HN2.out, rfl⟩
                      case measure => simp [intOf]; omega
                  · have b0 : (y0 == x0) = false := by simp [e0]
                    have HN2 := Lib.hid (NO.out fun e => e0 e.1)
                    rw [HX0.out, HX1.out] at HN2
                    clear e0
                    go_wp2_with fail
                    go_quiet (fail)
                    go_wp2_with fail
                    go_roundw
                    case rel => exact ⟨j + 1, _, false, by omega, rfl, by go_num, fun _ => HN2.out, rfl⟩
                    case measure => simp [intOf]; omega
                · go_wp2_with fail
                  go_quiet (fail)
                  go_wp2_with fail
                  go_roundw
                  case rel => exact ⟨j + 1, _, true, by omega, rfl, by go_num, (fun h => nomatch h), rfl⟩
                  case measure => simp [intOf]; omega
              · obtain rfl : j = nm := by omega
                have BQ : Hid (∀ p, Below wr.heap.size wr (wr.drewN p)) := Lib.hid (fun p => below_drewN (Below.refl _ _) p)
                cases b
                · have HF0 := Lib.hid (HDN.out (A2.out rfl))
                  rw [HF0.out] at KR
                  go_wp2_with (go_at_call 18; refine (KR.out _ (BQ.out _)).mono ?_; rintro e u11 ⟨rfl, hb'⟩; have hb := (BQ.out _).trans (hb'.mono (by simp)); replace SV := Lib.hid (SV.out.below hb); replace SL := Lib.hid (SL.out.below hb); replace SA := Lib.hid (SA.out.below hb); replace SX := Lib.hid (SX.out.below hb); replace G := Lib.hid (G.out.trans (hb.mono G.out.size)); clear hb hb')
                  go_roundw
                  case rel => exact ⟨k + 1, by omega, by go_num, SV.out, SL.out, SA.out, SX.out, G.out⟩
                  case measure => simp [intOf]; omega
                · go_wp2_with fail
                  go_roundw
                  case rel => exact ⟨k + 1, by omega, by go_num, SV.out.below (BQ.out _), SL.out.below (BQ.out _), SA.out.below (BQ.out _), SX.out.below (BQ.out _), G.out.trans ((BQ.out _).mono G.out.size)⟩
                  case measure => simp [intOf]; omega
          · have e1 : (nm : Int) ≤ (n : Int) := by omega
            have KW := Lib.hid (vc_rwithin_any SV.out (seqI_of SX.out) (by have := HV.out; omega) HXL.out)
            rw [HWI.out] at KW
            go_wp2_with (go_at_call 23; refine KW.out.mono ?_; rintro e u12 ⟨rfl, hb⟩; replace G := Lib.hid (G.out.trans (hb.mono G.out.size)); clear hb)
            go_ret
            exact ⟨rfl, G.out⟩
      · have HAP := Lib.hid hap
        clear hap
        go_wp2_with (first
          | (go_at_call 9; refine KS.out.mono ?_; rintro e u3 ⟨rfl, hb⟩; replace SV := Lib.hid (SV.out.below hb); replace SL := Lib.hid (SL.out.below hb); replace G := Lib.hid (G.out.trans (hb.mono G.out.size)); clear hb KS)
          | (go_at_call 22; refine (twice_yes SL.out HL.out HAP.out).mono ?_; rintro e u4 ⟨rfl, hb⟩; replace SV := Lib.hid (SV.out.below hb); replace SL := Lib.hid (SL.out.below hb); replace G := Lib.hid (G.out.trans (hb.mono G.out.size)); clear hb))
        go_ret
        exact ⟨rfl, G.out⟩

set_option maxRecDepth 100000 in
theorem lifted (os : Os) (started : os.Started) (H : Type) (enc : TypeId × Value → H) :
    ReturnsInHanded {} Try.checked os 4 .any (Rows.orderChainSpec.pre6 enc Try.prog Try.f4 Rows.orderChainRow.domain false) (Rows.orderChainSpec.post enc Try.prog Try.f4 false true false false) := by
  refine returnsInHanded_of_change (C := Try.checked) own started (by kernel_rfl) Try.func4
    (ChangeSpec.witness6 (enc := enc) (C := Try.checked) false ⟨#[], #[.slice none 0 0, .slice none 0 0], []⟩ 8 (by kernel_rfl) (by kernel_rfl) (by kernel_rfl) (by kernel_rfl)) ?_
  intro W base args ds gs before hval0 hW hcnd _
  have hval : ∀ (j : Nat) t v, Try.f4.params[j]? = some t → args[j]? = some v → Value.okWide Try.prog W .any base t v := hval0
  have hW' := hW
  obtain ⟨p, q, hA0, hV, rfl, hfz, hnd⟩ := hW
  have hA : DataW.TrodAll enc Try.prog W 0 (fun _ => true) true Try.f4.params.toList args.toList ds p := hA0
  rw [Try.params4] at hA hval
  obtain ⟨v0, vs0, d0, ds0, p0, q0, hargs, rfl, rfl, h0, r0⟩ := trodAll_cons hA
  obtain ⟨v1, vs1, d1, ds1, p1, q1, rfl, rfl, rfl, h1, r1⟩ := trodAll_cons r0
  obtain ⟨rfl, rfl, rfl⟩ := trodAll_nil r1
  obtain rfl : args = #[v0, v1] := by cases args; simp_all
  obtain ⟨rfl, rfl⟩ := trodVars_none hV
  obtain ⟨a0, len0, cap0, rfl⟩ := okWide_slice Try.underlying23 (hval 0 23 v0 rfl rfl)
  have k0 := h0
  have lt0 : ∀ x ∈ p0, x.block < W.heap.size := by obtain ⟨m, hm⟩ := k0; exact DataW.trod_lt m _ _ _ hm
  obtain ⟨z0, w0⟩ : ∃ zs, IsRow .i64 W a0 len0 cap0 zs := by
    obtain ⟨fuel, hf⟩ := h0
    rcases open_ints Try.underlying23 Try.underlying3 (by kernel_rfl) hf with ⟨hcs, _⟩ | ⟨x, l, c, zs, hcs, _, hl, hm, hz, _, hcell, hwz⟩
    · simp [Value.cells] at hcs
      obtain ⟨rfl, rfl, rfl⟩ := hcs
      exact ⟨[], .inl ⟨rfl, rfl, rfl, rfl⟩⟩
    · simp [Value.cells] at hcs
      obtain ⟨rfl, rfl, rfl⟩ := hcs
      exact ⟨zs, .inr ⟨_, rfl, hl, hm, by simpa using hz, hcell, hwz⟩⟩
  have k1 := h1
  have lt1 : ∀ x ∈ p1, x.block < W.heap.size := by obtain ⟨m, hm⟩ := k1; exact DataW.trod_lt m _ _ _ hm
  have w1 := open1 (hval 1 24 v1 rfl rfl) h1
  clear hA0 hval0
  refine (walk a0 len0 cap0 z0 v1 W w0 w1).mono fun e W' ⟨he, bel⟩ => ?_
  subst he
  exact ⟨_, rfl, _, _, _, [], _, [], hW', trodAll_mk1 (shut_bool Try.underlying4 _), (trodAll_cons_mk (Below.trod laidOut (by kernel_rfl) (of_decide_eq_true (by kernel_rfl)) k0 bel lt0) (trodAll_cons_mk (Below.trod laidOut (by kernel_rfl) (of_decide_eq_true (by kernel_rfl)) k1 bel lt1) trodAll_mk0)), rfl, bel.frame _, fun h => by cases h⟩

theorem over : Rows.orderChainRow.holds Try.pinned (OpenSpec.ofChange Rows.orderChainSpec) :=
  OpenClaim.holds_of_wide 4 Try.f4 rfl rfl rfl rfl rfl rfl rfl ⟨rfl, rfl, rfl, rfl, rfl⟩ rfl rfl rfl rfl rfl (by kernel_rfl) Try.func4 (by kernel_rfl)
    (of_decide_eq_true (by kernel_rfl)) (by unfold Func.isWrapper; first | (rw [if_pos (by decide +kernel)]; kernel_rfl) | (rw [if_neg (by decide +kernel)]; exact ⟨rfl, rfl⟩))
    (fun os started H enc _ => lifted os started H enc)

/-- the given statement -/
theorem proved : Rows.OrderChainSaid := over
#print axioms proved
end Go.Proofs.Ytlpcpbangmonaaa.orderChain
