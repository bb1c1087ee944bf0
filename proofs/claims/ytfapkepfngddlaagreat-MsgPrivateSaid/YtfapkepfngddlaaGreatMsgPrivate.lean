/-
  For any message the law MsgPrivate answers true: a formed Push or Delta says nothing of a key that is not under its Want, and nothing that its Vec hasn't heard. No condition.
  (The frame was written by the guide's proof-skeleton.mjs, turned for messages; the walk is ours.)
-/
import Derived.Test.YtfapkepfngddlaaGreatRows
import Derived.WalkKit
import Derived.ProofKit
import Derived.OpenShut
import Derived.ShutString
import Derived.ChangeOld
import Derived.Below
import Derived.Test.YtfapkepfngddlaaGreatMsUse
import Derived.Test.YtfapkepfngddlaaGreatMsSame
import Derived.Test.YtfapkepfngddlaaGreatMsPrg
import Derived.Test.YtfapkepfngddlaaGreatTxPuts
import Derived.Test.YtfapkepfngddlaaGreatTxFrm
import Derived.Test.YtfapkepfngddlaaGreatTxUses
import Derived.Deep.RegionHeld3
import Derived.Test.YtfapkepfngddlaaGreatMsForm
import Derived.Deep.Cut
import Derived.Deep.DeepCutAuto
namespace Go.Proofs.YtfapkepfngddlaaGreat.msgPrivate
open Go.ChangeShapes Go.WideShapes Go.ChangeAt Go.RowKit
open Go.ChangeMaps (open_string shut_string)
set_option linter.unusedVariables false

theorem own : ownKnob Tryz.prog.godebug = none := by kernel_rfl
theorem laidOut : laidOutB Tryz.prog = true := by kernel_rfl

open Plain

set_option maxRecDepth 100000 in
theorem open0 {H : Type} {enc : TypeId × Value → H} {W : World} {r : Reach} {b : Nat} {v : Value} {d : DataW H} {p : List MemPlace} (hv : Value.okWide Tryz.prog W r b 28 v) (h : DataW.Trod enc Tryz.prog W 0 (fun _ => true) true 28 v d p) : IsMsgA W v := msg_of_trod hv h

set_option maxRecDepth 100000 in
set_option maxHeartbeats 32000000 in
theorem walk (v0 : Value) (w : World) (w0 : IsMsgA w v0) :
    Calls Tryz.prog 7 #[v0] w fun e w' => e = .returned (.bool true) ∧ Below w.heap.size w w' := by
  obtain ⟨m, hm, okm⟩ := w0
  obtain ⟨va, vn, vc, fa, fn, fc, za, zn, zc, na, nn, nc, ia, im, ic, la, ln, lc, hv0, Hm⟩ := hm.slices
  subst hv0
  have OKM := Lib.hid okm
  have hb := (Below.refl w.heap.size w).alloc (Nat.le_refl _) (.cells #[.int .i64 m.kind, .int .i64 m.ticket, .bool m.whole, .slice va vn vc, .slice fa fn fc, .slice za zn zc, .slice na nn nc, .slice ia im ic, .slice la ln lc] 28)
  have MB := Lib.hid (msbox_new Hm)
  have G := Lib.hid hb
  clear hm okm Hm hb
  go_enter Tryz.func7, Tryz.ntmps7
  go_upto_region 1 with fail
  generalize (w.alloc (.cells #[.int .i64 m.kind, .int .i64 m.ticket, .bool m.whole, .slice va vn vc, .slice fa fn fc, .slice za zn zc, .slice na nn nc, .slice ia im ic, .slice la ln lc] 28)) = wB at *
  generalize hg0 : w.heap.size = g0 at MB ⊢
  go_wp2_with fail
  refine (msawake_any _).mono ?_
  rintro e u3 ⟨rfl, hb⟩
  replace MB := Lib.hid (MB.out.below hb)
  replace G := Lib.hid (G.out.trans (hb.mono G.out.size))
  clear hb
  obtain ⟨sa, hsa⟩ : ∃ b, b = mshortB m := ⟨_, rfl⟩
  have Hsa := Lib.hid hsa
  clear hsa
  obtain ⟨rf, hrf⟩ : ∃ b, b = mformedM m := ⟨_, rfl⟩
  have Hrf := Lib.hid hrf
  clear hrf
  cases sa
  · obtain ⟨x0a, x0b, x0c, x0d, x0e, x0f, x0g, x0h, x0i⟩ := MB.out.c
    have K := Lib.hid (mshortR MB.out.is _ Hsa.out.symm)
    go_wp2_with fail
    refine (K.out).mono ?_
    rintro e u4 ⟨rfl, hb⟩
    clear K
    replace MB := Lib.hid (MB.out.below hb)
    replace G := Lib.hid (G.out.trans (hb.mono G.out.size))
    clear hb
    clear x0a x0b x0c x0d x0e x0f x0g x0h x0i
    go_wp2_with fail
    go_ret
    first | exact ⟨rfl, G.out⟩ | exact ⟨rfl, hg0 ▸ G.out⟩
  have SM := Lib.hid (msSm_of Hsa.out.symm OKM.out)
  cases rf
  · obtain ⟨x0a, x0b, x0c, x0d, x0e, x0f, x0g, x0h, x0i⟩ := MB.out.c
    have K := Lib.hid (mshortR MB.out.is _ Hsa.out.symm)
    go_wp2_with fail
    refine (K.out).mono ?_
    rintro e u4 ⟨rfl, hb⟩
    clear K
    replace MB := Lib.hid (MB.out.below hb)
    replace G := Lib.hid (G.out.trans (hb.mono G.out.size))
    clear hb
    clear x0a x0b x0c x0d x0e x0f x0g x0h x0i
    obtain ⟨x0a, x0b, x0c, x0d, x0e, x0f, x0g, x0h, x0i⟩ := MB.out.c
    have K := Lib.hid (mformedP MB.out.is SM.out.p _ Hrf.out.symm)
    go_wp2_with fail
    refine (K.out).mono ?_
    rintro e u5 ⟨rfl, hb⟩
    clear K
    replace MB := Lib.hid (MB.out.below hb)
    replace G := Lib.hid (G.out.trans (hb.mono G.out.size))
    clear hb
    clear x0a x0b x0c x0d x0e x0f x0g x0h x0i
    go_wp2_with fail
    go_ret
    first | exact ⟨rfl, G.out⟩ | exact ⟨rfl, hg0 ▸ G.out⟩
  by_cases hk : m.kind = 3 ∨ m.kind = 4
  rotate_left
  · have e3 : (m.kind != 3) = true := bne_iff_ne.2 (fun e => hk (.inl e))
    have e4 : (m.kind != 4) = true := bne_iff_ne.2 (fun e => hk (.inr e))
    clear hk
    obtain ⟨x0a, x0b, x0c, x0d, x0e, x0f, x0g, x0h, x0i⟩ := MB.out.c
    have K := Lib.hid (mshortR MB.out.is _ Hsa.out.symm)
    go_wp2_with fail
    refine (K.out).mono ?_
    rintro e u4 ⟨rfl, hb⟩
    clear K
    replace MB := Lib.hid (MB.out.below hb)
    replace G := Lib.hid (G.out.trans (hb.mono G.out.size))
    clear hb
    clear x0a x0b x0c x0d x0e x0f x0g x0h x0i
    obtain ⟨x0a, x0b, x0c, x0d, x0e, x0f, x0g, x0h, x0i⟩ := MB.out.c
    have K := Lib.hid (mformedP MB.out.is SM.out.p _ Hrf.out.symm)
    go_wp2_with fail
    refine (K.out).mono ?_
    rintro e u5 ⟨rfl, hb⟩
    clear K
    replace MB := Lib.hid (MB.out.below hb)
    replace G := Lib.hid (G.out.trans (hb.mono G.out.size))
    clear hb
    clear x0a x0b x0c x0d x0e x0f x0g x0h x0i
    obtain ⟨x0a, x0b, x0c, x0d, x0e, x0f, x0g, x0h, x0i⟩ := MB.out.c
    go_wp2_with fail
    go_ret
    first | exact ⟨rfl, G.out⟩ | exact ⟨rfl, hg0 ▸ G.out⟩
  have HIT := Lib.hid (priv_items Hrf.out.symm)
  have HTT := Lib.hid (priv_txns Hrf.out.symm hk)
  have DI : Hid (m.items.length = im) := Lib.hid MB.out.a.i.dims.1
  have DL : Hid (m.txns.length = ln) := Lib.hid MB.out.a.l.dims.1
  have SI : Hid (im ≤ 60) := Lib.hid (by have := DI.out; have := SM.out.i; omega)
  have SL : Hid (ln ≤ 24) := Lib.hid (by have := DL.out; have := SM.out.t; omega)
  have BI : Hid (im ≤ ic ∧ ic ≤ 9223372036854775807) := Lib.hid MB.out.a.i.dims.2
  have BL : Hid (ln ≤ lc ∧ lc ≤ 9223372036854775807) := Lib.hid MB.out.a.l.dims.2
  go_upto_region 3 with fail
  go_cut [25] (fun s25 wx => s25 = .bool false ∧ Below u3.heap.size u3 wx)
  case first =>
    have GX := Lib.hid (Below.refl u3.heap.size u3)
    rcases hk with hk | hk
    · have e3 : (m.kind != 3) = false := by rw [hk]; rfl
      clear hk
      obtain ⟨x0a, x0b, x0c, x0d, x0e, x0f, x0g, x0h, x0i⟩ := MB.out.c
      have K := Lib.hid (mshortR MB.out.is _ Hsa.out.symm)
      go_wp2_with fail
      refine (K.out).mono ?_
      rintro e u4 ⟨rfl, hb⟩
      clear K
      replace MB := Lib.hid (MB.out.below hb)
      replace GX := Lib.hid (GX.out.trans (hb.mono GX.out.size))
      clear hb
      clear x0a x0b x0c x0d x0e x0f x0g x0h x0i
      obtain ⟨x0a, x0b, x0c, x0d, x0e, x0f, x0g, x0h, x0i⟩ := MB.out.c
      have K := Lib.hid (mformedP MB.out.is SM.out.p _ Hrf.out.symm)
      go_wp2_with fail
      refine (K.out).mono ?_
      rintro e u5 ⟨rfl, hb⟩
      clear K
      replace MB := Lib.hid (MB.out.below hb)
      replace GX := Lib.hid (GX.out.trans (hb.mono GX.out.size))
      clear hb
      clear x0a x0b x0c x0d x0e x0f x0g x0h x0i
      obtain ⟨x0a, x0b, x0c, x0d, x0e, x0f, x0g, x0h, x0i⟩ := MB.out.c
      go_wp2_with fail
      go_meet
      exact ⟨rfl, GX.out⟩
    · have e3 : (m.kind != 3) = true := by rw [hk]; rfl
      have e4 : (m.kind != 4) = false := by rw [hk]; rfl
      clear hk
      obtain ⟨x0a, x0b, x0c, x0d, x0e, x0f, x0g, x0h, x0i⟩ := MB.out.c
      have K := Lib.hid (mshortR MB.out.is _ Hsa.out.symm)
      go_wp2_with fail
      refine (K.out).mono ?_
      rintro e u4 ⟨rfl, hb⟩
      clear K
      replace MB := Lib.hid (MB.out.below hb)
      replace GX := Lib.hid (GX.out.trans (hb.mono GX.out.size))
      clear hb
      clear x0a x0b x0c x0d x0e x0f x0g x0h x0i
      obtain ⟨x0a, x0b, x0c, x0d, x0e, x0f, x0g, x0h, x0i⟩ := MB.out.c
      have K := Lib.hid (mformedP MB.out.is SM.out.p _ Hrf.out.symm)
      go_wp2_with fail
      refine (K.out).mono ?_
      rintro e u5 ⟨rfl, hb⟩
      clear K
      replace MB := Lib.hid (MB.out.below hb)
      replace GX := Lib.hid (GX.out.trans (hb.mono GX.out.size))
      clear hb
      clear x0a x0b x0c x0d x0e x0f x0g x0h x0i
      obtain ⟨x0a, x0b, x0c, x0d, x0e, x0f, x0g, x0h, x0i⟩ := MB.out.c
      go_wp2_with fail
      go_meet
      exact ⟨rfl, GX.out⟩
  case rest =>
    obtain ⟨rfl, hb⟩ := hcut
    rename World => wz
    replace MB := Lib.hid (MB.out.below hb)
    replace G := Lib.hid (G.out.trans (hb.mono G.out.size))
    clear hb hk
    go_wp2_with fail
    have B0 := Lib.hid (Below.refl wz.heap.size wz)
    have HC := Lib.hid (fun u (hb : Below wz.heap.size wz u) => (MB.out.below hb).c)
    have HA := Lib.hid (fun u (hb : Below wz.heap.size wz u) => (MB.out.below hb).a)
    go_loopw [3] (fun i wr => ∃ k : Nat, k ≤ im ∧ i = .int .i64 k ∧ Below wz.heap.size wz wr) (fun i _ => im - (intOf i).toNat)
    case atStart => exact ⟨0, Nat.zero_le _, rfl, B0.out⟩
    case round =>
      obtain ⟨k, hk, rfl, hb⟩ := hrel
      have GR := Lib.hid hb
      clear hb
      have kb : (im : Int) ≤ 60 := by have := SI.out; omega
      have kc : (im : Int) ≤ (ic : Int) := by have := BI.out.1; omega
      have kd : (ic : Int) ≤ 9223372036854775807 := by have := BI.out.2; omega
      obtain ⟨c0, c1, c2, c3, c4, c5, c6, c7, c8⟩ := HC.out wr GR.out
      by_cases hlt : k < im
      · have hki : k < m.items.length := by rw [DI.out]; exact hlt
        have HX := Lib.hid (HIT.out k hki)
        obtain ⟨b, o, c, hv, -, -, -, hc⟩ := items_spot (HA.out wr GR.out).i (by rw [DI.out]; omega)
        rw [DI.out] at hv
        simp only [Value.slice.injEq] at hv
        obtain ⟨rfl, -, rfl⟩ := hv
        have IX := Lib.hid (hc k hki)
        clear hc
        generalize m.items.getD k default = x at *
        have k1 : (k : Int) < im := by omega
        have KE : Hid (∀ u, Below wr.heap.size wr u → Below wr.heap.size wr u ∧ (u.cell? ⟨g0, 3, none⟩ = some (.slice va vn vc) ∧ u.cell? ⟨g0, 6, none⟩ = some (.slice na nn nc) ∧ u.cell? ⟨g0, 7, none⟩ = some (.slice (some ⟨b, o, none⟩) im ic)) ∧ u.cell? ⟨b, o + k * 8, none⟩ = some (.string (bt x.key)) ∧ u.cell? ⟨b, o + k * 8 + 5, none⟩ = some (.int .i64 x.dot.node) ∧ u.cell? ⟨b, o + k * 8 + 6, none⟩ = some (.int .i64 x.dot.seq) ∧ u.cell? ⟨b, o + k * 8 + 7, none⟩ = some (.int .i64 x.dot.pos)) := Lib.hid (fun u hb => ⟨hb, by have h := HC.out u (GR.out.trans (hb.mono GR.out.size)); exact ⟨h.2.2.2.1, h.2.2.2.2.2.2.1, h.2.2.2.2.2.2.2.1⟩, by have h := IX.out.below hb IX.out.lt; exact ⟨h.c0, h.c5, h.c6, h.c7⟩⟩)
        have KC := Lib.hid (fun u (hb : Below wr.heap.size wr u) => zcovers_any (HA.out u (GR.out.trans (hb.mono GR.out.size))).n SM.out.p.n x.key)
        have KH := Lib.hid (fun u (hb : Below wr.heap.size wr u) => vc_has_any (seqI_of (HA.out u (GR.out.trans (hb.mono GR.out.size))).v) x.dot.node x.dot.seq x.dot.pos)
        rw [HX.out.1] at KC
        rw [decide_eq_true HX.out.2.1, decide_eq_true HX.out.2.2, Bool.and_true] at KH
        go_upto_region 8 with fail
        clear c0 c1 c2 c3 c4 c5 c6 c7 c8
        refine wp_region_held_drew (S := fun u' => Below wr.heap.size wr u' ∧ (u'.cell? ⟨g0, 3, none⟩ = some (.slice va vn vc) ∧ u'.cell? ⟨g0, 6, none⟩ = some (.slice na nn nc) ∧ u'.cell? ⟨g0, 7, none⟩ = some (.slice (some ⟨b, o, none⟩) im ic)) ∧ u'.cell? ⟨b, o + k * 8, none⟩ = some (.string (bt x.key)) ∧ u'.cell? ⟨b, o + k * 8 + 5, none⟩ = some (.int .i64 x.dot.node) ∧ u'.cell? ⟨b, o + k * 8 + 6, none⟩ = some (.int .i64 x.dot.seq) ∧ u'.cell? ⟨b, o + k * 8 + 7, none⟩ = some (.int .i64 x.dot.pos)) (by kernel_rfl) ?_ (fun hHeld => ?_)
        · (exact KE.out _ (Below.refl _ _).drew)
        simp only [List.size_toArray, List.length_cons, List.length_nil, Nat.zero_add, Nat.reduceAdd]
        refine tkB (i := 0) hHeld ?_
        refine tkB (i := 1) hHeld ?_
        refine tkB (i := 2) hHeld ?_
        refine tkB (i := 3) hHeld ?_
        refine tkB (i := 4) hHeld ?_
        refine tkB (i := 5) hHeld ?_
        refine tkB (i := 6) hHeld ?_
        refine tkB (i := 7) hHeld ?_
        refine wpAnyH_ready (rs := [8]) (by kernel_rfl) (by simp) ?_
        refine AllReadyH.cons rfl (fun K hK => ?_) AllReadyH.nil
        go_simp
        refine (KC.out _ hHeld.1).mono ?_
        rintro e s1 ⟨rfl, hb⟩
        refine hK.out _ _ (KE.out _ (holdC hHeld hb)) (fun hHeld => ?_)
        clear hK K hb
        refine tkB (i := 9) hHeld ?_
        refine tkB (i := 10) hHeld ?_
        refine tkB (i := 11) hHeld ?_
        refine tkB (i := 12) hHeld ?_
        refine tkB (i := 13) hHeld ?_
        refine tkB (i := 14) hHeld ?_
        refine tkB (i := 15) hHeld ?_
        refine tkB (i := 16) hHeld ?_
        refine tkB (i := 17) hHeld ?_
        refine tkB (i := 18) hHeld ?_
        refine wpAnyH_ready (rs := [19]) (by kernel_rfl) (by simp) ?_
        refine AllReadyH.cons rfl (fun K hK => ?_) AllReadyH.nil
        go_simp
        refine (KH.out _ hHeld.1).mono ?_
        rintro e s2 ⟨rfl, hb⟩
        refine hK.out _ _ (KE.out _ (holdC hHeld hb)) (fun hHeld => ?_)
        clear hK K hb
        refine tkB (i := 20) hHeld ?_
        refine tkB (i := 21) hHeld ?_
        refine wpAnyH_done (by kernel_rfl) ?_ _
        have GF := Lib.hid (GR.out.trans (hHeld.1.mono GR.out.size))
        clear hHeld KE KC KH
        go_wp2_with fail
        go_roundw
        case rel => exact ⟨k + 1, by omega, by go_num, GF.out⟩
        case measure => simp [intOf] <;> omega
      · obtain rfl : im = k := by omega
        have k1 : ¬ ((im : Nat) : Int) < (im : Int) := by omega
        have BR := GR
        go_wp2_with fail
        clear c0 c1 c2 c3 c4 c5 c6 c7 c8
        go_loopw [4] (fun i wq => ∃ k : Nat, k ≤ ln ∧ i = .int .i64 k ∧ Below wz.heap.size wz wq) (fun i _ => ln - (intOf i).toNat)
        case atStart => exact ⟨0, Nat.zero_le _, rfl, BR.out⟩
        case round =>
          skip
          obtain ⟨k, hk2, rfl, hb⟩ := hrel
          have GQ := Lib.hid hb
          clear hb
          have lb : (ln : Int) ≤ 24 := by have := SL.out; omega
          have ld : (ln : Int) ≤ (lc : Int) := by have := BL.out.1; omega
          have le : (lc : Int) ≤ 9223372036854775807 := by have := BL.out.2; omega
          rename World => wo
          obtain ⟨c0, c1, c2, c3, c4, c5, c6, c7, c8⟩ := HC.out wo GQ.out
          by_cases hlt2 : k < ln
          · have hkl : k < m.txns.length := by rw [DL.out]; exact hlt2
            have HX := Lib.hid (HTT.out k hkl)
            have FT := Lib.hid (SM.out.p.t _ (tmem_getD hkl))
            obtain ⟨b, o, c, hv, -, -, -, hc⟩ := txns_spot (HA.out wo GQ.out).l (by rw [DL.out]; omega)
            rw [DL.out] at hv
            simp only [Value.slice.injEq] at hv
            obtain ⟨rfl, -, rfl⟩ := hv
            obtain ⟨dv, ev, TX, hdv, hev⟩ := hc k hkl
            replace TX := Lib.hid TX
            have EV := Lib.hid hev
            clear hc hdv
            generalize m.txns.getD k default = t at *
            obtain ⟨ea, ec, hq2, k8, k9, -, hev2⟩ := hev.parts
            subst hq2
            replace EV := Lib.hid hev2
            obtain ⟨en, hen⟩ : ∃ e, t.effs.length = e := ⟨_, rfl⟩
            rw [hen] at EV TX k8
            have HEN := Lib.hid hen
            clear hev hev2 hen
            have l1 : (k : Int) < ln := by omega
            have KE : Hid (∀ u, Below wo.heap.size wo u → Below wo.heap.size wo u ∧ (u.cell? ⟨g0, 3, none⟩ = some (.slice va vn vc) ∧ u.cell? ⟨g0, 4, none⟩ = some (.slice fa fn fc) ∧ u.cell? ⟨g0, 8, none⟩ = some (.slice (some ⟨b, o, none⟩) ln lc)) ∧ u.cell? ⟨b, o + k * 4, none⟩ = some (.int .i64 t.node) ∧ u.cell? ⟨b, o + k * 4 + 1, none⟩ = some (.int .i64 t.seq)) := Lib.hid (fun u hb => ⟨hb, by have h := HC.out u (GQ.out.trans (hb.mono GQ.out.size)); exact ⟨h.2.2.2.1, h.2.2.2.2.1, h.2.2.2.2.2.2.2.2⟩, by have h := TX.out.below hb TX.out.lt; exact ⟨h.c0, h.c1⟩⟩)
            have KV := Lib.hid (fun u (hb : Below wo.heap.size wo u) => vc_has_any (seqI_of (HA.out u (GQ.out.trans (hb.mono GQ.out.size))).v) t.node t.seq 0)
            have KF := Lib.hid (fun u (hb : Below wo.heap.size wo u) => vc_has_any (seqI_of (HA.out u (GQ.out.trans (hb.mono GQ.out.size))).f) t.node t.seq 0)
            rw [decide_eq_true HX.out.1.1, decide_eq_true HX.out.1.2, Bool.and_true] at KV
            rw [decide_eq_false (show ¬ t.seq ≤ saysI m.from_ t.node by have := HX.out.2.1; omega), Bool.and_false] at KF
            go_upto_region 13 with fail
            clear c0 c1 c2 c3 c4 c5 c6 c7 c8
            refine wp_region_held_drew (S := fun u' => Below wo.heap.size wo u' ∧ (u'.cell? ⟨g0, 3, none⟩ = some (.slice va vn vc) ∧ u'.cell? ⟨g0, 4, none⟩ = some (.slice fa fn fc) ∧ u'.cell? ⟨g0, 8, none⟩ = some (.slice (some ⟨b, o, none⟩) ln lc)) ∧ u'.cell? ⟨b, o + k * 4, none⟩ = some (.int .i64 t.node) ∧ u'.cell? ⟨b, o + k * 4 + 1, none⟩ = some (.int .i64 t.seq)) (by kernel_rfl) ?_ (fun hHeld => ?_)
            · (exact KE.out _ (Below.refl _ _).drew)
            simp only [List.size_toArray, List.length_cons, List.length_nil, Nat.zero_add, Nat.reduceAdd]
            refine tkB (i := 0) hHeld ?_
            refine tkB (i := 1) hHeld ?_
            refine tkB (i := 2) hHeld ?_
            refine tkB (i := 3) hHeld ?_
            refine tkB (i := 4) hHeld ?_
            refine tkB (i := 5) hHeld ?_
            refine tkB (i := 6) hHeld ?_
            refine tkB (i := 7) hHeld ?_
            refine tkB (i := 8) hHeld ?_
            refine tkB (i := 9) hHeld ?_
            refine tkB (i := 10) hHeld ?_
            refine tkB (i := 11) hHeld ?_
            refine tkB (i := 12) hHeld ?_
            refine tkB (i := 13) hHeld ?_
            refine tkB (i := 14) hHeld ?_
            refine wpAnyH_ready (rs := [15]) (by kernel_rfl) (by simp) ?_
            refine AllReadyH.cons rfl (fun K hK => ?_) AllReadyH.nil
            go_simp
            refine (KV.out _ hHeld.1).mono ?_
            rintro e s3 ⟨rfl, hb⟩
            refine hK.out _ _ (KE.out _ (holdC hHeld hb)) (fun hHeld => ?_)
            clear hK K hb
            refine tkB (i := 16) hHeld ?_
            refine tkB (i := 17) hHeld ?_
            refine tkB (i := 18) hHeld ?_
            refine tkB (i := 19) hHeld ?_
            refine tkB (i := 20) hHeld ?_
            refine tkB (i := 21) hHeld ?_
            refine tkB (i := 22) hHeld ?_
            refine tkB (i := 23) hHeld ?_
            refine tkB (i := 24) hHeld ?_
            refine tkB (i := 25) hHeld ?_
            refine tkB (i := 26) hHeld ?_
            refine tkB (i := 27) hHeld ?_
            refine tkB (i := 28) hHeld ?_
            refine tkB (i := 29) hHeld ?_
            refine tkB (i := 30) hHeld ?_
            refine tkB (i := 31) hHeld ?_
            refine tkB (i := 32) hHeld ?_
            refine wpAnyH_ready (rs := [33]) (by kernel_rfl) (by simp) ?_
            refine AllReadyH.cons rfl (fun K hK => ?_) AllReadyH.nil
            go_simp
            refine (KF.out _ hHeld.1).mono ?_
            rintro e s4 ⟨rfl, hb⟩
            refine hK.out _ _ (KE.out _ (holdC hHeld hb)) (fun hHeld => ?_)
            clear hK K hb
            refine tkB (i := 34) hHeld ?_
            refine wpAnyH_done (by kernel_rfl) ?_ _
            have GE := Lib.hid (GQ.out.trans (hHeld.1.mono GQ.out.size))
            have GW := Lib.hid hHeld.1
            clear hHeld KE KV KF
            go_wp2_with fail
            go_loopw [5] (fun i wp => ∃ j : Nat, j ≤ en ∧ i = .int .i64 j ∧ Below wo.heap.size wo wp) (fun i _ => en - (intOf i).toNat)
            case atStart => exact ⟨0, Nat.zero_le _, rfl, GW.out⟩
            case round =>
              obtain ⟨j, hj, rfl, hb⟩ := hrel
              have GI := Lib.hid hb
              clear hb
              rename World => wi
              have GA := Lib.hid (GQ.out.trans (GI.out.mono GQ.out.size))
              obtain ⟨c0, c1, c2, c3, c4, c5, c6, c7, c8⟩ := HC.out wi GA.out
              obtain ⟨t0, t1, t2, t3⟩ := TX.out.below GI.out TX.out.lt
              have eb60 : (en : Int) ≤ 1000 := by have := FT.out.effs; have := HEN.out; omega
              have ed1 : (en : Int) ≤ (ec : Int) := by omega
              have ed2 : (ec : Int) ≤ 9223372036854775807 := by omega
              by_cases hlt3 : j < en
              · have hje : j < t.effs.length := by rw [HEN.out]; exact hlt3
                have HY := Lib.hid (HX.out.2.2 _ (tmem_getD hje))
                obtain ⟨eb, eo, ecc, hv, -, -, -, hc⟩ := effs_spot EV.out (by rw [HEN.out]; omega)
                rw [HEN.out] at hv
                simp only [Value.slice.injEq] at hv
                obtain ⟨rfl, -, rfl⟩ := hv
                obtain ⟨yv, EY, -⟩ := hc j hje
                replace EY := Lib.hid EY
                clear hc
                generalize t.effs.getD j default = y at *
                have m1 : (j : Int) < en := by omega
                have KE : Hid (∀ u, Below wi.heap.size wi u → Below wi.heap.size wi u ∧ (u.cell? ⟨g0, 6, none⟩ = some (.slice na nn nc) ∧ u.cell? ⟨g0, 8, none⟩ = some (.slice (some ⟨b, o, none⟩) ln lc)) ∧ u.cell? ⟨b, o + k * 4 + 3, none⟩ = some (.slice (some ⟨eb, eo, none⟩) en ec) ∧ u.cell? ⟨eb, eo + j * 7 + 1, none⟩ = some (.string (bt y.key))) := Lib.hid (fun u hb => ⟨hb, by have h := HC.out u (GA.out.trans (hb.mono GA.out.size)); exact ⟨h.2.2.2.2.2.2.1, h.2.2.2.2.2.2.2.2⟩, (TX.out.below (GI.out.trans (hb.mono GI.out.size)) TX.out.lt).c3, (EY.out.below (GI.out.trans (hb.mono GI.out.size)) EY.out.lt).c1⟩)
                have KC := Lib.hid (fun u (hb : Below wi.heap.size wi u) => zcovers_any (HA.out u (GA.out.trans (hb.mono GA.out.size))).n SM.out.p.n y.key)
                rw [HY.out] at KC
                go_upto_region 18 with fail
                clear c0 c1 c2 c3 c4 c5 c6 c7 c8 t0 t1 t2 t3
                refine wp_region_held_drew (S := fun u' => Below wi.heap.size wi u' ∧ (u'.cell? ⟨g0, 6, none⟩ = some (.slice na nn nc) ∧ u'.cell? ⟨g0, 8, none⟩ = some (.slice (some ⟨b, o, none⟩) ln lc)) ∧ u'.cell? ⟨b, o + k * 4 + 3, none⟩ = some (.slice (some ⟨eb, eo, none⟩) en ec) ∧ u'.cell? ⟨eb, eo + j * 7 + 1, none⟩ = some (.string (bt y.key))) (by kernel_rfl) ?_ (fun hHeld => ?_)
                · (exact KE.out _ (Below.refl _ _).drew)
                simp only [List.size_toArray, List.length_cons, List.length_nil, Nat.zero_add, Nat.reduceAdd]
                refine tkB (i := 0) hHeld ?_
                refine tkB (i := 1) hHeld ?_
                refine tkB (i := 2) hHeld ?_
                refine tkB (i := 3) hHeld ?_
                refine tkB (i := 4) hHeld ?_
                refine tkB (i := 5) hHeld ?_
                refine tkB (i := 6) hHeld ?_
                refine tkB (i := 7) hHeld ?_
                refine tkB (i := 8) hHeld ?_
                refine tkB (i := 9) hHeld ?_
                refine tkB (i := 10) hHeld ?_
                refine tkB (i := 11) hHeld ?_
                refine wpAnyH_ready (rs := [12]) (by kernel_rfl) (by simp) ?_
                refine AllReadyH.cons rfl (fun K hK => ?_) AllReadyH.nil
                go_simp
                refine (KC.out _ hHeld.1).mono ?_
                rintro e s5 ⟨rfl, hb⟩
                refine hK.out _ _ (KE.out _ (holdC hHeld hb)) (fun hHeld => ?_)
                clear hK K hb
                refine tkB (i := 13) hHeld ?_
                refine wpAnyH_done (by kernel_rfl) ?_ _
                have GF := Lib.hid (GI.out.trans (hHeld.1.mono GI.out.size))
                clear hHeld KE KC
                go_wp2_with fail
                go_roundw
                case rel => exact ⟨j + 1, by omega, by go_num, GF.out⟩
                case measure => simp [intOf] <;> omega
              · obtain rfl : en = j := by omega
                have m1 : ¬ ((en : Nat) : Int) < (en : Int) := by omega
                go_wp2_with fail
                go_roundw
                case rel => exact ⟨k + 1, by omega, by go_num, GA.out⟩
                case measure => simp [intOf] <;> omega
          · obtain rfl : ln = k := by omega
            have l1 : ¬ ((ln : Nat) : Int) < (ln : Int) := by omega
            have GZ := Lib.hid (G.out.trans (GQ.out.mono G.out.size))
            go_wp2_with fail
            go_ret
            first | exact ⟨rfl, GZ.out⟩ | exact ⟨rfl, hg0 ▸ GZ.out⟩

set_option maxRecDepth 100000 in
theorem lifted (os : Os) (started : os.Started) (H : Type) (enc : TypeId × Value → H) :
    ReturnsInHanded {} Tryz.checked os 7 .any (Rows.msgPrivateSpec.pre6 enc Tryz.prog Tryz.f7 Rows.msgPrivateRow.domain false) (Rows.msgPrivateSpec.post enc Tryz.prog Tryz.f7 false true false false) := by
  refine returnsInHanded_of_change (C := Tryz.checked) own started (by kernel_rfl) Tryz.func7
    (ChangeSpec.witness6 (enc := enc) (C := Tryz.checked) false ⟨#[], #[.agg #[.int .i64 0, .int .i64 0, .bool false, .slice none 0 0, .slice none 0 0, .slice none 0 0, .slice none 0 0, .slice none 0 0, .slice none 0 0]], []⟩ 8 (by kernel_rfl) (by kernel_rfl) (by kernel_rfl) (by kernel_rfl)) ?_
  intro W base args ds gs before hval0 hW hcnd _
  have hval : ∀ (j : Nat) t v, Tryz.f7.params[j]? = some t → args[j]? = some v → Value.okWide Tryz.prog W .any base t v := hval0
  have hW' := hW
  obtain ⟨p, q, hA0, hV, rfl, hfz, hnd⟩ := hW
  have hA : DataW.TrodAll enc Tryz.prog W 0 (fun _ => true) true Tryz.f7.params.toList args.toList ds p := hA0
  rw [Tryz.params7] at hA hval
  obtain ⟨v0, vs0, d0, ds0, p0, q0, hargs, rfl, rfl, h0, r0⟩ := trodAll_cons hA
  obtain ⟨rfl, rfl, rfl⟩ := trodAll_nil r0
  obtain rfl : args = #[v0] := by cases args; simp_all
  obtain ⟨rfl, rfl⟩ := trodVars_none hV
  have k0 := h0
  have lt0 : ∀ x ∈ p0, x.block < W.heap.size := by obtain ⟨m, hm⟩ := k0; exact DataW.trod_lt m _ _ _ hm
  have w0 := open0 (hval 0 28 v0 rfl rfl) h0
  clear hA0 hval0
  refine (walk v0 W w0).mono fun e W' ⟨he, bel⟩ => ?_
  subst he
  exact ⟨_, rfl, _, _, _, [], _, [], hW', trodAll_mk1 (shut_bool Tryz.underlying4 _), (trodAll_cons_mk (Below.trod laidOut (by kernel_rfl) (of_decide_eq_true (by kernel_rfl)) k0 bel lt0) trodAll_mk0), rfl, bel.frame _, fun h => by cases h⟩

theorem over : Rows.msgPrivateRow.holds Tryz.pinned (OpenSpec.ofChange Rows.msgPrivateSpec) :=
  OpenClaim.holds_of_wide 7 Tryz.f7 rfl rfl rfl rfl rfl rfl rfl ⟨rfl, rfl, rfl, rfl, rfl⟩ rfl rfl rfl rfl rfl (by kernel_rfl) Tryz.func7 (by kernel_rfl)
    (of_decide_eq_true (by kernel_rfl)) (by unfold Func.isWrapper; first | (rw [if_pos (by decide +kernel)]; kernel_rfl) | (rw [if_neg (by decide +kernel)]; exact ⟨rfl, rfl⟩))
    (fun os started H enc _ => lifted os started H enc)

/-- the given statement -/
theorem proved : Rows.MsgPrivateSaid := over
#print axioms proved
end Go.Proofs.YtfapkepfngddlaaGreat.msgPrivate
