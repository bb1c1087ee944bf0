/-
  For any two messages the law MsgApart answers true: unlike formed messages have unlike bytes. No condition.
  (The frame was written by the guide's proof-skeleton.mjs, turned for messages; the walk is ours.)
-/
import Derived.Test.YtfapkepfngddlaaGreatRows
import Derived.WalkKit
import Derived.ProofKit
import Derived.OpenShut
import Derived.ShutString
import Derived.ChangeOld
import Derived.Below
import Derived.Test.YtfapkepfngddlaaGreatMsUse
import Derived.Test.YtfapkepfngddlaaGreatMsSame
import Derived.Test.YtfapkepfngddlaaGreatMsPrg
import Derived.Test.YtfapkepfngddlaaGreatTxPuts
import Derived.Test.YtfapkepfngddlaaGreatTxFrm
import Derived.Test.YtfapkepfngddlaaGreatTxUses
import Derived.Deep.RegionHeld3
import Derived.Test.YtfapkepfngddlaaGreatMsForm
import Derived.Deep.Cut
import Derived.Deep.DeepCutAuto
namespace Go.Proofs.YtfapkepfngddlaaGreat.msgApart
open Go.ChangeShapes Go.WideShapes Go.ChangeAt Go.RowKit
open Go.ChangeMaps (open_string shut_string)
set_option linter.unusedVariables false

theorem own : ownKnob Tryz.prog.godebug = none := by kernel_rfl
theorem laidOut : laidOutB Tryz.prog = true := by kernel_rfl

open Plain

set_option maxRecDepth 100000 in
theorem open0 {H : Type} {enc : TypeId × Value → H} {W : World} {r : Reach} {b : Nat} {v : Value} {d : DataW H} {p : List MemPlace} (hv : Value.okWide Tryz.prog W r b 28 v) (h : DataW.Trod enc Tryz.prog W 0 (fun _ => true) true 28 v d p) : IsMsgA W v := msg_of_trod hv h
set_option maxRecDepth 100000 in
theorem open1 {H : Type} {enc : TypeId × Value → H} {W : World} {r : Reach} {b : Nat} {v : Value} {d : DataW H} {p : List MemPlace} (hv : Value.okWide Tryz.prog W r b 28 v) (h : DataW.Trod enc Tryz.prog W 0 (fun _ => true) true 28 v d p) : IsMsgA W v := msg_of_trod hv h

set_option maxRecDepth 100000 in
set_option maxHeartbeats 32000000 in
theorem walk (v0 : Value) (v1 : Value) (w : World) (w0 : IsMsgA w v0) (w1 : IsMsgA w v1) :
    Calls Tryz.prog 6 #[v0, v1] w fun e w' => e = .returned (.bool true) ∧ Below w.heap.size w w' := by
  obtain ⟨m, hm, okm⟩ := w0
  obtain ⟨va, vn, vc, fa, fn, fc, za, zn, zc, na, nn, nc, ia, im, ic, la, ln, lc, hv0, Hm⟩ := hm.slices
  subst hv0
  have OKM := Lib.hid okm
  obtain ⟨n, hn, okn⟩ := w1
  obtain ⟨vaq, vnq, vcq, faq, fnq, fcq, zaq, znq, zcq, naq, nnq, ncq, iaq, imq, icq, laq, lnq, lcq, hv1, Hn⟩ := hn.slices
  subst hv1
  have OKN := Lib.hid okn
  have hb := (Below.refl w.heap.size w).alloc (Nat.le_refl _) (.cells #[.int .i64 m.kind, .int .i64 m.ticket, .bool m.whole, .slice va vn vc, .slice fa fn fc, .slice za zn zc, .slice na nn nc, .slice ia im ic, .slice la ln lc] 28)
  have hb2 := (Below.refl (w.alloc (.cells #[.int .i64 m.kind, .int .i64 m.ticket, .bool m.whole, .slice va vn vc, .slice fa fn fc, .slice za zn zc, .slice na nn nc, .slice ia im ic, .slice la ln lc] 28)).heap.size (w.alloc (.cells #[.int .i64 m.kind, .int .i64 m.ticket, .bool m.whole, .slice va vn vc, .slice fa fn fc, .slice za zn zc, .slice na nn nc, .slice ia im ic, .slice la ln lc] 28))).alloc (Nat.le_refl _) (.cells #[.int .i64 n.kind, .int .i64 n.ticket, .bool n.whole, .slice vaq vnq vcq, .slice faq fnq fcq, .slice zaq znq zcq, .slice naq nnq ncq, .slice iaq imq icq, .slice laq lnq lcq] 28)
  have MB := Lib.hid ((msbox_new Hm).below hb2)
  have NB := Lib.hid (msbox_new (Hn.below hb))
  rw [show (w.alloc (.cells #[.int .i64 m.kind, .int .i64 m.ticket, .bool m.whole, .slice va vn vc, .slice fa fn fc, .slice za zn zc, .slice na nn nc, .slice ia im ic, .slice la ln lc] 28)).heap.size = w.heap.size + 1 by simp] at NB
  have G : Hid (Below w.heap.size w ((w.alloc (.cells #[.int .i64 m.kind, .int .i64 m.ticket, .bool m.whole, .slice va vn vc, .slice fa fn fc, .slice za zn zc, .slice na nn nc, .slice ia im ic, .slice la ln lc] 28)).alloc (.cells #[.int .i64 n.kind, .int .i64 n.ticket, .bool n.whole, .slice vaq vnq vcq, .slice faq fnq fcq, .slice zaq znq zcq, .slice naq nnq ncq, .slice iaq imq icq, .slice laq lnq lcq] 28))) := Lib.hid (hb.trans (hb2.mono hb.size))
  clear hm okm Hm hb hn okn Hn hb2
  go_enter Tryz.func6, Tryz.ntmps6
  go_upto_region 1 with fail
  generalize ((w.alloc (.cells #[.int .i64 m.kind, .int .i64 m.ticket, .bool m.whole, .slice va vn vc, .slice fa fn fc, .slice za zn zc, .slice na nn nc, .slice ia im ic, .slice la ln lc] 28)).alloc (.cells #[.int .i64 n.kind, .int .i64 n.ticket, .bool n.whole, .slice vaq vnq vcq, .slice faq fnq fcq, .slice zaq znq zcq, .slice naq nnq ncq, .slice iaq imq icq, .slice laq lnq lcq] 28)) = wB at *
  generalize hg0 : w.heap.size = g0 at MB NB ⊢
  go_wp2_with fail
  refine (msawake_any _).mono ?_
  rintro e u3 ⟨rfl, hb⟩
  replace MB := Lib.hid (MB.out.below hb)
  replace NB := Lib.hid (NB.out.below hb)
  replace G := Lib.hid (G.out.trans (hb.mono G.out.size))
  clear hb
  obtain ⟨sa, hsa⟩ : ∃ b, b = mshortB m := ⟨_, rfl⟩
  have Hsa := Lib.hid hsa
  clear hsa
  obtain ⟨x0a, x0b, x0c, x0d, x0e, x0f, x0g, x0h, x0i⟩ := MB.out.c
  have K := Lib.hid (mshortR MB.out.is sa Hsa.out.symm)
  cases sa
  · go_wp2_with fail
    refine (K.out).mono ?_
    rintro e u4 ⟨rfl, hb⟩
    clear K
    replace MB := Lib.hid (MB.out.below hb)
    replace NB := Lib.hid (NB.out.below hb)
    replace G := Lib.hid (G.out.trans (hb.mono G.out.size))
    clear hb
    clear x0a x0b x0c x0d x0e x0f x0g x0h x0i
    go_wp2_with fail
    go_ret
    first | exact ⟨rfl, G.out⟩ | exact ⟨rfl, hg0 ▸ G.out⟩
  go_wp2_with fail
  refine (K.out).mono ?_
  rintro e u4 ⟨rfl, hb⟩
  clear K
  replace MB := Lib.hid (MB.out.below hb)
  replace NB := Lib.hid (NB.out.below hb)
  replace G := Lib.hid (G.out.trans (hb.mono G.out.size))
  clear hb
  clear x0a x0b x0c x0d x0e x0f x0g x0h x0i
  have SM := Lib.hid (msSm_of Hsa.out.symm OKM.out)
  obtain ⟨sb, hsb⟩ : ∃ b, b = mshortB n := ⟨_, rfl⟩
  have Hsb := Lib.hid hsb
  clear hsb
  obtain ⟨x0a, x0b, x0c, x0d, x0e, x0f, x0g, x0h, x0i⟩ := NB.out.c
  have K := Lib.hid (mshortR NB.out.is sb Hsb.out.symm)
  cases sb
  · go_wp2_with fail
    refine (K.out).mono ?_
    rintro e u5 ⟨rfl, hb⟩
    clear K
    replace MB := Lib.hid (MB.out.below hb)
    replace NB := Lib.hid (NB.out.below hb)
    replace G := Lib.hid (G.out.trans (hb.mono G.out.size))
    clear hb
    clear x0a x0b x0c x0d x0e x0f x0g x0h x0i
    go_wp2_with fail
    go_ret
    first | exact ⟨rfl, G.out⟩ | exact ⟨rfl, hg0 ▸ G.out⟩
  go_wp2_with fail
  refine (K.out).mono ?_
  rintro e u5 ⟨rfl, hb⟩
  clear K
  replace MB := Lib.hid (MB.out.below hb)
  replace NB := Lib.hid (NB.out.below hb)
  replace G := Lib.hid (G.out.trans (hb.mono G.out.size))
  clear hb
  clear x0a x0b x0c x0d x0e x0f x0g x0h x0i
  have SN := Lib.hid (msSm_of Hsb.out.symm OKN.out)
  obtain ⟨rf, hrf⟩ : ∃ b, b = mformedM m := ⟨_, rfl⟩
  have HRF := Lib.hid hrf
  clear hrf
  obtain ⟨rg, hrg⟩ : ∃ b, b = mformedM n := ⟨_, rfl⟩
  have HRG := Lib.hid hrg
  clear hrg
  obtain ⟨x0a, x0b, x0c, x0d, x0e, x0f, x0g, x0h, x0i⟩ := MB.out.c
  have K := Lib.hid (mputP MB.out.is SM.out.p SM.out.n (by have := SM.out.i; omega) (by have := SM.out.t; omega))
  cases rf
  · go_wp2_with fail
    refine K.out.mono ?_
    intro e u6 hg
    obtain rfl := hg.2.1 HRF.out.symm
    have hb := hg.2.2
    replace MB := Lib.hid (MB.out.below hb)
    replace NB := Lib.hid (NB.out.below hb)
    replace G := Lib.hid (G.out.trans (hb.mono G.out.size))
    clear hb hg K
    clear x0a x0b x0c x0d x0e x0f x0g x0h x0i
    obtain ⟨x0a, x0b, x0c, x0d, x0e, x0f, x0g, x0h, x0i⟩ := NB.out.c
    have K := Lib.hid (mputP NB.out.is SN.out.p SN.out.n (by have := SN.out.i; omega) (by have := SN.out.t; omega))
    cases rg
    · go_wp2_with fail
      refine K.out.mono ?_
      intro e u7 hg
      obtain rfl := hg.2.1 HRG.out.symm
      have hb := hg.2.2
      replace MB := Lib.hid (MB.out.below hb)
      replace NB := Lib.hid (NB.out.below hb)
      replace G := Lib.hid (G.out.trans (hb.mono G.out.size))
      clear hb hg K
      clear x0a x0b x0c x0d x0e x0f x0g x0h x0i
      go_upto_region 7 with fail
      have KE : Hid (∀ u, Below u7.heap.size u7 u → Below u7.heap.size u7 u ∧ (u.cell? ⟨g0, 0, none⟩ = some (.int .i64 m.kind) ∧ u.cell? ⟨g0, 1, none⟩ = some (.int .i64 m.ticket) ∧ u.cell? ⟨g0, 2, none⟩ = some (.bool m.whole) ∧ u.cell? ⟨g0, 3, none⟩ = some (.slice va vn vc) ∧ u.cell? ⟨g0, 4, none⟩ = some (.slice fa fn fc) ∧ u.cell? ⟨g0, 5, none⟩ = some (.slice za zn zc) ∧ u.cell? ⟨g0, 6, none⟩ = some (.slice na nn nc) ∧ u.cell? ⟨g0, 7, none⟩ = some (.slice ia im ic) ∧ u.cell? ⟨g0, 8, none⟩ = some (.slice la ln lc)) ∧ u.cell? ⟨g0 + 1, 0, none⟩ = some (.int .i64 n.kind) ∧ u.cell? ⟨g0 + 1, 1, none⟩ = some (.int .i64 n.ticket) ∧ u.cell? ⟨g0 + 1, 2, none⟩ = some (.bool n.whole) ∧ u.cell? ⟨g0 + 1, 3, none⟩ = some (.slice vaq vnq vcq) ∧ u.cell? ⟨g0 + 1, 4, none⟩ = some (.slice faq fnq fcq) ∧ u.cell? ⟨g0 + 1, 5, none⟩ = some (.slice zaq znq zcq) ∧ u.cell? ⟨g0 + 1, 6, none⟩ = some (.slice naq nnq ncq) ∧ u.cell? ⟨g0 + 1, 7, none⟩ = some (.slice iaq imq icq) ∧ u.cell? ⟨g0 + 1, 8, none⟩ = some (.slice laq lnq lcq)) := Lib.hid (fun u hb => ⟨hb, (MB.out.below hb).c, (NB.out.below hb).c⟩)
      refine wp_region_held_drew (S := fun u' => Below u7.heap.size u7 u' ∧ (u'.cell? ⟨g0, 0, none⟩ = some (.int .i64 m.kind) ∧ u'.cell? ⟨g0, 1, none⟩ = some (.int .i64 m.ticket) ∧ u'.cell? ⟨g0, 2, none⟩ = some (.bool m.whole) ∧ u'.cell? ⟨g0, 3, none⟩ = some (.slice va vn vc) ∧ u'.cell? ⟨g0, 4, none⟩ = some (.slice fa fn fc) ∧ u'.cell? ⟨g0, 5, none⟩ = some (.slice za zn zc) ∧ u'.cell? ⟨g0, 6, none⟩ = some (.slice na nn nc) ∧ u'.cell? ⟨g0, 7, none⟩ = some (.slice ia im ic) ∧ u'.cell? ⟨g0, 8, none⟩ = some (.slice la ln lc)) ∧ u'.cell? ⟨g0 + 1, 0, none⟩ = some (.int .i64 n.kind) ∧ u'.cell? ⟨g0 + 1, 1, none⟩ = some (.int .i64 n.ticket) ∧ u'.cell? ⟨g0 + 1, 2, none⟩ = some (.bool n.whole) ∧ u'.cell? ⟨g0 + 1, 3, none⟩ = some (.slice vaq vnq vcq) ∧ u'.cell? ⟨g0 + 1, 4, none⟩ = some (.slice faq fnq fcq) ∧ u'.cell? ⟨g0 + 1, 5, none⟩ = some (.slice zaq znq zcq) ∧ u'.cell? ⟨g0 + 1, 6, none⟩ = some (.slice naq nnq ncq) ∧ u'.cell? ⟨g0 + 1, 7, none⟩ = some (.slice iaq imq icq) ∧ u'.cell? ⟨g0 + 1, 8, none⟩ = some (.slice laq lnq lcq)) (by kernel_rfl) ?_ (fun hHeld => ?_)
      · (exact KE.out _ (Below.refl _ _).drew)
      simp only [List.size_toArray, List.length_cons, List.length_nil, Nat.zero_add, Nat.reduceAdd]
      refine tkB (i := 0) hHeld ?_
      refine tkB (i := 1) hHeld ?_
      refine tkB (i := 2) hHeld ?_
      refine tkS (i := 3) hHeld ?_
      refine tkS (i := 4) hHeld ?_
      refine tkB (i := 5) hHeld ?_
      refine tkB (i := 6) hHeld ?_
      refine tkS (i := 7) hHeld ?_
      refine tkS (i := 8) hHeld ?_
      refine tkS (i := 9) hHeld ?_
      refine tkS (i := 10) hHeld ?_
      refine tkS (i := 11) hHeld ?_
      refine tkS (i := 12) hHeld ?_
      refine tkS (i := 13) hHeld ?_
      refine tkB (i := 14) hHeld ?_
      refine tkB (i := 15) hHeld ?_
      refine wpAnyH_done (by kernel_rfl) ?_ _
      have hb := hHeld.1
      clear hHeld KE
      replace MB := Lib.hid (MB.out.below hb)
      replace NB := Lib.hid (NB.out.below hb)
      replace G := Lib.hid (G.out.trans (hb.mono G.out.size))
      clear hb
      go_wp2_with fail
      go_ret
      first | exact ⟨rfl, G.out⟩ | exact ⟨rfl, hg0 ▸ G.out⟩
    go_wp2_with fail
    refine K.out.mono ?_
    intro e u7 hg
    obtain ⟨bv, rfl, ho⟩ := hg.1 HRG.out.symm
    have hb := hg.2.2
    have SD := Lib.hid ho.seq
    obtain ⟨da, dc, rfl, -, -, -, -⟩ := ho.parts
    replace MB := Lib.hid (MB.out.below hb)
    replace NB := Lib.hid (NB.out.below hb)
    replace G := Lib.hid (G.out.trans (hb.mono G.out.size))
    clear hb hg ho K
    clear x0a x0b x0c x0d x0e x0f x0g x0h x0i
    generalize (pmsg n).length = dl at *
    go_upto_region 7 with fail
    have KE : Hid (∀ u, Below u7.heap.size u7 u → Below u7.heap.size u7 u ∧ (u.cell? ⟨g0, 0, none⟩ = some (.int .i64 m.kind) ∧ u.cell? ⟨g0, 1, none⟩ = some (.int .i64 m.ticket) ∧ u.cell? ⟨g0, 2, none⟩ = some (.bool m.whole) ∧ u.cell? ⟨g0, 3, none⟩ = some (.slice va vn vc) ∧ u.cell? ⟨g0, 4, none⟩ = some (.slice fa fn fc) ∧ u.cell? ⟨g0, 5, none⟩ = some (.slice za zn zc) ∧ u.cell? ⟨g0, 6, none⟩ = some (.slice na nn nc) ∧ u.cell? ⟨g0, 7, none⟩ = some (.slice ia im ic) ∧ u.cell? ⟨g0, 8, none⟩ = some (.slice la ln lc)) ∧ u.cell? ⟨g0 + 1, 0, none⟩ = some (.int .i64 n.kind) ∧ u.cell? ⟨g0 + 1, 1, none⟩ = some (.int .i64 n.ticket) ∧ u.cell? ⟨g0 + 1, 2, none⟩ = some (.bool n.whole) ∧ u.cell? ⟨g0 + 1, 3, none⟩ = some (.slice vaq vnq vcq) ∧ u.cell? ⟨g0 + 1, 4, none⟩ = some (.slice faq fnq fcq) ∧ u.cell? ⟨g0 + 1, 5, none⟩ = some (.slice zaq znq zcq) ∧ u.cell? ⟨g0 + 1, 6, none⟩ = some (.slice naq nnq ncq) ∧ u.cell? ⟨g0 + 1, 7, none⟩ = some (.slice iaq imq icq) ∧ u.cell? ⟨g0 + 1, 8, none⟩ = some (.slice laq lnq lcq)) := Lib.hid (fun u hb => ⟨hb, (MB.out.below hb).c, (NB.out.below hb).c⟩)
    refine wp_region_held_drew (S := fun u' => Below u7.heap.size u7 u' ∧ (u'.cell? ⟨g0, 0, none⟩ = some (.int .i64 m.kind) ∧ u'.cell? ⟨g0, 1, none⟩ = some (.int .i64 m.ticket) ∧ u'.cell? ⟨g0, 2, none⟩ = some (.bool m.whole) ∧ u'.cell? ⟨g0, 3, none⟩ = some (.slice va vn vc) ∧ u'.cell? ⟨g0, 4, none⟩ = some (.slice fa fn fc) ∧ u'.cell? ⟨g0, 5, none⟩ = some (.slice za zn zc) ∧ u'.cell? ⟨g0, 6, none⟩ = some (.slice na nn nc) ∧ u'.cell? ⟨g0, 7, none⟩ = some (.slice ia im ic) ∧ u'.cell? ⟨g0, 8, none⟩ = some (.slice la ln lc)) ∧ u'.cell? ⟨g0 + 1, 0, none⟩ = some (.int .i64 n.kind) ∧ u'.cell? ⟨g0 + 1, 1, none⟩ = some (.int .i64 n.ticket) ∧ u'.cell? ⟨g0 + 1, 2, none⟩ = some (.bool n.whole) ∧ u'.cell? ⟨g0 + 1, 3, none⟩ = some (.slice vaq vnq vcq) ∧ u'.cell? ⟨g0 + 1, 4, none⟩ = some (.slice faq fnq fcq) ∧ u'.cell? ⟨g0 + 1, 5, none⟩ = some (.slice zaq znq zcq) ∧ u'.cell? ⟨g0 + 1, 6, none⟩ = some (.slice naq nnq ncq) ∧ u'.cell? ⟨g0 + 1, 7, none⟩ = some (.slice iaq imq icq) ∧ u'.cell? ⟨g0 + 1, 8, none⟩ = some (.slice laq lnq lcq)) (by kernel_rfl) ?_ (fun hHeld => ?_)
    · (exact KE.out _ (Below.refl _ _).drew)
    simp only [List.size_toArray, List.length_cons, List.length_nil, Nat.zero_add, Nat.reduceAdd]
    refine tkB (i := 0) hHeld ?_
    refine tkB (i := 1) hHeld ?_
    refine tkB (i := 2) hHeld ?_
    refine tkS (i := 3) hHeld ?_
    refine tkS (i := 4) hHeld ?_
    refine tkB (i := 5) hHeld ?_
    refine tkB (i := 6) hHeld ?_
    refine tkS (i := 7) hHeld ?_
    refine tkS (i := 8) hHeld ?_
    refine tkS (i := 9) hHeld ?_
    refine tkS (i := 10) hHeld ?_
    refine tkS (i := 11) hHeld ?_
    refine tkS (i := 12) hHeld ?_
    refine tkS (i := 13) hHeld ?_
    refine tkB (i := 14) hHeld ?_
    refine tkB (i := 15) hHeld ?_
    refine wpAnyH_done (by kernel_rfl) ?_ _
    have hb := hHeld.1
    clear hHeld KE
    replace MB := Lib.hid (MB.out.below hb)
    replace NB := Lib.hid (NB.out.below hb)
    replace SD := Lib.hid (SD.out.below hb)
    replace G := Lib.hid (G.out.trans (hb.mono G.out.size))
    clear hb
    go_wp2_with fail
    go_ret
    first | exact ⟨rfl, G.out⟩ | exact ⟨rfl, hg0 ▸ G.out⟩
  go_wp2_with fail
  refine K.out.mono ?_
  intro e u6 hg
  obtain ⟨bv, rfl, ho⟩ := hg.1 HRF.out.symm
  have hb := hg.2.2
  have SB := Lib.hid ho.seq
  obtain ⟨ba, bc, rfl, -, -, -, -⟩ := ho.parts
  replace MB := Lib.hid (MB.out.below hb)
  replace NB := Lib.hid (NB.out.below hb)
  replace G := Lib.hid (G.out.trans (hb.mono G.out.size))
  clear hb hg ho K
  clear x0a x0b x0c x0d x0e x0f x0g x0h x0i
  have HFS := Lib.hid (form_same (n := n) HRF.out.symm SM.out.n)
  obtain ⟨pm, hpm⟩ : ∃ x, pmsg m = x := ⟨_, rfl⟩
  rw [hpm] at SB HFS ⊢
  clear hpm
  obtain ⟨bn, hbn⟩ : ∃ x, pm.length = x := ⟨_, rfl⟩
  rw [hbn] at SB ⊢
  clear hbn
  obtain ⟨x0a, x0b, x0c, x0d, x0e, x0f, x0g, x0h, x0i⟩ := NB.out.c
  have K := Lib.hid (mputP NB.out.is SN.out.p SN.out.n (by have := SN.out.i; omega) (by have := SN.out.t; omega))
  cases rg
  · go_wp2_with fail
    refine K.out.mono ?_
    intro e u7 hg
    obtain rfl := hg.2.1 HRG.out.symm
    have hb := hg.2.2
    replace MB := Lib.hid (MB.out.below hb)
    replace NB := Lib.hid (NB.out.below hb)
    replace SB := Lib.hid (SB.out.below hb)
    replace G := Lib.hid (G.out.trans (hb.mono G.out.size))
    clear hb hg K
    clear x0a x0b x0c x0d x0e x0f x0g x0h x0i
    go_upto_region 7 with fail
    have KE : Hid (∀ u, Below u7.heap.size u7 u → Below u7.heap.size u7 u ∧ (u.cell? ⟨g0, 0, none⟩ = some (.int .i64 m.kind) ∧ u.cell? ⟨g0, 1, none⟩ = some (.int .i64 m.ticket) ∧ u.cell? ⟨g0, 2, none⟩ = some (.bool m.whole) ∧ u.cell? ⟨g0, 3, none⟩ = some (.slice va vn vc) ∧ u.cell? ⟨g0, 4, none⟩ = some (.slice fa fn fc) ∧ u.cell? ⟨g0, 5, none⟩ = some (.slice za zn zc) ∧ u.cell? ⟨g0, 6, none⟩ = some (.slice na nn nc) ∧ u.cell? ⟨g0, 7, none⟩ = some (.slice ia im ic) ∧ u.cell? ⟨g0, 8, none⟩ = some (.slice la ln lc)) ∧ u.cell? ⟨g0 + 1, 0, none⟩ = some (.int .i64 n.kind) ∧ u.cell? ⟨g0 + 1, 1, none⟩ = some (.int .i64 n.ticket) ∧ u.cell? ⟨g0 + 1, 2, none⟩ = some (.bool n.whole) ∧ u.cell? ⟨g0 + 1, 3, none⟩ = some (.slice vaq vnq vcq) ∧ u.cell? ⟨g0 + 1, 4, none⟩ = some (.slice faq fnq fcq) ∧ u.cell? ⟨g0 + 1, 5, none⟩ = some (.slice zaq znq zcq) ∧ u.cell? ⟨g0 + 1, 6, none⟩ = some (.slice naq nnq ncq) ∧ u.cell? ⟨g0 + 1, 7, none⟩ = some (.slice iaq imq icq) ∧ u.cell? ⟨g0 + 1, 8, none⟩ = some (.slice laq lnq lcq)) := Lib.hid (fun u hb => ⟨hb, (MB.out.below hb).c, (NB.out.below hb).c⟩)
    refine wp_region_held_drew (S := fun u' => Below u7.heap.size u7 u' ∧ (u'.cell? ⟨g0, 0, none⟩ = some (.int .i64 m.kind) ∧ u'.cell? ⟨g0, 1, none⟩ = some (.int .i64 m.ticket) ∧ u'.cell? ⟨g0, 2, none⟩ = some (.bool m.whole) ∧ u'.cell? ⟨g0, 3, none⟩ = some (.slice va vn vc) ∧ u'.cell? ⟨g0, 4, none⟩ = some (.slice fa fn fc) ∧ u'.cell? ⟨g0, 5, none⟩ = some (.slice za zn zc) ∧ u'.cell? ⟨g0, 6, none⟩ = some (.slice na nn nc) ∧ u'.cell? ⟨g0, 7, none⟩ = some (.slice ia im ic) ∧ u'.cell? ⟨g0, 8, none⟩ = some (.slice la ln lc)) ∧ u'.cell? ⟨g0 + 1, 0, none⟩ = some (.int .i64 n.kind) ∧ u'.cell? ⟨g0 + 1, 1, none⟩ = some (.int .i64 n.ticket) ∧ u'.cell? ⟨g0 + 1, 2, none⟩ = some (.bool n.whole) ∧ u'.cell? ⟨g0 + 1, 3, none⟩ = some (.slice vaq vnq vcq) ∧ u'.cell? ⟨g0 + 1, 4, none⟩ = some (.slice faq fnq fcq) ∧ u'.cell? ⟨g0 + 1, 5, none⟩ = some (.slice zaq znq zcq) ∧ u'.cell? ⟨g0 + 1, 6, none⟩ = some (.slice naq nnq ncq) ∧ u'.cell? ⟨g0 + 1, 7, none⟩ = some (.slice iaq imq icq) ∧ u'.cell? ⟨g0 + 1, 8, none⟩ = some (.slice laq lnq lcq)) (by kernel_rfl) ?_ (fun hHeld => ?_)
    · (exact KE.out _ (Below.refl _ _).drew)
    simp only [List.size_toArray, List.length_cons, List.length_nil, Nat.zero_add, Nat.reduceAdd]
    refine tkB (i := 0) hHeld ?_
    refine tkB (i := 1) hHeld ?_
    refine tkB (i := 2) hHeld ?_
    refine tkB (i := 3) hHeld ?_
    refine tkB (i := 4) hHeld ?_
    refine tkB (i := 5) hHeld ?_
    refine tkB (i := 6) hHeld ?_
    refine tkS (i := 7) hHeld ?_
    refine tkS (i := 8) hHeld ?_
    refine tkS (i := 9) hHeld ?_
    refine tkS (i := 10) hHeld ?_
    refine tkS (i := 11) hHeld ?_
    refine tkS (i := 12) hHeld ?_
    refine tkS (i := 13) hHeld ?_
    refine tkB (i := 14) hHeld ?_
    refine tkB (i := 15) hHeld ?_
    refine wpAnyH_done (by kernel_rfl) ?_ _
    have hb := hHeld.1
    clear hHeld KE
    replace MB := Lib.hid (MB.out.below hb)
    replace NB := Lib.hid (NB.out.below hb)
    replace SB := Lib.hid (SB.out.below hb)
    replace G := Lib.hid (G.out.trans (hb.mono G.out.size))
    clear hb
    go_wp2_with fail
    go_ret
    first | exact ⟨rfl, G.out⟩ | exact ⟨rfl, hg0 ▸ G.out⟩
  go_wp2_with fail
  refine K.out.mono ?_
  intro e u7 hg
  obtain ⟨bv, rfl, ho⟩ := hg.1 HRG.out.symm
  have hb := hg.2.2
  have SD := Lib.hid ho.seq
  obtain ⟨da, dc, rfl, -, -, -, -⟩ := ho.parts
  replace MB := Lib.hid (MB.out.below hb)
  replace NB := Lib.hid (NB.out.below hb)
  replace SB := Lib.hid (SB.out.below hb)
  replace G := Lib.hid (G.out.trans (hb.mono G.out.size))
  clear hb hg ho K
  clear x0a x0b x0c x0d x0e x0f x0g x0h x0i
  replace HFS := Lib.hid (HFS.out HRG.out.symm SN.out.n)
  obtain ⟨pn, hpn⟩ : ∃ x, pmsg n = x := ⟨_, rfl⟩
  rw [hpn] at SD HFS ⊢
  clear hpn
  obtain ⟨dn, hdn⟩ : ∃ x, pn.length = x := ⟨_, rfl⟩
  rw [hdn] at SD ⊢
  clear hdn
  obtain ⟨rr, hrr⟩ : ∃ b, b = decide (m = n) := ⟨_, rfl⟩
  rw [← hrr] at HFS
  have HRR := Lib.hid hrr
  clear hrr
  have K1 := Lib.hid (fun u (hb : Below u7.heap.size u7 u) => rsameBys (SB.out.below hb) (SD.out.below hb) rr HFS.out)
  have K2 := Lib.hid (fun u (hb : Below u7.heap.size u7 u) => msameR (MB.out.below hb).is (NB.out.below hb).is (by have := SM.out.t; omega) rr HRR.out.symm)
  go_upto_region 7 with fail
  have KE : Hid (∀ u, Below u7.heap.size u7 u → Below u7.heap.size u7 u ∧ (u.cell? ⟨g0, 0, none⟩ = some (.int .i64 m.kind) ∧ u.cell? ⟨g0, 1, none⟩ = some (.int .i64 m.ticket) ∧ u.cell? ⟨g0, 2, none⟩ = some (.bool m.whole) ∧ u.cell? ⟨g0, 3, none⟩ = some (.slice va vn vc) ∧ u.cell? ⟨g0, 4, none⟩ = some (.slice fa fn fc) ∧ u.cell? ⟨g0, 5, none⟩ = some (.slice za zn zc) ∧ u.cell? ⟨g0, 6, none⟩ = some (.slice na nn nc) ∧ u.cell? ⟨g0, 7, none⟩ = some (.slice ia im ic) ∧ u.cell? ⟨g0, 8, none⟩ = some (.slice la ln lc)) ∧ u.cell? ⟨g0 + 1, 0, none⟩ = some (.int .i64 n.kind) ∧ u.cell? ⟨g0 + 1, 1, none⟩ = some (.int .i64 n.ticket) ∧ u.cell? ⟨g0 + 1, 2, none⟩ = some (.bool n.whole) ∧ u.cell? ⟨g0 + 1, 3, none⟩ = some (.slice vaq vnq vcq) ∧ u.cell? ⟨g0 + 1, 4, none⟩ = some (.slice faq fnq fcq) ∧ u.cell? ⟨g0 + 1, 5, none⟩ = some (.slice zaq znq zcq) ∧ u.cell? ⟨g0 + 1, 6, none⟩ = some (.slice naq nnq ncq) ∧ u.cell? ⟨g0 + 1, 7, none⟩ = some (.slice iaq imq icq) ∧ u.cell? ⟨g0 + 1, 8, none⟩ = some (.slice laq lnq lcq)) := Lib.hid (fun u hb => ⟨hb, (MB.out.below hb).c, (NB.out.below hb).c⟩)
  refine wp_region_held_drew (S := fun u' => Below u7.heap.size u7 u' ∧ (u'.cell? ⟨g0, 0, none⟩ = some (.int .i64 m.kind) ∧ u'.cell? ⟨g0, 1, none⟩ = some (.int .i64 m.ticket) ∧ u'.cell? ⟨g0, 2, none⟩ = some (.bool m.whole) ∧ u'.cell? ⟨g0, 3, none⟩ = some (.slice va vn vc) ∧ u'.cell? ⟨g0, 4, none⟩ = some (.slice fa fn fc) ∧ u'.cell? ⟨g0, 5, none⟩ = some (.slice za zn zc) ∧ u'.cell? ⟨g0, 6, none⟩ = some (.slice na nn nc) ∧ u'.cell? ⟨g0, 7, none⟩ = some (.slice ia im ic) ∧ u'.cell? ⟨g0, 8, none⟩ = some (.slice la ln lc)) ∧ u'.cell? ⟨g0 + 1, 0, none⟩ = some (.int .i64 n.kind) ∧ u'.cell? ⟨g0 + 1, 1, none⟩ = some (.int .i64 n.ticket) ∧ u'.cell? ⟨g0 + 1, 2, none⟩ = some (.bool n.whole) ∧ u'.cell? ⟨g0 + 1, 3, none⟩ = some (.slice vaq vnq vcq) ∧ u'.cell? ⟨g0 + 1, 4, none⟩ = some (.slice faq fnq fcq) ∧ u'.cell? ⟨g0 + 1, 5, none⟩ = some (.slice zaq znq zcq) ∧ u'.cell? ⟨g0 + 1, 6, none⟩ = some (.slice naq nnq ncq) ∧ u'.cell? ⟨g0 + 1, 7, none⟩ = some (.slice iaq imq icq) ∧ u'.cell? ⟨g0 + 1, 8, none⟩ = some (.slice laq lnq lcq)) (by kernel_rfl) ?_ (fun hHeld => ?_)
  · (exact KE.out _ (Below.refl _ _).drew)
  simp only [List.size_toArray, List.length_cons, List.length_nil, Nat.zero_add, Nat.reduceAdd]
  refine tkB (i := 0) hHeld ?_
  refine tkB (i := 1) hHeld ?_
  refine tkB (i := 2) hHeld ?_
  refine tkB (i := 3) hHeld ?_
  refine tkB (i := 4) hHeld ?_
  refine tkB (i := 5) hHeld ?_
  refine tkB (i := 6) hHeld ?_
  refine tkB (i := 7) hHeld ?_
  refine tkB (i := 8) hHeld ?_
  refine tkB (i := 10) hHeld ?_
  refine tkB (i := 11) hHeld ?_
  refine wpAnyH_ready (rs := [9]) (by kernel_rfl) (by simp) ?_
  refine AllReadyH.cons rfl (fun K hK => ?_) AllReadyH.nil
  go_simp
  refine (K1.out _ hHeld.1).mono ?_
  rintro e s1 ⟨rfl, hb⟩
  refine hK.out _ _ (KE.out _ (holdC hHeld hb)) (fun hHeld => ?_)
  clear hK K hb
  refine wpAnyH_ready (rs := [12]) (by kernel_rfl) (by simp) ?_
  refine AllReadyH.cons rfl (fun K hK => ?_) AllReadyH.nil
  go_simp
  refine (K2.out _ hHeld.1).mono ?_
  rintro e s2 ⟨rfl, hb⟩
  refine hK.out _ _ (KE.out _ (holdC hHeld hb)) (fun hHeld => ?_)
  clear hK K hb
  refine tkB (i := 13) hHeld ?_
  refine tkB (i := 14) hHeld ?_
  refine tkB (i := 15) hHeld ?_
  refine wpAnyH_done (by kernel_rfl) ?_ _
  have hb := hHeld.1
  clear hHeld KE
  replace MB := Lib.hid (MB.out.below hb)
  replace NB := Lib.hid (NB.out.below hb)
  replace SB := Lib.hid (SB.out.below hb)
  replace SD := Lib.hid (SD.out.below hb)
  replace G := Lib.hid (G.out.trans (hb.mono G.out.size))
  clear hb
  go_wp2_with fail
  go_ret
  first | exact ⟨rfl, G.out⟩ | exact ⟨rfl, hg0 ▸ G.out⟩

set_option maxRecDepth 100000 in
theorem lifted (os : Os) (started : os.Started) (H : Type) (enc : TypeId × Value → H) :
    ReturnsInHanded {} Tryz.checked os 6 .any (Rows.msgApartSpec.pre6 enc Tryz.prog Tryz.f6 Rows.msgApartRow.domain false) (Rows.msgApartSpec.post enc Tryz.prog Tryz.f6 false true false false) := by
  refine returnsInHanded_of_change (C := Tryz.checked) own started (by kernel_rfl) Tryz.func6
    (ChangeSpec.witness6 (enc := enc) (C := Tryz.checked) false ⟨#[], #[.agg #[.int .i64 0, .int .i64 0, .bool false, .slice none 0 0, .slice none 0 0, .slice none 0 0, .slice none 0 0, .slice none 0 0, .slice none 0 0], .agg #[.int .i64 0, .int .i64 0, .bool false, .slice none 0 0, .slice none 0 0, .slice none 0 0, .slice none 0 0, .slice none 0 0, .slice none 0 0]], []⟩ 8 (by kernel_rfl) (by kernel_rfl) (by kernel_rfl) (by kernel_rfl)) ?_
  intro W base args ds gs before hval0 hW hcnd _
  have hval : ∀ (j : Nat) t v, Tryz.f6.params[j]? = some t → args[j]? = some v → Value.okWide Tryz.prog W .any base t v := hval0
  have hW' := hW
  obtain ⟨p, q, hA0, hV, rfl, hfz, hnd⟩ := hW
  have hA : DataW.TrodAll enc Tryz.prog W 0 (fun _ => true) true Tryz.f6.params.toList args.toList ds p := hA0
  rw [Tryz.params6] at hA hval
  obtain ⟨v0, vs0, d0, ds0, p0, q0, hargs, rfl, rfl, h0, r0⟩ := trodAll_cons hA
  obtain ⟨v1, vs1, d1, ds1, p1, q1, rfl, rfl, rfl, h1, r1⟩ := trodAll_cons r0
  obtain ⟨rfl, rfl, rfl⟩ := trodAll_nil r1
  obtain rfl : args = #[v0, v1] := by cases args; simp_all
  obtain ⟨rfl, rfl⟩ := trodVars_none hV
  have k0 := h0
  have lt0 : ∀ x ∈ p0, x.block < W.heap.size := by obtain ⟨m, hm⟩ := k0; exact DataW.trod_lt m _ _ _ hm
  have w0 := open0 (hval 0 28 v0 rfl rfl) h0
  have k1 := h1
  have lt1 : ∀ x ∈ p1, x.block < W.heap.size := by obtain ⟨m, hm⟩ := k1; exact DataW.trod_lt m _ _ _ hm
  have w1 := open1 (hval 1 28 v1 rfl rfl) h1
  clear hA0 hval0
  refine (walk v0 v1 W w0 w1).mono fun e W' ⟨he, bel⟩ => ?_
  subst he
  exact ⟨_, rfl, _, _, _, [], _, [], hW', trodAll_mk1 (shut_bool Tryz.underlying4 _), (trodAll_cons_mk (Below.trod laidOut (by kernel_rfl) (of_decide_eq_true (by kernel_rfl)) k0 bel lt0) (trodAll_cons_mk (Below.trod laidOut (by kernel_rfl) (of_decide_eq_true (by kernel_rfl)) k1 bel lt1) trodAll_mk0)), rfl, bel.frame _, fun h => by cases h⟩

theorem over : Rows.msgApartRow.holds Tryz.pinned (OpenSpec.ofChange Rows.msgApartSpec) :=
  OpenClaim.holds_of_wide 6 Tryz.f6 rfl rfl rfl rfl rfl rfl rfl ⟨rfl, rfl, rfl, rfl, rfl⟩ rfl rfl rfl rfl rfl (by kernel_rfl) Tryz.func6 (by kernel_rfl)
    (of_decide_eq_true (by kernel_rfl)) (by unfold Func.isWrapper; first | (rw [if_pos (by decide +kernel)]; kernel_rfl) | (rw [if_neg (by decide +kernel)]; exact ⟨rfl, rfl⟩))
    (fun os started H enc _ => lifted os started H enc)

/-- the given statement -/
theorem proved : Rows.MsgApartSaid := over
#print axioms proved
end Go.Proofs.YtfapkepfngddlaaGreat.msgApart
