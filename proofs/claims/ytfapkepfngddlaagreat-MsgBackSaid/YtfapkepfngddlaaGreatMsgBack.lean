/-
  For any message the law MsgBack answers true: a message is read as it was written. No condition.
  (The frame was written by the guide's proof-skeleton.mjs, turned for messages; the walk is ours.)
-/
import Derived.Test.YtfapkepfngddlaaGreatRows
import Derived.WalkKit
import Derived.ProofKit
import Derived.OpenShut
import Derived.ShutString
import Derived.ChangeOld
import Derived.Below
import Derived.Test.YtfapkepfngddlaaGreatMsUse
import Derived.Test.YtfapkepfngddlaaGreatMsSame
import Derived.Test.YtfapkepfngddlaaGreatMsPrg
import Derived.Test.YtfapkepfngddlaaGreatTxPuts
import Derived.Test.YtfapkepfngddlaaGreatTxFrm
import Derived.Test.YtfapkepfngddlaaGreatTxUses
import Derived.Deep.RegionHeld3
import Derived.Test.YtfapkepfngddlaaGreatMsForm
import Derived.Deep.Cut
import Derived.Deep.DeepCutAuto
namespace Go.Proofs.YtfapkepfngddlaaGreat.msgBack
open Go.ChangeShapes Go.WideShapes Go.ChangeAt Go.RowKit
open Go.ChangeMaps (open_string shut_string)
set_option linter.unusedVariables false

theorem own : ownKnob Tryz.prog.godebug = none := by kernel_rfl
theorem laidOut : laidOutB Tryz.prog = true := by kernel_rfl

open Plain

set_option maxRecDepth 100000 in
theorem open0 {H : Type} {enc : TypeId × Value → H} {W : World} {r : Reach} {b : Nat} {v : Value} {d : DataW H} {p : List MemPlace} (hv : Value.okWide Tryz.prog W r b 28 v) (h : DataW.Trod enc Tryz.prog W 0 (fun _ => true) true 28 v d p) : IsMsgA W v := msg_of_trod hv h

set_option maxRecDepth 100000 in
set_option maxHeartbeats 32000000 in
theorem walk (v0 : Value) (w : World) (w0 : IsMsgA w v0) :
    Calls Tryz.prog 4 #[v0] w fun e w' => e = .returned (.bool true) ∧ Below w.heap.size w w' := by
  obtain ⟨m, hm, okm⟩ := w0
  obtain ⟨va, vn, vc, fa, fn, fc, za, zn, zc, na, nn, nc, ia, im, ic, la, ln, lc, hv0, Hm⟩ := hm.slices
  subst hv0
  have OKM := Lib.hid okm
  have hb := (Below.refl w.heap.size w).alloc (Nat.le_refl _) (.cells #[.int .i64 m.kind, .int .i64 m.ticket, .bool m.whole, .slice va vn vc, .slice fa fn fc, .slice za zn zc, .slice na nn nc, .slice ia im ic, .slice la ln lc] 28)
  have MB := Lib.hid (msbox_new Hm)
  have G := Lib.hid hb
  clear hm okm Hm hb
  go_enter Tryz.func4, Tryz.ntmps4
  go_upto_region 1 with fail
  generalize (w.alloc (.cells #[.int .i64 m.kind, .int .i64 m.ticket, .bool m.whole, .slice va vn vc, .slice fa fn fc, .slice za zn zc, .slice na nn nc, .slice ia im ic, .slice la ln lc] 28)) = wB at *
  generalize hg0 : w.heap.size = g0 at MB ⊢
  go_wp2_with fail
  refine (msawake_any _).mono ?_
  rintro e u3 ⟨rfl, hb⟩
  replace MB := Lib.hid (MB.out.below hb)
  replace G := Lib.hid (G.out.trans (hb.mono G.out.size))
  clear hb
  obtain ⟨sa, hsa⟩ : ∃ b, b = mshortB m := ⟨_, rfl⟩
  have Hsa := Lib.hid hsa
  clear hsa
  obtain ⟨x0a, x0b, x0c, x0d, x0e, x0f, x0g, x0h, x0i⟩ := MB.out.c
  have K := Lib.hid (mshortR MB.out.is sa Hsa.out.symm)
  cases sa
  · go_wp2_with fail
    refine (K.out).mono ?_
    rintro e u4 ⟨rfl, hb⟩
    clear K
    replace MB := Lib.hid (MB.out.below hb)
    replace G := Lib.hid (G.out.trans (hb.mono G.out.size))
    clear hb
    clear x0a x0b x0c x0d x0e x0f x0g x0h x0i
    go_wp2_with fail
    go_ret
    first | exact ⟨rfl, G.out⟩ | exact ⟨rfl, hg0 ▸ G.out⟩
  go_wp2_with fail
  refine (K.out).mono ?_
  rintro e u4 ⟨rfl, hb⟩
  clear K
  replace MB := Lib.hid (MB.out.below hb)
  replace G := Lib.hid (G.out.trans (hb.mono G.out.size))
  clear hb
  clear x0a x0b x0c x0d x0e x0f x0g x0h x0i
  have SM := Lib.hid (msSm_of Hsa.out.symm OKM.out)
  obtain ⟨rf, hrf⟩ : ∃ b, b = mformedM m := ⟨_, rfl⟩
  have HRF := Lib.hid hrf
  clear hrf
  obtain ⟨x0a, x0b, x0c, x0d, x0e, x0f, x0g, x0h, x0i⟩ := MB.out.c
  have K := Lib.hid (mputP MB.out.is SM.out.p SM.out.n (by have := SM.out.i; omega) (by have := SM.out.t; omega))
  cases rf
  · go_wp2_with fail
    refine K.out.mono ?_
    intro e u5 hg
    obtain rfl := hg.2.1 HRF.out.symm
    have hb := hg.2.2
    replace MB := Lib.hid (MB.out.below hb)
    replace G := Lib.hid (G.out.trans (hb.mono G.out.size))
    clear hb hg K
    clear x0a x0b x0c x0d x0e x0f x0g x0h x0i
    go_wp2_with fail
    go_ret
    first | exact ⟨rfl, G.out⟩ | exact ⟨rfl, hg0 ▸ G.out⟩
  go_wp2_with fail
  refine K.out.mono ?_
  intro e u5 hg
  obtain ⟨bv, rfl, ho⟩ := hg.1 HRF.out.symm
  have hb := hg.2.2
  have SB := Lib.hid ho.seq
  obtain ⟨ba, bc, rfl, -, -, -, -⟩ := ho.parts
  replace MB := Lib.hid (MB.out.below hb)
  replace G := Lib.hid (G.out.trans (hb.mono G.out.size))
  clear hb hg ho K
  clear x0a x0b x0c x0d x0e x0f x0g x0h x0i
  have HRM := Lib.hid (mread_form HRF.out.symm SM.out.n)
  have HPL := Lib.hid (pmsg_len HRF.out.symm SM.out.i SM.out.t)
  generalize pmsg m = pm at *
  have K := Lib.hid (mreadP SB.out (by have := HPL.out; omega) _ HRM.out)
  generalize pm.length = pl at *
  go_wp2_with fail
  refine (K.out).mono ?_
  rintro e u6 ⟨ut, rfl, hu, hb⟩
  replace MB := Lib.hid (MB.out.below hb)
  replace SB := Lib.hid (SB.out.below hb)
  replace G := Lib.hid (G.out.trans (hb.mono G.out.size))
  clear hb
  obtain ⟨vaq, vnq, vcq, faq, fnq, fcq, zaq, znq, zcq, naq, nnq, ncq, iaq, imq, icq, laq, lnq, lcq, hvu, H⟩ := hu.slices
  subst hvu
  have hb := (Below.refl u6.heap.size u6).alloc (Nat.le_refl _) (.cells #[.int .i64 m.kind, .int .i64 m.ticket, .bool m.whole, .slice vaq vnq vcq, .slice faq fnq fcq, .slice zaq znq zcq, .slice naq nnq ncq, .slice iaq imq icq, .slice laq lnq lcq] 28)
  have EB := Lib.hid (msbox_new H)
  replace MB := Lib.hid (MB.out.below hb)
  replace SB := Lib.hid (SB.out.below hb)
  replace G := Lib.hid (G.out.trans (hb.mono G.out.size))
  clear hb H hu K
  go_upto_region 9 with fail
  generalize (u6.alloc (.cells #[.int .i64 m.kind, .int .i64 m.ticket, .bool m.whole, .slice vaq vnq vcq, .slice faq fnq fcq, .slice zaq znq zcq, .slice naq nnq ncq, .slice iaq imq icq, .slice laq lnq lcq] 28)) = wd6 at *
  obtain ⟨x0a, x0b, x0c, x0d, x0e, x0f, x0g, x0h, x0i⟩ := MB.out.c
  obtain ⟨x1a, x1b, x1c, x1d, x1e, x1f, x1g, x1h, x1i⟩ := EB.out.c
  have K := Lib.hid (msameR MB.out.is EB.out.is (by have := SM.out.t; omega) true (decide_eq_true rfl))
  go_wp2_with fail
  refine (K.out).mono ?_
  rintro e u7 ⟨rfl, hb⟩
  clear K
  replace MB := Lib.hid (MB.out.below hb)
  replace SB := Lib.hid (SB.out.below hb)
  replace EB := Lib.hid (EB.out.below hb)
  replace G := Lib.hid (G.out.trans (hb.mono G.out.size))
  clear hb
  clear x0a x0b x0c x0d x0e x0f x0g x0h x0i x1a x1b x1c x1d x1e x1f x1g x1h x1i
  go_wp2_with fail
  go_ret
  first | exact ⟨rfl, G.out⟩ | exact ⟨rfl, hg0 ▸ G.out⟩

set_option maxRecDepth 100000 in
theorem lifted (os : Os) (started : os.Started) (H : Type) (enc : TypeId × Value → H) :
    ReturnsInHanded {} Tryz.checked os 4 .any (Rows.msgBackSpec.pre6 enc Tryz.prog Tryz.f4 Rows.msgBackRow.domain false) (Rows.msgBackSpec.post enc Tryz.prog Tryz.f4 false true false false) := by
  refine returnsInHanded_of_change (C := Tryz.checked) own started (by kernel_rfl) Tryz.func4
    (ChangeSpec.witness6 (enc := enc) (C := Tryz.checked) false ⟨#[], #[.agg #[.int .i64 0, .int .i64 0, .bool false, .slice none 0 0, .slice none 0 0, .slice none 0 0, .slice none 0 0, .slice none 0 0, .slice none 0 0]], []⟩ 8 (by kernel_rfl) (by kernel_rfl) (by kernel_rfl) (by kernel_rfl)) ?_
  intro W base args ds gs before hval0 hW hcnd _
  have hval : ∀ (j : Nat) t v, Tryz.f4.params[j]? = some t → args[j]? = some v → Value.okWide Tryz.prog W .any base t v := hval0
  have hW' := hW
  obtain ⟨p, q, hA0, hV, rfl, hfz, hnd⟩ := hW
  have hA : DataW.TrodAll enc Tryz.prog W 0 (fun _ => true) true Tryz.f4.params.toList args.toList ds p := hA0
  rw [Tryz.params4] at hA hval
  obtain ⟨v0, vs0, d0, ds0, p0, q0, hargs, rfl, rfl, h0, r0⟩ := trodAll_cons hA
  obtain ⟨rfl, rfl, rfl⟩ := trodAll_nil r0
  obtain rfl : args = #[v0] := by cases args; simp_all
  obtain ⟨rfl, rfl⟩ := trodVars_none hV
  have k0 := h0
  have lt0 : ∀ x ∈ p0, x.block < W.heap.size := by obtain ⟨m, hm⟩ := k0; exact DataW.trod_lt m _ _ _ hm
  have w0 := open0 (hval 0 28 v0 rfl rfl) h0
  clear hA0 hval0
  refine (walk v0 W w0).mono fun e W' ⟨he, bel⟩ => ?_
  subst he
  exact ⟨_, rfl, _, _, _, [], _, [], hW', trodAll_mk1 (shut_bool Tryz.underlying4 _), (trodAll_cons_mk (Below.trod laidOut (by kernel_rfl) (of_decide_eq_true (by kernel_rfl)) k0 bel lt0) trodAll_mk0), rfl, bel.frame _, fun h => by cases h⟩

theorem over : Rows.msgBackRow.holds Tryz.pinned (OpenSpec.ofChange Rows.msgBackSpec) :=
  OpenClaim.holds_of_wide 4 Tryz.f4 rfl rfl rfl rfl rfl rfl rfl ⟨rfl, rfl, rfl, rfl, rfl⟩ rfl rfl rfl rfl rfl (by kernel_rfl) Tryz.func4 (by kernel_rfl)
    (of_decide_eq_true (by kernel_rfl)) (by unfold Func.isWrapper; first | (rw [if_pos (by decide +kernel)]; kernel_rfl) | (rw [if_neg (by decide +kernel)]; exact ⟨rfl, rfl⟩))
    (fun os started H enc _ => lifted os started H enc)

/-- the given statement -/
theorem proved : Rows.MsgBackSaid := over
#print axioms proved
end Go.Proofs.YtfapkepfngddlaaGreat.msgBack
