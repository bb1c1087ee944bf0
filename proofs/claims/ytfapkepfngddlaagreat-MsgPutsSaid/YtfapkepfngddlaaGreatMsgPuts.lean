/-
  For any message the law MsgPuts answers true: any message is formed, and written, as the document says, or refused. No condition.
  (The frame was written by the guide's proof-skeleton.mjs, turned for messages; the walk is ours.)
-/
import Derived.Test.YtfapkepfngddlaaGreatRows
import Derived.WalkKit
import Derived.ProofKit
import Derived.OpenShut
import Derived.ShutString
import Derived.ChangeOld
import Derived.Below
import Derived.Test.YtfapkepfngddlaaGreatMsUse
import Derived.Test.YtfapkepfngddlaaGreatByLibs
import Derived.Test.YtfapkepfngddlaaGreatStItems
import Derived.Test.YtfapkepfngddlaaGreatPaLists
import Derived.Test.YtfapkepfngddlaaGreatMsByt
import Derived.Deep.RegionHeld3
import Derived.Deep.Cut
import Derived.Deep.DeepCutAuto
namespace Go.Proofs.YtfapkepfngddlaaGreat.msgPuts
open Go.ChangeShapes Go.WideShapes Go.ChangeAt Go.RowKit
open Go.ChangeMaps (open_string shut_string)
set_option linter.unusedVariables false

theorem own : ownKnob Tryz.prog.godebug = none := by kernel_rfl
theorem laidOut : laidOutB Tryz.prog = true := by kernel_rfl

set_option maxRecDepth 100000
set_option maxHeartbeats 64000000
open Plain

theorem open0 {H : Type} {enc : TypeId × Value → H} {W : World} {r : Reach} {b : Nat} {v : Value} {d : DataW H} {p : List MemPlace} (hv : Value.okWide Tryz.prog W r b 28 v) (h : DataW.Trod enc Tryz.prog W 0 (fun _ => true) true 28 v d p) : IsMsgA W v := msg_of_trod hv h

theorem walk (v0 : Value) (w : World) (w0 : IsMsgA w v0) :
    Calls Tryz.prog 3 #[v0] w fun e w' => e = .returned (.bool true) ∧ Below w.heap.size w w' := by
  obtain ⟨m, hm, okm⟩ := w0;obtain ⟨va, vn, vc, fa, fn, fc, za, zn, zc, na, nn, nc, ia, im, ic, la, ln, lc, hv0, Hm⟩ := hm.slices;subst hv0;have OKM := zH okm;have hb := zB w (.cells #[.int .i64 m.kind, .int .i64 m.ticket, .bool m.whole, .slice va vn vc, .slice fa fn fc, .slice za zn zc, .slice na nn nc, .slice ia im ic, .slice la ln lc] 28);have MB := zH (msbox_new Hm);have G := zH hb;clear hm okm Hm hb;go_enter Tryz.func3, Tryz.ntmps3
  go_upto_region 1 with fail
  generalize (w.alloc (.cells #[.int .i64 m.kind, .int .i64 m.ticket, .bool m.whole, .slice va vn vc, .slice fa fn fc, .slice za zn zc, .slice na nn nc, .slice ia im ic, .slice la ln lc] 28)) = wB at *;generalize hg0 : w.heap.size = g0 at MB ⊢;go_wp2_with fail
  refine (msawake_any _).mono ?_;rintro e u3 ⟨rfl, hb⟩;replace MB := zH (MB.out.below hb);replace G := zH (G.out.trans (hb.mono G.out.size));clear hb;obtain ⟨sa, hsa⟩ : ∃ b, b = mshortB m := ⟨_, rfl⟩;have Hsa := zH hsa;clear hsa;obtain ⟨x0a, x0b, x0c, x0d, x0e, x0f, x0g, x0h, x0i⟩ := MB.out.c;have K := zH (mshortR MB.out.is sa Hsa.out.symm)
  cases sa
  · go_wp2_with fail
    refine (K.out).mono ?_;rintro e u4 ⟨rfl, hb⟩;clear K;replace MB := zH (MB.out.below hb);replace G := zH (G.out.trans (hb.mono G.out.size));clear hb;clear x0a x0b x0c x0d x0e x0f x0g x0h x0i;go_wp2_with fail
    go_ret
    first | exact ⟨rfl, G.out⟩ | exact ⟨rfl, hg0 ▸ G.out⟩
  go_wp2_with fail
  refine (K.out).mono ?_;rintro e u4 ⟨rfl, hb⟩;clear K;replace MB := zH (MB.out.below hb);replace G := zH (G.out.trans (hb.mono G.out.size));clear hb;clear x0a x0b x0c x0d x0e x0f x0g x0h x0i;have SM := zH (msSm_of Hsa.out.symm OKM.out);obtain ⟨x0a, x0b, x0c, x0d, x0e, x0f, x0g, x0h, x0i⟩ := MB.out.c;have K := zH (mputP MB.out.is SM.out.p SM.out.n (by have := SM.out.i; omega) (by have := SM.out.t; omega));obtain ⟨rf, hrf⟩ : ∃ b, b = mformedM m := ⟨_, rfl⟩;have HRF := zH hrf;clear hrf
  cases rf
  · go_wp2_with fail
    refine K.out.mono ?_;intro e u5 hg;obtain rfl := hg.2.1 HRF.out.symm;have hb := hg.2.2;replace MB := zH (MB.out.below hb);replace G := zH (G.out.trans (hb.mono G.out.size));clear hb hg K;clear x0a x0b x0c x0d x0e x0f x0g x0h x0i;go_upto_region 6 with fail
    have KE : Hid (∀ u, Below u5.heap.size u5 u → Below u5.heap.size u5 u ∧ u.cell? ⟨g0, 0, none⟩ = some (.int .i64 m.kind) ∧ u.cell? ⟨g0, 1, none⟩ = some (.int .i64 m.ticket) ∧ u.cell? ⟨g0, 2, none⟩ = some (.bool m.whole) ∧ u.cell? ⟨g0, 3, none⟩ = some (.slice va vn vc) ∧ u.cell? ⟨g0, 4, none⟩ = some (.slice fa fn fc) ∧ u.cell? ⟨g0, 5, none⟩ = some (.slice za zn zc) ∧ u.cell? ⟨g0, 6, none⟩ = some (.slice na nn nc) ∧ u.cell? ⟨g0, 7, none⟩ = some (.slice ia im ic) ∧ u.cell? ⟨g0, 8, none⟩ = some (.slice la ln lc)) := zH (fun u hb => ⟨hb, (MB.out.below hb).c⟩);have K1 := zH (fun u (hb : Below u5.heap.size u5 u) => mformedP (MB.out.below hb).is SM.out.p false HRF.out.symm);have K2 := zH (fun u (hb : Below u5.heap.size u5 u) => mformedR (MB.out.below hb).is SM.out.r false HRF.out.symm);refine wp_region_held_drew (S := fun u' => Below u5.heap.size u5 u' ∧ u'.cell? ⟨g0, 0, none⟩ = some (.int .i64 m.kind) ∧ u'.cell? ⟨g0, 1, none⟩ = some (.int .i64 m.ticket) ∧ u'.cell? ⟨g0, 2, none⟩ = some (.bool m.whole) ∧ u'.cell? ⟨g0, 3, none⟩ = some (.slice va vn vc) ∧ u'.cell? ⟨g0, 4, none⟩ = some (.slice fa fn fc) ∧ u'.cell? ⟨g0, 5, none⟩ = some (.slice za zn zc) ∧ u'.cell? ⟨g0, 6, none⟩ = some (.slice na nn nc) ∧ u'.cell? ⟨g0, 7, none⟩ = some (.slice ia im ic) ∧ u'.cell? ⟨g0, 8, none⟩ = some (.slice la ln lc)) (by kernel_rfl) ?_ (fun hHeld => ?_)
    · (exact KE.out _ (Below.refl _ _).drew)
    simp only [zS, Nat.zero_add, Nat.reduceAdd]
    refine tkB 0 hHeld ?_;refine tkB 2 hHeld ?_;refine rd 1 fun K hK => ?_
    go_simp
    refine (K1.out _ hHeld.1).mono ?_;rintro e s1 ⟨rfl, hb⟩;refine hK.out _ _ (KE.out _ (holdC hHeld hb)) (fun hHeld => ?_);clear hK K hb;refine rd 3 fun K hK => ?_
    go_simp
    refine (K2.out _ hHeld.1).mono ?_;rintro e u6 ⟨rfl, hb⟩;refine hK.out _ _ (KE.out _ (holdC hHeld hb)) (fun hHeld => ?_);clear hK K hb;refine tkB 4 hHeld ?_;refine wpAnyH_done (by kernel_rfl) ?_ _;have hb := hHeld.1;clear hHeld KE K1 K2;replace MB := zH (MB.out.below hb);replace G := zH (G.out.trans (hb.mono G.out.size));clear hb;obtain ⟨x0a, x0b, x0c, x0d, x0e, x0f, x0g, x0h, x0i⟩ := MB.out.c;have K := zH (mformedR MB.out.is SM.out.r false HRF.out.symm);go_wp2_with fail
    refine (K.out).mono ?_;rintro e u7 ⟨rfl, hb⟩;clear K;replace MB := zH (MB.out.below hb);replace G := zH (G.out.trans (hb.mono G.out.size));clear hb;clear x0a x0b x0c x0d x0e x0f x0g x0h x0i;go_wp2_with fail
    go_ret
    first | exact ⟨rfl, G.out⟩ | exact ⟨rfl, hg0 ▸ G.out⟩
  go_wp2_with fail
  refine K.out.mono ?_;intro e u5 hg;obtain ⟨bv, rfl, ho⟩ := hg.1 HRF.out.symm;have hb := hg.2.2;have SB := zH ho.seq;obtain ⟨ba, bc, rfl, -, -, -, -⟩ := ho.parts;replace MB := zH (MB.out.below hb);replace G := zH (G.out.trans (hb.mono G.out.size));clear hb hg ho K;clear x0a x0b x0c x0d x0e x0f x0g x0h x0i;go_upto_region 6 with fail
  have KE : Hid (∀ u, Below u5.heap.size u5 u → Below u5.heap.size u5 u ∧ u.cell? ⟨g0, 0, none⟩ = some (.int .i64 m.kind) ∧ u.cell? ⟨g0, 1, none⟩ = some (.int .i64 m.ticket) ∧ u.cell? ⟨g0, 2, none⟩ = some (.bool m.whole) ∧ u.cell? ⟨g0, 3, none⟩ = some (.slice va vn vc) ∧ u.cell? ⟨g0, 4, none⟩ = some (.slice fa fn fc) ∧ u.cell? ⟨g0, 5, none⟩ = some (.slice za zn zc) ∧ u.cell? ⟨g0, 6, none⟩ = some (.slice na nn nc) ∧ u.cell? ⟨g0, 7, none⟩ = some (.slice ia im ic) ∧ u.cell? ⟨g0, 8, none⟩ = some (.slice la ln lc)) := zH (fun u hb => ⟨hb, (MB.out.below hb).c⟩);have K1 := zH (fun u (hb : Below u5.heap.size u5 u) => mformedP (MB.out.below hb).is SM.out.p true HRF.out.symm);have K2 := zH (fun u (hb : Below u5.heap.size u5 u) => mformedR (MB.out.below hb).is SM.out.r true HRF.out.symm);refine wp_region_held_drew (S := fun u' => Below u5.heap.size u5 u' ∧ u'.cell? ⟨g0, 0, none⟩ = some (.int .i64 m.kind) ∧ u'.cell? ⟨g0, 1, none⟩ = some (.int .i64 m.ticket) ∧ u'.cell? ⟨g0, 2, none⟩ = some (.bool m.whole) ∧ u'.cell? ⟨g0, 3, none⟩ = some (.slice va vn vc) ∧ u'.cell? ⟨g0, 4, none⟩ = some (.slice fa fn fc) ∧ u'.cell? ⟨g0, 5, none⟩ = some (.slice za zn zc) ∧ u'.cell? ⟨g0, 6, none⟩ = some (.slice na nn nc) ∧ u'.cell? ⟨g0, 7, none⟩ = some (.slice ia im ic) ∧ u'.cell? ⟨g0, 8, none⟩ = some (.slice la ln lc)) (by kernel_rfl) ?_ (fun hHeld => ?_)
  · (exact KE.out _ (Below.refl _ _).drew)
  simp only [zS, Nat.zero_add, Nat.reduceAdd]
  refine tkB 0 hHeld ?_;refine tkB 2 hHeld ?_;refine rd 1 fun K hK => ?_
  go_simp
  refine (K1.out _ hHeld.1).mono ?_;rintro e s1 ⟨rfl, hb⟩;refine hK.out _ _ (KE.out _ (holdC hHeld hb)) (fun hHeld => ?_);clear hK K hb;refine rd 3 fun K hK => ?_
  go_simp
  refine (K2.out _ hHeld.1).mono ?_;rintro e u6 ⟨rfl, hb⟩;refine hK.out _ _ (KE.out _ (holdC hHeld hb)) (fun hHeld => ?_);clear hK K hb;refine tkB 4 hHeld ?_;refine wpAnyH_done (by kernel_rfl) ?_ _;have hb := hHeld.1;clear hHeld KE K1 K2;replace MB := zH (MB.out.below hb);replace SB := zH (SB.out.below hb);replace G := zH (G.out.trans (hb.mono G.out.size));clear hb;obtain ⟨x0a, x0b, x0c, x0d, x0e, x0f, x0g, x0h, x0i⟩ := MB.out.c;have K := zH (mformedR MB.out.is SM.out.r true HRF.out.symm);go_wp2_with fail
  refine (K.out).mono ?_;rintro e u7 ⟨rfl, hb⟩;clear K;replace MB := zH (MB.out.below hb);replace SB := zH (SB.out.below hb);replace G := zH (G.out.trans (hb.mono G.out.size));clear hb;clear x0a x0b x0c x0d x0e x0f x0g x0h x0i;obtain ⟨x0a, x0b, x0c, x0d, x0e, x0f, x0g, x0h, x0i⟩ := MB.out.c;have K := zH (mbytesR MB.out.is HRF.out.symm SM.out.n (by have := SM.out.i; omega) (by have := SM.out.t; omega) (txns_size SM.out.p SM.out.t HRF.out.symm));go_wp2_with fail
  refine (K.out).mono ?_;rintro e u8 ⟨v2, rfl, ho, hg⟩;have hb := hg.below;have S2 := zH ho.seq;obtain ⟨a2, c2, rfl, -, -, -, -⟩ := ho.parts;clear hg ho K;replace MB := zH (MB.out.below hb);replace SB := zH (SB.out.below hb);replace G := zH (G.out.trans (hb.mono G.out.size));clear hb;clear x0a x0b x0c x0d x0e x0f x0g x0h x0i;have K := zH (rsameBy SB.out S2.out);generalize (pmsg m).length = pl at *;go_wp2_with fail
  refine (K.out).mono ?_;rintro e u9 ⟨rfl, hb⟩;clear K;replace MB := zH (MB.out.below hb);replace SB := zH (SB.out.below hb);replace G := zH (G.out.trans (hb.mono G.out.size));clear hb;go_wp2_with fail
  go_ret
  first | exact ⟨rfl, G.out⟩ | exact ⟨rfl, hg0 ▸ G.out⟩

set_option maxRecDepth 100000 in
theorem lifted (os : Os) (started : os.Started) (H : Type) (enc : TypeId × Value → H) :
    ReturnsInHanded {} Tryz.checked os 3 .any (Rows.msgPutsSpec.pre6 enc Tryz.prog Tryz.f3 Rows.msgPutsRow.domain false) (Rows.msgPutsSpec.post enc Tryz.prog Tryz.f3 false true false false) := by
  refine returnsInHanded_of_change (C := Tryz.checked) own started (by kernel_rfl) Tryz.func3
    (ChangeSpec.witness6 (enc := enc) (C := Tryz.checked) false ⟨#[], #[.agg #[.int .i64 0, .int .i64 0, .bool false, .slice none 0 0, .slice none 0 0, .slice none 0 0, .slice none 0 0, .slice none 0 0, .slice none 0 0]], []⟩ 8 (by kernel_rfl) (by kernel_rfl) (by kernel_rfl) (by kernel_rfl)) ?_
  intro W base args ds gs before hval0 hW hcnd _
  have hval : ∀ (j : Nat) t v, Tryz.f3.params[j]? = some t → args[j]? = some v → Value.okWide Tryz.prog W .any base t v := hval0
  have hW' := hW
  obtain ⟨p, q, hA0, hV, rfl, hfz, hnd⟩ := hW
  have hA : DataW.TrodAll enc Tryz.prog W 0 (fun _ => true) true Tryz.f3.params.toList args.toList ds p := hA0
  rw [Tryz.params3] at hA hval
  obtain ⟨v0, vs0, d0, ds0, p0, q0, hargs, rfl, rfl, h0, r0⟩ := trodAll_cons hA
  obtain ⟨rfl, rfl, rfl⟩ := trodAll_nil r0
  obtain rfl : args = #[v0] := by cases args; simp_all
  obtain ⟨rfl, rfl⟩ := trodVars_none hV
  have k0 := h0
  have lt0 : ∀ x ∈ p0, x.block < W.heap.size := by obtain ⟨m, hm⟩ := k0; exact DataW.trod_lt m _ _ _ hm
  have w0 := open0 (hval 0 28 v0 rfl rfl) h0
  clear hA0 hval0
  refine (walk v0 W w0).mono fun e W' ⟨he, bel⟩ => ?_
  subst he
  exact ⟨_, rfl, _, _, _, [], _, [], hW', trodAll_mk1 (shut_bool Tryz.underlying4 _), (trodAll_cons_mk (Below.trod laidOut (by kernel_rfl) (of_decide_eq_true (by kernel_rfl)) k0 bel lt0) trodAll_mk0), rfl, bel.frame _, fun h => by cases h⟩

theorem over : Rows.msgPutsRow.holds Tryz.pinned (OpenSpec.ofChange Rows.msgPutsSpec) :=
  OpenClaim.holds_of_wide 3 Tryz.f3 rfl rfl rfl rfl rfl rfl rfl ⟨rfl, rfl, rfl, rfl, rfl⟩ rfl rfl rfl rfl rfl (by kernel_rfl) Tryz.func3 (by kernel_rfl)
    (of_decide_eq_true (by kernel_rfl)) (by unfold Func.isWrapper; first | (rw [if_pos (by decide +kernel)]; kernel_rfl) | (rw [if_neg (by decide +kernel)]; exact ⟨rfl, rfl⟩))
    (fun os started H enc _ => lifted os started H enc)

/-- the given statement -/
theorem proved : Rows.MsgPutsSaid := over
#print axioms proved
end Go.Proofs.YtfapkepfngddlaaGreat.msgPuts
