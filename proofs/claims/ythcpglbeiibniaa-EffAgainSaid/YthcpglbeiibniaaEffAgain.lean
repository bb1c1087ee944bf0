/-
  For any items, any two numbers and any effects the law EffAgain answers true: done once more right effects change nothing. No condition.
  (The frame was written by the guide's proof-skeleton.mjs, turned for slices of items and of effects; the walk is ours.)
-/
import Derived.Test.YthcpglbeiibniaaRows
import Derived.WalkKit
import Derived.ProofKit
import Derived.OpenShut
import Derived.ShutString
import Derived.ChangeOld
import Derived.Below
import Derived.Test.YthcpglbeiibniaaEW
namespace Go.Proofs.Ythcpglbeiibniaa.effAgain
open Go.ChangeShapes Go.WideShapes Go.ChangeAt Go.RowKit
open Go.ChangeMaps (open_string shut_string)
set_option linter.unusedVariables false

theorem own : ownKnob Try.prog.godebug = none := by kernel_rfl
theorem laidOut : laidOutB Try.prog = true := by kernel_rfl

open Plain

set_option maxRecDepth 100000 in
theorem open0 {H : Type} {enc : TypeId × Value → H} {W : World} {r : Reach} {b : Nat} {v : Value} {d : DataW H} {p : List MemPlace} (hv : Value.okWide Try.prog W r b 22 v) (h : DataW.Trod enc Try.prog W 0 (fun _ => true) true 22 v d p) : IsItems W v := items_of_trod hv h
set_option maxRecDepth 100000 in
theorem open3 {H : Type} {enc : TypeId × Value → H} {W : World} {r : Reach} {b : Nat} {v : Value} {d : DataW H} {p : List MemPlace} (hv : Value.okWide Try.prog W r b 23 v) (h : DataW.Trod enc Try.prog W 0 (fun _ => true) true 23 v d p) : IsEffs W v := effs_of_trod hv h

set_option maxRecDepth 100000 in
set_option maxHeartbeats 16000000 in
theorem walk (v0 : Value) (x1 : Int) (x2 : Int) (v3 : Value) (w : World) (w0 : IsItems w v0) (w1 : (Lit.int .i64 x1).wf = true) (w2 : (Lit.int .i64 x2).wf = true) (w3 : IsEffs w v3) :
    Calls Try.prog 4 #[v0, .int .i64 x1, .int .i64 x2, v3] w fun e w' => e = .returned (.bool true) ∧ Below w.heap.size w w' := by
  obtain ⟨xs, s0, q0⟩ := w0
  have Q0 := Lib.hid q0
  have Sxs := Lib.hid s0
  clear s0 q0
  obtain ⟨l, s3, q3⟩ := w3
  have Q3 := Lib.hid q3
  have Sl := Lib.hid s3
  clear s3 q3
  have G := Lib.hid (Below.refl w.heap.size w)
  have OK := Lib.hid (effsOk_of w1 w2 Q3.out)
  obtain ⟨ax, cx, hvx, -, -, -, -⟩ := Sxs.out.parts
  subst hvx
  obtain ⟨al, cl, hvl, -, -, -, -⟩ := Sl.out.parts
  subst hvl
  go_enter Try.func4, Try.ntmps4
  go_wp2_with fail
  refine (awake_any _).mono ?_
  rintro e u2 ⟨rfl, hb⟩
  replace Sxs := Lib.hid (Sxs.out.below hb)
  replace Sl := Lib.hid (Sl.out.below hb)
  replace G := Lib.hid (G.out.trans (hb.mono G.out.size))
  clear hb
  cases hA : shortE l with
  | false =>
    go_wp2_with fail
    refine (rshortER Sl.out hA).mono ?_
    rintro e u3 ⟨rfl, hb⟩
    replace Sxs := Lib.hid (Sxs.out.below hb)
    replace Sl := Lib.hid (Sl.out.below hb)
    replace G := Lib.hid (G.out.trans (hb.mono G.out.size))
    clear hb
    go_wp2_with fail
    go_ret
    exact ⟨rfl, G.out⟩
  | true =>
    go_wp2_with fail
    refine (rshortER Sl.out hA).mono ?_
    rintro e u3 ⟨rfl, hb⟩
    replace Sxs := Lib.hid (Sxs.out.below hb)
    replace Sl := Lib.hid (Sl.out.below hb)
    replace G := Lib.hid (G.out.trans (hb.mono G.out.size))
    clear hb
    have ME := Lib.hid (smallE_of hA)
    clear hA
    cases hA : shortI xs with
    | false =>
      go_wp2_with fail
      refine (rshortR Sxs.out hA).mono ?_
      rintro e u4 ⟨rfl, hb⟩
      replace Sxs := Lib.hid (Sxs.out.below hb)
      replace Sl := Lib.hid (Sl.out.below hb)
      replace G := Lib.hid (G.out.trans (hb.mono G.out.size))
      clear hb
      go_wp2_with fail
      go_ret
      exact ⟨rfl, G.out⟩
    | true =>
      go_wp2_with fail
      refine (rshortR Sxs.out hA).mono ?_
      rintro e u4 ⟨rfl, hb⟩
      replace Sxs := Lib.hid (Sxs.out.below hb)
      replace Sl := Lib.hid (Sl.out.below hb)
      replace G := Lib.hid (G.out.trans (hb.mono G.out.size))
      clear hb
      have MX := Lib.hid (fitI_of hA Q0.out)
      have MD := Lib.hid (fitI_do (node := x1) (seq := x2) (l := l) ⟨by have := (shortI_iff.1 hA).1; omega, MX.out.2⟩ ME.out OK.out)
      clear hA
      cases hA : rightB x1 x2 l with
      | false =>
        go_wp2_with fail
        refine (erightR Sl.out ME.out hA).mono ?_
        rintro e u5 ⟨rfl, hb⟩
        replace Sxs := Lib.hid (Sxs.out.below hb)
        replace Sl := Lib.hid (Sl.out.below hb)
        replace G := Lib.hid (G.out.trans (hb.mono G.out.size))
        clear hb
        go_wp2_with fail
        go_ret
        exact ⟨rfl, G.out⟩
      | true =>
        go_wp2_with fail
        refine (erightR Sl.out ME.out hA).mono ?_
        rintro e u5 ⟨rfl, hb⟩
        replace Sxs := Lib.hid (Sxs.out.below hb)
        replace Sl := Lib.hid (Sl.out.below hb)
        replace G := Lib.hid (G.out.trans (hb.mono G.out.size))
        clear hb
        clear hA
        cases hA : hasB xs x1 x2 with
        | true =>
          go_wp2_with fail
          refine (hasR Sxs.out MX.out.1 hA).mono ?_
          rintro e u6 ⟨rfl, hb⟩
          replace Sxs := Lib.hid (Sxs.out.below hb)
          replace Sl := Lib.hid (Sl.out.below hb)
          replace G := Lib.hid (G.out.trans (hb.mono G.out.size))
          clear hb
          go_wp2_with fail
          go_ret
          exact ⟨rfl, G.out⟩
        | false =>
          go_wp2_with fail
          refine (hasR Sxs.out MX.out.1 hA).mono ?_
          rintro e u6 ⟨rfl, hb⟩
          replace Sxs := Lib.hid (Sxs.out.below hb)
          replace Sl := Lib.hid (Sl.out.below hb)
          replace G := Lib.hid (G.out.trans (hb.mono G.out.size))
          clear hb
          clear hA
          go_wp2_with fail
          refine (edoS Sxs.out Sl.out MX.out ME.out OK.out).mono ?_
          rintro e u7 ⟨v7, rfl, hs, hb⟩
          replace Sxs := Lib.hid (Sxs.out.below hb)
          replace Sl := Lib.hid (Sl.out.below hb)
          replace G := Lib.hid (G.out.trans (hb.mono G.out.size))
          have So := Lib.hid hs
          obtain ⟨ao, co, hvo, -, -, -, -⟩ := So.out.parts
          subst hvo
          clear hs hb
          go_wp2_with fail
          refine (edoS So.out Sl.out MD.out ME.out OK.out).mono ?_
          rintro e u8 ⟨v8, rfl, hs, hb⟩
          replace Sxs := Lib.hid (Sxs.out.below hb)
          replace Sl := Lib.hid (Sl.out.below hb)
          replace So := Lib.hid (So.out.below hb)
          replace G := Lib.hid (G.out.trans (hb.mono G.out.size))
          have Sy := Lib.hid hs
          obtain ⟨ay, cy, hvy, -, -, -, -⟩ := Sy.out.parts
          subst hvy
          clear hs hb
          go_wp2_with fail
          refine (rsame_eq Sy.out So.out edo_again).mono ?_
          rintro e u9 ⟨rfl, hb⟩
          replace Sxs := Lib.hid (Sxs.out.below hb)
          replace Sl := Lib.hid (Sl.out.below hb)
          replace So := Lib.hid (So.out.below hb)
          replace Sy := Lib.hid (Sy.out.below hb)
          replace G := Lib.hid (G.out.trans (hb.mono G.out.size))
          clear hb
          go_wp2_with fail
          go_ret
          exact ⟨rfl, G.out⟩

set_option maxRecDepth 100000 in
theorem lifted (os : Os) (started : os.Started) (H : Type) (enc : TypeId × Value → H) :
    ReturnsInHanded {} Try.checked os 4 .any (Rows.effAgainSpec.pre6 enc Try.prog Try.f4 Rows.effAgainRow.domain false) (Rows.effAgainSpec.post enc Try.prog Try.f4 false true false false) := by
  refine returnsInHanded_of_change (C := Try.checked) own started (by kernel_rfl) Try.func4
    (ChangeSpec.witness6 (enc := enc) (C := Try.checked) false ⟨#[], #[.slice none 0 0, .int .i64 0, .int .i64 0, .slice none 0 0], []⟩ 8 (by kernel_rfl) (by kernel_rfl) (by kernel_rfl) (by kernel_rfl)) ?_
  intro W base args ds gs before hval0 hW hcnd _
  have hval : ∀ (j : Nat) t v, Try.f4.params[j]? = some t → args[j]? = some v → Value.okWide Try.prog W .any base t v := hval0
  have hW' := hW
  obtain ⟨p, q, hA0, hV, rfl, hfz, hnd⟩ := hW
  have hA : DataW.TrodAll enc Try.prog W 0 (fun _ => true) true Try.f4.params.toList args.toList ds p := hA0
  rw [Try.params4] at hA hval
  obtain ⟨v0, vs0, d0, ds0, p0, q0, hargs, rfl, rfl, h0, r0⟩ := trodAll_cons hA
  obtain ⟨v1, vs1, d1, ds1, p1, q1, rfl, rfl, rfl, h1, r1⟩ := trodAll_cons r0
  obtain ⟨v2, vs2, d2, ds2, p2, q2, rfl, rfl, rfl, h2, r2⟩ := trodAll_cons r1
  obtain ⟨v3, vs3, d3, ds3, p3, q3, rfl, rfl, rfl, h3, r3⟩ := trodAll_cons r2
  obtain ⟨rfl, rfl, rfl⟩ := trodAll_nil r3
  obtain rfl : args = #[v0, v1, v2, v3] := by cases args; simp_all
  obtain ⟨rfl, rfl⟩ := trodVars_none hV
  have k0 := h0
  have lt0 : ∀ x ∈ p0, x.block < W.heap.size := by obtain ⟨m, hm⟩ := k0; exact DataW.trod_lt m _ _ _ hm
  have w0 := open0 (hval 0 22 v0 rfl rfl) h0
  obtain ⟨a1, rfl, rfl, rfl, w1⟩ := open_int Try.underlying3 (hval 1 3 v1 rfl rfl) h1
  obtain ⟨a2, rfl, rfl, rfl, w2⟩ := open_int Try.underlying3 (hval 2 3 v2 rfl rfl) h2
  have k3 := h3
  have lt3 : ∀ x ∈ p3, x.block < W.heap.size := by obtain ⟨m, hm⟩ := k3; exact DataW.trod_lt m _ _ _ hm
  have w3 := open3 (hval 3 23 v3 rfl rfl) h3
  clear hA0 hval0
  refine (walk v0 a1 a2 v3 W w0 w1 w2 w3).mono fun e W' ⟨he, bel⟩ => ?_
  subst he
  exact ⟨_, rfl, _, _, _, [], _, [], hW', trodAll_mk1 (shut_bool Try.underlying4 _), (trodAll_cons_mk (Below.trod laidOut (by kernel_rfl) (of_decide_eq_true (by kernel_rfl)) k0 bel lt0) (trodAll_cons_mk (shut_int Try.underlying3 w1) (trodAll_cons_mk (shut_int Try.underlying3 w2) (trodAll_cons_mk (Below.trod laidOut (by kernel_rfl) (of_decide_eq_true (by kernel_rfl)) k3 bel lt3) trodAll_mk0)))), rfl, bel.frame _, fun h => by cases h⟩

theorem over : Rows.effAgainRow.holds Try.pinned (OpenSpec.ofChange Rows.effAgainSpec) :=
  OpenClaim.holds_of_wide 4 Try.f4 rfl rfl rfl rfl rfl rfl rfl ⟨rfl, rfl, rfl, rfl, rfl⟩ rfl rfl rfl rfl rfl (by kernel_rfl) Try.func4 (by kernel_rfl)
    (of_decide_eq_true (by kernel_rfl)) (by unfold Func.isWrapper; first | (rw [if_pos (by decide +kernel)]; kernel_rfl) | (rw [if_neg (by decide +kernel)]; exact ⟨rfl, rfl⟩))
    (fun os started H enc _ => lifted os started H enc)

/-- the given statement -/
theorem proved : Rows.EffAgainSaid := over
#print axioms proved
end Go.Proofs.Ythcpglbeiibniaa.effAgain
