/-
  For any items, any numbers and any two lists of effects the law EffConcurrent answers true: two transactions of which neither takes the other's items away may be done in either order. No condition.
  (The frame was written by the guide's proof-skeleton.mjs, turned for slices of items and of effects; the walk is ours.)
-/
import Derived.Test.YthcpglbeiibniaaRows
import Derived.WalkKit
import Derived.ProofKit
import Derived.OpenShut
import Derived.ShutString
import Derived.ChangeOld
import Derived.Below
import Derived.Test.YthcpglbeiibniaaEW
namespace Go.Proofs.Ythcpglbeiibniaa.effConcurrent
open Go.ChangeShapes Go.WideShapes Go.ChangeAt Go.RowKit
open Go.ChangeMaps (open_string shut_string)
set_option linter.unusedVariables false

theorem own : ownKnob Try.prog.godebug = none := by kernel_rfl
theorem laidOut : laidOutB Try.prog = true := by kernel_rfl

open Plain

set_option maxRecDepth 100000 in
theorem open0 {H : Type} {enc : TypeId × Value → H} {W : World} {r : Reach} {b : Nat} {v : Value} {d : DataW H} {p : List MemPlace} (hv : Value.okWide Try.prog W r b 22 v) (h : DataW.Trod enc Try.prog W 0 (fun _ => true) true 22 v d p) : IsItems W v := items_of_trod hv h
set_option maxRecDepth 100000 in
theorem open3 {H : Type} {enc : TypeId × Value → H} {W : World} {r : Reach} {b : Nat} {v : Value} {d : DataW H} {p : List MemPlace} (hv : Value.okWide Try.prog W r b 23 v) (h : DataW.Trod enc Try.prog W 0 (fun _ => true) true 23 v d p) : IsEffs W v := effs_of_trod hv h
set_option maxRecDepth 100000 in
theorem open6 {H : Type} {enc : TypeId × Value → H} {W : World} {r : Reach} {b : Nat} {v : Value} {d : DataW H} {p : List MemPlace} (hv : Value.okWide Try.prog W r b 23 v) (h : DataW.Trod enc Try.prog W 0 (fun _ => true) true 23 v d p) : IsEffs W v := effs_of_trod hv h

set_option maxRecDepth 100000 in
set_option maxHeartbeats 16000000 in
theorem walk (v0 : Value) (x1 : Int) (x2 : Int) (v3 : Value) (x4 : Int) (x5 : Int) (v6 : Value) (w : World) (w0 : IsItems w v0) (w1 : (Lit.int .i64 x1).wf = true) (w2 : (Lit.int .i64 x2).wf = true) (w3 : IsEffs w v3) (w4 : (Lit.int .i64 x4).wf = true) (w5 : (Lit.int .i64 x5).wf = true) (w6 : IsEffs w v6) :
    Calls Try.prog 3 #[v0, .int .i64 x1, .int .i64 x2, v3, .int .i64 x4, .int .i64 x5, v6] w fun e w' => e = .returned (.bool true) ∧ Below w.heap.size w w' := by
  obtain ⟨xs, s0, q0⟩ := w0
  have Q0 := Lib.hid q0
  have Sxs := Lib.hid s0
  clear s0 q0
  obtain ⟨a, s3, q3⟩ := w3
  have Q3 := Lib.hid q3
  have Sa := Lib.hid s3
  clear s3 q3
  obtain ⟨b, s6, q6⟩ := w6
  have Q6 := Lib.hid q6
  have Sb := Lib.hid s6
  clear s6 q6
  have G := Lib.hid (Below.refl w.heap.size w)
  have OA := Lib.hid (effsOk_of w1 w2 Q3.out)
  have OB := Lib.hid (effsOk_of w4 w5 Q6.out)
  obtain ⟨ax, cx, hvx, -, -, -, -⟩ := Sxs.out.parts
  subst hvx
  obtain ⟨an, cn, hvn, -, -, -, hn⟩ := Sa.out.parts
  subst hvn
  obtain ⟨n, en⟩ : ∃ n, a.length = n := ⟨_, rfl⟩
  replace Sa := Lib.hid hn
  rw [en] at Sa ⊢
  have Nn := Lib.hid en
  clear hn en
  obtain ⟨ak, ck, hvk, -, -, -, hk⟩ := Sb.out.parts
  subst hvk
  obtain ⟨k, ek⟩ : ∃ n, b.length = n := ⟨_, rfl⟩
  replace Sb := Lib.hid hk
  rw [ek] at Sb ⊢
  have Nk := Lib.hid ek
  clear hk ek
  go_enter Try.func3, Try.ntmps3
  go_wp2_with fail
  refine (awake_any _).mono ?_
  rintro e u2 ⟨rfl, hb⟩
  replace Sxs := Lib.hid (Sxs.out.below hb)
  replace Sa := Lib.hid (Sa.out.below hb)
  replace Sb := Lib.hid (Sb.out.below hb)
  replace G := Lib.hid (G.out.trans (hb.mono G.out.size))
  clear hb
  cases hA : shortE a with
  | false =>
    go_wp2_with fail
    refine (rshortER Sa.out hA).mono ?_
    rintro e u3 ⟨rfl, hb⟩
    replace Sxs := Lib.hid (Sxs.out.below hb)
    replace Sa := Lib.hid (Sa.out.below hb)
    replace Sb := Lib.hid (Sb.out.below hb)
    replace G := Lib.hid (G.out.trans (hb.mono G.out.size))
    clear hb
    go_wp2_with fail
    go_ret
    exact ⟨rfl, G.out⟩
  | true =>
    go_wp2_with fail
    refine (rshortER Sa.out hA).mono ?_
    rintro e u3 ⟨rfl, hb⟩
    replace Sxs := Lib.hid (Sxs.out.below hb)
    replace Sa := Lib.hid (Sa.out.below hb)
    replace Sb := Lib.hid (Sb.out.below hb)
    replace G := Lib.hid (G.out.trans (hb.mono G.out.size))
    clear hb
    have MA := Lib.hid (smallE_of hA)
    clear hA
    cases hA : shortE b with
    | false =>
      go_wp2_with fail
      refine (rshortER Sb.out hA).mono ?_
      rintro e u4 ⟨rfl, hb⟩
      replace Sxs := Lib.hid (Sxs.out.below hb)
      replace Sa := Lib.hid (Sa.out.below hb)
      replace Sb := Lib.hid (Sb.out.below hb)
      replace G := Lib.hid (G.out.trans (hb.mono G.out.size))
      clear hb
      go_wp2_with fail
      go_ret
      exact ⟨rfl, G.out⟩
    | true =>
      go_wp2_with fail
      refine (rshortER Sb.out hA).mono ?_
      rintro e u4 ⟨rfl, hb⟩
      replace Sxs := Lib.hid (Sxs.out.below hb)
      replace Sa := Lib.hid (Sa.out.below hb)
      replace Sb := Lib.hid (Sb.out.below hb)
      replace G := Lib.hid (G.out.trans (hb.mono G.out.size))
      clear hb
      have MB := Lib.hid (smallE_of hA)
      clear hA
      cases hA : shortI xs with
      | false =>
        go_wp2_with fail
        refine (rshortR Sxs.out hA).mono ?_
        rintro e u5 ⟨rfl, hb⟩
        replace Sxs := Lib.hid (Sxs.out.below hb)
        replace Sa := Lib.hid (Sa.out.below hb)
        replace Sb := Lib.hid (Sb.out.below hb)
        replace G := Lib.hid (G.out.trans (hb.mono G.out.size))
        clear hb
        go_wp2_with fail
        go_ret
        exact ⟨rfl, G.out⟩
      | true =>
        go_wp2_with fail
        refine (rshortR Sxs.out hA).mono ?_
        rintro e u5 ⟨rfl, hb⟩
        replace Sxs := Lib.hid (Sxs.out.below hb)
        replace Sa := Lib.hid (Sa.out.below hb)
        replace Sb := Lib.hid (Sb.out.below hb)
        replace G := Lib.hid (G.out.trans (hb.mono G.out.size))
        clear hb
        have MX := Lib.hid (fitI_of hA Q0.out)
        have DA := Lib.hid (fitI_do (node := x1) (seq := x2) (l := a) ⟨by have := (shortI_iff.1 hA).1; omega, MX.out.2⟩ MA.out OA.out)
        have DB := Lib.hid (fitI_do (node := x4) (seq := x5) (l := b) ⟨by have := (shortI_iff.1 hA).1; omega, MX.out.2⟩ MB.out OB.out)
        clear hA
        by_cases h1 : x1 = x4
        rotate_left
        · have e1 : (x1 == x4) = false := beq_false_of_ne h1
          clear h1
          cases hA : rightB x1 x2 a with
          | false =>
            go_wp2_with fail
            refine (erightR Sa.out MA.out hA).mono ?_
            rintro e u6 ⟨rfl, hb⟩
            replace Sxs := Lib.hid (Sxs.out.below hb)
            replace Sa := Lib.hid (Sa.out.below hb)
            replace Sb := Lib.hid (Sb.out.below hb)
            replace G := Lib.hid (G.out.trans (hb.mono G.out.size))
            clear hb
            go_wp2_with fail
            go_ret
            exact ⟨rfl, G.out⟩
          | true =>
            go_wp2_with fail
            refine (erightR Sa.out MA.out hA).mono ?_
            rintro e u6 ⟨rfl, hb⟩
            replace Sxs := Lib.hid (Sxs.out.below hb)
            replace Sa := Lib.hid (Sa.out.below hb)
            replace Sb := Lib.hid (Sb.out.below hb)
            replace G := Lib.hid (G.out.trans (hb.mono G.out.size))
            clear hb
            clear hA
            cases hA : rightB x4 x5 b with
            | false =>
              go_wp2_with fail
              refine (erightR Sb.out MB.out hA).mono ?_
              rintro e u7 ⟨rfl, hb⟩
              replace Sxs := Lib.hid (Sxs.out.below hb)
              replace Sa := Lib.hid (Sa.out.below hb)
              replace Sb := Lib.hid (Sb.out.below hb)
              replace G := Lib.hid (G.out.trans (hb.mono G.out.size))
              clear hb
              go_wp2_with fail
              go_ret
              exact ⟨rfl, G.out⟩
            | true =>
              go_wp2_with fail
              refine (erightR Sb.out MB.out hA).mono ?_
              rintro e u7 ⟨rfl, hb⟩
              replace Sxs := Lib.hid (Sxs.out.below hb)
              replace Sa := Lib.hid (Sa.out.below hb)
              replace Sb := Lib.hid (Sb.out.below hb)
              replace G := Lib.hid (G.out.trans (hb.mono G.out.size))
              clear hb
              clear hA
              cases hA : namesB a x4 x5 with
              | true =>
                go_wp2_with fail
                refine (namesR Sa.out MA.out hA).mono ?_
                rintro e u8 ⟨rfl, hb⟩
                replace Sxs := Lib.hid (Sxs.out.below hb)
                replace Sa := Lib.hid (Sa.out.below hb)
                replace Sb := Lib.hid (Sb.out.below hb)
                replace G := Lib.hid (G.out.trans (hb.mono G.out.size))
                clear hb
                go_wp2_with fail
                go_ret
                exact ⟨rfl, G.out⟩
              | false =>
                go_wp2_with fail
                refine (namesR Sa.out MA.out hA).mono ?_
                rintro e u8 ⟨rfl, hb⟩
                replace Sxs := Lib.hid (Sxs.out.below hb)
                replace Sa := Lib.hid (Sa.out.below hb)
                replace Sb := Lib.hid (Sb.out.below hb)
                replace G := Lib.hid (G.out.trans (hb.mono G.out.size))
                clear hb
                have HNA := Lib.hid hA
                clear hA
                cases hA : namesB b x1 x2 with
                | true =>
                  go_wp2_with fail
                  refine (namesR Sb.out MB.out hA).mono ?_
                  rintro e u9 ⟨rfl, hb⟩
                  replace Sxs := Lib.hid (Sxs.out.below hb)
                  replace Sa := Lib.hid (Sa.out.below hb)
                  replace Sb := Lib.hid (Sb.out.below hb)
                  replace G := Lib.hid (G.out.trans (hb.mono G.out.size))
                  clear hb
                  go_wp2_with fail
                  go_ret
                  exact ⟨rfl, G.out⟩
                | false =>
                  go_wp2_with fail
                  refine (namesR Sb.out MB.out hA).mono ?_
                  rintro e u9 ⟨rfl, hb⟩
                  replace Sxs := Lib.hid (Sxs.out.below hb)
                  replace Sa := Lib.hid (Sa.out.below hb)
                  replace Sb := Lib.hid (Sb.out.below hb)
                  replace G := Lib.hid (G.out.trans (hb.mono G.out.size))
                  clear hb
                  have HNB := Lib.hid hA
                  clear hA
                  cases hA : hasB xs x1 x2 with
                  | true =>
                    go_wp2_with fail
                    refine (hasR Sxs.out MX.out.1 hA).mono ?_
                    rintro e u10 ⟨rfl, hb⟩
                    replace Sxs := Lib.hid (Sxs.out.below hb)
                    replace Sa := Lib.hid (Sa.out.below hb)
                    replace Sb := Lib.hid (Sb.out.below hb)
                    replace G := Lib.hid (G.out.trans (hb.mono G.out.size))
                    clear hb
                    go_wp2_with fail
                    go_ret
                    exact ⟨rfl, G.out⟩
                  | false =>
                    go_wp2_with fail
                    refine (hasR Sxs.out MX.out.1 hA).mono ?_
                    rintro e u10 ⟨rfl, hb⟩
                    replace Sxs := Lib.hid (Sxs.out.below hb)
                    replace Sa := Lib.hid (Sa.out.below hb)
                    replace Sb := Lib.hid (Sb.out.below hb)
                    replace G := Lib.hid (G.out.trans (hb.mono G.out.size))
                    clear hb
                    clear hA
                    cases hA : hasB xs x4 x5 with
                    | true =>
                      go_wp2_with fail
                      refine (hasR Sxs.out MX.out.1 hA).mono ?_
                      rintro e u11 ⟨rfl, hb⟩
                      replace Sxs := Lib.hid (Sxs.out.below hb)
                      replace Sa := Lib.hid (Sa.out.below hb)
                      replace Sb := Lib.hid (Sb.out.below hb)
                      replace G := Lib.hid (G.out.trans (hb.mono G.out.size))
                      clear hb
                      go_wp2_with fail
                      go_ret
                      exact ⟨rfl, G.out⟩
                    | false =>
                      go_wp2_with fail
                      refine (hasR Sxs.out MX.out.1 hA).mono ?_
                      rintro e u11 ⟨rfl, hb⟩
                      replace Sxs := Lib.hid (Sxs.out.below hb)
                      replace Sa := Lib.hid (Sa.out.below hb)
                      replace Sb := Lib.hid (Sb.out.below hb)
                      replace G := Lib.hid (G.out.trans (hb.mono G.out.size))
                      clear hb
                      have HE := Lib.hid (edo_either (items := xs) (n := x1) (s := x2) (m := x4) (t := x5) HNA.out HNB.out)
                      clear hA
                      by_cases hn : n = 0
                      rotate_left
                      · have en : ((n : Int) == 0) = false := beq_false_of_ne (by omega)
                        clear hn
                        go_wp2_with fail
                        refine (edoS Sxs.out Sa.out MX.out MA.out OA.out).mono ?_
                        rintro e u12 ⟨v12, rfl, hs, hb⟩
                        replace Sxs := Lib.hid (Sxs.out.below hb)
                        replace Sa := Lib.hid (Sa.out.below hb)
                        replace Sb := Lib.hid (Sb.out.below hb)
                        replace G := Lib.hid (G.out.trans (hb.mono G.out.size))
                        have Sp := Lib.hid hs
                        obtain ⟨ap, cp, hvp, -, -, -, -⟩ := Sp.out.parts
                        subst hvp
                        clear hs hb
                        go_wp2_with fail
                        refine (edoS Sp.out Sb.out DA.out MB.out OB.out).mono ?_
                        rintro e u13 ⟨v13, rfl, hs, hb⟩
                        replace Sxs := Lib.hid (Sxs.out.below hb)
                        replace Sa := Lib.hid (Sa.out.below hb)
                        replace Sb := Lib.hid (Sb.out.below hb)
                        replace Sp := Lib.hid (Sp.out.below hb)
                        replace G := Lib.hid (G.out.trans (hb.mono G.out.size))
                        have Sq := Lib.hid hs
                        obtain ⟨aq, cq, hvq, -, -, -, -⟩ := Sq.out.parts
                        subst hvq
                        clear hs hb
                        go_wp2_with fail
                        refine (edoS Sxs.out Sb.out MX.out MB.out OB.out).mono ?_
                        rintro e u14 ⟨v14, rfl, hs, hb⟩
                        replace Sxs := Lib.hid (Sxs.out.below hb)
                        replace Sa := Lib.hid (Sa.out.below hb)
                        replace Sb := Lib.hid (Sb.out.below hb)
                        replace Sp := Lib.hid (Sp.out.below hb)
                        replace Sq := Lib.hid (Sq.out.below hb)
                        replace G := Lib.hid (G.out.trans (hb.mono G.out.size))
                        have Sr := Lib.hid hs
                        obtain ⟨ar, cr, hvr, -, -, -, -⟩ := Sr.out.parts
                        subst hvr
                        clear hs hb
                        go_wp2_with fail
                        refine (edoS Sr.out Sa.out DB.out MA.out OA.out).mono ?_
                        rintro e u15 ⟨v15, rfl, hs, hb⟩
                        replace Sxs := Lib.hid (Sxs.out.below hb)
                        replace Sa := Lib.hid (Sa.out.below hb)
                        replace Sb := Lib.hid (Sb.out.below hb)
                        replace Sp := Lib.hid (Sp.out.below hb)
                        replace Sq := Lib.hid (Sq.out.below hb)
                        replace Sr := Lib.hid (Sr.out.below hb)
                        replace G := Lib.hid (G.out.trans (hb.mono G.out.size))
                        have Sy := Lib.hid hs
                        obtain ⟨ay, cy, hvy, -, -, -, -⟩ := Sy.out.parts
                        subst hvy
                        clear hs hb
                        go_wp2_with fail
                        refine (rsame_eq Sq.out Sy.out HE.out).mono ?_
                        rintro e u16 ⟨rfl, hb⟩
                        replace Sxs := Lib.hid (Sxs.out.below hb)
                        replace Sa := Lib.hid (Sa.out.below hb)
                        replace Sb := Lib.hid (Sb.out.below hb)
                        replace Sp := Lib.hid (Sp.out.below hb)
                        replace Sq := Lib.hid (Sq.out.below hb)
                        replace Sr := Lib.hid (Sr.out.below hb)
                        replace Sy := Lib.hid (Sy.out.below hb)
                        replace G := Lib.hid (G.out.trans (hb.mono G.out.size))
                        clear hb
                        go_wp2_with fail
                        go_ret
                        exact ⟨rfl, G.out⟩
                      have en : ((n : Int) == 0) = true := by subst hn; rfl
                      by_cases hk : k = 0
                      rotate_left
                      · have ek : ((k : Int) == 0) = false := beq_false_of_ne (by omega)
                        clear hk hn
                        go_wp2_with fail
                        refine (edoS Sxs.out Sa.out MX.out MA.out OA.out).mono ?_
                        rintro e u12 ⟨v12, rfl, hs, hb⟩
                        replace Sxs := Lib.hid (Sxs.out.below hb)
                        replace Sa := Lib.hid (Sa.out.below hb)
                        replace Sb := Lib.hid (Sb.out.below hb)
                        replace G := Lib.hid (G.out.trans (hb.mono G.out.size))
                        have Sp := Lib.hid hs
                        obtain ⟨ap, cp, hvp, -, -, -, -⟩ := Sp.out.parts
                        subst hvp
                        clear hs hb
                        go_wp2_with fail
                        refine (edoS Sp.out Sb.out DA.out MB.out OB.out).mono ?_
                        rintro e u13 ⟨v13, rfl, hs, hb⟩
                        replace Sxs := Lib.hid (Sxs.out.below hb)
                        replace Sa := Lib.hid (Sa.out.below hb)
                        replace Sb := Lib.hid (Sb.out.below hb)
                        replace Sp := Lib.hid (Sp.out.below hb)
                        replace G := Lib.hid (G.out.trans (hb.mono G.out.size))
                        have Sq := Lib.hid hs
                        obtain ⟨aq, cq, hvq, -, -, -, -⟩ := Sq.out.parts
                        subst hvq
                        clear hs hb
                        go_wp2_with fail
                        refine (edoS Sxs.out Sb.out MX.out MB.out OB.out).mono ?_
                        rintro e u14 ⟨v14, rfl, hs, hb⟩
                        replace Sxs := Lib.hid (Sxs.out.below hb)
                        replace Sa := Lib.hid (Sa.out.below hb)
                        replace Sb := Lib.hid (Sb.out.below hb)
                        replace Sp := Lib.hid (Sp.out.below hb)
                        replace Sq := Lib.hid (Sq.out.below hb)
                        replace G := Lib.hid (G.out.trans (hb.mono G.out.size))
                        have Sr := Lib.hid hs
                        obtain ⟨ar, cr, hvr, -, -, -, -⟩ := Sr.out.parts
                        subst hvr
                        clear hs hb
                        go_wp2_with fail
                        refine (edoS Sr.out Sa.out DB.out MA.out OA.out).mono ?_
                        rintro e u15 ⟨v15, rfl, hs, hb⟩
                        replace Sxs := Lib.hid (Sxs.out.below hb)
                        replace Sa := Lib.hid (Sa.out.below hb)
                        replace Sb := Lib.hid (Sb.out.below hb)
                        replace Sp := Lib.hid (Sp.out.below hb)
                        replace Sq := Lib.hid (Sq.out.below hb)
                        replace Sr := Lib.hid (Sr.out.below hb)
                        replace G := Lib.hid (G.out.trans (hb.mono G.out.size))
                        have Sy := Lib.hid hs
                        obtain ⟨ay, cy, hvy, -, -, -, -⟩ := Sy.out.parts
                        subst hvy
                        clear hs hb
                        go_wp2_with fail
                        refine (rsame_eq Sq.out Sy.out HE.out).mono ?_
                        rintro e u16 ⟨rfl, hb⟩
                        replace Sxs := Lib.hid (Sxs.out.below hb)
                        replace Sa := Lib.hid (Sa.out.below hb)
                        replace Sb := Lib.hid (Sb.out.below hb)
                        replace Sp := Lib.hid (Sp.out.below hb)
                        replace Sq := Lib.hid (Sq.out.below hb)
                        replace Sr := Lib.hid (Sr.out.below hb)
                        replace Sy := Lib.hid (Sy.out.below hb)
                        replace G := Lib.hid (G.out.trans (hb.mono G.out.size))
                        clear hb
                        go_wp2_with fail
                        go_ret
                        exact ⟨rfl, G.out⟩
                      have ek : ((k : Int) == 0) = true := by subst hk; rfl
                      have HZ : Hid (edo x1 x2 xs a = xs) := Lib.hid (by rw [List.eq_nil_of_length_eq_zero (show a.length = 0 by rw [Nn.out]; exact hn)]; rfl)
                      clear hk hn
                      go_wp2_with fail
                      refine (edoS Sxs.out Sa.out MX.out MA.out OA.out).mono ?_
                      rintro e u12 ⟨v12, rfl, hs, hb⟩
                      replace Sxs := Lib.hid (Sxs.out.below hb)
                      replace Sa := Lib.hid (Sa.out.below hb)
                      replace Sb := Lib.hid (Sb.out.below hb)
                      replace G := Lib.hid (G.out.trans (hb.mono G.out.size))
                      have Sp := Lib.hid hs
                      obtain ⟨ap, cp, hvp, -, -, -, -⟩ := Sp.out.parts
                      subst hvp
                      clear hs hb
                      go_wp2_with fail
                      refine (rsame_eq Sp.out Sxs.out HZ.out).mono ?_
                      rintro e u13 ⟨rfl, hb⟩
                      replace Sxs := Lib.hid (Sxs.out.below hb)
                      replace Sa := Lib.hid (Sa.out.below hb)
                      replace Sb := Lib.hid (Sb.out.below hb)
                      replace Sp := Lib.hid (Sp.out.below hb)
                      replace G := Lib.hid (G.out.trans (hb.mono G.out.size))
                      clear hb
                      go_wp2_with fail
                      go_ret
                      exact ⟨rfl, G.out⟩
        have e1 : (x1 == x4) = true := beq_iff_eq.2 h1
        by_cases h2 : x2 = x5
        rotate_left
        · have e2 : (x2 == x5) = false := beq_false_of_ne h2
          clear h1 h2
          cases hA : rightB x1 x2 a with
          | false =>
            go_wp2_with fail
            refine (erightR Sa.out MA.out hA).mono ?_
            rintro e u6 ⟨rfl, hb⟩
            replace Sxs := Lib.hid (Sxs.out.below hb)
            replace Sa := Lib.hid (Sa.out.below hb)
            replace Sb := Lib.hid (Sb.out.below hb)
            replace G := Lib.hid (G.out.trans (hb.mono G.out.size))
            clear hb
            go_wp2_with fail
            go_ret
            exact ⟨rfl, G.out⟩
          | true =>
            go_wp2_with fail
            refine (erightR Sa.out MA.out hA).mono ?_
            rintro e u6 ⟨rfl, hb⟩
            replace Sxs := Lib.hid (Sxs.out.below hb)
            replace Sa := Lib.hid (Sa.out.below hb)
            replace Sb := Lib.hid (Sb.out.below hb)
            replace G := Lib.hid (G.out.trans (hb.mono G.out.size))
            clear hb
            clear hA
            cases hA : rightB x4 x5 b with
            | false =>
              go_wp2_with fail
              refine (erightR Sb.out MB.out hA).mono ?_
              rintro e u7 ⟨rfl, hb⟩
              replace Sxs := Lib.hid (Sxs.out.below hb)
              replace Sa := Lib.hid (Sa.out.below hb)
              replace Sb := Lib.hid (Sb.out.below hb)
              replace G := Lib.hid (G.out.trans (hb.mono G.out.size))
              clear hb
              go_wp2_with fail
              go_ret
              exact ⟨rfl, G.out⟩
            | true =>
              go_wp2_with fail
              refine (erightR Sb.out MB.out hA).mono ?_
              rintro e u7 ⟨rfl, hb⟩
              replace Sxs := Lib.hid (Sxs.out.below hb)
              replace Sa := Lib.hid (Sa.out.below hb)
              replace Sb := Lib.hid (Sb.out.below hb)
              replace G := Lib.hid (G.out.trans (hb.mono G.out.size))
              clear hb
              clear hA
              cases hA : namesB a x4 x5 with
              | true =>
                go_wp2_with fail
                refine (namesR Sa.out MA.out hA).mono ?_
                rintro e u8 ⟨rfl, hb⟩
                replace Sxs := Lib.hid (Sxs.out.below hb)
                replace Sa := Lib.hid (Sa.out.below hb)
                replace Sb := Lib.hid (Sb.out.below hb)
                replace G := Lib.hid (G.out.trans (hb.mono G.out.size))
                clear hb
                go_wp2_with fail
                go_ret
                exact ⟨rfl, G.out⟩
              | false =>
                go_wp2_with fail
                refine (namesR Sa.out MA.out hA).mono ?_
                rintro e u8 ⟨rfl, hb⟩
                replace Sxs := Lib.hid (Sxs.out.below hb)
                replace Sa := Lib.hid (Sa.out.below hb)
                replace Sb := Lib.hid (Sb.out.below hb)
                replace G := Lib.hid (G.out.trans (hb.mono G.out.size))
                clear hb
                have HNA := Lib.hid hA
                clear hA
                cases hA : namesB b x1 x2 with
                | true =>
                  go_wp2_with fail
                  refine (namesR Sb.out MB.out hA).mono ?_
                  rintro e u9 ⟨rfl, hb⟩
                  replace Sxs := Lib.hid (Sxs.out.below hb)
                  replace Sa := Lib.hid (Sa.out.below hb)
                  replace Sb := Lib.hid (Sb.out.below hb)
                  replace G := Lib.hid (G.out.trans (hb.mono G.out.size))
                  clear hb
                  go_wp2_with fail
                  go_ret
                  exact ⟨rfl, G.out⟩
                | false =>
                  go_wp2_with fail
                  refine (namesR Sb.out MB.out hA).mono ?_
                  rintro e u9 ⟨rfl, hb⟩
                  replace Sxs := Lib.hid (Sxs.out.below hb)
                  replace Sa := Lib.hid (Sa.out.below hb)
                  replace Sb := Lib.hid (Sb.out.below hb)
                  replace G := Lib.hid (G.out.trans (hb.mono G.out.size))
                  clear hb
                  have HNB := Lib.hid hA
                  clear hA
                  cases hA : hasB xs x1 x2 with
                  | true =>
                    go_wp2_with fail
                    refine (hasR Sxs.out MX.out.1 hA).mono ?_
                    rintro e u10 ⟨rfl, hb⟩
                    replace Sxs := Lib.hid (Sxs.out.below hb)
                    replace Sa := Lib.hid (Sa.out.below hb)
                    replace Sb := Lib.hid (Sb.out.below hb)
                    replace G := Lib.hid (G.out.trans (hb.mono G.out.size))
                    clear hb
                    go_wp2_with fail
                    go_ret
                    exact ⟨rfl, G.out⟩
                  | false =>
                    go_wp2_with fail
                    refine (hasR Sxs.out MX.out.1 hA).mono ?_
                    rintro e u10 ⟨rfl, hb⟩
                    replace Sxs := Lib.hid (Sxs.out.below hb)
                    replace Sa := Lib.hid (Sa.out.below hb)
                    replace Sb := Lib.hid (Sb.out.below hb)
                    replace G := Lib.hid (G.out.trans (hb.mono G.out.size))
                    clear hb
                    clear hA
                    cases hA : hasB xs x4 x5 with
                    | true =>
                      go_wp2_with fail
                      refine (hasR Sxs.out MX.out.1 hA).mono ?_
                      rintro e u11 ⟨rfl, hb⟩
                      replace Sxs := Lib.hid (Sxs.out.below hb)
                      replace Sa := Lib.hid (Sa.out.below hb)
                      replace Sb := Lib.hid (Sb.out.below hb)
                      replace G := Lib.hid (G.out.trans (hb.mono G.out.size))
                      clear hb
                      go_wp2_with fail
                      go_ret
                      exact ⟨rfl, G.out⟩
                    | false =>
                      go_wp2_with fail
                      refine (hasR Sxs.out MX.out.1 hA).mono ?_
                      rintro e u11 ⟨rfl, hb⟩
                      replace Sxs := Lib.hid (Sxs.out.below hb)
                      replace Sa := Lib.hid (Sa.out.below hb)
                      replace Sb := Lib.hid (Sb.out.below hb)
                      replace G := Lib.hid (G.out.trans (hb.mono G.out.size))
                      clear hb
                      have HE := Lib.hid (edo_either (items := xs) (n := x1) (s := x2) (m := x4) (t := x5) HNA.out HNB.out)
                      clear hA
                      by_cases hn : n = 0
                      rotate_left
                      · have en : ((n : Int) == 0) = false := beq_false_of_ne (by omega)
                        clear hn
                        go_wp2_with fail
                        refine (edoS Sxs.out Sa.out MX.out MA.out OA.out).mono ?_
                        rintro e u12 ⟨v12, rfl, hs, hb⟩
                        replace Sxs := Lib.hid (Sxs.out.below hb)
                        replace Sa := Lib.hid (Sa.out.below hb)
                        replace Sb := Lib.hid (Sb.out.below hb)
                        replace G := Lib.hid (G.out.trans (hb.mono G.out.size))
                        have Sp := Lib.hid hs
                        obtain ⟨ap, cp, hvp, -, -, -, -⟩ := Sp.out.parts
                        subst hvp
                        clear hs hb
                        go_wp2_with fail
                        refine (edoS Sp.out Sb.out DA.out MB.out OB.out).mono ?_
                        rintro e u13 ⟨v13, rfl, hs, hb⟩
                        replace Sxs := Lib.hid (Sxs.out.below hb)
                        replace Sa := Lib.hid (Sa.out.below hb)
                        replace Sb := Lib.hid (Sb.out.below hb)
                        replace Sp := Lib.hid (Sp.out.below hb)
                        replace G := Lib.hid (G.out.trans (hb.mono G.out.size))
                        have Sq := Lib.hid hs
                        obtain ⟨aq, cq, hvq, -, -, -, -⟩ := Sq.out.parts
                        subst hvq
                        clear hs hb
                        go_wp2_with fail
                        refine (edoS Sxs.out Sb.out MX.out MB.out OB.out).mono ?_
                        rintro e u14 ⟨v14, rfl, hs, hb⟩
                        replace Sxs := Lib.hid (Sxs.out.below hb)
                        replace Sa := Lib.hid (Sa.out.below hb)
                        replace Sb := Lib.hid (Sb.out.below hb)
                        replace Sp := Lib.hid (Sp.out.below hb)
                        replace Sq := Lib.hid (Sq.out.below hb)
                        replace G := Lib.hid (G.out.trans (hb.mono G.out.size))
                        have Sr := Lib.hid hs
                        obtain ⟨ar, cr, hvr, -, -, -, -⟩ := Sr.out.parts
                        subst hvr
                        clear hs hb
                        go_wp2_with fail
                        refine (edoS Sr.out Sa.out DB.out MA.out OA.out).mono ?_
                        rintro e u15 ⟨v15, rfl, hs, hb⟩
                        replace Sxs := Lib.hid (Sxs.out.below hb)
                        replace Sa := Lib.hid (Sa.out.below hb)
                        replace Sb := Lib.hid (Sb.out.below hb)
                        replace Sp := Lib.hid (Sp.out.below hb)
                        replace Sq := Lib.hid (Sq.out.below hb)
                        replace Sr := Lib.hid (Sr.out.below hb)
                        replace G := Lib.hid (G.out.trans (hb.mono G.out.size))
                        have Sy := Lib.hid hs
                        obtain ⟨ay, cy, hvy, -, -, -, -⟩ := Sy.out.parts
                        subst hvy
                        clear hs hb
                        go_wp2_with fail
                        refine (rsame_eq Sq.out Sy.out HE.out).mono ?_
                        rintro e u16 ⟨rfl, hb⟩
                        replace Sxs := Lib.hid (Sxs.out.below hb)
                        replace Sa := Lib.hid (Sa.out.below hb)
                        replace Sb := Lib.hid (Sb.out.below hb)
                        replace Sp := Lib.hid (Sp.out.below hb)
                        replace Sq := Lib.hid (Sq.out.below hb)
                        replace Sr := Lib.hid (Sr.out.below hb)
                        replace Sy := Lib.hid (Sy.out.below hb)
                        replace G := Lib.hid (G.out.trans (hb.mono G.out.size))
                        clear hb
                        go_wp2_with fail
                        go_ret
                        exact ⟨rfl, G.out⟩
                      have en : ((n : Int) == 0) = true := by subst hn; rfl
                      by_cases hk : k = 0
                      rotate_left
                      · have ek : ((k : Int) == 0) = false := beq_false_of_ne (by omega)
                        clear hk hn
                        go_wp2_with fail
                        refine (edoS Sxs.out Sa.out MX.out MA.out OA.out).mono ?_
                        rintro e u12 ⟨v12, rfl, hs, hb⟩
                        replace Sxs := Lib.hid (Sxs.out.below hb)
                        replace Sa := Lib.hid (Sa.out.below hb)
                        replace Sb := Lib.hid (Sb.out.below hb)
                        replace G := Lib.hid (G.out.trans (hb.mono G.out.size))
                        have Sp := Lib.hid hs
                        obtain ⟨ap, cp, hvp, -, -, -, -⟩ := Sp.out.parts
                        subst hvp
                        clear hs hb
                        go_wp2_with fail
                        refine (edoS Sp.out Sb.out DA.out MB.out OB.out).mono ?_
                        rintro e u13 ⟨v13, rfl, hs, hb⟩
                        replace Sxs := Lib.hid (Sxs.out.below hb)
                        replace Sa := Lib.hid (Sa.out.below hb)
                        replace Sb := Lib.hid (Sb.out.below hb)
                        replace Sp := Lib.hid (Sp.out.below hb)
                        replace G := Lib.hid (G.out.trans (hb.mono G.out.size))
                        have Sq := Lib.hid hs
                        obtain ⟨aq, cq, hvq, -, -, -, -⟩ := Sq.out.parts
                        subst hvq
                        clear hs hb
                        go_wp2_with fail
                        refine (edoS Sxs.out Sb.out MX.out MB.out OB.out).mono ?_
                        rintro e u14 ⟨v14, rfl, hs, hb⟩
                        replace Sxs := Lib.hid (Sxs.out.below hb)
                        replace Sa := Lib.hid (Sa.out.below hb)
                        replace Sb := Lib.hid (Sb.out.below hb)
                        replace Sp := Lib.hid (Sp.out.below hb)
                        replace Sq := Lib.hid (Sq.out.below hb)
                        replace G := Lib.hid (G.out.trans (hb.mono G.out.size))
                        have Sr := Lib.hid hs
                        obtain ⟨ar, cr, hvr, -, -, -, -⟩ := Sr.out.parts
                        subst hvr
                        clear hs hb
                        go_wp2_with fail
                        refine (edoS Sr.out Sa.out DB.out MA.out OA.out).mono ?_
                        rintro e u15 ⟨v15, rfl, hs, hb⟩
                        replace Sxs := Lib.hid (Sxs.out.below hb)
                        replace Sa := Lib.hid (Sa.out.below hb)
                        replace Sb := Lib.hid (Sb.out.below hb)
                        replace Sp := Lib.hid (Sp.out.below hb)
                        replace Sq := Lib.hid (Sq.out.below hb)
                        replace Sr := Lib.hid (Sr.out.below hb)
                        replace G := Lib.hid (G.out.trans (hb.mono G.out.size))
                        have Sy := Lib.hid hs
                        obtain ⟨ay, cy, hvy, -, -, -, -⟩ := Sy.out.parts
                        subst hvy
                        clear hs hb
                        go_wp2_with fail
                        refine (rsame_eq Sq.out Sy.out HE.out).mono ?_
                        rintro e u16 ⟨rfl, hb⟩
                        replace Sxs := Lib.hid (Sxs.out.below hb)
                        replace Sa := Lib.hid (Sa.out.below hb)
                        replace Sb := Lib.hid (Sb.out.below hb)
                        replace Sp := Lib.hid (Sp.out.below hb)
                        replace Sq := Lib.hid (Sq.out.below hb)
                        replace Sr := Lib.hid (Sr.out.below hb)
                        replace Sy := Lib.hid (Sy.out.below hb)
                        replace G := Lib.hid (G.out.trans (hb.mono G.out.size))
                        clear hb
                        go_wp2_with fail
                        go_ret
                        exact ⟨rfl, G.out⟩
                      have ek : ((k : Int) == 0) = true := by subst hk; rfl
                      have HZ : Hid (edo x1 x2 xs a = xs) := Lib.hid (by rw [List.eq_nil_of_length_eq_zero (show a.length = 0 by rw [Nn.out]; exact hn)]; rfl)
                      clear hk hn
                      go_wp2_with fail
                      refine (edoS Sxs.out Sa.out MX.out MA.out OA.out).mono ?_
                      rintro e u12 ⟨v12, rfl, hs, hb⟩
                      replace Sxs := Lib.hid (Sxs.out.below hb)
                      replace Sa := Lib.hid (Sa.out.below hb)
                      replace Sb := Lib.hid (Sb.out.below hb)
                      replace G := Lib.hid (G.out.trans (hb.mono G.out.size))
                      have Sp := Lib.hid hs
                      obtain ⟨ap, cp, hvp, -, -, -, -⟩ := Sp.out.parts
                      subst hvp
                      clear hs hb
                      go_wp2_with fail
                      refine (rsame_eq Sp.out Sxs.out HZ.out).mono ?_
                      rintro e u13 ⟨rfl, hb⟩
                      replace Sxs := Lib.hid (Sxs.out.below hb)
                      replace Sa := Lib.hid (Sa.out.below hb)
                      replace Sb := Lib.hid (Sb.out.below hb)
                      replace Sp := Lib.hid (Sp.out.below hb)
                      replace G := Lib.hid (G.out.trans (hb.mono G.out.size))
                      clear hb
                      go_wp2_with fail
                      go_ret
                      exact ⟨rfl, G.out⟩
        have e2 : (x2 == x5) = true := beq_iff_eq.2 h2
        clear h1 h2
        go_wp2_with fail
        go_ret
        exact ⟨rfl, G.out⟩

set_option maxRecDepth 100000 in
theorem lifted (os : Os) (started : os.Started) (H : Type) (enc : TypeId × Value → H) :
    ReturnsInHanded {} Try.checked os 3 .any (Rows.effConcurrentSpec.pre6 enc Try.prog Try.f3 Rows.effConcurrentRow.domain false) (Rows.effConcurrentSpec.post enc Try.prog Try.f3 false true false false) := by
  refine returnsInHanded_of_change (C := Try.checked) own started (by kernel_rfl) Try.func3
    (ChangeSpec.witness6 (enc := enc) (C := Try.checked) false ⟨#[], #[.slice none 0 0, .int .i64 0, .int .i64 0, .slice none 0 0, .int .i64 0, .int .i64 0, .slice none 0 0], []⟩ 8 (by kernel_rfl) (by kernel_rfl) (by kernel_rfl) (by kernel_rfl)) ?_
  intro W base args ds gs before hval0 hW hcnd _
  have hval : ∀ (j : Nat) t v, Try.f3.params[j]? = some t → args[j]? = some v → Value.okWide Try.prog W .any base t v := hval0
  have hW' := hW
  obtain ⟨p, q, hA0, hV, rfl, hfz, hnd⟩ := hW
  have hA : DataW.TrodAll enc Try.prog W 0 (fun _ => true) true Try.f3.params.toList args.toList ds p := hA0
  rw [Try.params3] at hA hval
  obtain ⟨v0, vs0, d0, ds0, p0, q0, hargs, rfl, rfl, h0, r0⟩ := trodAll_cons hA
  obtain ⟨v1, vs1, d1, ds1, p1, q1, rfl, rfl, rfl, h1, r1⟩ := trodAll_cons r0
  obtain ⟨v2, vs2, d2, ds2, p2, q2, rfl, rfl, rfl, h2, r2⟩ := trodAll_cons r1
  obtain ⟨v3, vs3, d3, ds3, p3, q3, rfl, rfl, rfl, h3, r3⟩ := trodAll_cons r2
  obtain ⟨v4, vs4, d4, ds4, p4, q4, rfl, rfl, rfl, h4, r4⟩ := trodAll_cons r3
  obtain ⟨v5, vs5, d5, ds5, p5, q5, rfl, rfl, rfl, h5, r5⟩ := trodAll_cons r4
  obtain ⟨v6, vs6, d6, ds6, p6, q6, rfl, rfl, rfl, h6, r6⟩ := trodAll_cons r5
  obtain ⟨rfl, rfl, rfl⟩ := trodAll_nil r6
  obtain rfl : args = #[v0, v1, v2, v3, v4, v5, v6] := by cases args; simp_all
  obtain ⟨rfl, rfl⟩ := trodVars_none hV
  have k0 := h0
  have lt0 : ∀ x ∈ p0, x.block < W.heap.size := by obtain ⟨m, hm⟩ := k0; exact DataW.trod_lt m _ _ _ hm
  have w0 := open0 (hval 0 22 v0 rfl rfl) h0
  obtain ⟨a1, rfl, rfl, rfl, w1⟩ := open_int Try.underlying3 (hval 1 3 v1 rfl rfl) h1
  obtain ⟨a2, rfl, rfl, rfl, w2⟩ := open_int Try.underlying3 (hval 2 3 v2 rfl rfl) h2
  have k3 := h3
  have lt3 : ∀ x ∈ p3, x.block < W.heap.size := by obtain ⟨m, hm⟩ := k3; exact DataW.trod_lt m _ _ _ hm
  have w3 := open3 (hval 3 23 v3 rfl rfl) h3
  obtain ⟨a4, rfl, rfl, rfl, w4⟩ := open_int Try.underlying3 (hval 4 3 v4 rfl rfl) h4
  obtain ⟨a5, rfl, rfl, rfl, w5⟩ := open_int Try.underlying3 (hval 5 3 v5 rfl rfl) h5
  have k6 := h6
  have lt6 : ∀ x ∈ p6, x.block < W.heap.size := by obtain ⟨m, hm⟩ := k6; exact DataW.trod_lt m _ _ _ hm
  have w6 := open6 (hval 6 23 v6 rfl rfl) h6
  clear hA0 hval0
  refine (walk v0 a1 a2 v3 a4 a5 v6 W w0 w1 w2 w3 w4 w5 w6).mono fun e W' ⟨he, bel⟩ => ?_
  subst he
  exact ⟨_, rfl, _, _, _, [], _, [], hW', trodAll_mk1 (shut_bool Try.underlying4 _), (trodAll_cons_mk (Below.trod laidOut (by kernel_rfl) (of_decide_eq_true (by kernel_rfl)) k0 bel lt0) (trodAll_cons_mk (shut_int Try.underlying3 w1) (trodAll_cons_mk (shut_int Try.underlying3 w2) (trodAll_cons_mk (Below.trod laidOut (by kernel_rfl) (of_decide_eq_true (by kernel_rfl)) k3 bel lt3) (trodAll_cons_mk (shut_int Try.underlying3 w4) (trodAll_cons_mk (shut_int Try.underlying3 w5) (trodAll_cons_mk (Below.trod laidOut (by kernel_rfl) (of_decide_eq_true (by kernel_rfl)) k6 bel lt6) trodAll_mk0))))))), rfl, bel.frame _, fun h => by cases h⟩

theorem over : Rows.effConcurrentRow.holds Try.pinned (OpenSpec.ofChange Rows.effConcurrentSpec) :=
  OpenClaim.holds_of_wide 3 Try.f3 rfl rfl rfl rfl rfl rfl rfl ⟨rfl, rfl, rfl, rfl, rfl⟩ rfl rfl rfl rfl rfl (by kernel_rfl) Try.func3 (by kernel_rfl)
    (of_decide_eq_true (by kernel_rfl)) (by unfold Func.isWrapper; first | (rw [if_pos (by decide +kernel)]; kernel_rfl) | (rw [if_neg (by decide +kernel)]; exact ⟨rfl, rfl⟩))
    (fun os started H enc _ => lifted os started H enc)

/-- the given statement -/
theorem proved : Rows.EffConcurrentSaid := over
#print axioms proved
end Go.Proofs.Ythcpglbeiibniaa.effConcurrent
