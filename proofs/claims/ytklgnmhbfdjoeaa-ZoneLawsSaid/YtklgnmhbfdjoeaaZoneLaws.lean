/-
  For any two lists of texts and any key the law ZoneLaws answers true: two zones together cover just what one of them covers, what both have just what both cover; what is within one is covered by it. No condition.
  (The frame was written by the guide's proof-skeleton.mjs, turned for slices of texts; the walk is ours.)
-/
import Derived.Test.YtklgnmhbfdjoeaaRows
import Derived.WalkKit
import Derived.ProofKit
import Derived.OpenShut
import Derived.ShutString
import Derived.ChangeOld
import Derived.Below
import Derived.Test.YtklgnmhbfdjoeaaAwakeZ
namespace Go.Proofs.Ytklgnmhbfdjoeaa.zoneLaws
open Go.ChangeShapes Go.WideShapes Go.ChangeAt Go.RowKit
open Go.ChangeMaps (open_string shut_string)
set_option linter.unusedVariables false

theorem own : ownKnob Try.prog.godebug = none := by kernel_rfl
theorem laidOut : laidOutB Try.prog = true := by kernel_rfl

open Plain

theorem open0 {H : Type} {enc : TypeId × Value → H} {W : World} {r : Reach} {b : Nat} {v : Value} {d : DataW H} {p : List MemPlace} (hv : Value.okWide Try.prog W r b 22 v) (h : DataW.Trod enc Try.prog W 0 (fun _ => true) true 22 v d p) : IsTexts W v := texts_of_trod hv h
theorem open1 {H : Type} {enc : TypeId × Value → H} {W : World} {r : Reach} {b : Nat} {v : Value} {d : DataW H} {p : List MemPlace} (hv : Value.okWide Try.prog W r b 22 v) (h : DataW.Trod enc Try.prog W 0 (fun _ => true) true 22 v d p) : IsTexts W v := texts_of_trod hv h

set_option maxRecDepth 100000 in
set_option maxHeartbeats 16000000 in
theorem walk (v0 : Value) (v1 : Value) (t : ByteArray) (w : World) (w0 : IsTexts w v0) (w1 : IsTexts w v1) (w2 : t.size ≤ maxLen) :
    Calls Try.prog 5 #[v0, v1, .string t] w fun e w' => e = .returned (.bool true) ∧ Below w.heap.size w w' := by
  obtain ⟨xs, s0⟩ := w0
  have Sx := Lib.hid s0
  clear s0
  obtain ⟨ys, s1⟩ := w1
  have Sy := Lib.hid s1
  clear s1
  obtain ⟨s, rfl⟩ : ∃ s, bt s = t := ⟨tx t, bt_tx t⟩
  have zk := bt_size s
  clear w2
  have G := Lib.hid (Below.refl w.heap.size w)
  go_enter Try.func5, Try.ntmps5
  go_wp2_with fail
  refine (awake_any _).mono ?_
  rintro e u2 ⟨rfl, hb⟩
  replace Sx := Lib.hid (Sx.out.below hb)
  replace Sy := Lib.hid (Sy.out.below hb)
  replace G := Lib.hid (G.out.trans (hb.mono G.out.size))
  clear hb
  cases hA : shortB xs with
  | false =>
    go_wp2_with fail
    refine (rshortR Sx.out hA).mono ?_
    rintro e u3 ⟨rfl, hb⟩
    replace Sx := Lib.hid (Sx.out.below hb)
    replace Sy := Lib.hid (Sy.out.below hb)
    replace G := Lib.hid (G.out.trans (hb.mono G.out.size))
    clear hb
    go_wp2_with fail
    go_ret
    exact ⟨rfl, G.out⟩
  | true =>
    go_wp2_with fail
    refine (rshortR Sx.out hA).mono ?_
    rintro e u4 ⟨rfl, hb⟩
    replace Sx := Lib.hid (Sx.out.below hb)
    replace Sy := Lib.hid (Sy.out.below hb)
    replace G := Lib.hid (G.out.trans (hb.mono G.out.size))
    clear hb
    have Mx := Lib.hid (small_of hA)
    cases hB : shortB ys with
    | false =>
      go_wp2_with fail
      refine (rshortR Sy.out hB).mono ?_
      rintro e u5 ⟨rfl, hb⟩
      replace Sx := Lib.hid (Sx.out.below hb)
      replace Sy := Lib.hid (Sy.out.below hb)
      replace G := Lib.hid (G.out.trans (hb.mono G.out.size))
      clear hb
      go_wp2_with fail
      go_ret
      exact ⟨rfl, G.out⟩
    | true =>
      go_wp2_with fail
      refine (rshortR Sy.out hB).mono ?_
      rintro e u6 ⟨rfl, hb⟩
      replace Sx := Lib.hid (Sx.out.below hb)
      replace Sy := Lib.hid (Sy.out.below hb)
      replace G := Lib.hid (G.out.trans (hb.mono G.out.size))
      clear hb
      have My := Lib.hid (small_of hB)
      cases hC : rightB xs with
      | false =>
        go_wp2_with fail
        refine (zrightR Sx.out Mx.out hC).mono ?_
        rintro e u7 ⟨rfl, hb⟩
        replace Sx := Lib.hid (Sx.out.below hb)
        replace Sy := Lib.hid (Sy.out.below hb)
        replace G := Lib.hid (G.out.trans (hb.mono G.out.size))
        clear hb
        go_wp2_with fail
        go_ret
        exact ⟨rfl, G.out⟩
      | true =>
        go_wp2_with fail
        refine (zrightR Sx.out Mx.out hC).mono ?_
        rintro e u8 ⟨rfl, hb⟩
        replace Sx := Lib.hid (Sx.out.below hb)
        replace Sy := Lib.hid (Sy.out.below hb)
        replace G := Lib.hid (G.out.trans (hb.mono G.out.size))
        clear hb
        cases hD : rightB ys with
        | false =>
          go_wp2_with fail
          refine (zrightR Sy.out My.out hD).mono ?_
          rintro e u9 ⟨rfl, hb⟩
          replace Sx := Lib.hid (Sx.out.below hb)
          replace Sy := Lib.hid (Sy.out.below hb)
          replace G := Lib.hid (G.out.trans (hb.mono G.out.size))
          clear hb
          go_wp2_with fail
          go_ret
          exact ⟨rfl, G.out⟩
        | true =>
          go_wp2_with fail
          refine (zrightR Sy.out My.out hD).mono ?_
          rintro e u10 ⟨rfl, hb⟩
          replace Sx := Lib.hid (Sx.out.below hb)
          replace Sy := Lib.hid (Sy.out.below hb)
          replace G := Lib.hid (G.out.trans (hb.mono G.out.size))
          clear hb
          by_cases hk : s.length ≤ 200
          rotate_left
          · have hk1 : (200 : Int) < (s.length : Int) := by omega
            clear hk
            go_wp2_with fail
            go_ret
            exact ⟨rfl, G.out⟩
          have HK := Lib.hid hk
          have hk1 : ¬ (200 : Int) < (s.length : Int) := by omega
          clear hk
          have ZA := Lib.hid (right_iff.1 hC)
          have ZB := Lib.hid (right_iff.1 hD)
          have MI := Lib.hid (short_inter hA hB)
          have MW := Lib.hid (small_without Mx.out ys)
          have MU := Lib.hid (small_norm (short_both hA hB))
          clear hA hB hC hD
          have LU := Lib.hid (show (xs ++ ys).length ≤ 36 by have := ZA.out.2.2.2; have := ZB.out.2.2.2; rw [List.length_append]; omega)
          have HC := Lib.hid (covers_inter xs ys s)
          have WW := Lib.hid (without_within xs ys)
          have RW := Lib.hid (right_iff.2 (zone_without ZA.out ys))
          obtain ⟨r1, h1⟩ : ∃ r, covers xs s = r := ⟨_, rfl⟩
          obtain ⟨r2, h2⟩ : ∃ r, covers ys s = r := ⟨_, rfl⟩
          have H1 := Lib.hid h1
          have H2 := Lib.hid h2
          have H3 := Lib.hid (show covers (inter xs ys) s = (r1 && r2) by rw [HC.out, h1, h2])
          clear h1 h2
          go_wp2_with fail
          refine (zinterS Sx.out Sy.out Mx.out My.out).mono ?_
          rintro e u11 ⟨v11, rfl, hs, hb⟩
          replace Sx := Lib.hid (Sx.out.below hb)
          replace Sy := Lib.hid (Sy.out.below hb)
          replace G := Lib.hid (G.out.trans (hb.mono G.out.size))
          have Si := Lib.hid hs
          clear hs hb
          cases r1 with
          | false =>
            go_wp2_with fail
            refine (zcoversR Si.out MI.out HK.out H3.out).mono ?_
            rintro e u12 ⟨rfl, hb⟩
            replace Sx := Lib.hid (Sx.out.below hb)
            replace Sy := Lib.hid (Sy.out.below hb)
            replace Si := Lib.hid (Si.out.below hb)
            replace G := Lib.hid (G.out.trans (hb.mono G.out.size))
            clear hb
            go_wp2_with fail
            refine (zcoversR Sx.out Mx.out HK.out H1.out).mono ?_
            rintro e u13 ⟨rfl, hb⟩
            replace Sx := Lib.hid (Sx.out.below hb)
            replace Sy := Lib.hid (Sy.out.below hb)
            replace Si := Lib.hid (Si.out.below hb)
            replace G := Lib.hid (G.out.trans (hb.mono G.out.size))
            clear hb
            clear Si
            by_cases he : normE (xs ++ ys) = 0
            rotate_left
            · obtain ⟨ne, hne⟩ : ∃ ne, normE (xs ++ ys) = ne := ⟨_, rfl⟩
              rw [hne] at he
              have q1 : ((ne : Int) == 0) = false := by simp; omega
              have HNE := Lib.hid hne
              clear hne he
              go_wp2_with fail
              have KE := zunionS Sx.out Sy.out Mx.out My.out LU.out
              rw [HNE.out] at KE
              refine KE.mono ?_
              rintro e u14 ⟨v14, rfl, hs, hb⟩
              clear KE
              replace Sx := Lib.hid (Sx.out.below hb)
              replace Sy := Lib.hid (Sy.out.below hb)
              replace G := Lib.hid (G.out.trans (hb.mono G.out.size))
              have Su := Lib.hid hs
              clear hs hb
              clear Su
              go_wp2_with fail
              refine (zwithoutS Sx.out Sy.out Mx.out My.out).mono ?_
              rintro e u15 ⟨v15, rfl, hs, hb⟩
              replace Sx := Lib.hid (Sx.out.below hb)
              replace Sy := Lib.hid (Sy.out.below hb)
              replace G := Lib.hid (G.out.trans (hb.mono G.out.size))
              have Sw := Lib.hid hs
              clear hs hb
              go_wp2_with fail
              refine (zrightR Sw.out MW.out RW.out).mono ?_
              rintro e u16 ⟨rfl, hb⟩
              replace Sx := Lib.hid (Sx.out.below hb)
              replace Sy := Lib.hid (Sy.out.below hb)
              replace Sw := Lib.hid (Sw.out.below hb)
              replace G := Lib.hid (G.out.trans (hb.mono G.out.size))
              clear hb
              go_wp2_with fail
              refine (zwithinR Sw.out Sx.out MW.out Mx.out WW.out).mono ?_
              rintro e u17 ⟨rfl, hb⟩
              replace Sx := Lib.hid (Sx.out.below hb)
              replace Sy := Lib.hid (Sy.out.below hb)
              replace Sw := Lib.hid (Sw.out.below hb)
              replace G := Lib.hid (G.out.trans (hb.mono G.out.size))
              clear hb
              cases hw : withinZ xs ys with
              | false =>
                go_wp2_with fail
                refine (zwithinR Sx.out Sy.out Mx.out My.out hw).mono ?_
                rintro e u18 ⟨rfl, hb⟩
                replace Sx := Lib.hid (Sx.out.below hb)
                replace Sy := Lib.hid (Sy.out.below hb)
                replace Sw := Lib.hid (Sw.out.below hb)
                replace G := Lib.hid (G.out.trans (hb.mono G.out.size))
                clear hb
                go_wp2_with fail
                refine (zinterS Sx.out Sy.out Mx.out My.out).mono ?_
                rintro e u19 ⟨v19, rfl, hs, hb⟩
                replace Sx := Lib.hid (Sx.out.below hb)
                replace Sy := Lib.hid (Sy.out.below hb)
                replace Sw := Lib.hid (Sw.out.below hb)
                replace G := Lib.hid (G.out.trans (hb.mono G.out.size))
                have Sq := Lib.hid hs
                clear hs hb
                obtain ⟨aL, cL, hvL, -, -, -, hL⟩ := Sq.out.parts
                subst hvL
                obtain ⟨L, eL⟩ : ∃ n, (inter xs ys).length = n := ⟨_, rfl⟩
                replace Sq := Lib.hid hL
                rw [eL] at Sq ⊢
                have NL := Lib.hid eL
                clear hL eL
                by_cases hl : L ≤ 8
                rotate_left
                · have hl1 : (8 : Int) < (L : Int) := by omega
                  go_wp2_with fail
                  go_ret
                  exact ⟨rfl, G.out⟩
                have hl1 : ¬ (8 : Int) < (L : Int) := by omega
                have RI := Lib.hid (right_iff.2 (zone_inter ZA.out ZB.out (by rw [NL.out]; exact hl)))
                clear hl
                go_wp2_with fail
                refine (zinterS Sx.out Sy.out Mx.out My.out).mono ?_
                rintro e u20 ⟨v20, rfl, hs, hb⟩
                replace Sx := Lib.hid (Sx.out.below hb)
                replace Sy := Lib.hid (Sy.out.below hb)
                replace Sw := Lib.hid (Sw.out.below hb)
                replace Sq := Lib.hid (Sq.out.below hb)
                replace G := Lib.hid (G.out.trans (hb.mono G.out.size))
                have Sp := Lib.hid hs
                clear hs hb
                go_wp2_with fail
                refine (zrightR Sp.out MI.out RI.out).mono ?_
                rintro e u21 ⟨rfl, hb⟩
                replace Sx := Lib.hid (Sx.out.below hb)
                replace Sy := Lib.hid (Sy.out.below hb)
                replace Sw := Lib.hid (Sw.out.below hb)
                replace Sq := Lib.hid (Sq.out.below hb)
                replace Sp := Lib.hid (Sp.out.below hb)
                replace G := Lib.hid (G.out.trans (hb.mono G.out.size))
                clear hb
                go_wp2_with fail
                go_ret
                exact ⟨rfl, G.out⟩
              | true =>
                go_wp2_with fail
                refine (zwithinR Sx.out Sy.out Mx.out My.out hw).mono ?_
                rintro e u22 ⟨rfl, hb⟩
                replace Sx := Lib.hid (Sx.out.below hb)
                replace Sy := Lib.hid (Sy.out.below hb)
                replace Sw := Lib.hid (Sw.out.below hb)
                replace G := Lib.hid (G.out.trans (hb.mono G.out.size))
                clear hb
                go_wp2_with fail
                refine (zcoversR Sx.out Mx.out HK.out H1.out).mono ?_
                rintro e u23 ⟨rfl, hb⟩
                replace Sx := Lib.hid (Sx.out.below hb)
                replace Sy := Lib.hid (Sy.out.below hb)
                replace Sw := Lib.hid (Sw.out.below hb)
                replace G := Lib.hid (G.out.trans (hb.mono G.out.size))
                clear hb
                go_wp2_with fail
                refine (zinterS Sx.out Sy.out Mx.out My.out).mono ?_
                rintro e u24 ⟨v24, rfl, hs, hb⟩
                replace Sx := Lib.hid (Sx.out.below hb)
                replace Sy := Lib.hid (Sy.out.below hb)
                replace Sw := Lib.hid (Sw.out.below hb)
                replace G := Lib.hid (G.out.trans (hb.mono G.out.size))
                have Sq := Lib.hid hs
                clear hs hb
                obtain ⟨aL, cL, hvL, -, -, -, hL⟩ := Sq.out.parts
                subst hvL
                obtain ⟨L, eL⟩ : ∃ n, (inter xs ys).length = n := ⟨_, rfl⟩
                replace Sq := Lib.hid hL
                rw [eL] at Sq ⊢
                have NL := Lib.hid eL
                clear hL eL
                by_cases hl : L ≤ 8
                rotate_left
                · have hl1 : (8 : Int) < (L : Int) := by omega
                  go_wp2_with fail
                  go_ret
                  exact ⟨rfl, G.out⟩
                have hl1 : ¬ (8 : Int) < (L : Int) := by omega
                have RI := Lib.hid (right_iff.2 (zone_inter ZA.out ZB.out (by rw [NL.out]; exact hl)))
                clear hl
                go_wp2_with fail
                refine (zinterS Sx.out Sy.out Mx.out My.out).mono ?_
                rintro e u25 ⟨v25, rfl, hs, hb⟩
                replace Sx := Lib.hid (Sx.out.below hb)
                replace Sy := Lib.hid (Sy.out.below hb)
                replace Sw := Lib.hid (Sw.out.below hb)
                replace Sq := Lib.hid (Sq.out.below hb)
                replace G := Lib.hid (G.out.trans (hb.mono G.out.size))
                have Sp := Lib.hid hs
                clear hs hb
                go_wp2_with fail
                refine (zrightR Sp.out MI.out RI.out).mono ?_
                rintro e u26 ⟨rfl, hb⟩
                replace Sx := Lib.hid (Sx.out.below hb)
                replace Sy := Lib.hid (Sy.out.below hb)
                replace Sw := Lib.hid (Sw.out.below hb)
                replace Sq := Lib.hid (Sq.out.below hb)
                replace Sp := Lib.hid (Sp.out.below hb)
                replace G := Lib.hid (G.out.trans (hb.mono G.out.size))
                clear hb
                go_wp2_with fail
                go_ret
                exact ⟨rfl, G.out⟩
            have HU := Lib.hid (show covers (normV (xs ++ ys)) s = (false || r2) by rw [normV_ok he, covers_least, covers_append, H1.out, H2.out])
            have HE := Lib.hid he
            clear he
            go_wp2_with fail
            have KE := zunionS Sx.out Sy.out Mx.out My.out LU.out
            rw [HE.out] at KE
            refine KE.mono ?_
            rintro e u27 ⟨v27, rfl, hs, hb⟩
            clear KE
            replace Sx := Lib.hid (Sx.out.below hb)
            replace Sy := Lib.hid (Sy.out.below hb)
            replace G := Lib.hid (G.out.trans (hb.mono G.out.size))
            have Su := Lib.hid hs
            clear hs hb
            have HU2 := Lib.hid (show covers (normV (xs ++ ys)) s = r2 by rw [HU.out]; rfl)
            have h23 : (r2 != r2) = false := by simp
            go_wp2_with fail
            refine (zcoversR Su.out MU.out HK.out HU2.out).mono ?_
            rintro e u28 ⟨rfl, hb⟩
            replace Sx := Lib.hid (Sx.out.below hb)
            replace Sy := Lib.hid (Sy.out.below hb)
            replace Su := Lib.hid (Su.out.below hb)
            replace G := Lib.hid (G.out.trans (hb.mono G.out.size))
            clear hb
            go_wp2_with fail
            refine (zcoversR Sx.out Mx.out HK.out H1.out).mono ?_
            rintro e u29 ⟨rfl, hb⟩
            replace Sx := Lib.hid (Sx.out.below hb)
            replace Sy := Lib.hid (Sy.out.below hb)
            replace Su := Lib.hid (Su.out.below hb)
            replace G := Lib.hid (G.out.trans (hb.mono G.out.size))
            clear hb
            go_wp2_with fail
            refine (zcoversR Sy.out My.out HK.out H2.out).mono ?_
            rintro e u30 ⟨rfl, hb⟩
            replace Sx := Lib.hid (Sx.out.below hb)
            replace Sy := Lib.hid (Sy.out.below hb)
            replace Su := Lib.hid (Su.out.below hb)
            replace G := Lib.hid (G.out.trans (hb.mono G.out.size))
            clear hb
            clear Su
            go_wp2_with fail
            refine (zwithoutS Sx.out Sy.out Mx.out My.out).mono ?_
            rintro e u31 ⟨v31, rfl, hs, hb⟩
            replace Sx := Lib.hid (Sx.out.below hb)
            replace Sy := Lib.hid (Sy.out.below hb)
            replace G := Lib.hid (G.out.trans (hb.mono G.out.size))
            have Sw := Lib.hid hs
            clear hs hb
            go_wp2_with fail
            refine (zrightR Sw.out MW.out RW.out).mono ?_
            rintro e u32 ⟨rfl, hb⟩
            replace Sx := Lib.hid (Sx.out.below hb)
            replace Sy := Lib.hid (Sy.out.below hb)
            replace Sw := Lib.hid (Sw.out.below hb)
            replace G := Lib.hid (G.out.trans (hb.mono G.out.size))
            clear hb
            go_wp2_with fail
            refine (zwithinR Sw.out Sx.out MW.out Mx.out WW.out).mono ?_
            rintro e u33 ⟨rfl, hb⟩
            replace Sx := Lib.hid (Sx.out.below hb)
            replace Sy := Lib.hid (Sy.out.below hb)
            replace Sw := Lib.hid (Sw.out.below hb)
            replace G := Lib.hid (G.out.trans (hb.mono G.out.size))
            clear hb
            cases hw : withinZ xs ys with
            | false =>
              go_wp2_with fail
              refine (zwithinR Sx.out Sy.out Mx.out My.out hw).mono ?_
              rintro e u34 ⟨rfl, hb⟩
              replace Sx := Lib.hid (Sx.out.below hb)
              replace Sy := Lib.hid (Sy.out.below hb)
              replace Sw := Lib.hid (Sw.out.below hb)
              replace G := Lib.hid (G.out.trans (hb.mono G.out.size))
              clear hb
              go_wp2_with fail
              refine (zinterS Sx.out Sy.out Mx.out My.out).mono ?_
              rintro e u35 ⟨v35, rfl, hs, hb⟩
              replace Sx := Lib.hid (Sx.out.below hb)
              replace Sy := Lib.hid (Sy.out.below hb)
              replace Sw := Lib.hid (Sw.out.below hb)
              replace G := Lib.hid (G.out.trans (hb.mono G.out.size))
              have Sq := Lib.hid hs
              clear hs hb
              obtain ⟨aL, cL, hvL, -, -, -, hL⟩ := Sq.out.parts
              subst hvL
              obtain ⟨L, eL⟩ : ∃ n, (inter xs ys).length = n := ⟨_, rfl⟩
              replace Sq := Lib.hid hL
              rw [eL] at Sq ⊢
              have NL := Lib.hid eL
              clear hL eL
              by_cases hl : L ≤ 8
              rotate_left
              · have hl1 : (8 : Int) < (L : Int) := by omega
                go_wp2_with fail
                go_ret
                exact ⟨rfl, G.out⟩
              have hl1 : ¬ (8 : Int) < (L : Int) := by omega
              have RI := Lib.hid (right_iff.2 (zone_inter ZA.out ZB.out (by rw [NL.out]; exact hl)))
              clear hl
              go_wp2_with fail
              refine (zinterS Sx.out Sy.out Mx.out My.out).mono ?_
              rintro e u36 ⟨v36, rfl, hs, hb⟩
              replace Sx := Lib.hid (Sx.out.below hb)
              replace Sy := Lib.hid (Sy.out.below hb)
              replace Sw := Lib.hid (Sw.out.below hb)
              replace Sq := Lib.hid (Sq.out.below hb)
              replace G := Lib.hid (G.out.trans (hb.mono G.out.size))
              have Sp := Lib.hid hs
              clear hs hb
              go_wp2_with fail
              refine (zrightR Sp.out MI.out RI.out).mono ?_
              rintro e u37 ⟨rfl, hb⟩
              replace Sx := Lib.hid (Sx.out.below hb)
              replace Sy := Lib.hid (Sy.out.below hb)
              replace Sw := Lib.hid (Sw.out.below hb)
              replace Sq := Lib.hid (Sq.out.below hb)
              replace Sp := Lib.hid (Sp.out.below hb)
              replace G := Lib.hid (G.out.trans (hb.mono G.out.size))
              clear hb
              go_wp2_with fail
              go_ret
              exact ⟨rfl, G.out⟩
            | true =>
              go_wp2_with fail
              refine (zwithinR Sx.out Sy.out Mx.out My.out hw).mono ?_
              rintro e u38 ⟨rfl, hb⟩
              replace Sx := Lib.hid (Sx.out.below hb)
              replace Sy := Lib.hid (Sy.out.below hb)
              replace Sw := Lib.hid (Sw.out.below hb)
              replace G := Lib.hid (G.out.trans (hb.mono G.out.size))
              clear hb
              go_wp2_with fail
              refine (zcoversR Sx.out Mx.out HK.out H1.out).mono ?_
              rintro e u39 ⟨rfl, hb⟩
              replace Sx := Lib.hid (Sx.out.below hb)
              replace Sy := Lib.hid (Sy.out.below hb)
              replace Sw := Lib.hid (Sw.out.below hb)
              replace G := Lib.hid (G.out.trans (hb.mono G.out.size))
              clear hb
              go_wp2_with fail
              refine (zinterS Sx.out Sy.out Mx.out My.out).mono ?_
              rintro e u40 ⟨v40, rfl, hs, hb⟩
              replace Sx := Lib.hid (Sx.out.below hb)
              replace Sy := Lib.hid (Sy.out.below hb)
              replace Sw := Lib.hid (Sw.out.below hb)
              replace G := Lib.hid (G.out.trans (hb.mono G.out.size))
              have Sq := Lib.hid hs
              clear hs hb
              obtain ⟨aL, cL, hvL, -, -, -, hL⟩ := Sq.out.parts
              subst hvL
              obtain ⟨L, eL⟩ : ∃ n, (inter xs ys).length = n := ⟨_, rfl⟩
              replace Sq := Lib.hid hL
              rw [eL] at Sq ⊢
              have NL := Lib.hid eL
              clear hL eL
              by_cases hl : L ≤ 8
              rotate_left
              · have hl1 : (8 : Int) < (L : Int) := by omega
                go_wp2_with fail
                go_ret
                exact ⟨rfl, G.out⟩
              have hl1 : ¬ (8 : Int) < (L : Int) := by omega
              have RI := Lib.hid (right_iff.2 (zone_inter ZA.out ZB.out (by rw [NL.out]; exact hl)))
              clear hl
              go_wp2_with fail
              refine (zinterS Sx.out Sy.out Mx.out My.out).mono ?_
              rintro e u41 ⟨v41, rfl, hs, hb⟩
              replace Sx := Lib.hid (Sx.out.below hb)
              replace Sy := Lib.hid (Sy.out.below hb)
              replace Sw := Lib.hid (Sw.out.below hb)
              replace Sq := Lib.hid (Sq.out.below hb)
              replace G := Lib.hid (G.out.trans (hb.mono G.out.size))
              have Sp := Lib.hid hs
              clear hs hb
              go_wp2_with fail
              refine (zrightR Sp.out MI.out RI.out).mono ?_
              rintro e u42 ⟨rfl, hb⟩
              replace Sx := Lib.hid (Sx.out.below hb)
              replace Sy := Lib.hid (Sy.out.below hb)
              replace Sw := Lib.hid (Sw.out.below hb)
              replace Sq := Lib.hid (Sq.out.below hb)
              replace Sp := Lib.hid (Sp.out.below hb)
              replace G := Lib.hid (G.out.trans (hb.mono G.out.size))
              clear hb
              go_wp2_with fail
              go_ret
              exact ⟨rfl, G.out⟩
          | true =>
            have H3b := Lib.hid (show covers (inter xs ys) s = r2 by rw [H3.out]; rfl)
            have h22 : (r2 == r2) = true := by simp
            go_wp2_with fail
            refine (zcoversR Si.out MI.out HK.out H3b.out).mono ?_
            rintro e u43 ⟨rfl, hb⟩
            replace Sx := Lib.hid (Sx.out.below hb)
            replace Sy := Lib.hid (Sy.out.below hb)
            replace Si := Lib.hid (Si.out.below hb)
            replace G := Lib.hid (G.out.trans (hb.mono G.out.size))
            clear hb
            go_wp2_with fail
            refine (zcoversR Sx.out Mx.out HK.out H1.out).mono ?_
            rintro e u44 ⟨rfl, hb⟩
            replace Sx := Lib.hid (Sx.out.below hb)
            replace Sy := Lib.hid (Sy.out.below hb)
            replace Si := Lib.hid (Si.out.below hb)
            replace G := Lib.hid (G.out.trans (hb.mono G.out.size))
            clear hb
            go_wp2_with fail
            refine (zcoversR Sy.out My.out HK.out H2.out).mono ?_
            rintro e u45 ⟨rfl, hb⟩
            replace Sx := Lib.hid (Sx.out.below hb)
            replace Sy := Lib.hid (Sy.out.below hb)
            replace Si := Lib.hid (Si.out.below hb)
            replace G := Lib.hid (G.out.trans (hb.mono G.out.size))
            clear hb
            clear Si
            by_cases he : normE (xs ++ ys) = 0
            rotate_left
            · obtain ⟨ne, hne⟩ : ∃ ne, normE (xs ++ ys) = ne := ⟨_, rfl⟩
              rw [hne] at he
              have q1 : ((ne : Int) == 0) = false := by simp; omega
              have HNE := Lib.hid hne
              clear hne he
              go_wp2_with fail
              have KE := zunionS Sx.out Sy.out Mx.out My.out LU.out
              rw [HNE.out] at KE
              refine KE.mono ?_
              rintro e u46 ⟨v46, rfl, hs, hb⟩
              clear KE
              replace Sx := Lib.hid (Sx.out.below hb)
              replace Sy := Lib.hid (Sy.out.below hb)
              replace G := Lib.hid (G.out.trans (hb.mono G.out.size))
              have Su := Lib.hid hs
              clear hs hb
              clear Su
              go_wp2_with fail
              refine (zwithoutS Sx.out Sy.out Mx.out My.out).mono ?_
              rintro e u47 ⟨v47, rfl, hs, hb⟩
              replace Sx := Lib.hid (Sx.out.below hb)
              replace Sy := Lib.hid (Sy.out.below hb)
              replace G := Lib.hid (G.out.trans (hb.mono G.out.size))
              have Sw := Lib.hid hs
              clear hs hb
              go_wp2_with fail
              refine (zrightR Sw.out MW.out RW.out).mono ?_
              rintro e u48 ⟨rfl, hb⟩
              replace Sx := Lib.hid (Sx.out.below hb)
              replace Sy := Lib.hid (Sy.out.below hb)
              replace Sw := Lib.hid (Sw.out.below hb)
              replace G := Lib.hid (G.out.trans (hb.mono G.out.size))
              clear hb
              go_wp2_with fail
              refine (zwithinR Sw.out Sx.out MW.out Mx.out WW.out).mono ?_
              rintro e u49 ⟨rfl, hb⟩
              replace Sx := Lib.hid (Sx.out.below hb)
              replace Sy := Lib.hid (Sy.out.below hb)
              replace Sw := Lib.hid (Sw.out.below hb)
              replace G := Lib.hid (G.out.trans (hb.mono G.out.size))
              clear hb
              cases hw : withinZ xs ys with
              | false =>
                go_wp2_with fail
                refine (zwithinR Sx.out Sy.out Mx.out My.out hw).mono ?_
                rintro e u50 ⟨rfl, hb⟩
                replace Sx := Lib.hid (Sx.out.below hb)
                replace Sy := Lib.hid (Sy.out.below hb)
                replace Sw := Lib.hid (Sw.out.below hb)
                replace G := Lib.hid (G.out.trans (hb.mono G.out.size))
                clear hb
                go_wp2_with fail
                refine (zinterS Sx.out Sy.out Mx.out My.out).mono ?_
                rintro e u51 ⟨v51, rfl, hs, hb⟩
                replace Sx := Lib.hid (Sx.out.below hb)
                replace Sy := Lib.hid (Sy.out.below hb)
                replace Sw := Lib.hid (Sw.out.below hb)
                replace G := Lib.hid (G.out.trans (hb.mono G.out.size))
                have Sq := Lib.hid hs
                clear hs hb
                obtain ⟨aL, cL, hvL, -, -, -, hL⟩ := Sq.out.parts
                subst hvL
                obtain ⟨L, eL⟩ : ∃ n, (inter xs ys).length = n := ⟨_, rfl⟩
                replace Sq := Lib.hid hL
                rw [eL] at Sq ⊢
                have NL := Lib.hid eL
                clear hL eL
                by_cases hl : L ≤ 8
                rotate_left
                · have hl1 : (8 : Int) < (L : Int) := by omega
                  go_wp2_with fail
                  go_ret
                  exact ⟨rfl, G.out⟩
                have hl1 : ¬ (8 : Int) < (L : Int) := by omega
                have RI := Lib.hid (right_iff.2 (zone_inter ZA.out ZB.out (by rw [NL.out]; exact hl)))
                clear hl
                go_wp2_with fail
                refine (zinterS Sx.out Sy.out Mx.out My.out).mono ?_
                rintro e u52 ⟨v52, rfl, hs, hb⟩
                replace Sx := Lib.hid (Sx.out.below hb)
                replace Sy := Lib.hid (Sy.out.below hb)
                replace Sw := Lib.hid (Sw.out.below hb)
                replace Sq := Lib.hid (Sq.out.below hb)
                replace G := Lib.hid (G.out.trans (hb.mono G.out.size))
                have Sp := Lib.hid hs
                clear hs hb
                go_wp2_with fail
                refine (zrightR Sp.out MI.out RI.out).mono ?_
                rintro e u53 ⟨rfl, hb⟩
                replace Sx := Lib.hid (Sx.out.below hb)
                replace Sy := Lib.hid (Sy.out.below hb)
                replace Sw := Lib.hid (Sw.out.below hb)
                replace Sq := Lib.hid (Sq.out.below hb)
                replace Sp := Lib.hid (Sp.out.below hb)
                replace G := Lib.hid (G.out.trans (hb.mono G.out.size))
                clear hb
                go_wp2_with fail
                go_ret
                exact ⟨rfl, G.out⟩
              | true =>
                go_wp2_with fail
                refine (zwithinR Sx.out Sy.out Mx.out My.out hw).mono ?_
                rintro e u54 ⟨rfl, hb⟩
                replace Sx := Lib.hid (Sx.out.below hb)
                replace Sy := Lib.hid (Sy.out.below hb)
                replace Sw := Lib.hid (Sw.out.below hb)
                replace G := Lib.hid (G.out.trans (hb.mono G.out.size))
                clear hb
                have H4 := Lib.hid (within_covers hw H1.out)
                go_wp2_with fail
                refine (zcoversR Sx.out Mx.out HK.out H1.out).mono ?_
                rintro e u55 ⟨rfl, hb⟩
                replace Sx := Lib.hid (Sx.out.below hb)
                replace Sy := Lib.hid (Sy.out.below hb)
                replace Sw := Lib.hid (Sw.out.below hb)
                replace G := Lib.hid (G.out.trans (hb.mono G.out.size))
                clear hb
                go_wp2_with fail
                refine (zcoversR Sy.out My.out HK.out H4.out).mono ?_
                rintro e u56 ⟨rfl, hb⟩
                replace Sx := Lib.hid (Sx.out.below hb)
                replace Sy := Lib.hid (Sy.out.below hb)
                replace Sw := Lib.hid (Sw.out.below hb)
                replace G := Lib.hid (G.out.trans (hb.mono G.out.size))
                clear hb
                go_wp2_with fail
                refine (zinterS Sx.out Sy.out Mx.out My.out).mono ?_
                rintro e u57 ⟨v57, rfl, hs, hb⟩
                replace Sx := Lib.hid (Sx.out.below hb)
                replace Sy := Lib.hid (Sy.out.below hb)
                replace Sw := Lib.hid (Sw.out.below hb)
                replace G := Lib.hid (G.out.trans (hb.mono G.out.size))
                have Sq := Lib.hid hs
                clear hs hb
                obtain ⟨aL, cL, hvL, -, -, -, hL⟩ := Sq.out.parts
                subst hvL
                obtain ⟨L, eL⟩ : ∃ n, (inter xs ys).length = n := ⟨_, rfl⟩
                replace Sq := Lib.hid hL
                rw [eL] at Sq ⊢
                have NL := Lib.hid eL
                clear hL eL
                by_cases hl : L ≤ 8
                rotate_left
                · have hl1 : (8 : Int) < (L : Int) := by omega
                  go_wp2_with fail
                  go_ret
                  exact ⟨rfl, G.out⟩
                have hl1 : ¬ (8 : Int) < (L : Int) := by omega
                have RI := Lib.hid (right_iff.2 (zone_inter ZA.out ZB.out (by rw [NL.out]; exact hl)))
                clear hl
                go_wp2_with fail
                refine (zinterS Sx.out Sy.out Mx.out My.out).mono ?_
                rintro e u58 ⟨v58, rfl, hs, hb⟩
                replace Sx := Lib.hid (Sx.out.below hb)
                replace Sy := Lib.hid (Sy.out.below hb)
                replace Sw := Lib.hid (Sw.out.below hb)
                replace Sq := Lib.hid (Sq.out.below hb)
                replace G := Lib.hid (G.out.trans (hb.mono G.out.size))
                have Sp := Lib.hid hs
                clear hs hb
                go_wp2_with fail
                refine (zrightR Sp.out MI.out RI.out).mono ?_
                rintro e u59 ⟨rfl, hb⟩
                replace Sx := Lib.hid (Sx.out.below hb)
                replace Sy := Lib.hid (Sy.out.below hb)
                replace Sw := Lib.hid (Sw.out.below hb)
                replace Sq := Lib.hid (Sq.out.below hb)
                replace Sp := Lib.hid (Sp.out.below hb)
                replace G := Lib.hid (G.out.trans (hb.mono G.out.size))
                clear hb
                go_wp2_with fail
                go_ret
                exact ⟨rfl, G.out⟩
            have HU := Lib.hid (show covers (normV (xs ++ ys)) s = (true || r2) by rw [normV_ok he, covers_least, covers_append, H1.out, H2.out])
            have HE := Lib.hid he
            clear he
            go_wp2_with fail
            have KE := zunionS Sx.out Sy.out Mx.out My.out LU.out
            rw [HE.out] at KE
            refine KE.mono ?_
            rintro e u60 ⟨v60, rfl, hs, hb⟩
            clear KE
            replace Sx := Lib.hid (Sx.out.below hb)
            replace Sy := Lib.hid (Sy.out.below hb)
            replace G := Lib.hid (G.out.trans (hb.mono G.out.size))
            have Su := Lib.hid hs
            clear hs hb
            go_wp2_with fail
            refine (zcoversR Su.out MU.out HK.out HU.out).mono ?_
            rintro e u61 ⟨rfl, hb⟩
            replace Sx := Lib.hid (Sx.out.below hb)
            replace Sy := Lib.hid (Sy.out.below hb)
            replace Su := Lib.hid (Su.out.below hb)
            replace G := Lib.hid (G.out.trans (hb.mono G.out.size))
            clear hb
            go_wp2_with fail
            refine (zcoversR Sx.out Mx.out HK.out H1.out).mono ?_
            rintro e u62 ⟨rfl, hb⟩
            replace Sx := Lib.hid (Sx.out.below hb)
            replace Sy := Lib.hid (Sy.out.below hb)
            replace Su := Lib.hid (Su.out.below hb)
            replace G := Lib.hid (G.out.trans (hb.mono G.out.size))
            clear hb
            clear Su
            go_wp2_with fail
            refine (zwithoutS Sx.out Sy.out Mx.out My.out).mono ?_
            rintro e u63 ⟨v63, rfl, hs, hb⟩
            replace Sx := Lib.hid (Sx.out.below hb)
            replace Sy := Lib.hid (Sy.out.below hb)
            replace G := Lib.hid (G.out.trans (hb.mono G.out.size))
            have Sw := Lib.hid hs
            clear hs hb
            go_wp2_with fail
            refine (zrightR Sw.out MW.out RW.out).mono ?_
            rintro e u64 ⟨rfl, hb⟩
            replace Sx := Lib.hid (Sx.out.below hb)
            replace Sy := Lib.hid (Sy.out.below hb)
            replace Sw := Lib.hid (Sw.out.below hb)
            replace G := Lib.hid (G.out.trans (hb.mono G.out.size))
            clear hb
            go_wp2_with fail
            refine (zwithinR Sw.out Sx.out MW.out Mx.out WW.out).mono ?_
            rintro e u65 ⟨rfl, hb⟩
            replace Sx := Lib.hid (Sx.out.below hb)
            replace Sy := Lib.hid (Sy.out.below hb)
            replace Sw := Lib.hid (Sw.out.below hb)
            replace G := Lib.hid (G.out.trans (hb.mono G.out.size))
            clear hb
            cases hw : withinZ xs ys with
            | false =>
              go_wp2_with fail
              refine (zwithinR Sx.out Sy.out Mx.out My.out hw).mono ?_
              rintro e u66 ⟨rfl, hb⟩
              replace Sx := Lib.hid (Sx.out.below hb)
              replace Sy := Lib.hid (Sy.out.below hb)
              replace Sw := Lib.hid (Sw.out.below hb)
              replace G := Lib.hid (G.out.trans (hb.mono G.out.size))
              clear hb
              go_wp2_with fail
              refine (zinterS Sx.out Sy.out Mx.out My.out).mono ?_
              rintro e u67 ⟨v67, rfl, hs, hb⟩
              replace Sx := Lib.hid (Sx.out.below hb)
              replace Sy := Lib.hid (Sy.out.below hb)
              replace Sw := Lib.hid (Sw.out.below hb)
              replace G := Lib.hid (G.out.trans (hb.mono G.out.size))
              have Sq := Lib.hid hs
              clear hs hb
              obtain ⟨aL, cL, hvL, -, -, -, hL⟩ := Sq.out.parts
              subst hvL
              obtain ⟨L, eL⟩ : ∃ n, (inter xs ys).length = n := ⟨_, rfl⟩
              replace Sq := Lib.hid hL
              rw [eL] at Sq ⊢
              have NL := Lib.hid eL
              clear hL eL
              by_cases hl : L ≤ 8
              rotate_left
              · have hl1 : (8 : Int) < (L : Int) := by omega
                go_wp2_with fail
                go_ret
                exact ⟨rfl, G.out⟩
              have hl1 : ¬ (8 : Int) < (L : Int) := by omega
              have RI := Lib.hid (right_iff.2 (zone_inter ZA.out ZB.out (by rw [NL.out]; exact hl)))
              clear hl
              go_wp2_with fail
              refine (zinterS Sx.out Sy.out Mx.out My.out).mono ?_
              rintro e u68 ⟨v68, rfl, hs, hb⟩
              replace Sx := Lib.hid (Sx.out.below hb)
              replace Sy := Lib.hid (Sy.out.below hb)
              replace Sw := Lib.hid (Sw.out.below hb)
              replace Sq := Lib.hid (Sq.out.below hb)
              replace G := Lib.hid (G.out.trans (hb.mono G.out.size))
              have Sp := Lib.hid hs
              clear hs hb
              go_wp2_with fail
              refine (zrightR Sp.out MI.out RI.out).mono ?_
              rintro e u69 ⟨rfl, hb⟩
              replace Sx := Lib.hid (Sx.out.below hb)
              replace Sy := Lib.hid (Sy.out.below hb)
              replace Sw := Lib.hid (Sw.out.below hb)
              replace Sq := Lib.hid (Sq.out.below hb)
              replace Sp := Lib.hid (Sp.out.below hb)
              replace G := Lib.hid (G.out.trans (hb.mono G.out.size))
              clear hb
              go_wp2_with fail
              go_ret
              exact ⟨rfl, G.out⟩
            | true =>
              go_wp2_with fail
              refine (zwithinR Sx.out Sy.out Mx.out My.out hw).mono ?_
              rintro e u70 ⟨rfl, hb⟩
              replace Sx := Lib.hid (Sx.out.below hb)
              replace Sy := Lib.hid (Sy.out.below hb)
              replace Sw := Lib.hid (Sw.out.below hb)
              replace G := Lib.hid (G.out.trans (hb.mono G.out.size))
              clear hb
              have H4 := Lib.hid (within_covers hw H1.out)
              go_wp2_with fail
              refine (zcoversR Sx.out Mx.out HK.out H1.out).mono ?_
              rintro e u71 ⟨rfl, hb⟩
              replace Sx := Lib.hid (Sx.out.below hb)
              replace Sy := Lib.hid (Sy.out.below hb)
              replace Sw := Lib.hid (Sw.out.below hb)
              replace G := Lib.hid (G.out.trans (hb.mono G.out.size))
              clear hb
              go_wp2_with fail
              refine (zcoversR Sy.out My.out HK.out H4.out).mono ?_
              rintro e u72 ⟨rfl, hb⟩
              replace Sx := Lib.hid (Sx.out.below hb)
              replace Sy := Lib.hid (Sy.out.below hb)
              replace Sw := Lib.hid (Sw.out.below hb)
              replace G := Lib.hid (G.out.trans (hb.mono G.out.size))
              clear hb
              go_wp2_with fail
              refine (zinterS Sx.out Sy.out Mx.out My.out).mono ?_
              rintro e u73 ⟨v73, rfl, hs, hb⟩
              replace Sx := Lib.hid (Sx.out.below hb)
              replace Sy := Lib.hid (Sy.out.below hb)
              replace Sw := Lib.hid (Sw.out.below hb)
              replace G := Lib.hid (G.out.trans (hb.mono G.out.size))
              have Sq := Lib.hid hs
              clear hs hb
              obtain ⟨aL, cL, hvL, -, -, -, hL⟩ := Sq.out.parts
              subst hvL
              obtain ⟨L, eL⟩ : ∃ n, (inter xs ys).length = n := ⟨_, rfl⟩
              replace Sq := Lib.hid hL
              rw [eL] at Sq ⊢
              have NL := Lib.hid eL
              clear hL eL
              by_cases hl : L ≤ 8
              rotate_left
              · have hl1 : (8 : Int) < (L : Int) := by omega
                go_wp2_with fail
                go_ret
                exact ⟨rfl, G.out⟩
              have hl1 : ¬ (8 : Int) < (L : Int) := by omega
              have RI := Lib.hid (right_iff.2 (zone_inter ZA.out ZB.out (by rw [NL.out]; exact hl)))
              clear hl
              go_wp2_with fail
              refine (zinterS Sx.out Sy.out Mx.out My.out).mono ?_
              rintro e u74 ⟨v74, rfl, hs, hb⟩
              replace Sx := Lib.hid (Sx.out.below hb)
              replace Sy := Lib.hid (Sy.out.below hb)
              replace Sw := Lib.hid (Sw.out.below hb)
              replace Sq := Lib.hid (Sq.out.below hb)
              replace G := Lib.hid (G.out.trans (hb.mono G.out.size))
              have Sp := Lib.hid hs
              clear hs hb
              go_wp2_with fail
              refine (zrightR Sp.out MI.out RI.out).mono ?_
              rintro e u75 ⟨rfl, hb⟩
              replace Sx := Lib.hid (Sx.out.below hb)
              replace Sy := Lib.hid (Sy.out.below hb)
              replace Sw := Lib.hid (Sw.out.below hb)
              replace Sq := Lib.hid (Sq.out.below hb)
              replace Sp := Lib.hid (Sp.out.below hb)
              replace G := Lib.hid (G.out.trans (hb.mono G.out.size))
              clear hb
              go_wp2_with fail
              go_ret
              exact ⟨rfl, G.out⟩

set_option maxRecDepth 100000 in
theorem lifted (os : Os) (started : os.Started) (H : Type) (enc : TypeId × Value → H) :
    ReturnsInHanded {} Try.checked os 5 .any (Rows.zoneLawsSpec.pre6 enc Try.prog Try.f5 Rows.zoneLawsRow.domain false) (Rows.zoneLawsSpec.post enc Try.prog Try.f5 false true false false) := by
  refine returnsInHanded_of_change (C := Try.checked) own started (by kernel_rfl) Try.func5
    (ChangeSpec.witness6 (enc := enc) (C := Try.checked) false ⟨#[], #[.slice none 0 0, .slice none 0 0, .string ByteArray.empty], []⟩ 8 (by kernel_rfl) (by kernel_rfl) (by kernel_rfl) (by kernel_rfl)) ?_
  intro W base args ds gs before hval0 hW hcnd _
  have hval : ∀ (j : Nat) t v, Try.f5.params[j]? = some t → args[j]? = some v → Value.okWide Try.prog W .any base t v := hval0
  have hW' := hW
  obtain ⟨p, q, hA0, hV, rfl, hfz, hnd⟩ := hW
  have hA : DataW.TrodAll enc Try.prog W 0 (fun _ => true) true Try.f5.params.toList args.toList ds p := hA0
  rw [Try.params5] at hA hval
  obtain ⟨v0, vs0, d0, ds0, p0, q0, hargs, rfl, rfl, h0, r0⟩ := trodAll_cons hA
  obtain ⟨v1, vs1, d1, ds1, p1, q1, rfl, rfl, rfl, h1, r1⟩ := trodAll_cons r0
  obtain ⟨v2, vs2, d2, ds2, p2, q2, rfl, rfl, rfl, h2, r2⟩ := trodAll_cons r1
  obtain ⟨rfl, rfl, rfl⟩ := trodAll_nil r2
  obtain rfl : args = #[v0, v1, v2] := by cases args; simp_all
  obtain ⟨rfl, rfl⟩ := trodVars_none hV
  have k0 := h0
  have lt0 : ∀ x ∈ p0, x.block < W.heap.size := by obtain ⟨m, hm⟩ := k0; exact DataW.trod_lt m _ _ _ hm
  have w0 := open0 (hval 0 22 v0 rfl rfl) h0
  have k1 := h1
  have lt1 : ∀ x ∈ p1, x.block < W.heap.size := by obtain ⟨m, hm⟩ := k1; exact DataW.trod_lt m _ _ _ hm
  have w1 := open1 (hval 1 22 v1 rfl rfl) h1
  obtain ⟨a2, rfl, rfl, rfl, w2⟩ := open_string Try.underlying9 (hval 2 9 v2 rfl rfl) h2
  clear hA0 hval0
  refine (walk v0 v1 a2 W w0 w1 w2).mono fun e W' ⟨he, bel⟩ => ?_
  subst he
  exact ⟨_, rfl, _, _, _, [], _, [], hW', trodAll_mk1 (shut_bool Try.underlying4 _), (trodAll_cons_mk (Below.trod laidOut (by kernel_rfl) (of_decide_eq_true (by kernel_rfl)) k0 bel lt0) (trodAll_cons_mk (Below.trod laidOut (by kernel_rfl) (of_decide_eq_true (by kernel_rfl)) k1 bel lt1) (trodAll_cons_mk (shut_string Try.underlying9 w2) trodAll_mk0))), rfl, bel.frame _, fun h => by cases h⟩

theorem over : Rows.zoneLawsRow.holds Try.pinned (OpenSpec.ofChange Rows.zoneLawsSpec) :=
  OpenClaim.holds_of_wide 5 Try.f5 rfl rfl rfl rfl rfl rfl rfl ⟨rfl, rfl, rfl, rfl, rfl⟩ rfl rfl rfl rfl rfl (by kernel_rfl) Try.func5 (by kernel_rfl)
    (of_decide_eq_true (by kernel_rfl)) (by unfold Func.isWrapper; first | (rw [if_pos (by decide +kernel)]; kernel_rfl) | (rw [if_neg (by decide +kernel)]; exact ⟨rfl, rfl⟩))
    (fun os started H enc _ => lifted os started H enc)

/-- the given statement -/
theorem proved : Rows.ZoneLawsSaid := over
#print axioms proved
end Go.Proofs.Ytklgnmhbfdjoeaa.zoneLaws
