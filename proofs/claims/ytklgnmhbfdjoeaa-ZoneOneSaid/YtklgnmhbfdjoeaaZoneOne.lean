/-
  For any two lists of texts the law ZoneOne answers true: two zones in their one form that are within each other are the same. No condition.
  (The frame was written by the guide's proof-skeleton.mjs, turned for slices of texts; the walk is ours.)
-/
import Derived.Test.YtklgnmhbfdjoeaaRows
import Derived.WalkKit
import Derived.ProofKit
import Derived.OpenShut
import Derived.ShutString
import Derived.ChangeOld
import Derived.Below
import Derived.Test.YtklgnmhbfdjoeaaAwakeZ
namespace Go.Proofs.Ytklgnmhbfdjoeaa.zoneOne
open Go.ChangeShapes Go.WideShapes Go.ChangeAt Go.RowKit
open Go.ChangeMaps (open_string shut_string)
set_option linter.unusedVariables false

theorem own : ownKnob Try.prog.godebug = none := by kernel_rfl
theorem laidOut : laidOutB Try.prog = true := by kernel_rfl

open Plain

theorem open0 {H : Type} {enc : TypeId × Value → H} {W : World} {r : Reach} {b : Nat} {v : Value} {d : DataW H} {p : List MemPlace} (hv : Value.okWide Try.prog W r b 22 v) (h : DataW.Trod enc Try.prog W 0 (fun _ => true) true 22 v d p) : IsTexts W v := texts_of_trod hv h
theorem open1 {H : Type} {enc : TypeId × Value → H} {W : World} {r : Reach} {b : Nat} {v : Value} {d : DataW H} {p : List MemPlace} (hv : Value.okWide Try.prog W r b 22 v) (h : DataW.Trod enc Try.prog W 0 (fun _ => true) true 22 v d p) : IsTexts W v := texts_of_trod hv h

set_option maxRecDepth 100000 in
set_option maxHeartbeats 16000000 in
theorem walk (v0 : Value) (v1 : Value) (w : World) (w0 : IsTexts w v0) (w1 : IsTexts w v1) :
    Calls Try.prog 6 #[v0, v1] w fun e w' => e = .returned (.bool true) ∧ Below w.heap.size w w' := by
  obtain ⟨xs, s0⟩ := w0
  have Sx := Lib.hid s0
  clear s0
  obtain ⟨ys, s1⟩ := w1
  have Sy := Lib.hid s1
  clear s1
  have G := Lib.hid (Below.refl w.heap.size w)
  go_enter Try.func6, Try.ntmps6
  go_wp2_with fail
  refine (awake_any _).mono ?_
  rintro e u2 ⟨rfl, hb⟩
  replace Sx := Lib.hid (Sx.out.below hb)
  replace Sy := Lib.hid (Sy.out.below hb)
  replace G := Lib.hid (G.out.trans (hb.mono G.out.size))
  clear hb
  cases hA : shortB xs with
  | false =>
    go_wp2_with fail
    refine (rshortR Sx.out hA).mono ?_
    rintro e u3 ⟨rfl, hb⟩
    replace Sx := Lib.hid (Sx.out.below hb)
    replace Sy := Lib.hid (Sy.out.below hb)
    replace G := Lib.hid (G.out.trans (hb.mono G.out.size))
    clear hb
    go_wp2_with fail
    go_ret
    exact ⟨rfl, G.out⟩
  | true =>
    go_wp2_with fail
    refine (rshortR Sx.out hA).mono ?_
    rintro e u4 ⟨rfl, hb⟩
    replace Sx := Lib.hid (Sx.out.below hb)
    replace Sy := Lib.hid (Sy.out.below hb)
    replace G := Lib.hid (G.out.trans (hb.mono G.out.size))
    clear hb
    have Mx := Lib.hid (small_of hA)
    cases hB : shortB ys with
    | false =>
      go_wp2_with fail
      refine (rshortR Sy.out hB).mono ?_
      rintro e u5 ⟨rfl, hb⟩
      replace Sx := Lib.hid (Sx.out.below hb)
      replace Sy := Lib.hid (Sy.out.below hb)
      replace G := Lib.hid (G.out.trans (hb.mono G.out.size))
      clear hb
      go_wp2_with fail
      go_ret
      exact ⟨rfl, G.out⟩
    | true =>
      go_wp2_with fail
      refine (rshortR Sy.out hB).mono ?_
      rintro e u6 ⟨rfl, hb⟩
      replace Sx := Lib.hid (Sx.out.below hb)
      replace Sy := Lib.hid (Sy.out.below hb)
      replace G := Lib.hid (G.out.trans (hb.mono G.out.size))
      clear hb
      have My := Lib.hid (small_of hB)
      cases hC : rightB xs with
      | false =>
        go_wp2_with fail
        refine (zrightR Sx.out Mx.out hC).mono ?_
        rintro e u7 ⟨rfl, hb⟩
        replace Sx := Lib.hid (Sx.out.below hb)
        replace Sy := Lib.hid (Sy.out.below hb)
        replace G := Lib.hid (G.out.trans (hb.mono G.out.size))
        clear hb
        go_wp2_with fail
        go_ret
        exact ⟨rfl, G.out⟩
      | true =>
        go_wp2_with fail
        refine (zrightR Sx.out Mx.out hC).mono ?_
        rintro e u8 ⟨rfl, hb⟩
        replace Sx := Lib.hid (Sx.out.below hb)
        replace Sy := Lib.hid (Sy.out.below hb)
        replace G := Lib.hid (G.out.trans (hb.mono G.out.size))
        clear hb
        cases hD : rightB ys with
        | false =>
          go_wp2_with fail
          refine (zrightR Sy.out My.out hD).mono ?_
          rintro e u9 ⟨rfl, hb⟩
          replace Sx := Lib.hid (Sx.out.below hb)
          replace Sy := Lib.hid (Sy.out.below hb)
          replace G := Lib.hid (G.out.trans (hb.mono G.out.size))
          clear hb
          go_wp2_with fail
          go_ret
          exact ⟨rfl, G.out⟩
        | true =>
          go_wp2_with fail
          refine (zrightR Sy.out My.out hD).mono ?_
          rintro e u10 ⟨rfl, hb⟩
          replace Sx := Lib.hid (Sx.out.below hb)
          replace Sy := Lib.hid (Sy.out.below hb)
          replace G := Lib.hid (G.out.trans (hb.mono G.out.size))
          clear hb
          have ZA := Lib.hid (right_iff.1 hC)
          have ZB := Lib.hid (right_iff.1 hD)
          clear hA hB hC hD
          cases h1 : withinZ xs ys with
          | false =>
            have hne := Lib.hid (show decide (xs = ys) = false from decide_eq_false fun e => by subst e; rw [within_self] at h1; exact absurd h1 (by decide))
            go_wp2_with fail
            refine (zwithinR Sx.out Sy.out Mx.out My.out h1).mono ?_
            rintro e u11 ⟨rfl, hb⟩
            replace Sx := Lib.hid (Sx.out.below hb)
            replace Sy := Lib.hid (Sy.out.below hb)
            replace G := Lib.hid (G.out.trans (hb.mono G.out.size))
            clear hb
            go_wp2_with fail
            refine (rsameR Sx.out Sy.out hne.out).mono ?_
            rintro e u12 ⟨rfl, hb⟩
            replace Sx := Lib.hid (Sx.out.below hb)
            replace Sy := Lib.hid (Sy.out.below hb)
            replace G := Lib.hid (G.out.trans (hb.mono G.out.size))
            clear hb
            go_wp2_with fail
            go_ret
            exact ⟨rfl, G.out⟩
          | true =>
            cases h2 : withinZ ys xs with
            | false =>
              have hne := Lib.hid (show decide (xs = ys) = false from decide_eq_false fun e => by subst e; rw [within_self] at h2; exact absurd h2 (by decide))
              go_wp2_with fail
              refine (zwithinR Sx.out Sy.out Mx.out My.out h1).mono ?_
              rintro e u13 ⟨rfl, hb⟩
              replace Sx := Lib.hid (Sx.out.below hb)
              replace Sy := Lib.hid (Sy.out.below hb)
              replace G := Lib.hid (G.out.trans (hb.mono G.out.size))
              clear hb
              go_wp2_with fail
              refine (zwithinR Sy.out Sx.out My.out Mx.out h2).mono ?_
              rintro e u14 ⟨rfl, hb⟩
              replace Sx := Lib.hid (Sx.out.below hb)
              replace Sy := Lib.hid (Sy.out.below hb)
              replace G := Lib.hid (G.out.trans (hb.mono G.out.size))
              clear hb
              go_wp2_with fail
              refine (rsameR Sx.out Sy.out hne.out).mono ?_
              rintro e u15 ⟨rfl, hb⟩
              replace Sx := Lib.hid (Sx.out.below hb)
              replace Sy := Lib.hid (Sy.out.below hb)
              replace G := Lib.hid (G.out.trans (hb.mono G.out.size))
              clear hb
              go_wp2_with fail
              go_ret
              exact ⟨rfl, G.out⟩
            | true =>
              have heq := Lib.hid (zone_one ZA.out ZB.out h1 h2)
              go_wp2_with fail
              refine (zwithinR Sx.out Sy.out Mx.out My.out h1).mono ?_
              rintro e u16 ⟨rfl, hb⟩
              replace Sx := Lib.hid (Sx.out.below hb)
              replace Sy := Lib.hid (Sy.out.below hb)
              replace G := Lib.hid (G.out.trans (hb.mono G.out.size))
              clear hb
              go_wp2_with fail
              refine (zwithinR Sy.out Sx.out My.out Mx.out h2).mono ?_
              rintro e u17 ⟨rfl, hb⟩
              replace Sx := Lib.hid (Sx.out.below hb)
              replace Sy := Lib.hid (Sy.out.below hb)
              replace G := Lib.hid (G.out.trans (hb.mono G.out.size))
              clear hb
              go_wp2_with fail
              refine (rsame_eq Sx.out Sy.out heq.out).mono ?_
              rintro e u18 ⟨rfl, hb⟩
              replace Sx := Lib.hid (Sx.out.below hb)
              replace Sy := Lib.hid (Sy.out.below hb)
              replace G := Lib.hid (G.out.trans (hb.mono G.out.size))
              clear hb
              go_wp2_with fail
              go_ret
              exact ⟨rfl, G.out⟩

set_option maxRecDepth 100000 in
theorem lifted (os : Os) (started : os.Started) (H : Type) (enc : TypeId × Value → H) :
    ReturnsInHanded {} Try.checked os 6 .any (Rows.zoneOneSpec.pre6 enc Try.prog Try.f6 Rows.zoneOneRow.domain false) (Rows.zoneOneSpec.post enc Try.prog Try.f6 false true false false) := by
  refine returnsInHanded_of_change (C := Try.checked) own started (by kernel_rfl) Try.func6
    (ChangeSpec.witness6 (enc := enc) (C := Try.checked) false ⟨#[], #[.slice none 0 0, .slice none 0 0], []⟩ 8 (by kernel_rfl) (by kernel_rfl) (by kernel_rfl) (by kernel_rfl)) ?_
  intro W base args ds gs before hval0 hW hcnd _
  have hval : ∀ (j : Nat) t v, Try.f6.params[j]? = some t → args[j]? = some v → Value.okWide Try.prog W .any base t v := hval0
  have hW' := hW
  obtain ⟨p, q, hA0, hV, rfl, hfz, hnd⟩ := hW
  have hA : DataW.TrodAll enc Try.prog W 0 (fun _ => true) true Try.f6.params.toList args.toList ds p := hA0
  rw [Try.params6] at hA hval
  obtain ⟨v0, vs0, d0, ds0, p0, q0, hargs, rfl, rfl, h0, r0⟩ := trodAll_cons hA
  obtain ⟨v1, vs1, d1, ds1, p1, q1, rfl, rfl, rfl, h1, r1⟩ := trodAll_cons r0
  obtain ⟨rfl, rfl, rfl⟩ := trodAll_nil r1
  obtain rfl : args = #[v0, v1] := by cases args; simp_all
  obtain ⟨rfl, rfl⟩ := trodVars_none hV
  have k0 := h0
  have lt0 : ∀ x ∈ p0, x.block < W.heap.size := by obtain ⟨m, hm⟩ := k0; exact DataW.trod_lt m _ _ _ hm
  have w0 := open0 (hval 0 22 v0 rfl rfl) h0
  have k1 := h1
  have lt1 : ∀ x ∈ p1, x.block < W.heap.size := by obtain ⟨m, hm⟩ := k1; exact DataW.trod_lt m _ _ _ hm
  have w1 := open1 (hval 1 22 v1 rfl rfl) h1
  clear hA0 hval0
  refine (walk v0 v1 W w0 w1).mono fun e W' ⟨he, bel⟩ => ?_
  subst he
  exact ⟨_, rfl, _, _, _, [], _, [], hW', trodAll_mk1 (shut_bool Try.underlying4 _), (trodAll_cons_mk (Below.trod laidOut (by kernel_rfl) (of_decide_eq_true (by kernel_rfl)) k0 bel lt0) (trodAll_cons_mk (Below.trod laidOut (by kernel_rfl) (of_decide_eq_true (by kernel_rfl)) k1 bel lt1) trodAll_mk0)), rfl, bel.frame _, fun h => by cases h⟩

theorem over : Rows.zoneOneRow.holds Try.pinned (OpenSpec.ofChange Rows.zoneOneSpec) :=
  OpenClaim.holds_of_wide 6 Try.f6 rfl rfl rfl rfl rfl rfl rfl ⟨rfl, rfl, rfl, rfl, rfl⟩ rfl rfl rfl rfl rfl (by kernel_rfl) Try.func6 (by kernel_rfl)
    (of_decide_eq_true (by kernel_rfl)) (by unfold Func.isWrapper; first | (rw [if_pos (by decide +kernel)]; kernel_rfl) | (rw [if_neg (by decide +kernel)]; exact ⟨rfl, rfl⟩))
    (fun os started H enc _ => lifted os started H enc)

/-- the given statement -/
theorem proved : Rows.ZoneOneSaid := over
#print axioms proved
end Go.Proofs.Ytklgnmhbfdjoeaa.zoneOne
