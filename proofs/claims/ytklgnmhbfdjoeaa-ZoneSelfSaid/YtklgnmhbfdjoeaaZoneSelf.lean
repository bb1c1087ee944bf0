/-
  For any list of texts the law ZoneSelf answers true: a zone with itself is itself, without itself it is nothing; with nothing it is itself. No condition.
  (The frame was written by the guide's proof-skeleton.mjs, turned for slices of texts; the walk is ours.)
-/
import Derived.Test.YtklgnmhbfdjoeaaRows
import Derived.WalkKit
import Derived.ProofKit
import Derived.OpenShut
import Derived.ShutString
import Derived.ChangeOld
import Derived.Below
import Derived.Test.YtklgnmhbfdjoeaaAwakeZ
namespace Go.Proofs.Ytklgnmhbfdjoeaa.zoneSelf
open Go.ChangeShapes Go.WideShapes Go.ChangeAt Go.RowKit
open Go.ChangeMaps (open_string shut_string)
set_option linter.unusedVariables false

theorem own : ownKnob Try.prog.godebug = none := by kernel_rfl
theorem laidOut : laidOutB Try.prog = true := by kernel_rfl

open Plain

theorem open0 {H : Type} {enc : TypeId × Value → H} {W : World} {r : Reach} {b : Nat} {v : Value} {d : DataW H} {p : List MemPlace} (hv : Value.okWide Try.prog W r b 22 v) (h : DataW.Trod enc Try.prog W 0 (fun _ => true) true 22 v d p) : IsTexts W v := texts_of_trod hv h

set_option maxRecDepth 100000 in
set_option maxHeartbeats 16000000 in
theorem walk (v0 : Value) (w : World) (w0 : IsTexts w v0) :
    Calls Try.prog 7 #[v0] w fun e w' => e = .returned (.bool true) ∧ Below w.heap.size w w' := by
  obtain ⟨xs, s0⟩ := w0
  have Sx := Lib.hid s0
  clear s0
  have G := Lib.hid (Below.refl w.heap.size w)
  go_enter Try.func7, Try.ntmps7
  go_wp2_with fail
  refine (awake_any _).mono ?_
  rintro e u2 ⟨rfl, hb⟩
  replace Sx := Lib.hid (Sx.out.below hb)
  replace G := Lib.hid (G.out.trans (hb.mono G.out.size))
  clear hb
  cases hA : shortB xs with
  | false =>
    go_wp2_with fail
    refine (rshortR Sx.out hA).mono ?_
    rintro e u3 ⟨rfl, hb⟩
    replace Sx := Lib.hid (Sx.out.below hb)
    replace G := Lib.hid (G.out.trans (hb.mono G.out.size))
    clear hb
    go_wp2_with fail
    go_ret
    exact ⟨rfl, G.out⟩
  | true =>
    go_wp2_with fail
    refine (rshortR Sx.out hA).mono ?_
    rintro e u4 ⟨rfl, hb⟩
    replace Sx := Lib.hid (Sx.out.below hb)
    replace G := Lib.hid (G.out.trans (hb.mono G.out.size))
    clear hb
    have Mx := Lib.hid (small_of hA)
    cases hC : rightB xs with
    | false =>
      go_wp2_with fail
      refine (zrightR Sx.out Mx.out hC).mono ?_
      rintro e u5 ⟨rfl, hb⟩
      replace Sx := Lib.hid (Sx.out.below hb)
      replace G := Lib.hid (G.out.trans (hb.mono G.out.size))
      clear hb
      go_wp2_with fail
      go_ret
      exact ⟨rfl, G.out⟩
    | true =>
      go_wp2_with fail
      refine (zrightR Sx.out Mx.out hC).mono ?_
      rintro e u6 ⟨rfl, hb⟩
      replace Sx := Lib.hid (Sx.out.below hb)
      replace G := Lib.hid (G.out.trans (hb.mono G.out.size))
      clear hb
      have ZA := right_iff.1 hC
      have LS := Lib.hid (show (xs ++ xs).length ≤ 36 by have := ZA.2.2.2; rw [List.length_append]; omega)
      have L0 := Lib.hid (show (xs ++ []).length ≤ 36 by have := ZA.2.2.2; rw [List.append_nil]; omega)
      have V1 := Lib.hid ((normV_ok (normE_self2 ZA)).trans (least_self2 ZA))
      have E1 := Lib.hid (normE_self2 ZA)
      have EN := Lib.hid (show normE (xs ++ []) = 0 by rw [List.append_nil]; exact (zone_iff.1 ZA).1)
      have VN := Lib.hid (show normV (xs ++ []) = xs by rw [List.append_nil]; exact (normV_ok (zone_iff.1 ZA).1).trans (zone_iff.1 ZA).2)
      have I1 := Lib.hid (inter_self ZA)
      have W2 := Lib.hid (without_nil ZA)
      clear ZA hA hC
      go_wp2_with fail
      have KE := zunionS Sx.out Sx.out Mx.out Mx.out LS.out
      rw [V1.out, E1.out] at KE
      refine KE.mono ?_
      rintro e u7 ⟨v7, rfl, hs, hb⟩
      clear KE
      replace Sx := Lib.hid (Sx.out.below hb)
      replace G := Lib.hid (G.out.trans (hb.mono G.out.size))
      have Su := Lib.hid hs
      clear hs hb
      go_wp2_with fail
      have KE := zunionS Sx.out (SeqT.nil _) Mx.out small_nil L0.out
      rw [VN.out, EN.out] at KE
      refine KE.mono ?_
      rintro e u8 ⟨v8, rfl, hs, hb⟩
      clear KE
      replace Sx := Lib.hid (Sx.out.below hb)
      replace Su := Lib.hid (Su.out.below hb)
      replace G := Lib.hid (G.out.trans (hb.mono G.out.size))
      have Sw := Lib.hid hs
      clear hs hb
      go_wp2_with fail
      refine (rsame_eq Su.out Sx.out rfl).mono ?_
      rintro e u9 ⟨rfl, hb⟩
      replace Sx := Lib.hid (Sx.out.below hb)
      replace Su := Lib.hid (Su.out.below hb)
      replace Sw := Lib.hid (Sw.out.below hb)
      replace G := Lib.hid (G.out.trans (hb.mono G.out.size))
      clear hb
      go_wp2_with fail
      refine (rsame_eq Sw.out Sx.out rfl).mono ?_
      rintro e u10 ⟨rfl, hb⟩
      replace Sx := Lib.hid (Sx.out.below hb)
      replace Su := Lib.hid (Su.out.below hb)
      replace Sw := Lib.hid (Sw.out.below hb)
      replace G := Lib.hid (G.out.trans (hb.mono G.out.size))
      clear hb
      go_wp2_with fail
      refine (zinterS Sx.out Sx.out Mx.out Mx.out).mono ?_
      rintro e u11 ⟨v11, rfl, hs, hb⟩
      replace Sx := Lib.hid (Sx.out.below hb)
      replace Su := Lib.hid (Su.out.below hb)
      replace Sw := Lib.hid (Sw.out.below hb)
      replace G := Lib.hid (G.out.trans (hb.mono G.out.size))
      have Si := Lib.hid hs
      clear hs hb
      go_wp2_with fail
      refine (rsame_eq Si.out Sx.out I1.out).mono ?_
      rintro e u12 ⟨rfl, hb⟩
      replace Sx := Lib.hid (Sx.out.below hb)
      replace Su := Lib.hid (Su.out.below hb)
      replace Sw := Lib.hid (Sw.out.below hb)
      replace Si := Lib.hid (Si.out.below hb)
      replace G := Lib.hid (G.out.trans (hb.mono G.out.size))
      clear hb
      go_wp2_with fail
      refine (zwithoutS Sx.out Sx.out Mx.out Mx.out).mono ?_
      rintro e u13 ⟨v13, rfl, hs, hb⟩
      replace Sx := Lib.hid (Sx.out.below hb)
      replace Su := Lib.hid (Su.out.below hb)
      replace Sw := Lib.hid (Sw.out.below hb)
      replace Si := Lib.hid (Si.out.below hb)
      replace G := Lib.hid (G.out.trans (hb.mono G.out.size))
      have Sa := Lib.hid hs
      clear hs hb
      rw [without_self] at Sa
      obtain ⟨aL, cL, hvL, -, -, -, hL⟩ := Sa.out.parts
      subst hvL
      obtain ⟨L, eL⟩ : ∃ n, ([] : List Txt).length = n := ⟨_, rfl⟩
      replace Sa := Lib.hid hL
      rw [eL] at Sa ⊢
      have NL := Lib.hid eL
      clear hL eL
      obtain rfl : L = 0 := NL.out.symm
      clear Sa
      go_wp2_with fail
      refine (zinterS Sx.out (SeqT.nil _) Mx.out small_nil).mono ?_
      rintro e u14 ⟨v14, rfl, hs, hb⟩
      replace Sx := Lib.hid (Sx.out.below hb)
      replace Su := Lib.hid (Su.out.below hb)
      replace Sw := Lib.hid (Sw.out.below hb)
      replace Si := Lib.hid (Si.out.below hb)
      replace G := Lib.hid (G.out.trans (hb.mono G.out.size))
      have Sb := Lib.hid hs
      clear hs hb
      rw [inter_nil] at Sb
      obtain ⟨aP, cP, hvP, -, -, -, hP⟩ := Sb.out.parts
      subst hvP
      obtain ⟨P, eP⟩ : ∃ n, ([] : List Txt).length = n := ⟨_, rfl⟩
      replace Sb := Lib.hid hP
      rw [eP] at Sb ⊢
      have NP := Lib.hid eP
      clear hP eP
      obtain rfl : P = 0 := NP.out.symm
      clear Sb
      go_wp2_with fail
      refine (zwithoutS Sx.out (SeqT.nil _) Mx.out small_nil).mono ?_
      rintro e u15 ⟨v15, rfl, hs, hb⟩
      replace Sx := Lib.hid (Sx.out.below hb)
      replace Su := Lib.hid (Su.out.below hb)
      replace Sw := Lib.hid (Sw.out.below hb)
      replace Si := Lib.hid (Si.out.below hb)
      replace G := Lib.hid (G.out.trans (hb.mono G.out.size))
      have Sc := Lib.hid hs
      clear hs hb
      go_wp2_with fail
      refine (rsame_eq Sc.out Sx.out W2.out).mono ?_
      rintro e u16 ⟨rfl, hb⟩
      replace Sx := Lib.hid (Sx.out.below hb)
      replace Su := Lib.hid (Su.out.below hb)
      replace Sw := Lib.hid (Sw.out.below hb)
      replace Si := Lib.hid (Si.out.below hb)
      replace Sc := Lib.hid (Sc.out.below hb)
      replace G := Lib.hid (G.out.trans (hb.mono G.out.size))
      clear hb
      go_wp2_with fail
      refine (zwithinR (SeqT.nil _) Sx.out small_nil Mx.out (within_nil xs)).mono ?_
      rintro e u17 ⟨rfl, hb⟩
      replace Sx := Lib.hid (Sx.out.below hb)
      replace Su := Lib.hid (Su.out.below hb)
      replace Sw := Lib.hid (Sw.out.below hb)
      replace Si := Lib.hid (Si.out.below hb)
      replace Sc := Lib.hid (Sc.out.below hb)
      replace G := Lib.hid (G.out.trans (hb.mono G.out.size))
      clear hb
      go_wp2_with fail
      go_ret
      exact ⟨rfl, G.out⟩

set_option maxRecDepth 100000 in
theorem lifted (os : Os) (started : os.Started) (H : Type) (enc : TypeId × Value → H) :
    ReturnsInHanded {} Try.checked os 7 .any (Rows.zoneSelfSpec.pre6 enc Try.prog Try.f7 Rows.zoneSelfRow.domain false) (Rows.zoneSelfSpec.post enc Try.prog Try.f7 false true false false) := by
  refine returnsInHanded_of_change (C := Try.checked) own started (by kernel_rfl) Try.func7
    (ChangeSpec.witness6 (enc := enc) (C := Try.checked) false ⟨#[], #[.slice none 0 0], []⟩ 8 (by kernel_rfl) (by kernel_rfl) (by kernel_rfl) (by kernel_rfl)) ?_
  intro W base args ds gs before hval0 hW hcnd _
  have hval : ∀ (j : Nat) t v, Try.f7.params[j]? = some t → args[j]? = some v → Value.okWide Try.prog W .any base t v := hval0
  have hW' := hW
  obtain ⟨p, q, hA0, hV, rfl, hfz, hnd⟩ := hW
  have hA : DataW.TrodAll enc Try.prog W 0 (fun _ => true) true Try.f7.params.toList args.toList ds p := hA0
  rw [Try.params7] at hA hval
  obtain ⟨v0, vs0, d0, ds0, p0, q0, hargs, rfl, rfl, h0, r0⟩ := trodAll_cons hA
  obtain ⟨rfl, rfl, rfl⟩ := trodAll_nil r0
  obtain rfl : args = #[v0] := by cases args; simp_all
  obtain ⟨rfl, rfl⟩ := trodVars_none hV
  have k0 := h0
  have lt0 : ∀ x ∈ p0, x.block < W.heap.size := by obtain ⟨m, hm⟩ := k0; exact DataW.trod_lt m _ _ _ hm
  have w0 := open0 (hval 0 22 v0 rfl rfl) h0
  clear hA0 hval0
  refine (walk v0 W w0).mono fun e W' ⟨he, bel⟩ => ?_
  subst he
  exact ⟨_, rfl, _, _, _, [], _, [], hW', trodAll_mk1 (shut_bool Try.underlying4 _), (trodAll_cons_mk (Below.trod laidOut (by kernel_rfl) (of_decide_eq_true (by kernel_rfl)) k0 bel lt0) trodAll_mk0), rfl, bel.frame _, fun h => by cases h⟩

theorem over : Rows.zoneSelfRow.holds Try.pinned (OpenSpec.ofChange Rows.zoneSelfSpec) :=
  OpenClaim.holds_of_wide 7 Try.f7 rfl rfl rfl rfl rfl rfl rfl ⟨rfl, rfl, rfl, rfl, rfl⟩ rfl rfl rfl rfl rfl (by kernel_rfl) Try.func7 (by kernel_rfl)
    (of_decide_eq_true (by kernel_rfl)) (by unfold Func.isWrapper; first | (rw [if_pos (by decide +kernel)]; kernel_rfl) | (rw [if_neg (by decide +kernel)]; exact ⟨rfl, rfl⟩))
    (fun os started H enc _ => lifted os started H enc)

/-- the given statement -/
theorem proved : Rows.ZoneSelfSaid := over
#print axioms proved
end Go.Proofs.Ytklgnmhbfdjoeaa.zoneSelf
