/-
  For any items, any two numbers and any requests the law MintRight answers true: of formed items in their one form the effects are right, and what is left is formed, in its one form. No condition.
  (The frame was written by the guide's proof-skeleton.mjs, turned for slices of items and for fields; the walk is ours.)
-/
import Derived.Test.YtkmiodpaanohoaaGreatRows
import Derived.WalkKit
import Derived.ProofKit
import Derived.OpenShut
import Derived.ShutString
import Derived.ChangeOld
import Derived.Below
import Derived.Test.YtkmiodpaanohoaaGreatMnUses
import Derived.Deep.DeepCutAuto
namespace Go.Proofs.YtkmiodpaanohoaaGreat.mintRight
open Go.ChangeShapes Go.WideShapes Go.ChangeAt Go.RowKit
open Go.ChangeMaps (open_string shut_string)
set_option linter.unusedVariables false

theorem own : ownKnob Tryz.prog.godebug = none := by kernel_rfl
theorem laidOut : laidOutB Tryz.prog = true := by kernel_rfl

open Plain

set_option maxRecDepth 100000 in
theorem open0 {H : Type} {enc : TypeId × Value → H} {W : World} {r : Reach} {b : Nat} {v : Value} {d : DataW H} {p : List MemPlace} (hv : Value.okWide Tryz.prog W r b 22 v) (h : DataW.Trod enc Tryz.prog W 0 (fun _ => true) true 22 v d p) : IsItems W v := items_of_trod hv h
set_option maxRecDepth 100000 in
theorem open3 {H : Type} {enc : TypeId × Value → H} {W : World} {r : Reach} {b : Nat} {v : Value} {d : DataW H} {p : List MemPlace} (hv : Value.okWide Tryz.prog W r b 23 v) (h : DataW.Trod enc Tryz.prog W 0 (fun _ => true) true 23 v d p) : IsReqs W v := reqs_of_trod hv h

set_option maxRecDepth 100000 in
set_option maxHeartbeats 16000000 in
theorem walk (v0 : Value) (x1 : Int) (x2 : Int) (v3 : Value) (w : World) (w0 : IsItems w v0) (w1 : (Lit.int .i64 x1).wf = true) (w2 : (Lit.int .i64 x2).wf = true) (w3 : IsReqs w v3) :
    Calls Tryz.prog 3 #[v0, .int .i64 x1, .int .i64 x2, v3] w fun e w' => e = .returned (.bool true) ∧ Below w.heap.size w w' := by
  obtain ⟨l, s0, q0⟩ := w0
  have Q0 := Lib.hid q0
  have Sl := Lib.hid s0
  clear s0 q0
  obtain ⟨R, s3, q3⟩ := w3
  have Q3 := Lib.hid q3
  have SR := Lib.hid s3
  clear s3 q3
  have G := Lib.hid (Below.refl w.heap.size w)
  have W1 := Lib.hid w1
  have W2 := Lib.hid w2
  clear w1 w2
  obtain ⟨an, cn, hvn, gn1, gn2, -, hn⟩ := Sl.out.parts
  subst hvn
  obtain ⟨n, en⟩ : ∃ n, l.length = n := ⟨_, rfl⟩
  replace Sl := Lib.hid hn
  rw [en] at Sl gn1 ⊢
  have Nn := Lib.hid en
  clear hn en
  obtain ⟨am, cm, hvm, gm1, gm2, -, hm⟩ := SR.out.parts
  subst hvm
  obtain ⟨m, em⟩ : ∃ n, R.length = n := ⟨_, rfl⟩
  replace SR := Lib.hid hm
  rw [em] at SR gm1 ⊢
  have Nm := Lib.hid em
  clear hm em
  go_enter Tryz.func3, Tryz.ntmps3
  go_wp2_with fail
  refine (mnawake_any _).mono ?_
  rintro e u2 ⟨rfl, hb⟩
  replace Sl := Lib.hid (Sl.out.below hb)
  replace SR := Lib.hid (SR.out.below hb)
  replace G := Lib.hid (G.out.trans (hb.mono G.out.size))
  clear hb
  cases hA : shortI l && usualB l x1 x2 with
  | false =>
    go_wp2_with fail
    refine (usualR Sl.out Q0.out hA).mono ?_
    rintro e u3 ⟨rfl, hb⟩
    replace Sl := Lib.hid (Sl.out.below hb)
    replace SR := Lib.hid (SR.out.below hb)
    replace G := Lib.hid (G.out.trans (hb.mono G.out.size))
    clear hb
    go_wp2_with fail
    go_ret
    exact ⟨rfl, G.out⟩
  | true =>
    go_wp2_with fail
    refine (usualR Sl.out Q0.out hA).mono ?_
    rintro e u3 ⟨rfl, hb⟩
    replace Sl := Lib.hid (Sl.out.below hb)
    replace SR := Lib.hid (SR.out.below hb)
    replace G := Lib.hid (G.out.trans (hb.mono G.out.size))
    clear hb
    have US := Lib.hid hA
    clear hA
    obtain ⟨err, effs, hMM⟩ : ∃ a b, mmake l x1 x2 R = (a, b) := ⟨_, _, rfl⟩
    have HMO := Lib.hid (madeOk_of (l := R) US.out Q0.out)
    rw [hMM] at HMO
    have HME := Lib.hid (mmake_err (s := l) (node := x1) (seq := x2) (l := R))
    rw [hMM] at HME
    have HMR := Lib.hid (fun h => make_right (l := R) (usual_parts US.out).2 h)
    rw [hMM, Nm.out] at HMR
    have K := mmakeR Sl.out SR.out (fitM_of US.out Q0.out Q3.out) W1.out W2.out hMM
    clear hMM
    by_cases e0 : err = 0
    rotate_left
    · have ez : (err == 0) = false := beq_false_of_ne e0
      have E2 := HME.out e0
      go_wp2_with fail
      refine K.mono ?_
      intro e u9 hg
      obtain ⟨pa, pc, rfl, hb⟩ := hg.none E2
      replace G := Lib.hid (G.out.trans (hb.mono G.out.size))
      clear hg hb K E2 e0 HMO HME HMR
      go_wp2_with fail
      go_ret
      exact ⟨rfl, G.out⟩
    subst e0
    have MO := Lib.hid (HMO.out rfl)
    have HR := Lib.hid (HMR.out rfl)
    clear HMO HME HMR
    go_wp2_with fail
    refine K.mono ?_
    rintro e u5 ⟨v5, rfl, hs, hb⟩
    replace Sl := Lib.hid (Sl.out.below hb)
    replace SR := Lib.hid (SR.out.below hb)
    replace G := Lib.hid (G.out.trans (hb.mono G.out.size))
    have Sa := Lib.hid hs
    obtain ⟨aa, ca, hva, ga1, ga2, -, -⟩ := Sa.out.parts
    subst hva
    clear hs hb K
    have HL : Hid (effs.length ≤ m) := Lib.hid HR.out.2.1
    have HRG : Hid (rightB x1 x2 effs = true) := Lib.hid HR.out.1
    have HNF : Hid (inorm (edo x1 x2 l effs) = edo x1 x2 l effs) := Lib.hid HR.out.2.2.1
    have HFM : Hid (∀ x ∈ edo x1 x2 l effs, formedB x = true) := Lib.hid HR.out.2.2.2
    clear HR
    generalize effs.length = ma at *
    have hlm : decide (m < ma) = false := decide_eq_false (by have := HL.out; omega)
    clear HL
    go_wp2_with fail
    refine (edoS Sl.out Sa.out MO.out.fitI MO.out.small MO.out.ok).mono ?_
    rintro e u6 ⟨v6, rfl, hs, hb⟩
    replace Sl := Lib.hid (Sl.out.below hb)
    replace SR := Lib.hid (SR.out.below hb)
    replace Sa := Lib.hid (Sa.out.below hb)
    replace G := Lib.hid (G.out.trans (hb.mono G.out.size))
    have So := Lib.hid hs
    obtain ⟨ao, co, hvo, -, -, -, -⟩ := So.out.parts
    subst hvo
    clear hs hb
    have FI := Lib.hid MO.out.next
    generalize edo x1 x2 l effs = D at *
    obtain ⟨md, hmd⟩ : ∃ k, D.length = k := ⟨_, rfl⟩
    rw [hmd] at So ⊢
    have Nd := Lib.hid hmd
    have hmb : md ≤ 1000 := by rw [← hmd]; exact FI.out.1
    clear hmd
    go_wp2_with fail
    refine (erightR Sa.out MO.out.small HRG.out).mono ?_
    rintro e u7 ⟨rfl, hb⟩
    replace Sl := Lib.hid (Sl.out.below hb)
    replace SR := Lib.hid (SR.out.below hb)
    replace Sa := Lib.hid (Sa.out.below hb)
    replace So := Lib.hid (So.out.below hb)
    replace G := Lib.hid (G.out.trans (hb.mono G.out.size))
    clear hb
    have KN := inormS2 So.out FI.out
    rw [HNF.out] at KN
    go_wp2_with fail
    refine KN.mono ?_
    rintro e u8 ⟨v8, rfl, hs, hb⟩
    replace Sl := Lib.hid (Sl.out.below hb)
    replace SR := Lib.hid (SR.out.below hb)
    replace Sa := Lib.hid (Sa.out.below hb)
    replace So := Lib.hid (So.out.below hb)
    replace G := Lib.hid (G.out.trans (hb.mono G.out.size))
    have Sn := Lib.hid hs
    clear hs hb KN
    obtain ⟨an2, cn2, hvn2, -, -, -, -⟩ := Sn.out.parts
    subst hvn2
    rw [Nd.out] at Sn ⊢
    go_wp2_with fail
    refine (rsameIR Sn.out So.out (decide_eq_true rfl)).mono ?_
    rintro e u9 ⟨rfl, hb⟩
    replace Sl := Lib.hid (Sl.out.below hb)
    replace SR := Lib.hid (SR.out.below hb)
    replace Sa := Lib.hid (Sa.out.below hb)
    replace So := Lib.hid (So.out.below hb)
    replace Sn := Lib.hid (Sn.out.below hb)
    replace G := Lib.hid (G.out.trans (hb.mono G.out.size))
    clear hb
    have HFA := Lib.hid (fun k (hk : k < D.length) => HFM.out _ (mem_def hk))
    rw [Nd.out] at HFA
    clear HFM HNF HRG FI MO
    go_wp2_with fail
    go_loopw [12] (fun i wr => ∃ k : Nat, k ≤ md ∧ i = .int .i64 k ∧ Below u9.heap.size u9 wr) (fun i _ => md - (intOf i).toNat)
    case atStart => exact ⟨0, Nat.zero_le _, rfl, Below.refl _ _⟩
    case round =>
      obtain ⟨k, hk, rfl, hb⟩ := hrel
      have HB := Lib.hid hb
      clear hb
      by_cases hlt : k < md
      · obtain ⟨b, o, c, hv, -, -, -, hc⟩ := items_spot (So.out.below HB.out) (by rw [Nd.out]; omega)
        rw [Nd.out] at hv
        simp only [Value.slice.injEq] at hv
        obtain ⟨rfl, -, rfl⟩ := hv
        obtain ⟨c0, c1, c2, c3, c4, c5, c6, c7⟩ := hc k (by rw [Nd.out]; exact hlt)
        have HX := Lib.hid (HFA.out k hlt)
        clear hc
        generalize D.getD k default = x at *
        have K := iformed_any x wr
        rw [HX.out] at K
        unfold itv tv at K
        go_wp2_with fail
        refine K.mono ?_
        rintro e w5 ⟨rfl, hb⟩
        have B5 := Lib.hid (HB.out.trans (hb.mono HB.out.size))
        clear hb K c0 c1 c2 c3 c4 c5 c6 c7
        go_wp2_with fail
        go_roundw
        case rel => exact ⟨k + 1, by omega, by go_num, B5.out⟩
        case measure => simp [intOf]; omega
      · obtain rfl : k = md := by omega
        go_wp2_with fail
        go_ret
        exact ⟨rfl, G.out.trans (HB.out.mono G.out.size)⟩

set_option maxRecDepth 100000 in
theorem lifted (os : Os) (started : os.Started) (H : Type) (enc : TypeId × Value → H) :
    ReturnsInHanded {} Tryz.checked os 3 .any (Rows.mintRightSpec.pre6 enc Tryz.prog Tryz.f3 Rows.mintRightRow.domain false) (Rows.mintRightSpec.post enc Tryz.prog Tryz.f3 false true false false) := by
  refine returnsInHanded_of_change (C := Tryz.checked) own started (by kernel_rfl) Tryz.func3
    (ChangeSpec.witness6 (enc := enc) (C := Tryz.checked) false ⟨#[], #[.slice none 0 0, .int .i64 0, .int .i64 0, .slice none 0 0], []⟩ 8 (by kernel_rfl) (by kernel_rfl) (by kernel_rfl) (by kernel_rfl)) ?_
  intro W base args ds gs before hval0 hW hcnd _
  have hval : ∀ (j : Nat) t v, Tryz.f3.params[j]? = some t → args[j]? = some v → Value.okWide Tryz.prog W .any base t v := hval0
  have hW' := hW
  obtain ⟨p, q, hA0, hV, rfl, hfz, hnd⟩ := hW
  have hA : DataW.TrodAll enc Tryz.prog W 0 (fun _ => true) true Tryz.f3.params.toList args.toList ds p := hA0
  rw [Tryz.params3] at hA hval
  obtain ⟨v0, vs0, d0, ds0, p0, q0, hargs, rfl, rfl, h0, r0⟩ := trodAll_cons hA
  obtain ⟨v1, vs1, d1, ds1, p1, q1, rfl, rfl, rfl, h1, r1⟩ := trodAll_cons r0
  obtain ⟨v2, vs2, d2, ds2, p2, q2, rfl, rfl, rfl, h2, r2⟩ := trodAll_cons r1
  obtain ⟨v3, vs3, d3, ds3, p3, q3, rfl, rfl, rfl, h3, r3⟩ := trodAll_cons r2
  obtain ⟨rfl, rfl, rfl⟩ := trodAll_nil r3
  obtain rfl : args = #[v0, v1, v2, v3] := by cases args; simp_all
  obtain ⟨rfl, rfl⟩ := trodVars_none hV
  have k0 := h0
  have lt0 : ∀ x ∈ p0, x.block < W.heap.size := by obtain ⟨m, hm⟩ := k0; exact DataW.trod_lt m _ _ _ hm
  have w0 := open0 (hval 0 22 v0 rfl rfl) h0
  obtain ⟨a1, rfl, rfl, rfl, w1⟩ := open_int Tryz.underlying3 (hval 1 3 v1 rfl rfl) h1
  obtain ⟨a2, rfl, rfl, rfl, w2⟩ := open_int Tryz.underlying3 (hval 2 3 v2 rfl rfl) h2
  have k3 := h3
  have lt3 : ∀ x ∈ p3, x.block < W.heap.size := by obtain ⟨m, hm⟩ := k3; exact DataW.trod_lt m _ _ _ hm
  have w3 := open3 (hval 3 23 v3 rfl rfl) h3
  clear hA0 hval0
  refine (walk v0 a1 a2 v3 W w0 w1 w2 w3).mono fun e W' ⟨he, bel⟩ => ?_
  subst he
  exact ⟨_, rfl, _, _, _, [], _, [], hW', trodAll_mk1 (shut_bool Tryz.underlying4 _), (trodAll_cons_mk (Below.trod laidOut (by kernel_rfl) (of_decide_eq_true (by kernel_rfl)) k0 bel lt0) (trodAll_cons_mk (shut_int Tryz.underlying3 w1) (trodAll_cons_mk (shut_int Tryz.underlying3 w2) (trodAll_cons_mk (Below.trod laidOut (by kernel_rfl) (of_decide_eq_true (by kernel_rfl)) k3 bel lt3) trodAll_mk0)))), rfl, bel.frame _, fun h => by cases h⟩

theorem over : Rows.mintRightRow.holds Tryz.pinned (OpenSpec.ofChange Rows.mintRightSpec) :=
  OpenClaim.holds_of_wide 3 Tryz.f3 rfl rfl rfl rfl rfl rfl rfl ⟨rfl, rfl, rfl, rfl, rfl⟩ rfl rfl rfl rfl rfl (by kernel_rfl) Tryz.func3 (by kernel_rfl)
    (of_decide_eq_true (by kernel_rfl)) (by unfold Func.isWrapper; first | (rw [if_pos (by decide +kernel)]; kernel_rfl) | (rw [if_neg (by decide +kernel)]; exact ⟨rfl, rfl⟩))
    (fun os started H enc _ => lifted os started H enc)

/-- the given statement -/
theorem proved : Rows.MintRightSaid := over
#print axioms proved
end Go.Proofs.YtkmiodpaanohoaaGreat.mintRight
