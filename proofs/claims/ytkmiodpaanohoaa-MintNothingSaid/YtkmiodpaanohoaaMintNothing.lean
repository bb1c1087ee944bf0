/-
  For any items, any two numbers and any three texts the law MintNothing answers true: of a field without items nothing is taken away: such requests become no effects. No condition.
  (The frame was written by the guide's proof-skeleton.mjs, turned for slices of items and for fields; the walk is ours.)
-/
import Derived.Test.YtkmiodpaanohoaaRows
import Derived.WalkKit
import Derived.ProofKit
import Derived.OpenShut
import Derived.ShutString
import Derived.ChangeOld
import Derived.Below
import Derived.Test.YtkmiodpaanohoaaMnUses
import Derived.Deep.DeepCutAuto
namespace Go.Proofs.Ytkmiodpaanohoaa.mintNothing
open Go.ChangeShapes Go.WideShapes Go.ChangeAt Go.RowKit
open Go.ChangeMaps (open_string shut_string)
set_option linter.unusedVariables false

theorem own : ownKnob Try.prog.godebug = none := by kernel_rfl
theorem laidOut : laidOutB Try.prog = true := by kernel_rfl

open Plain

set_option maxRecDepth 100000 in
theorem open0 {H : Type} {enc : TypeId × Value → H} {W : World} {r : Reach} {b : Nat} {v : Value} {d : DataW H} {p : List MemPlace} (hv : Value.okWide Try.prog W r b 22 v) (h : DataW.Trod enc Try.prog W 0 (fun _ => true) true 22 v d p) : IsItems W v := items_of_trod hv h

set_option maxRecDepth 100000 in
set_option maxHeartbeats 16000000 in
theorem walk (v0 : Value) (x1 : Int) (x2 : Int) (t3 : ByteArray) (t4 : ByteArray) (t5 : ByteArray) (w : World) (w0 : IsItems w v0) (w1 : (Lit.int .i64 x1).wf = true) (w2 : (Lit.int .i64 x2).wf = true) (w3 : t3.size ≤ maxLen) (w4 : t4.size ≤ maxLen) (w5 : t5.size ≤ maxLen) :
    Calls Try.prog 5 #[v0, .int .i64 x1, .int .i64 x2, .string t3, .string t4, .string t5] w fun e w' => e = .returned (.bool true) ∧ Below w.heap.size w w' := by
  obtain ⟨l, s0, q0⟩ := w0
  have Q0 := Lib.hid q0
  have Sl := Lib.hid s0
  clear s0 q0
  obtain ⟨key, hx3⟩ : ∃ k, t3 = bt k := ⟨tx t3, rfl⟩
  subst hx3
  have Lkey : Hid (key.length ≤ 9223372036854775807) := Lib.hid w3
  clear w3
  obtain ⟨field, hx4⟩ : ∃ k, t4 = bt k := ⟨tx t4, rfl⟩
  subst hx4
  have Lfield : Hid (field.length ≤ 9223372036854775807) := Lib.hid w4
  clear w4
  obtain ⟨elem, hx5⟩ : ∃ k, t5 = bt k := ⟨tx t5, rfl⟩
  subst hx5
  have Lelem : Hid (elem.length ≤ 9223372036854775807) := Lib.hid w5
  clear w5
  have G := Lib.hid (Below.refl w.heap.size w)
  have W1 := Lib.hid w1
  have W2 := Lib.hid w2
  clear w1 w2
  obtain ⟨an, cn, hvn, gn1, gn2, -, hn⟩ := Sl.out.parts
  subst hvn
  obtain ⟨n, en⟩ : ∃ n, l.length = n := ⟨_, rfl⟩
  replace Sl := Lib.hid hn
  rw [en] at Sl gn1 ⊢
  have Nn := Lib.hid en
  clear hn en
  have BN := Lib.hid (fun k (hk : k < l.length) => anyTo_next (inField key field) l hk)
  have BA := Lib.hid (anyTo_all (inField key field) l)
  have B0 := Lib.hid (anyTo_zero (inField key field) l)
  rw [Nn.out] at BN BA
  go_enter Try.func5, Try.ntmps5
  go_wp2_with fail
  refine (mnawake_any _).mono ?_
  rintro e u2 ⟨rfl, hb⟩
  replace Sl := Lib.hid (Sl.out.below hb)
  replace G := Lib.hid (G.out.trans (hb.mono G.out.size))
  clear hb
  have SR : Hid (SeqE LReq (u2.alloc (.cells #[.int .i64 2, .string (bt key), .string (bt field), .string (bt elem), .int .i64 0, .int .i64 5, .string (bt key), .string (bt field), .string ⟨#[]⟩, .int .i64 0] 32)) (.slice (some ⟨u2.heap.size, 0, none⟩) 2 2) [⟨2, key, field, elem, 0⟩, ⟨5, key, field, [], 0⟩]) := Lib.hid (two_reqs u2 ⟨2, key, field, elem, 0⟩ ⟨5, key, field, [], 0⟩)
  have RB : Hid (ReqBox u2.heap.size ⟨2, key, field, elem, 0⟩ (u2.alloc (.cells #[.int .i64 2, .string (bt key), .string (bt field), .string (bt elem), .int .i64 0, .int .i64 5, .string (bt key), .string (bt field), .string ⟨#[]⟩, .int .i64 0] 32))) := Lib.hid ⟨by simp, by simp, by simp, by simp, by simp⟩
  replace Sl := Lib.hid (Sl.out.below ((Below.refl _ _).alloc (Nat.le_refl _) (.cells #[.int .i64 2, .string (bt key), .string (bt field), .string (bt elem), .int .i64 0, .int .i64 5, .string (bt key), .string (bt field), .string ⟨#[]⟩, .int .i64 0] 32)))
  replace G := Lib.hid (G.out.alloc G.out.size (.cells #[.int .i64 2, .string (bt key), .string (bt field), .string (bt elem), .int .i64 0, .int .i64 5, .string (bt key), .string (bt field), .string ⟨#[]⟩, .int .i64 0] 32))
  go_upto_region 4 with fail
  generalize (u2.alloc (.cells #[.int .i64 2, .string (bt key), .string (bt field), .string (bt elem), .int .i64 0, .int .i64 5, .string (bt key), .string (bt field), .string ⟨#[]⟩, .int .i64 0] 32)) = wq at *
  cases hA : shortI l with
  | false =>
    go_wp2_with fail
    refine (rshortIB Sl.out hA).mono ?_
    rintro e u3 ⟨rfl, hb⟩
    replace Sl := Lib.hid (Sl.out.below hb)
    replace SR := Lib.hid (SR.out.below hb)
    replace RB := Lib.hid (RB.out.below hb)
    replace G := Lib.hid (G.out.trans (hb.mono G.out.size))
    clear hb
    go_wp2_with fail
    go_ret
    exact ⟨rfl, G.out⟩
  | true =>
    go_wp2_with fail
    refine (rshortIB Sl.out hA).mono ?_
    rintro e u3 ⟨rfl, hb⟩
    replace Sl := Lib.hid (Sl.out.below hb)
    replace SR := Lib.hid (SR.out.below hb)
    replace RB := Lib.hid (RB.out.below hb)
    replace G := Lib.hid (G.out.trans (hb.mono G.out.size))
    clear hb
    have MX := Lib.hid (fitV_of hA Q0.out)
    clear hA
    obtain ⟨r0, r1, r2, r3, r4⟩ := RB.out.c
    cases hA : reqB ⟨2, key, field, elem, 0⟩ with
    | false =>
      go_wp2_with fail
      refine (formedR hA).mono ?_
      rintro e u4 ⟨rfl, hb⟩
      replace Sl := Lib.hid (Sl.out.below hb)
      replace SR := Lib.hid (SR.out.below hb)
      replace RB := Lib.hid (RB.out.below hb)
      replace G := Lib.hid (G.out.trans (hb.mono G.out.size))
      clear hb
      clear r0 r1 r2 r3 r4
      go_wp2_with fail
      go_ret
      exact ⟨rfl, G.out⟩
    | true =>
      go_wp2_with fail
      refine (formedR hA).mono ?_
      rintro e u4 ⟨rfl, hb⟩
      replace Sl := Lib.hid (Sl.out.below hb)
      replace SR := Lib.hid (SR.out.below hb)
      replace RB := Lib.hid (RB.out.below hb)
      replace G := Lib.hid (G.out.trans (hb.mono G.out.size))
      clear hb
      clear r0 r1 r2 r3 r4
      have HQ := Lib.hid hA
      clear hA
      by_cases t0 : x1 < 0
      · skip
        go_wp2_with fail
        go_ret
        exact ⟨rfl, G.out⟩
      by_cases t1 : 8 ≤ x1
      · skip
        go_wp2_with fail
        go_ret
        exact ⟨rfl, G.out⟩
      by_cases t2 : x2 < 1
      · skip
        go_wp2_with fail
        go_ret
        exact ⟨rfl, G.out⟩
      by_cases t3 : 1073741824 < x2
      · skip
        go_wp2_with fail
        go_ret
        exact ⟨rfl, G.out⟩
      have HR := Lib.hid (range_of t0 t1 t2 t3)
      generalize hB : anyTo (inField key field) l = B at *
      clear hB
      go_wp2_with fail
      go_loop [14] (fun i => ∃ k : Nat, k ≤ n ∧ i = .int .i64 k ∧ B k = false) (fun i => n - (intOf i).toNat)
      case atStart => exact ⟨0, Nat.zero_le _, rfl, B0.out⟩
      case round =>
        obtain ⟨k, hk, rfl, hbk⟩ := hrel
        have HBK := Lib.hid hbk
        clear hbk
        by_cases hlt : k < n
        · obtain ⟨b, o, c, hv, -, -, -, hc⟩ := items_spot Sl.out (by rw [Nn.out]; omega)
          rw [Nn.out] at hv
          simp only [Value.slice.injEq] at hv
          obtain ⟨rfl, -, rfl⟩ := hv
          obtain ⟨c0, c1, -, -, -, -, -, -⟩ := hc k (by rw [Nn.out]; exact hlt)
          have HA := Lib.hid (BN.out k hlt)
          rw [inField_dec, HBK.out, Bool.false_or] at HA
          clear hc
          have t1 := text_eq (l.getD k default).key key
          have t2 := text_eq (l.getD k default).field field
          generalize l.getD k default = x at *
          generalize bt x.key = X1 at *
          generalize bt x.field = X2 at *
          cases hk1 : decide (x.key = key) with
          | false =>
            rw [hk1] at t1 HA
            rw [Bool.false_and] at HA
            clear hk1
            go_wp2_with fail
            go_round
            case rel => exact ⟨k + 1, by omega, by go_num, HA.out⟩
            case measure => simp [intOf]; omega
          | true =>
            rw [hk1] at t1 HA
            rw [Bool.true_and] at HA
            clear hk1
            cases hk2 : decide (x.field = field) with
            | false =>
              rw [hk2] at t2 HA
              clear hk2
              go_wp2_with fail
              go_round
              case rel => exact ⟨k + 1, by omega, by go_num, HA.out⟩
              case measure => simp [intOf]; omega
            | true =>
              rw [hk2] at t2
              clear hk2 HA
              go_wp2_with fail
              go_ret
              exact ⟨rfl, G.out⟩
        · obtain rfl : k = n := by omega
          have HN := Lib.hid (BA.out.symm.trans HBK.out)
          have HMK := Lib.hid (make_nothing HR.out HQ.out HN.out)
          have FM : Hid (FitM x1 l [⟨2, key, field, elem, 0⟩, ⟨5, key, field, [], 0⟩]) := Lib.hid ⟨MX.out.1, Q0.out, fun q hq => by
            simp only [List.mem_cons, List.not_mem_nil, or_false] at hq
            rcases hq with rfl | rfl
            · exact ⟨show (Lit.int .i64 2).wf = true by decide, show (Lit.int .i64 0).wf = true by decide, Lkey.out, Lfield.out, Lelem.out⟩
            · exact ⟨show (Lit.int .i64 5).wf = true by decide, show (Lit.int .i64 0).wf = true by decide, Lkey.out, Lfield.out, by simp⟩, .inr fun q hq => by
            simp only [List.mem_cons, List.not_mem_nil, or_false] at hq
            rcases hq with rfl | rfl
            · exact taken_none HN.out
            · exact taken_none HN.out⟩
          have K := mmakeR Sl.out SR.out FM.out W1.out W2.out HMK.out
          clear BN BA B0 HBK HMK FM HN
          go_wp2_with fail
          refine K.mono ?_
          intro e u9 hg
          obtain ⟨p, c, rfl, hb⟩ := hg.none rfl
          replace G := Lib.hid (G.out.trans (hb.mono G.out.size))
          clear hg hb K
          go_wp2_with fail
          go_ret
          exact ⟨rfl, G.out⟩

set_option maxRecDepth 100000 in
theorem lifted (os : Os) (started : os.Started) (H : Type) (enc : TypeId × Value → H) :
    ReturnsInHanded {} Try.checked os 5 .any (Rows.mintNothingSpec.pre6 enc Try.prog Try.f5 Rows.mintNothingRow.domain false) (Rows.mintNothingSpec.post enc Try.prog Try.f5 false true false false) := by
  refine returnsInHanded_of_change (C := Try.checked) own started (by kernel_rfl) Try.func5
    (ChangeSpec.witness6 (enc := enc) (C := Try.checked) false ⟨#[], #[.slice none 0 0, .int .i64 0, .int .i64 0, .string ByteArray.empty, .string ByteArray.empty, .string ByteArray.empty], []⟩ 8 (by kernel_rfl) (by kernel_rfl) (by kernel_rfl) (by kernel_rfl)) ?_
  intro W base args ds gs before hval0 hW hcnd _
  have hval : ∀ (j : Nat) t v, Try.f5.params[j]? = some t → args[j]? = some v → Value.okWide Try.prog W .any base t v := hval0
  have hW' := hW
  obtain ⟨p, q, hA0, hV, rfl, hfz, hnd⟩ := hW
  have hA : DataW.TrodAll enc Try.prog W 0 (fun _ => true) true Try.f5.params.toList args.toList ds p := hA0
  rw [Try.params5] at hA hval
  obtain ⟨v0, vs0, d0, ds0, p0, q0, hargs, rfl, rfl, h0, r0⟩ := trodAll_cons hA
  obtain ⟨v1, vs1, d1, ds1, p1, q1, rfl, rfl, rfl, h1, r1⟩ := trodAll_cons r0
  obtain ⟨v2, vs2, d2, ds2, p2, q2, rfl, rfl, rfl, h2, r2⟩ := trodAll_cons r1
  obtain ⟨v3, vs3, d3, ds3, p3, q3, rfl, rfl, rfl, h3, r3⟩ := trodAll_cons r2
  obtain ⟨v4, vs4, d4, ds4, p4, q4, rfl, rfl, rfl, h4, r4⟩ := trodAll_cons r3
  obtain ⟨v5, vs5, d5, ds5, p5, q5, rfl, rfl, rfl, h5, r5⟩ := trodAll_cons r4
  obtain ⟨rfl, rfl, rfl⟩ := trodAll_nil r5
  obtain rfl : args = #[v0, v1, v2, v3, v4, v5] := by cases args; simp_all
  obtain ⟨rfl, rfl⟩ := trodVars_none hV
  have k0 := h0
  have lt0 : ∀ x ∈ p0, x.block < W.heap.size := by obtain ⟨m, hm⟩ := k0; exact DataW.trod_lt m _ _ _ hm
  have w0 := open0 (hval 0 22 v0 rfl rfl) h0
  obtain ⟨a1, rfl, rfl, rfl, w1⟩ := open_int Try.underlying3 (hval 1 3 v1 rfl rfl) h1
  obtain ⟨a2, rfl, rfl, rfl, w2⟩ := open_int Try.underlying3 (hval 2 3 v2 rfl rfl) h2
  obtain ⟨a3, rfl, rfl, rfl, w3⟩ := open_string Try.underlying9 (hval 3 9 v3 rfl rfl) h3
  obtain ⟨a4, rfl, rfl, rfl, w4⟩ := open_string Try.underlying9 (hval 4 9 v4 rfl rfl) h4
  obtain ⟨a5, rfl, rfl, rfl, w5⟩ := open_string Try.underlying9 (hval 5 9 v5 rfl rfl) h5
  clear hA0 hval0
  refine (walk v0 a1 a2 a3 a4 a5 W w0 w1 w2 w3 w4 w5).mono fun e W' ⟨he, bel⟩ => ?_
  subst he
  exact ⟨_, rfl, _, _, _, [], _, [], hW', trodAll_mk1 (shut_bool Try.underlying4 _), (trodAll_cons_mk (Below.trod laidOut (by kernel_rfl) (of_decide_eq_true (by kernel_rfl)) k0 bel lt0) (trodAll_cons_mk (shut_int Try.underlying3 w1) (trodAll_cons_mk (shut_int Try.underlying3 w2) (trodAll_cons_mk (shut_string Try.underlying9 w3) (trodAll_cons_mk (shut_string Try.underlying9 w4) (trodAll_cons_mk (shut_string Try.underlying9 w5) trodAll_mk0)))))), rfl, bel.frame _, fun h => by cases h⟩

theorem over : Rows.mintNothingRow.holds Try.pinned (OpenSpec.ofChange Rows.mintNothingSpec) :=
  OpenClaim.holds_of_wide 5 Try.f5 rfl rfl rfl rfl rfl rfl rfl ⟨rfl, rfl, rfl, rfl, rfl⟩ rfl rfl rfl rfl rfl (by kernel_rfl) Try.func5 (by kernel_rfl)
    (of_decide_eq_true (by kernel_rfl)) (by unfold Func.isWrapper; first | (rw [if_pos (by decide +kernel)]; kernel_rfl) | (rw [if_neg (by decide +kernel)]; exact ⟨rfl, rfl⟩))
    (fun os started H enc _ => lifted os started H enc)

/-- the given statement -/
theorem proved : Rows.MintNothingSaid := over
#print axioms proved
end Go.Proofs.Ytkmiodpaanohoaa.mintNothing
