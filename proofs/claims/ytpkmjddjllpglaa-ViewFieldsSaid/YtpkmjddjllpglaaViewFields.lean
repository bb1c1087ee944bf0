/-
  For any items and any two texts the law ViewFields answers true: a key's fields are just those that have items; one that has none is nothing. No condition.
  (The frame was written by the guide's proof-skeleton.mjs, turned for slices of items and for fields; the walk is ours.)
-/
import Derived.Test.YtpkmjddjllpglaaRows
import Derived.WalkKit
import Derived.ProofKit
import Derived.OpenShut
import Derived.ShutString
import Derived.ChangeOld
import Derived.Below
import Derived.Test.YtpkmjddjllpglaaVwAny
namespace Go.Proofs.Ytpkmjddjllpglaa.viewFields
open Go.ChangeShapes Go.WideShapes Go.ChangeAt Go.RowKit
open Go.ChangeMaps (open_string shut_string)
set_option linter.unusedVariables false

theorem own : ownKnob Try.prog.godebug = none := by kernel_rfl
theorem laidOut : laidOutB Try.prog = true := by kernel_rfl

open Plain

set_option maxRecDepth 100000 in
theorem open0 {H : Type} {enc : TypeId × Value → H} {W : World} {r : Reach} {b : Nat} {v : Value} {d : DataW H} {p : List MemPlace} (hv : Value.okWide Try.prog W r b 22 v) (h : DataW.Trod enc Try.prog W 0 (fun _ => true) true 22 v d p) : IsItems W v := items_of_trod hv h

set_option maxRecDepth 100000 in
set_option maxHeartbeats 16000000 in
theorem walk (v0 : Value) (t1 : ByteArray) (t2 : ByteArray) (w : World) (w0 : IsItems w v0) (w1 : t1.size ≤ maxLen) (w2 : t2.size ≤ maxLen) :
    Calls Try.prog 6 #[v0, .string t1, .string t2] w fun e w' => e = .returned (.bool true) ∧ Below w.heap.size w w' := by
  obtain ⟨l, s0, q0⟩ := w0
  have Q0 := Lib.hid q0
  have Sl := Lib.hid s0
  clear s0 q0
  obtain ⟨key, hx1⟩ : ∃ k, t1 = bt k := ⟨tx t1, rfl⟩
  subst hx1
  clear w1
  obtain ⟨field, hx2⟩ : ∃ k, t2 = bt k := ⟨tx t2, rfl⟩
  subst hx2
  clear w2
  have G := Lib.hid (Below.refl w.heap.size w)
  obtain ⟨an, cn, hvn, gn1, gn2, -, hn⟩ := Sl.out.parts
  subst hvn
  obtain ⟨n, en⟩ : ∃ n, l.length = n := ⟨_, rfl⟩
  replace Sl := Lib.hid hn
  rw [en] at Sl gn1 ⊢
  have Nn := Lib.hid en
  clear hn en
  go_enter Try.func6, Try.ntmps6
  go_wp2_with fail
  refine (awake_any _).mono ?_
  rintro e u2 ⟨rfl, hb⟩
  replace Sl := Lib.hid (Sl.out.below hb)
  replace G := Lib.hid (G.out.trans (hb.mono G.out.size))
  clear hb
  cases hA : shortI l with
  | false =>
    go_wp2_with fail
    refine (rshortIB Sl.out hA).mono ?_
    rintro e u3 ⟨rfl, hb⟩
    replace Sl := Lib.hid (Sl.out.below hb)
    replace G := Lib.hid (G.out.trans (hb.mono G.out.size))
    clear hb
    go_wp2_with fail
    go_ret
    exact ⟨rfl, G.out⟩
  | true =>
    go_wp2_with fail
    refine (rshortIB Sl.out hA).mono ?_
    rintro e u3 ⟨rfl, hb⟩
    replace Sl := Lib.hid (Sl.out.below hb)
    replace G := Lib.hid (G.out.trans (hb.mono G.out.size))
    clear hb
    have MX := Lib.hid (fitV_of hA Q0.out)
    clear hA
    go_wp2_with fail
    refine (vfieldsS key Sl.out MX.out).mono ?_
    rintro e u4 ⟨v4, rfl, hs, hb⟩
    replace Sl := Lib.hid (Sl.out.below hb)
    replace G := Lib.hid (G.out.trans (hb.mono G.out.size))
    have Sf := Lib.hid hs
    obtain ⟨af, cf, hvf, -, -, -, -⟩ := Sf.out.parts
    subst hvf
    clear hs hb
    have HE := Lib.hid (vfields_any l key field)
    have HOV := Lib.hid (once_vfields l key)
    have HNO := Lib.hid (fun h => vfield_none (l := l) (key := key) (field := field) h)
    have HFL := Lib.hid (vfields_len l key)
    have hn100 := MX.out.1
    rw [Nn.out] at hn100 HFL
    generalize vfields l key = F at *
    obtain ⟨m, em⟩ : ∃ n, F.length = n := ⟨_, rfl⟩
    rw [em] at Sf HFL ⊢
    have Nm' := Lib.hid em
    have hm100 := HFL.out
    have A0 := Lib.hid (anyTo_zero (fun t : Txt => decide (t = field)) F)
    have AN := Lib.hid (fun k (hk : k < F.length) => anyTo_next (fun t : Txt => decide (t = field)) F hk)
    have AA := Lib.hid (anyTo_all (fun t : Txt => decide (t = field)) F)
    have B0 := Lib.hid (anyTo_zero (inField key field) l)
    have BN := Lib.hid (fun k (hk : k < l.length) => anyTo_next (inField key field) l hk)
    have BA := Lib.hid (anyTo_all (inField key field) l)
    rw [em, HE.out] at AA
    rw [em] at AN
    rw [Nn.out] at BN BA
    clear em HE
    generalize anyTo (fun t : Txt => decide (t = field)) F = A at *
    generalize anyTo (inField key field) l = B at *
    obtain ⟨af', cf', hvf', gf1, gf2, gf0, hf'⟩ := Sf.out.parts
    simp only [Value.slice.injEq] at hvf'
    obtain ⟨rfl, -, rfl⟩ := hvf'
    have gm1 : m ≤ cf := by rw [← Nm'.out]; exact gf1
    clear gf0 hf' gf1
    go_wp2_with fail
    go_loop [8, 10] (fun z i => ∃ k : Nat, k ≤ m ∧ i = .int .i64 k ∧ z = .bool (A k)) (fun _ i => m - (intOf i).toNat)
    case atStart => exact ⟨0, Nat.zero_le _, rfl, by rw [A0.out]⟩
    case round =>
      obtain ⟨k, hk, rfl, rfl⟩ := hrel
      by_cases hlt : k < m
      · obtain ⟨b, o, c, hv, -, -, -, hc⟩ := Sf.out.spot (by rw [Nm'.out]; omega)
        rw [Nm'.out] at hv
        simp only [Value.slice.injEq] at hv
        obtain ⟨rfl, -, rfl⟩ := hv
        have c0 := hc k (by rw [Nm'.out]; exact hlt)
        unfold tv at c0
        have HA := Lib.hid (AN.out k hlt)
        have t1 := text_eq (F.getD k []) field
        have HD : Hid (F.getD k default = F.getD k []) := Lib.hid rfl
        rw [HD.out] at HA
        clear hc HD
        generalize F.getD k [] = x at *
        generalize bt x = X at *
        cases hak : A k with
        | true =>
          rw [hak, Bool.true_or] at HA
          clear hak
          go_wp2_with fail
          go_round
          case rel => exact ⟨k + 1, by omega, by go_num, by rw [HA.out]⟩
          case measure => simp [intOf]; omega
        | false =>
          rw [hak, Bool.false_or] at HA
          clear hak
          generalize decide (x = field) = d at *
          go_wp2_with fail
          go_round
          case rel => exact ⟨k + 1, by omega, by go_num, by rw [HA.out]⟩
          case measure => simp [intOf]; omega
      · obtain rfl : k = m := by omega
        rw [AA.out]
        clear AA AN A0
        go_wp2_with fail
        go_loop [9, 11] (fun z i => ∃ t : Nat, t ≤ n ∧ i = .int .i64 t ∧ z = .bool (B t)) (fun _ i => n - (intOf i).toNat)
        case atStart => exact ⟨0, Nat.zero_le _, rfl, by rw [B0.out]⟩
        case round =>
          obtain ⟨t, ht, rfl, rfl⟩ := hrel
          by_cases hlt : t < n
          · obtain ⟨b, o, c, hv, -, -, -, hc⟩ := items_spot Sl.out (by rw [Nn.out]; omega)
            rw [Nn.out] at hv
            simp only [Value.slice.injEq] at hv
            obtain ⟨rfl, -, rfl⟩ := hv
            obtain ⟨c0, c1, -, -, -, -, -, -⟩ := hc t (by rw [Nn.out]; exact hlt)
            have HA := Lib.hid (BN.out t hlt)
            rw [inField_dec] at HA
            clear hc
            have t1 := text_eq (l.getD t default).key key
            have t2 := text_eq (l.getD t default).field field
            generalize l.getD t default = x at *
            generalize bt x.key = X1 at *
            generalize bt x.field = X2 at *
            cases hbt : B t with
            | true =>
              rw [hbt, Bool.true_or] at HA
              clear hbt
              go_wp2_with fail
              go_round
              case rel => exact ⟨t + 1, by omega, by go_num, by rw [HA.out]⟩
              case measure => simp [intOf]; omega
            | false =>
              rw [hbt, Bool.false_or] at HA
              clear hbt
              generalize decide (x.field = field) = d2 at *
              cases hk1 : decide (x.key = key) with
              | true =>
                rw [hk1] at t1 HA
                rw [Bool.true_and] at HA
                clear hk1
                go_wp2_with fail
                go_round
                case rel => exact ⟨t + 1, by omega, by go_num, by rw [HA.out]⟩
                case measure => simp [intOf]; omega
              | false =>
                rw [hk1] at t1 HA
                rw [Bool.false_and] at HA
                clear hk1
                go_wp2_with fail
                go_round
                case rel => exact ⟨t + 1, by omega, by go_num, by rw [HA.out]⟩
                case measure => simp [intOf]; omega
          · obtain rfl : t = n := by omega
            rw [BA.out]
            clear BA BN B0
            cases hR : l.any (inField key field) with
            | true =>
              clear HNO
              go_wp2_with fail
              refine (ronceS Sf.out (by rw [Nm'.out]; omega)).mono ?_
              rintro e u5 ⟨v5, rfl, hs, hb⟩
              replace Sl := Lib.hid (Sl.out.below hb)
              replace Sf := Lib.hid (Sf.out.below hb)
              replace G := Lib.hid (G.out.trans (hb.mono G.out.size))
              have So := Lib.hid hs
              obtain ⟨ao, co, hvo, -, -, -, -⟩ := So.out.parts
              subst hvo
              clear hs hb
              go_wp2_with fail
              refine (rsameTB So.out Sf.out (decide_eq_true HOV.out)).mono ?_
              rintro e u6 ⟨rfl, hb⟩
              replace Sl := Lib.hid (Sl.out.below hb)
              replace Sf := Lib.hid (Sf.out.below hb)
              replace So := Lib.hid (So.out.below hb)
              replace G := Lib.hid (G.out.trans (hb.mono G.out.size))
              clear hb
              go_wp2_with fail
              go_ret
              exact ⟨rfl, G.out⟩
            | false =>
              have HV := Lib.hid (HNO.out hR)
              clear HNO
              go_wp2_with fail
              refine (vfieldS key field Sl.out MX.out).mono ?_
              rintro e u5 ⟨v5, rfl, hs, hb⟩
              replace Sl := Lib.hid (Sl.out.below hb)
              replace Sf := Lib.hid (Sf.out.below hb)
              replace G := Lib.hid (G.out.trans (hb.mono G.out.size))
              have Sv := Lib.hid hs
              clear hs hb
              rw [HV.out] at Sv
              go_wp2_with fail
              refine (vemptyB Sv.out vempty_none).mono ?_
              rintro e u6 ⟨rfl, hb⟩
              replace Sl := Lib.hid (Sl.out.below hb)
              replace Sf := Lib.hid (Sf.out.below hb)
              replace Sv := Lib.hid (Sv.out.below hb)
              replace G := Lib.hid (G.out.trans (hb.mono G.out.size))
              clear hb
              go_wp2_with fail
              refine (ronceS Sf.out (by rw [Nm'.out]; omega)).mono ?_
              rintro e u7 ⟨v7, rfl, hs, hb⟩
              replace Sl := Lib.hid (Sl.out.below hb)
              replace Sf := Lib.hid (Sf.out.below hb)
              replace Sv := Lib.hid (Sv.out.below hb)
              replace G := Lib.hid (G.out.trans (hb.mono G.out.size))
              have So := Lib.hid hs
              obtain ⟨ao, co, hvo, -, -, -, -⟩ := So.out.parts
              subst hvo
              clear hs hb
              go_wp2_with fail
              refine (rsameTB So.out Sf.out (decide_eq_true HOV.out)).mono ?_
              rintro e u8 ⟨rfl, hb⟩
              replace Sl := Lib.hid (Sl.out.below hb)
              replace Sf := Lib.hid (Sf.out.below hb)
              replace Sv := Lib.hid (Sv.out.below hb)
              replace So := Lib.hid (So.out.below hb)
              replace G := Lib.hid (G.out.trans (hb.mono G.out.size))
              clear hb
              go_wp2_with fail
              go_ret
              exact ⟨rfl, G.out⟩

set_option maxRecDepth 100000 in
theorem lifted (os : Os) (started : os.Started) (H : Type) (enc : TypeId × Value → H) :
    ReturnsInHanded {} Try.checked os 6 .any (Rows.viewFieldsSpec.pre6 enc Try.prog Try.f6 Rows.viewFieldsRow.domain false) (Rows.viewFieldsSpec.post enc Try.prog Try.f6 false true false false) := by
  refine returnsInHanded_of_change (C := Try.checked) own started (by kernel_rfl) Try.func6
    (ChangeSpec.witness6 (enc := enc) (C := Try.checked) false ⟨#[], #[.slice none 0 0, .string ByteArray.empty, .string ByteArray.empty], []⟩ 8 (by kernel_rfl) (by kernel_rfl) (by kernel_rfl) (by kernel_rfl)) ?_
  intro W base args ds gs before hval0 hW hcnd _
  have hval : ∀ (j : Nat) t v, Try.f6.params[j]? = some t → args[j]? = some v → Value.okWide Try.prog W .any base t v := hval0
  have hW' := hW
  obtain ⟨p, q, hA0, hV, rfl, hfz, hnd⟩ := hW
  have hA : DataW.TrodAll enc Try.prog W 0 (fun _ => true) true Try.f6.params.toList args.toList ds p := hA0
  rw [Try.params6] at hA hval
  obtain ⟨v0, vs0, d0, ds0, p0, q0, hargs, rfl, rfl, h0, r0⟩ := trodAll_cons hA
  obtain ⟨v1, vs1, d1, ds1, p1, q1, rfl, rfl, rfl, h1, r1⟩ := trodAll_cons r0
  obtain ⟨v2, vs2, d2, ds2, p2, q2, rfl, rfl, rfl, h2, r2⟩ := trodAll_cons r1
  obtain ⟨rfl, rfl, rfl⟩ := trodAll_nil r2
  obtain rfl : args = #[v0, v1, v2] := by cases args; simp_all
  obtain ⟨rfl, rfl⟩ := trodVars_none hV
  have k0 := h0
  have lt0 : ∀ x ∈ p0, x.block < W.heap.size := by obtain ⟨m, hm⟩ := k0; exact DataW.trod_lt m _ _ _ hm
  have w0 := open0 (hval 0 22 v0 rfl rfl) h0
  obtain ⟨a1, rfl, rfl, rfl, w1⟩ := open_string Try.underlying9 (hval 1 9 v1 rfl rfl) h1
  obtain ⟨a2, rfl, rfl, rfl, w2⟩ := open_string Try.underlying9 (hval 2 9 v2 rfl rfl) h2
  clear hA0 hval0
  refine (walk v0 a1 a2 W w0 w1 w2).mono fun e W' ⟨he, bel⟩ => ?_
  subst he
  exact ⟨_, rfl, _, _, _, [], _, [], hW', trodAll_mk1 (shut_bool Try.underlying4 _), (trodAll_cons_mk (Below.trod laidOut (by kernel_rfl) (of_decide_eq_true (by kernel_rfl)) k0 bel lt0) (trodAll_cons_mk (shut_string Try.underlying9 w1) (trodAll_cons_mk (shut_string Try.underlying9 w2) trodAll_mk0))), rfl, bel.frame _, fun h => by cases h⟩

theorem over : Rows.viewFieldsRow.holds Try.pinned (OpenSpec.ofChange Rows.viewFieldsSpec) :=
  OpenClaim.holds_of_wide 6 Try.f6 rfl rfl rfl rfl rfl rfl rfl ⟨rfl, rfl, rfl, rfl, rfl⟩ rfl rfl rfl rfl rfl (by kernel_rfl) Try.func6 (by kernel_rfl)
    (of_decide_eq_true (by kernel_rfl)) (by unfold Func.isWrapper; first | (rw [if_pos (by decide +kernel)]; kernel_rfl) | (rw [if_neg (by decide +kernel)]; exact ⟨rfl, rfl⟩))
    (fun os started H enc _ => lifted os started H enc)

/-- the given statement -/
theorem proved : Rows.ViewFieldsSaid := over
#print axioms proved
end Go.Proofs.Ytpkmjddjllpglaa.viewFields
