/-
  For any items, any two numbers, any requests and any two texts the law MintDoes answers true: requests do what was asked, to the fields that they name alone. No condition.
  (The frame was written by the guide's proof-skeleton.mjs, turned for slices of items and for fields; the walk is ours.)
-/
import Derived.Test.YtkmiodpaanohoaaRows
import Derived.WalkKit
import Derived.ProofKit
import Derived.OpenShut
import Derived.ShutString
import Derived.ChangeOld
import Derived.Below
import Derived.Test.YtkmiodpaanohoaaMnUses
import Derived.Deep.DeepCutAuto
namespace Go.Proofs.Ytkmiodpaanohoaa.mintDoes
open Go.ChangeShapes Go.WideShapes Go.ChangeAt Go.RowKit
open Go.ChangeMaps (open_string shut_string)
set_option linter.unusedVariables false

theorem own : ownKnob Try.prog.godebug = none := by kernel_rfl
theorem laidOut : laidOutB Try.prog = true := by kernel_rfl

open Plain

set_option maxRecDepth 100000 in
theorem open0 {H : Type} {enc : TypeId × Value → H} {W : World} {r : Reach} {b : Nat} {v : Value} {d : DataW H} {p : List MemPlace} (hv : Value.okWide Try.prog W r b 22 v) (h : DataW.Trod enc Try.prog W 0 (fun _ => true) true 22 v d p) : IsItems W v := items_of_trod hv h
set_option maxRecDepth 100000 in
theorem open3 {H : Type} {enc : TypeId × Value → H} {W : World} {r : Reach} {b : Nat} {v : Value} {d : DataW H} {p : List MemPlace} (hv : Value.okWide Try.prog W r b 23 v) (h : DataW.Trod enc Try.prog W 0 (fun _ => true) true 23 v d p) : IsReqs W v := reqs_of_trod hv h

set_option maxRecDepth 100000 in
set_option maxHeartbeats 16000000 in
theorem walk (v0 : Value) (x1 : Int) (x2 : Int) (v3 : Value) (t4 : ByteArray) (t5 : ByteArray) (w : World) (w0 : IsItems w v0) (w1 : (Lit.int .i64 x1).wf = true) (w2 : (Lit.int .i64 x2).wf = true) (w3 : IsReqs w v3) (w4 : t4.size ≤ maxLen) (w5 : t5.size ≤ maxLen) :
    Calls Try.prog 3 #[v0, .int .i64 x1, .int .i64 x2, v3, .string t4, .string t5] w fun e w' => e = .returned (.bool true) ∧ Below w.heap.size w w' := by
  obtain ⟨l, s0, q0⟩ := w0
  have Q0 := Lib.hid q0
  have Sl := Lib.hid s0
  clear s0 q0
  obtain ⟨R, s3, q3⟩ := w3
  have Q3 := Lib.hid q3
  have SR := Lib.hid s3
  clear s3 q3
  obtain ⟨key, hx4⟩ : ∃ k, t4 = bt k := ⟨tx t4, rfl⟩
  subst hx4
  have Lkey : Hid (key.length ≤ 9223372036854775807) := Lib.hid w4
  clear w4
  obtain ⟨field, hx5⟩ : ∃ k, t5 = bt k := ⟨tx t5, rfl⟩
  subst hx5
  have Lfield : Hid (field.length ≤ 9223372036854775807) := Lib.hid w5
  clear w5
  have G := Lib.hid (Below.refl w.heap.size w)
  have W1 := Lib.hid w1
  have W2 := Lib.hid w2
  clear w1 w2
  obtain ⟨an, cn, hvn, gn1, gn2, -, hn⟩ := Sl.out.parts
  subst hvn
  obtain ⟨n, en⟩ : ∃ n, l.length = n := ⟨_, rfl⟩
  replace Sl := Lib.hid hn
  rw [en] at Sl gn1 ⊢
  have Nn := Lib.hid en
  clear hn en
  obtain ⟨am, cm, hvm, gm1, gm2, -, hm⟩ := SR.out.parts
  subst hvm
  obtain ⟨m, em⟩ : ∃ n, R.length = n := ⟨_, rfl⟩
  replace SR := Lib.hid hm
  rw [em] at SR gm1 ⊢
  have Nm := Lib.hid em
  clear hm em
  go_enter Try.func3, Try.ntmps3
  go_wp2_with fail
  refine (mnawake_any _).mono ?_
  rintro e u2 ⟨rfl, hb⟩
  replace Sl := Lib.hid (Sl.out.below hb)
  replace SR := Lib.hid (SR.out.below hb)
  replace G := Lib.hid (G.out.trans (hb.mono G.out.size))
  clear hb
  cases hA : shortI l && usualB l x1 x2 with
  | false =>
    go_wp2_with fail
    refine (usualR Sl.out Q0.out hA).mono ?_
    rintro e u3 ⟨rfl, hb⟩
    replace Sl := Lib.hid (Sl.out.below hb)
    replace SR := Lib.hid (SR.out.below hb)
    replace G := Lib.hid (G.out.trans (hb.mono G.out.size))
    clear hb
    go_wp2_with fail
    go_ret
    exact ⟨rfl, G.out⟩
  | true =>
    go_wp2_with fail
    refine (usualR Sl.out Q0.out hA).mono ?_
    rintro e u3 ⟨rfl, hb⟩
    replace Sl := Lib.hid (Sl.out.below hb)
    replace SR := Lib.hid (SR.out.below hb)
    replace G := Lib.hid (G.out.trans (hb.mono G.out.size))
    clear hb
    have US := Lib.hid hA
    clear hA
    obtain ⟨err, effs, hMM⟩ : ∃ a b, mmake l x1 x2 R = (a, b) := ⟨_, _, rfl⟩
    have HMO := Lib.hid (madeOk_of (l := R) US.out Q0.out)
    rw [hMM] at HMO
    have HMD := Lib.hid (fun h k hk hl => make_does (l := R) (k := k) (usual_parts US.out).2 h hk hl)
    rw [hMM] at HMD
    have HMT := Lib.hid (fun h hn => make_other (l := R) (key := key) (field := field) (usual_parts US.out).2 h hn)
    rw [hMM] at HMT
    have K := mmakeR Sl.out SR.out (fitM_of US.out Q0.out Q3.out) W1.out W2.out hMM
    clear hMM
    have FV := Lib.hid (fitV_items (usual_parts US.out).1 Q0.out)
    go_wp2_with fail
    refine K.mono ?_
    rintro e u4 ⟨v4, rfl, hs, hb⟩
    replace Sl := Lib.hid (Sl.out.below hb)
    replace SR := Lib.hid (SR.out.below hb)
    replace G := Lib.hid (G.out.trans (hb.mono G.out.size))
    have Sa := Lib.hid hs
    obtain ⟨aa, ca, hva, -, -, -, -⟩ := Sa.out.parts
    subst hva
    clear hs hb K
    generalize effs.length = ma at *
    by_cases e0 : err = 0
    rotate_left
    · have ez : (err == 0) = false := beq_false_of_ne e0
      go_wp2_with fail
      go_ret
      exact ⟨rfl, G.out⟩
    subst e0
    have MO := Lib.hid (HMO.out rfl)
    have HD := Lib.hid (HMD.out rfl)
    have HT := Lib.hid (HMT.out rfl)
    clear HMO HMD HMT
    go_wp2_with fail
    refine (edoS Sl.out Sa.out MO.out.fitI MO.out.small MO.out.ok).mono ?_
    rintro e u5 ⟨v5, rfl, hs, hb⟩
    replace Sl := Lib.hid (Sl.out.below hb)
    replace SR := Lib.hid (SR.out.below hb)
    replace Sa := Lib.hid (Sa.out.below hb)
    replace G := Lib.hid (G.out.trans (hb.mono G.out.size))
    have So := Lib.hid hs
    obtain ⟨ao, co, hvo, -, -, -, -⟩ := So.out.parts
    subst hvo
    clear hs hb
    have FD := Lib.hid MO.out.fitV
    generalize edo x1 x2 l effs = D at *
    generalize D.length = md at *
    clear MO
    have NN := Lib.hid (fun k (hk : k < R.length) => anyTo_next (fun q : PReq => decide (q.key = key) && decide (q.field = field)) R hk)
    have N0 := Lib.hid (anyTo_zero (fun q : PReq => decide (q.key = key) && decide (q.field = field)) R)
    have NA := Lib.hid (anyTo_all (fun q : PReq => decide (q.key = key) && decide (q.field = field)) R)
    rw [← NA.out] at HT
    rw [Nm.out] at NN NA HD HT
    clear NA
    generalize anyTo (fun q : PReq => decide (q.key = key) && decide (q.field = field)) R = NB at *
    go_wp2_with fail
    go_loopw [16, 17, 18, 19, 20, 21] (fun nm i _ _ _ _ wr => ∃ k : Nat, k ≤ m ∧ i = .int .i64 k ∧ nm = .bool (NB k) ∧ Below u5.heap.size u5 wr) (fun _ i _ _ _ _ _ => m - (intOf i).toNat)
    case atStart => exact ⟨0, Nat.zero_le _, rfl, by rw [N0.out], Below.refl _ _⟩
    case round =>
      obtain ⟨k, hk, rfl, rfl, hb⟩ := hrel
      have HB := Lib.hid hb
      clear hb
      by_cases hlt : k < m
      · have SRr := Lib.hid (SR.out.below HB.out)
        have Sor := Lib.hid (So.out.below HB.out)
        obtain ⟨b, o, c, hv, -, -, -, hc⟩ := reqs_spot SRr.out (by rw [Nm.out]; omega)
        rw [Nm.out] at hv
        simp only [Value.slice.injEq] at hv
        obtain ⟨rfl, -, rfl⟩ := hv
        obtain ⟨c0, c1, c2, c3, c4⟩ := hc k (by rw [Nm.out]; exact hlt)
        clear hc
        have HNX := Lib.hid (NN.out k hlt)
        have HDK := Lib.hid (HD.out k hlt)
        generalize R.getD k default = q at *
        have hb := (Below.refl wr.heap.size wr).alloc (Nat.le_refl _) (.cells #[.int .i64 q.op, .string (bt q.key), .string (bt q.field), .string (bt q.elem), .int .i64 q.n] 32)
        have QB : Hid (ReqBox wr.heap.size q (wr.alloc (.cells #[.int .i64 q.op, .string (bt q.key), .string (bt q.field), .string (bt q.elem), .int .i64 q.n] 32))) := Lib.hid ⟨by simp, by simp, by simp, by simp, by simp⟩
        have HL2 := Lib.hid (fun r hr => later_any (SRr.out.below hb) k (by rw [Nm.out]; exact hlt) r hr)
        replace Sor := Lib.hid (Sor.out.below hb)
        replace HB := Lib.hid (HB.out.trans (hb.mono HB.out.size))
        clear hb
        generalize laterB R k = lb at *
        go_upto_region 14 with fail
        clear c0 c1 c2 c3 c4
        generalize (wr.alloc (.cells #[.int .i64 q.op, .string (bt q.key), .string (bt q.field), .string (bt q.elem), .int .i64 q.n] 32)) = wb at *
        obtain ⟨q0, q1, q2, q3, q4⟩ := QB.out.c
        have t1 := text_eq q.key key
        have t2 := text_eq q.field field
        go_cut [16] (fun s16 wx => s16 = .bool (NB (k + 1)) ∧ wx = wb)
        case first =>
          cases hnb : NB k with
          | true =>
            rw [hnb, Bool.true_or] at HNX
            clear hnb
            go_wp2_with fail
            go_meet
            exact ⟨by rw [HNX.out], rfl⟩
          | false =>
            rw [hnb, Bool.false_or] at HNX
            clear hnb
            cases hk1 : decide (q.key = key) with
            | false =>
              rw [hk1] at t1 HNX
              rw [Bool.false_and] at HNX
              clear hk1
              go_wp2_with fail
              go_meet
              exact ⟨by rw [HNX.out], rfl⟩
            | true =>
              rw [hk1] at t1 HNX
              rw [Bool.true_and] at HNX
              clear hk1
              generalize decide (q.field = field) = d at *
              go_wp2_with fail
              go_meet
              exact ⟨by rw [HNX.out], rfl⟩
        case rest =>
          obtain ⟨rfl, rfl⟩ := hcut
          clear t1 t2 HNX q0 q1 q2 q3 q4
          cases lb with
          | true =>
            have K := HL2.out true rfl
            clear HL2 HDK
            go_wp2_with fail
            refine K.mono ?_
            rintro e w5 ⟨rfl, hb⟩
            replace HB := Lib.hid (HB.out.trans (hb.mono HB.out.size))
            clear hb K
            go_wp2_with fail
            go_roundw
            case rel => exact ⟨k + 1, by omega, by go_num, rfl, HB.out⟩
            case measure => simp [intOf]; omega
          | false =>
            have K := HL2.out false rfl
            have HAS := Lib.hid (HDK.out rfl)
            clear HL2 HDK
            go_wp2_with fail
            refine K.mono ?_
            rintro e w5 ⟨rfl, hb⟩
            replace HB := Lib.hid (HB.out.trans (hb.mono HB.out.size))
            replace Sor := Lib.hid (Sor.out.below hb)
            replace QB := Lib.hid (QB.out.below hb)
            clear hb K
            have K := vfieldS q.key q.field Sor.out FD.out
            generalize vfield D q.key q.field = P at *
            obtain ⟨q0, q1, q2, q3, q4⟩ := QB.out.c
            go_wp2_with fail
            refine K.mono ?_
            rintro e w6 ⟨v6, rfl, hs, hb⟩
            replace HB := Lib.hid (HB.out.trans (hb.mono HB.out.size))
            replace QB := Lib.hid (QB.out.below hb)
            clear hb K q0 q1 q2 q3 q4 Sor
            obtain ⟨a1, n1, f1, a2, n2, f2, hv6, s1, s2⟩ := hs
            subst hv6
            have hb := (Below.refl w6.heap.size w6).alloc (Nat.le_refl _) (.cells #[.slice a1 n1 f1, .slice a2 n2 f2, .int .i64 P.total, .bool P.over] 36)
            have VB : Hid (ValBox w6.heap.size a1 n1 f1 a2 n2 f2 P.total P.over (w6.alloc (.cells #[.slice a1 n1 f1, .slice a2 n2 f2, .int .i64 P.total, .bool P.over] 36))) := Lib.hid ⟨by simp, by simp, by simp, by simp⟩
            replace HB := Lib.hid (HB.out.trans (hb.mono HB.out.size))
            replace QB := Lib.hid (QB.out.below hb)
            have T1 := Lib.hid (s1.below hb)
            have T2 := Lib.hid (s2.below hb)
            clear s1 s2 hb
            go_upto_region 17 with fail
            generalize (w6.alloc (.cells #[.slice a1 n1 f1, .slice a2 n2 f2, .int .i64 P.total, .bool P.over] 36)) = w7 at *
            obtain ⟨lt, hn1, hf1⟩ := T1.out.dims
            have LT := Lib.hid lt
            clear lt
            have EN := Lib.hid (fun k (hk : k < P.elems.length) => anyTo_next (fun t : Txt => decide (t = q.elem)) P.elems hk)
            have E0 := Lib.hid (anyTo_zero (fun t : Txt => decide (t = q.elem)) P.elems)
            have EA := Lib.hid (anyTo_all (fun t : Txt => decide (t = q.elem)) P.elems)
            rw [LT.out] at EN EA
            generalize anyTo (fun t : Txt => decide (t = q.elem)) P.elems = EB at *
            go_wp2_with fail
            go_loopw [20, 21] (fun z i wr2 => ∃ j : Nat, j ≤ n1 ∧ i = .int .i64 j ∧ z = .bool (EB j) ∧ Below w7.heap.size w7 wr2) (fun _ i _ => n1 - (intOf i).toNat)
            case atStart => exact ⟨0, Nat.zero_le _, rfl, by rw [E0.out], Below.refl _ _⟩
            case round =>
              obtain ⟨j, hj, rfl, rfl, hb⟩ := hrel
              have VB2 := Lib.hid (VB.out.below hb)
              have QB2 := Lib.hid (QB.out.below hb)
              have HB2 := Lib.hid hb
              have T12 := Lib.hid (T1.out.below hb)
              clear hb
              obtain ⟨x0, x1', x2', x3⟩ := VB2.out.c
              obtain ⟨q0, q1, q2, q3, q4⟩ := QB2.out.c
              by_cases hjl : j < n1
              · obtain ⟨b, o, c, hv, h1, h2, -, hc⟩ := T12.out.spot (by rw [LT.out]; omega)
                rw [LT.out] at hv h1
                simp only [Value.slice.injEq] at hv
                obtain ⟨rfl, -, rfl⟩ := hv
                have c0 := hc j (by rw [LT.out]; exact hjl)
                unfold tv at c0
                have HA := Lib.hid (EN.out j hjl)
                have HDd : Hid (P.elems.getD j default = P.elems.getD j []) := Lib.hid rfl
                rw [HDd.out] at HA
                have t1 := text_eq (P.elems.getD j []) q.elem
                clear hc HDd x1' x2' x3 q0 q1 q2 q4
                generalize P.elems.getD j [] = x at *
                generalize bt x = X at *
                cases hbt : EB j with
                | true =>
                  rw [hbt, Bool.true_or] at HA
                  clear hbt
                  go_wp2_with fail
                  go_quiet (fail)
                  go_wp2_with fail
                  go_roundw
                  case rel => exact ⟨j + 1, by omega, by go_num, by rw [HA.out], below_drewN HB2.out _⟩
                  case measure => simp [intOf]; omega
                | false =>
                  rw [hbt, Bool.false_or] at HA
                  clear hbt
                  generalize decide (x = q.elem) = d at *
                  go_wp2_with fail
                  go_quiet (fail)
                  go_wp2_with fail
                  go_roundw
                  case rel => exact ⟨j + 1, by omega, by go_num, by rw [HA.out], below_drewN HB2.out _⟩
                  case measure => simp [intOf]; omega
              · obtain rfl : j = n1 := by omega
                have HB3 := Lib.hid (HB.out.trans (HB2.out.mono HB.out.size))
                have T22 := Lib.hid (T2.out.below HB2.out)
                have HEB := Lib.hid EA.out
                clear EN E0 EA
                by_cases e1 : q.op = 1
                · have t1 : (q.op == 1) = true := beq_iff_eq.2 e1
                  have HE := HEB.out.trans (asked1 e1 HAS.out)
                  rw [HE]
                  clear x1' x2' x3 q1 q2 q3 q4 HE e1
                  go_wp2_with fail
                  go_roundw
                  case rel => exact ⟨k + 1, by omega, by go_num, rfl, HB3.out⟩
                  case measure => simp [intOf]; omega
                by_cases e2 : q.op = 2
                · have t1 : (q.op == 1) = false := beq_false_of_ne e1
                  have t2 : (q.op == 2) = true := beq_iff_eq.2 e2
                  have HE := HEB.out.trans (asked2 e2 HAS.out)
                  rw [HE]
                  clear x1' x2' x3 q1 q2 q3 q4 HE e1 e2
                  go_wp2_with fail
                  go_roundw
                  case rel => exact ⟨k + 1, by omega, by go_num, rfl, HB3.out⟩
                  case measure => simp [intOf]; omega
                have t1 : (q.op == 1) = false := beq_false_of_ne e1
                have t2 : (q.op == 2) = false := beq_false_of_ne e2
                by_cases e3 : q.op = 3
                · have t3 : (q.op == 3) = true := beq_iff_eq.2 e3
                  have HE := asked3 e3 HAS.out
                  rw [HE] at T22
                  obtain ⟨b2, o2, c2, hv, -, -, -, hc2⟩ := T22.out.spot (by simp)
                  simp only [List.length_cons, List.length_nil, Value.slice.injEq] at hv
                  obtain ⟨rfl, rfl, rfl⟩ := hv
                  have d0 := hc2 0 (by simp)
                  rw [Nat.add_zero] at d0
                  unfold tv at d0
                  have HD0 : ([q.elem] : List Txt).getD 0 [] = q.elem := rfl
                  rw [HD0] at d0
                  have t5 := text_eq q.elem q.elem
                  rw [decide_eq_true rfl] at t5
                  clear x2' x3 q1 q2 q4 HE e1 e2 e3 hc2 HD0
                  generalize bt q.elem = X at *
                  go_wp2_with fail
                  go_quiet (fail)
                  go_wp2_with fail
                  go_roundw
                  case rel => exact ⟨k + 1, by omega, by go_num, rfl, below_drewN HB3.out _⟩
                  case measure => simp [intOf]; omega
                have t3 : (q.op == 3) = false := beq_false_of_ne e3
                by_cases e5 : q.op = 5
                · have t4 : (q.op == 5) = true := beq_iff_eq.2 e5
                  have K := vemptyB (w := wr) (u := .agg #[.slice a1 j f1, .slice a2 n2 f2, .int .i64 P.total, .bool P.over]) ⟨_, _, _, _, _, _, rfl, T12.out, T22.out⟩ (asked5 e5 HAS.out)
                  clear q1 q2 q3 q4 e1 e2 e3 e5
                  go_wp2_with fail
                  refine K.mono ?_
                  rintro e w9 ⟨rfl, hb⟩
                  have HB4 := Lib.hid (HB3.out.trans (hb.mono HB3.out.size))
                  clear hb K
                  go_wp2_with fail
                  go_roundw
                  case rel => exact ⟨k + 1, by omega, by go_num, rfl, HB4.out⟩
                  case measure => simp [intOf]; omega
                have t4 : (q.op == 5) = false := beq_false_of_ne e5
                clear x1' x2' x3 q1 q2 q3 q4 e1 e2 e3 e5
                go_wp2_with fail
                go_roundw
                case rel => exact ⟨k + 1, by omega, by go_num, rfl, HB3.out⟩
                case measure => simp [intOf]; omega
      · obtain rfl : k = m := by omega
        cases hn : NB k with
        | true =>
          clear HT NN N0
          go_wp2_with fail
          go_ret
          exact ⟨rfl, G.out.trans (HB.out.mono G.out.size)⟩
        | false =>
          have HV := Lib.hid (HT.out hn)
          have KD := vfieldS key field (So.out.below HB.out) FD.out
          rw [HV.out] at KD
          have KL := Lib.hid (fun (W : World) (h : Below wr.heap.size wr W) => vfieldS key field (Sl.out.below (HB.out.trans (h.mono HB.out.size))) FV.out)
          generalize vfield l key field = P at *
          clear HT NN N0 HV
          go_wp2_with fail
          refine KD.mono ?_
          rintro e w1 ⟨v1, rfl, hv1, hb⟩
          have B1 := Lib.hid hb
          have K2 := KL.out _ B1.out
          have V1 := Lib.hid hv1
          clear hb hv1 KD KL
          go_wp2_with fail
          refine K2.mono ?_
          rintro e w2 ⟨v2, rfl, hv2, hb⟩
          have B2 := Lib.hid (B1.out.trans (hb.mono B1.out.size))
          have K3 := vsameB (V1.out.below hb) hv2 (decide_eq_true rfl)
          clear hb hv2 K2
          go_wp2_with fail
          refine K3.mono ?_
          rintro e w3 ⟨rfl, hb⟩
          have B3 := Lib.hid (HB.out.trans ((B2.out.trans (hb.mono B2.out.size)).mono HB.out.size))
          clear hb K3
          go_wp2_with fail
          go_ret
          exact ⟨rfl, G.out.trans (B3.out.mono G.out.size)⟩

set_option maxRecDepth 100000 in
theorem lifted (os : Os) (started : os.Started) (H : Type) (enc : TypeId × Value → H) :
    ReturnsInHanded {} Try.checked os 3 .any (Rows.mintDoesSpec.pre6 enc Try.prog Try.f3 Rows.mintDoesRow.domain false) (Rows.mintDoesSpec.post enc Try.prog Try.f3 false true false false) := by
  refine returnsInHanded_of_change (C := Try.checked) own started (by kernel_rfl) Try.func3
    (ChangeSpec.witness6 (enc := enc) (C := Try.checked) false ⟨#[], #[.slice none 0 0, .int .i64 0, .int .i64 0, .slice none 0 0, .string ByteArray.empty, .string ByteArray.empty], []⟩ 8 (by kernel_rfl) (by kernel_rfl) (by kernel_rfl) (by kernel_rfl)) ?_
  intro W base args ds gs before hval0 hW hcnd _
  have hval : ∀ (j : Nat) t v, Try.f3.params[j]? = some t → args[j]? = some v → Value.okWide Try.prog W .any base t v := hval0
  have hW' := hW
  obtain ⟨p, q, hA0, hV, rfl, hfz, hnd⟩ := hW
  have hA : DataW.TrodAll enc Try.prog W 0 (fun _ => true) true Try.f3.params.toList args.toList ds p := hA0
  rw [Try.params3] at hA hval
  obtain ⟨v0, vs0, d0, ds0, p0, q0, hargs, rfl, rfl, h0, r0⟩ := trodAll_cons hA
  obtain ⟨v1, vs1, d1, ds1, p1, q1, rfl, rfl, rfl, h1, r1⟩ := trodAll_cons r0
  obtain ⟨v2, vs2, d2, ds2, p2, q2, rfl, rfl, rfl, h2, r2⟩ := trodAll_cons r1
  obtain ⟨v3, vs3, d3, ds3, p3, q3, rfl, rfl, rfl, h3, r3⟩ := trodAll_cons r2
  obtain ⟨v4, vs4, d4, ds4, p4, q4, rfl, rfl, rfl, h4, r4⟩ := trodAll_cons r3
  obtain ⟨v5, vs5, d5, ds5, p5, q5, rfl, rfl, rfl, h5, r5⟩ := trodAll_cons r4
  obtain ⟨rfl, rfl, rfl⟩ := trodAll_nil r5
  obtain rfl : args = #[v0, v1, v2, v3, v4, v5] := by cases args; simp_all
  obtain ⟨rfl, rfl⟩ := trodVars_none hV
  have k0 := h0
  have lt0 : ∀ x ∈ p0, x.block < W.heap.size := by obtain ⟨m, hm⟩ := k0; exact DataW.trod_lt m _ _ _ hm
  have w0 := open0 (hval 0 22 v0 rfl rfl) h0
  obtain ⟨a1, rfl, rfl, rfl, w1⟩ := open_int Try.underlying3 (hval 1 3 v1 rfl rfl) h1
  obtain ⟨a2, rfl, rfl, rfl, w2⟩ := open_int Try.underlying3 (hval 2 3 v2 rfl rfl) h2
  have k3 := h3
  have lt3 : ∀ x ∈ p3, x.block < W.heap.size := by obtain ⟨m, hm⟩ := k3; exact DataW.trod_lt m _ _ _ hm
  have w3 := open3 (hval 3 23 v3 rfl rfl) h3
  obtain ⟨a4, rfl, rfl, rfl, w4⟩ := open_string Try.underlying9 (hval 4 9 v4 rfl rfl) h4
  obtain ⟨a5, rfl, rfl, rfl, w5⟩ := open_string Try.underlying9 (hval 5 9 v5 rfl rfl) h5
  clear hA0 hval0
  refine (walk v0 a1 a2 v3 a4 a5 W w0 w1 w2 w3 w4 w5).mono fun e W' ⟨he, bel⟩ => ?_
  subst he
  exact ⟨_, rfl, _, _, _, [], _, [], hW', trodAll_mk1 (shut_bool Try.underlying4 _), (trodAll_cons_mk (Below.trod laidOut (by kernel_rfl) (of_decide_eq_true (by kernel_rfl)) k0 bel lt0) (trodAll_cons_mk (shut_int Try.underlying3 w1) (trodAll_cons_mk (shut_int Try.underlying3 w2) (trodAll_cons_mk (Below.trod laidOut (by kernel_rfl) (of_decide_eq_true (by kernel_rfl)) k3 bel lt3) (trodAll_cons_mk (shut_string Try.underlying9 w4) (trodAll_cons_mk (shut_string Try.underlying9 w5) trodAll_mk0)))))), rfl, bel.frame _, fun h => by cases h⟩

theorem over : Rows.mintDoesRow.holds Try.pinned (OpenSpec.ofChange Rows.mintDoesSpec) :=
  OpenClaim.holds_of_wide 3 Try.f3 rfl rfl rfl rfl rfl rfl rfl ⟨rfl, rfl, rfl, rfl, rfl⟩ rfl rfl rfl rfl rfl (by kernel_rfl) Try.func3 (by kernel_rfl)
    (of_decide_eq_true (by kernel_rfl)) (by unfold Func.isWrapper; first | (rw [if_pos (by decide +kernel)]; kernel_rfl) | (rw [if_neg (by decide +kernel)]; exact ⟨rfl, rfl⟩))
    (fun os started H enc _ => lifted os started H enc)

/-- the given statement -/
theorem proved : Rows.MintDoesSaid := over
#print axioms proved
end Go.Proofs.Ytkmiodpaanohoaa.mintDoes
