/-
  For any items, any two numbers, any two texts and any count the law MintCounts answers true: one request that counts makes the total just so much more, or is refused. No condition.
  (The frame was written by the guide's proof-skeleton.mjs, turned for slices of items and for fields; the walk is ours.)
-/
import Derived.Test.YtkmiodpaanohoaaRows
import Derived.WalkKit
import Derived.ProofKit
import Derived.OpenShut
import Derived.ShutString
import Derived.ChangeOld
import Derived.Below
import Derived.Test.YtkmiodpaanohoaaMnUses
import Derived.Deep.DeepCutAuto
namespace Go.Proofs.Ytkmiodpaanohoaa.mintCounts
open Go.ChangeShapes Go.WideShapes Go.ChangeAt Go.RowKit
open Go.ChangeMaps (open_string shut_string)
set_option linter.unusedVariables false

theorem own : ownKnob Try.prog.godebug = none := by kernel_rfl
theorem laidOut : laidOutB Try.prog = true := by kernel_rfl

open Plain

set_option maxRecDepth 100000 in
theorem open0 {H : Type} {enc : TypeId × Value → H} {W : World} {r : Reach} {b : Nat} {v : Value} {d : DataW H} {p : List MemPlace} (hv : Value.okWide Try.prog W r b 22 v) (h : DataW.Trod enc Try.prog W 0 (fun _ => true) true 22 v d p) : IsItems W v := items_of_trod hv h

set_option maxRecDepth 100000 in
set_option maxHeartbeats 16000000 in
theorem walk (v0 : Value) (x1 : Int) (x2 : Int) (t3 : ByteArray) (t4 : ByteArray) (x5 : Int) (w : World) (w0 : IsItems w v0) (w1 : (Lit.int .i64 x1).wf = true) (w2 : (Lit.int .i64 x2).wf = true) (w3 : t3.size ≤ maxLen) (w4 : t4.size ≤ maxLen) (w5 : (Lit.int .i64 x5).wf = true) :
    Calls Try.prog 4 #[v0, .int .i64 x1, .int .i64 x2, .string t3, .string t4, .int .i64 x5] w fun e w' => e = .returned (.bool true) ∧ Below w.heap.size w w' := by
  obtain ⟨l, s0, q0⟩ := w0
  have Q0 := Lib.hid q0
  have Sl := Lib.hid s0
  clear s0 q0
  obtain ⟨key, hx3⟩ : ∃ k, t3 = bt k := ⟨tx t3, rfl⟩
  subst hx3
  have Lkey : Hid (key.length ≤ 9223372036854775807) := Lib.hid w3
  clear w3
  obtain ⟨field, hx4⟩ : ∃ k, t4 = bt k := ⟨tx t4, rfl⟩
  subst hx4
  have Lfield : Hid (field.length ≤ 9223372036854775807) := Lib.hid w4
  clear w4
  have G := Lib.hid (Below.refl w.heap.size w)
  have W1 := Lib.hid w1
  have W2 := Lib.hid w2
  have W5 := Lib.hid w5
  clear w1 w2 w5
  obtain ⟨an, cn, hvn, gn1, gn2, -, hn⟩ := Sl.out.parts
  subst hvn
  obtain ⟨n, en⟩ : ∃ n, l.length = n := ⟨_, rfl⟩
  replace Sl := Lib.hid hn
  rw [en] at Sl gn1 ⊢
  have Nn := Lib.hid en
  clear hn en
  go_enter Try.func4, Try.ntmps4
  go_wp2_with fail
  refine (mnawake_any _).mono ?_
  rintro e u2 ⟨rfl, hb⟩
  replace Sl := Lib.hid (Sl.out.below hb)
  replace G := Lib.hid (G.out.trans (hb.mono G.out.size))
  clear hb
  have RB : Hid (ReqBox u2.heap.size ⟨4, key, field, [], x5⟩ (u2.alloc (.cells #[.int .i64 4, .string (bt key), .string (bt field), .string ⟨#[]⟩, .int .i64 x5] 32))) := Lib.hid ⟨by simp, by simp, by simp, by simp <;> rfl, by simp⟩
  replace Sl := Lib.hid (Sl.out.below ((Below.refl _ _).alloc (Nat.le_refl _) (.cells #[.int .i64 4, .string (bt key), .string (bt field), .string ⟨#[]⟩, .int .i64 x5] 32)))
  replace G := Lib.hid (G.out.alloc G.out.size (.cells #[.int .i64 4, .string (bt key), .string (bt field), .string ⟨#[]⟩, .int .i64 x5] 32))
  go_upto_region 4 with fail
  generalize (u2.alloc (.cells #[.int .i64 4, .string (bt key), .string (bt field), .string ⟨#[]⟩, .int .i64 x5] 32)) = wq at *
  cases hA : shortI l && usualB l x1 x2 with
  | false =>
    go_wp2_with fail
    refine (usualR Sl.out Q0.out hA).mono ?_
    rintro e u3 ⟨rfl, hb⟩
    replace Sl := Lib.hid (Sl.out.below hb)
    replace RB := Lib.hid (RB.out.below hb)
    replace G := Lib.hid (G.out.trans (hb.mono G.out.size))
    clear hb
    go_wp2_with fail
    go_ret
    exact ⟨rfl, G.out⟩
  | true =>
    go_wp2_with fail
    refine (usualR Sl.out Q0.out hA).mono ?_
    rintro e u3 ⟨rfl, hb⟩
    replace Sl := Lib.hid (Sl.out.below hb)
    replace RB := Lib.hid (RB.out.below hb)
    replace G := Lib.hid (G.out.trans (hb.mono G.out.size))
    clear hb
    have US := Lib.hid hA
    clear hA
    obtain ⟨r0, r1, r2, r3, r4⟩ := RB.out.c
    cases hA : reqB ⟨4, key, field, [], x5⟩ with
    | false =>
      go_wp2_with fail
      refine (formedR hA).mono ?_
      rintro e u4 ⟨rfl, hb⟩
      replace Sl := Lib.hid (Sl.out.below hb)
      replace RB := Lib.hid (RB.out.below hb)
      replace G := Lib.hid (G.out.trans (hb.mono G.out.size))
      clear hb
      clear r0 r1 r2 r3 r4
      go_wp2_with fail
      go_ret
      exact ⟨rfl, G.out⟩
    | true =>
      go_wp2_with fail
      refine (formedR hA).mono ?_
      rintro e u4 ⟨rfl, hb⟩
      replace Sl := Lib.hid (Sl.out.below hb)
      replace RB := Lib.hid (RB.out.below hb)
      replace G := Lib.hid (G.out.trans (hb.mono G.out.size))
      clear hb
      clear r0 r1 r2 r3 r4
      have HQ := Lib.hid hA
      clear hA
      by_cases t0 : x1 < 0
      · skip
        go_wp2_with fail
        go_ret
        exact ⟨rfl, G.out⟩
      by_cases t1 : 8 ≤ x1
      · skip
        go_wp2_with fail
        go_ret
        exact ⟨rfl, G.out⟩
      by_cases t2 : x2 < 1
      · skip
        go_wp2_with fail
        go_ret
        exact ⟨rfl, G.out⟩
      by_cases t3 : 1073741824 < x2
      · skip
        go_wp2_with fail
        go_ret
        exact ⟨rfl, G.out⟩
      have HR := Lib.hid (range_of t0 t1 t2 t3)
      obtain ⟨err, effs, hMM⟩ : ∃ a b, mmake l x1 x2 [⟨4, key, field, [], x5⟩] = (a, b) := ⟨_, _, rfl⟩
      have HMC := Lib.hid (make_counts (usual_parts US.out).2 HR.out HQ.out)
      rw [hMM] at HMC
      have HME := Lib.hid (mmake_err (s := l) (node := x1) (seq := x2) (l := [⟨4, key, field, [], x5⟩]))
      rw [hMM] at HME
      have HMO := Lib.hid (madeOk_of (l := [⟨4, key, field, [], x5⟩]) US.out Q0.out)
      rw [hMM] at HMO
      have FM : Hid (FitM x1 l [⟨4, key, field, [], x5⟩]) := Lib.hid (fitM_of US.out Q0.out fun q hq => by rw [List.mem_singleton.1 hq]; exact ⟨show (Lit.int .i64 4).wf = true by decide, W5.out, Lkey.out, Lfield.out, by simp⟩)
      have HMM := Lib.hid hMM
      clear hMM
      have FV := Lib.hid (fitV_items (usual_parts US.out).1 Q0.out)
      obtain ⟨p, hp⟩ : ∃ p, vfield l key field = p := ⟨_, rfl⟩
      have KV := Lib.hid (fun (W : World) (v : Value) (h : SeqE LItem W v l) => vfieldS key field h FV.out)
      rw [hp] at KV HMC
      clear hp
      obtain ⟨P, hP⟩ : ∃ P, vfield (edo x1 x2 l effs) key field = P := ⟨_, rfl⟩
      have HPP := Lib.hid hP
      simp only [hP] at HMC
      clear hP
      go_wp2_with fail
      refine (KV.out _ _ Sl.out).mono ?_
      rintro e u5 ⟨v5, rfl, hs, hb⟩
      replace Sl := Lib.hid (Sl.out.below hb)
      replace RB := Lib.hid (RB.out.below hb)
      replace G := Lib.hid (G.out.trans (hb.mono G.out.size))
      obtain ⟨a51, n51, c51, a52, n52, c52, hv5, s51, s52⟩ := hs
      subst hv5
      have Sp1 := Lib.hid s51
      have Sp2 := Lib.hid s52
      clear s51 s52 hb
      have hb := (Below.refl u5.heap.size u5).alloc (Nat.le_refl _) (.cells #[.slice a51 n51 c51, .slice a52 n52 c52, .int .i64 p.total, .bool p.over] 36)
      replace Sl := Lib.hid (Sl.out.below hb)
      replace RB := Lib.hid (RB.out.below hb)
      replace Sp1 := Lib.hid (Sp1.out.below hb)
      replace Sp2 := Lib.hid (Sp2.out.below hb)
      replace G := Lib.hid (G.out.trans (hb.mono G.out.size))
      have Bp : Hid (ValBox u5.heap.size a51 n51 c51 a52 n52 c52 p.total p.over (u5.alloc (.cells #[.slice a51 n51 c51, .slice a52 n52 c52, .int .i64 p.total, .bool p.over] 36))) := Lib.hid ⟨by simp, by simp, by simp, by simp⟩
      clear hb
      go_upto_region 7 with fail
      generalize (u5.alloc (.cells #[.slice a51 n51 c51, .slice a52 n52 c52, .int .i64 p.total, .bool p.over] 36)) = wv5 at *
      have SQ := Lib.hid (fun (W : World) => one_req W ⟨4, key, field, [], x5⟩)
      obtain ⟨r0, r1, r2, r3, r4⟩ := RB.out.c
      have hb := (Below.refl wv5.heap.size wv5).alloc (Nat.le_refl _) (.cells #[.int .i64 4, .string (bt key), .string (bt field), .string ⟨#[]⟩, .int .i64 x5] 32)
      have K := mmakeR (Sl.out.below hb) (SQ.out _) FM.out W1.out W2.out HMM.out
      replace G := Lib.hid (G.out.alloc G.out.size (.cells #[.int .i64 4, .string (bt key), .string (bt field), .string ⟨#[]⟩, .int .i64 x5] 32))
      replace Sl := Lib.hid (Sl.out.below hb)
      replace RB := Lib.hid (RB.out.below hb)
      replace Sp1 := Lib.hid (Sp1.out.below hb)
      replace Sp2 := Lib.hid (Sp2.out.below hb)
      replace Bp := Lib.hid (Bp.out.below hb)
      clear hb
      by_cases e0 : err = 0
      rotate_left
      · have E2 := HME.out e0
        have ez : (err == 0) = false := beq_false_of_ne e0
        have EE : err = 5 ∨ err = 4 := HMC.out.1.resolve_left e0
        go_wp2_with fail
        refine K.mono ?_
        intro e u9 hg
        obtain ⟨pa, pc, rfl, hb⟩ := hg.none E2
        replace G := Lib.hid (G.out.trans (hb.mono G.out.size))
        clear hg hb K E2 e0 r0 r1 r2 r3 r4 HMC HME HMO HMM
        rcases EE with rfl | rfl
        · skip
          go_wp2_with fail
          go_ret
          exact ⟨rfl, G.out⟩
        · skip
          go_wp2_with fail
          go_ret
          exact ⟨rfl, G.out⟩
      subst e0
      have HM2 := Lib.hid (HMC.out.2 rfl)
      have MO := Lib.hid (HMO.out rfl)
      clear HMC HME HMO
      go_wp2_with fail
      refine K.mono ?_
      rintro e u6 ⟨v6, rfl, hs, hb⟩
      replace Sl := Lib.hid (Sl.out.below hb)
      replace RB := Lib.hid (RB.out.below hb)
      replace Sp1 := Lib.hid (Sp1.out.below hb)
      replace Sp2 := Lib.hid (Sp2.out.below hb)
      replace Bp := Lib.hid (Bp.out.below hb)
      replace G := Lib.hid (G.out.trans (hb.mono G.out.size))
      have Sa := Lib.hid hs
      obtain ⟨aa, ca, hva, -, -, -, -⟩ := Sa.out.parts
      subst hva
      clear hs hb K r0 r1 r2 r3 r4
      generalize effs.length = ma at *
      go_wp2_with fail
      refine (edoS Sl.out Sa.out MO.out.fitI MO.out.small MO.out.ok).mono ?_
      rintro e u7 ⟨v7, rfl, hs, hb⟩
      replace Sl := Lib.hid (Sl.out.below hb)
      replace RB := Lib.hid (RB.out.below hb)
      replace Sp1 := Lib.hid (Sp1.out.below hb)
      replace Sp2 := Lib.hid (Sp2.out.below hb)
      replace Bp := Lib.hid (Bp.out.below hb)
      replace Sa := Lib.hid (Sa.out.below hb)
      replace G := Lib.hid (G.out.trans (hb.mono G.out.size))
      have So := Lib.hid hs
      obtain ⟨ao, co, hvo, -, -, -, -⟩ := So.out.parts
      subst hvo
      clear hs hb
      have KP := vfieldS key field So.out MO.out.fitV
      rw [HPP.out] at KP
      generalize edo x1 x2 l effs = D at *
      generalize D.length = md at *
      go_wp2_with fail
      refine (KP).mono ?_
      rintro e u8 ⟨v8, rfl, hs, hb⟩
      replace Sl := Lib.hid (Sl.out.below hb)
      replace RB := Lib.hid (RB.out.below hb)
      replace Sp1 := Lib.hid (Sp1.out.below hb)
      replace Sp2 := Lib.hid (Sp2.out.below hb)
      replace Bp := Lib.hid (Bp.out.below hb)
      replace Sa := Lib.hid (Sa.out.below hb)
      replace So := Lib.hid (So.out.below hb)
      replace G := Lib.hid (G.out.trans (hb.mono G.out.size))
      obtain ⟨a81, n81, c81, a82, n82, c82, hv8, s81, s82⟩ := hs
      subst hv8
      have SP1 := Lib.hid s81
      have SP2 := Lib.hid s82
      clear s81 s82 hb
      have hb := (Below.refl u8.heap.size u8).alloc (Nat.le_refl _) (.cells #[.slice a81 n81 c81, .slice a82 n82 c82, .int .i64 P.total, .bool P.over] 36)
      replace Sl := Lib.hid (Sl.out.below hb)
      replace RB := Lib.hid (RB.out.below hb)
      replace Sp1 := Lib.hid (Sp1.out.below hb)
      replace Sp2 := Lib.hid (Sp2.out.below hb)
      replace Bp := Lib.hid (Bp.out.below hb)
      replace Sa := Lib.hid (Sa.out.below hb)
      replace So := Lib.hid (So.out.below hb)
      replace SP1 := Lib.hid (SP1.out.below hb)
      replace SP2 := Lib.hid (SP2.out.below hb)
      replace G := Lib.hid (G.out.trans (hb.mono G.out.size))
      have BP : Hid (ValBox u8.heap.size a81 n81 c81 a82 n82 c82 P.total P.over (u8.alloc (.cells #[.slice a81 n81 c81, .slice a82 n82 c82, .int .i64 P.total, .bool P.over] 36))) := Lib.hid ⟨by simp, by simp, by simp, by simp⟩
      clear hb
      go_upto_region 11 with fail
      generalize (u8.alloc (.cells #[.slice a81 n81 c81, .slice a82 n82 c82, .int .i64 P.total, .bool P.over] 36)) = wv8 at *
      obtain ⟨h1, h2, h3, h4⟩ := HM2.out
      have IS1 : Hid (∀ W, Below wv8.heap.size wv8 W → IsVal W (.agg #[.slice a51 n51 c51, .slice a52 n52 c52, .int .i64 P.total, .bool false]) P) := Lib.hid (fun W h => ⟨_, _, _, _, _, _, by rw [h1], by rw [h2]; exact Sp1.out.below h, by rw [h3]; exact Sp2.out.below h⟩)
      have IS2 : Hid (∀ W, Below wv8.heap.size wv8 W → IsVal W (.agg #[.slice a81 n81 c81, .slice a82 n82 c82, .int .i64 P.total, .bool P.over]) P) := Lib.hid (fun W h => ⟨_, _, _, _, _, _, rfl, SP1.out.below h, SP2.out.below h⟩)
      have HF : Hid (Nm.Plain.fits P.total) := Lib.hid (by rw [← HPP.out]; exact fits_sumV _)
      have HS : Hid (p.over = false → IntKind.i64.wrap (p.total + x5) = P.total) := Lib.hid (fun h => by rw [← h4 h]; exact IntWalk.i64_in _ HF.out)
      clear h2 h3 h4
      obtain ⟨x0, x1', x2', x3⟩ := Bp.out.c
      obtain ⟨y0, y1, y2, y3⟩ := BP.out.c
      have K := rvsameB (IS1.out _ (Below.refl _ _)) (IS2.out _ (Below.refl _ _)) (decide_eq_true rfl)
      rw [h1] at y3 K
      clear IS1 IS2 HF HPP HM2 h1
      generalize P.total = pt2 at *
      generalize p.total = pt1 at *
      cases ho : p.over with
      | true =>
        rw [ho] at x3
        clear HS ho
        go_wp2_with fail
        refine K.mono ?_
        rintro e u20 ⟨rfl, hb⟩
        have G9 := Lib.hid (G.out.trans (hb.mono G.out.size))
        clear hb K
        go_wp2_with fail
        go_ret
        exact ⟨rfl, G9.out⟩
      | false =>
        rw [ho] at x3
        have HW := HS.out ho
        clear HS ho
        go_wp2_with fail
        refine K.mono ?_
        rintro e u20 ⟨rfl, hb⟩
        have G9 := Lib.hid (G.out.trans (hb.mono G.out.size))
        clear hb K
        go_wp2_with fail
        go_ret
        exact ⟨rfl, G9.out⟩

set_option maxRecDepth 100000 in
theorem lifted (os : Os) (started : os.Started) (H : Type) (enc : TypeId × Value → H) :
    ReturnsInHanded {} Try.checked os 4 .any (Rows.mintCountsSpec.pre6 enc Try.prog Try.f4 Rows.mintCountsRow.domain false) (Rows.mintCountsSpec.post enc Try.prog Try.f4 false true false false) := by
  refine returnsInHanded_of_change (C := Try.checked) own started (by kernel_rfl) Try.func4
    (ChangeSpec.witness6 (enc := enc) (C := Try.checked) false ⟨#[], #[.slice none 0 0, .int .i64 0, .int .i64 0, .string ByteArray.empty, .string ByteArray.empty, .int .i64 0], []⟩ 8 (by kernel_rfl) (by kernel_rfl) (by kernel_rfl) (by kernel_rfl)) ?_
  intro W base args ds gs before hval0 hW hcnd _
  have hval : ∀ (j : Nat) t v, Try.f4.params[j]? = some t → args[j]? = some v → Value.okWide Try.prog W .any base t v := hval0
  have hW' := hW
  obtain ⟨p, q, hA0, hV, rfl, hfz, hnd⟩ := hW
  have hA : DataW.TrodAll enc Try.prog W 0 (fun _ => true) true Try.f4.params.toList args.toList ds p := hA0
  rw [Try.params4] at hA hval
  obtain ⟨v0, vs0, d0, ds0, p0, q0, hargs, rfl, rfl, h0, r0⟩ := trodAll_cons hA
  obtain ⟨v1, vs1, d1, ds1, p1, q1, rfl, rfl, rfl, h1, r1⟩ := trodAll_cons r0
  obtain ⟨v2, vs2, d2, ds2, p2, q2, rfl, rfl, rfl, h2, r2⟩ := trodAll_cons r1
  obtain ⟨v3, vs3, d3, ds3, p3, q3, rfl, rfl, rfl, h3, r3⟩ := trodAll_cons r2
  obtain ⟨v4, vs4, d4, ds4, p4, q4, rfl, rfl, rfl, h4, r4⟩ := trodAll_cons r3
  obtain ⟨v5, vs5, d5, ds5, p5, q5, rfl, rfl, rfl, h5, r5⟩ := trodAll_cons r4
  obtain ⟨rfl, rfl, rfl⟩ := trodAll_nil r5
  obtain rfl : args = #[v0, v1, v2, v3, v4, v5] := by cases args; simp_all
  obtain ⟨rfl, rfl⟩ := trodVars_none hV
  have k0 := h0
  have lt0 : ∀ x ∈ p0, x.block < W.heap.size := by obtain ⟨m, hm⟩ := k0; exact DataW.trod_lt m _ _ _ hm
  have w0 := open0 (hval 0 22 v0 rfl rfl) h0
  obtain ⟨a1, rfl, rfl, rfl, w1⟩ := open_int Try.underlying3 (hval 1 3 v1 rfl rfl) h1
  obtain ⟨a2, rfl, rfl, rfl, w2⟩ := open_int Try.underlying3 (hval 2 3 v2 rfl rfl) h2
  obtain ⟨a3, rfl, rfl, rfl, w3⟩ := open_string Try.underlying9 (hval 3 9 v3 rfl rfl) h3
  obtain ⟨a4, rfl, rfl, rfl, w4⟩ := open_string Try.underlying9 (hval 4 9 v4 rfl rfl) h4
  obtain ⟨a5, rfl, rfl, rfl, w5⟩ := open_int Try.underlying2 (hval 5 2 v5 rfl rfl) h5
  clear hA0 hval0
  refine (walk v0 a1 a2 a3 a4 a5 W w0 w1 w2 w3 w4 w5).mono fun e W' ⟨he, bel⟩ => ?_
  subst he
  exact ⟨_, rfl, _, _, _, [], _, [], hW', trodAll_mk1 (shut_bool Try.underlying4 _), (trodAll_cons_mk (Below.trod laidOut (by kernel_rfl) (of_decide_eq_true (by kernel_rfl)) k0 bel lt0) (trodAll_cons_mk (shut_int Try.underlying3 w1) (trodAll_cons_mk (shut_int Try.underlying3 w2) (trodAll_cons_mk (shut_string Try.underlying9 w3) (trodAll_cons_mk (shut_string Try.underlying9 w4) (trodAll_cons_mk (shut_int Try.underlying2 w5) trodAll_mk0)))))), rfl, bel.frame _, fun h => by cases h⟩

theorem over : Rows.mintCountsRow.holds Try.pinned (OpenSpec.ofChange Rows.mintCountsSpec) :=
  OpenClaim.holds_of_wide 4 Try.f4 rfl rfl rfl rfl rfl rfl rfl ⟨rfl, rfl, rfl, rfl, rfl⟩ rfl rfl rfl rfl rfl (by kernel_rfl) Try.func4 (by kernel_rfl)
    (of_decide_eq_true (by kernel_rfl)) (by unfold Func.isWrapper; first | (rw [if_pos (by decide +kernel)]; kernel_rfl) | (rw [if_neg (by decide +kernel)]; exact ⟨rfl, rfl⟩))
    (fun os started H enc _ => lifted os started H enc)

/-- the given statement -/
theorem proved : Rows.MintCountsSaid := over
#print axioms proved
end Go.Proofs.Ytkmiodpaanohoaa.mintCounts
