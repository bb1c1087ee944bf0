/-
  For any transaction and any number the law TxnCut answers true: a transaction's bytes, cut anywhere, are none. No condition.
  (The frame was written by the guide's proof-skeleton.mjs, turned for slices of items and for fields; the walk is ours.)
-/
import Derived.Test.YtkanklppgioacaaRows
import Derived.WalkKit
import Derived.ProofKit
import Derived.OpenShut
import Derived.ShutString
import Derived.ChangeOld
import Derived.Below
import Derived.Test.YtkanklppgioacaaTxUses
import Derived.Deep.DeepCutAuto
namespace Go.Proofs.Ytkanklppgioacaa.txnCut
open Go.ChangeShapes Go.WideShapes Go.ChangeAt Go.RowKit
open Go.ChangeMaps (open_string shut_string)
set_option linter.unusedVariables false

theorem own : ownKnob Try.prog.godebug = none := by kernel_rfl
theorem laidOut : laidOutB Try.prog = true := by kernel_rfl

open Plain

set_option maxRecDepth 100000 in
theorem open0 {H : Type} {enc : TypeId × Value → H} {W : World} {r : Reach} {b : Nat} {v : Value} {d : DataW H} {p : List MemPlace} (hv : Value.okWide Try.prog W r b 26 v) (h : DataW.Trod enc Try.prog W 0 (fun _ => true) true 26 v d p) : IsTxnA W v := txn_of_trod hv h

set_option maxRecDepth 100000 in
set_option maxHeartbeats 16000000 in
theorem walk (v0 : Value) (x1 : Int) (w : World) (w0 : IsTxnA w v0) (w1 : (Lit.int .i64 x1).wf = true) :
    Calls Try.prog 4 #[v0, .int .i64 x1] w fun e w' => e = .returned (.bool true) ∧ Below w.heap.size w w' := by
  obtain ⟨t, ht, hok⟩ := w0
  have OK := Lib.hid hok
  obtain ⟨da, dn, dc, ea, en, ec, hvt, hd, he⟩ := ht.parts
  subst hvt
  have hb := (Below.refl w.heap.size w).alloc (Nat.le_refl _) (.cells #[.int .i64 t.node, .int .i64 t.seq, .slice da dn dc, .slice ea en ec] 26)
  have TB := Lib.hid (txbox_new hd he)
  have G := Lib.hid hb
  clear ht hok hd he hb
  show Calls Try.prog 4 #[.agg #[.int .i64 t.node, .int .i64 t.seq, .slice da dn dc, .slice ea en ec], .int .i64 x1] w _
  go_enter Try.func4, Try.ntmps4
  go_upto_region 1 with fail
  generalize (w.alloc (.cells #[.int .i64 t.node, .int .i64 t.seq, .slice da dn dc, .slice ea en ec] 26)) = wB at *
  have W1 := Lib.hid w1
  clear w1
  go_wp2_with fail
  refine (tawake_any _).mono ?_
  rintro e u2 ⟨rfl, hb⟩
  replace TB := Lib.hid (TB.out.below hb)
  replace G := Lib.hid (G.out.trans (hb.mono G.out.size))
  clear hb
  obtain ⟨y0, y1, y2, y3⟩ := TB.out.c
  have hb := (Below.refl u2.heap.size u2).alloc (Nat.le_refl _) (.cells #[.int .i64 t.node, .int .i64 t.seq, .slice da dn dc, .slice ea en ec] 26)
  have KS := Lib.hid (fun r hr => rshortTx_any (one_txn TB.out.d TB.out.e) r hr)
  replace TB := Lib.hid (TB.out.below hb)
  replace G := Lib.hid (G.out.trans (hb.mono G.out.size))
  clear hb
  cases hA : shortTx [t] with
  | false =>
    go_wp2_with fail
    refine (KS.out _ hA).mono ?_
    rintro e u3 ⟨rfl, hb⟩
    replace TB := Lib.hid (TB.out.below hb)
    replace G := Lib.hid (G.out.trans (hb.mono G.out.size))
    clear hb KS
    clear y0 y1 y2 y3
    go_wp2_with fail
    go_ret
    exact ⟨rfl, G.out⟩
  | true =>
    go_wp2_with fail
    refine (KS.out _ hA).mono ?_
    rintro e u3 ⟨rfl, hb⟩
    replace TB := Lib.hid (TB.out.below hb)
    replace G := Lib.hid (G.out.trans (hb.mono G.out.size))
    clear hb KS
    clear y0 y1 y2 y3
    have FX := Lib.hid (fitTx_of hA OK.out)
    clear hA
    obtain ⟨y0, y1, y2, y3⟩ := TB.out.c
    have K := txputP (By.Seq.nil _) (by simp) TB.out.is FX.out
    go_wp2_with fail
    refine K.mono ?_
    intro e u4 hg
    have hb := hg.2.2
    replace TB := Lib.hid (TB.out.below hb)
    replace G := Lib.hid (G.out.trans (hb.mono G.out.size))
    clear hb K
    clear y0 y1 y2 y3
    cases hT : tformedB t with
    | false =>
      obtain ⟨pa, pc, rfl⟩ := hg.2.1 hT
      clear hg hT
      go_wp2_with fail
      go_ret
      exact ⟨rfl, G.out⟩
    | true =>
      obtain ⟨v, rfl, ho⟩ := hg.1 hT
      rw [List.nil_append] at ho
      obtain ⟨pa, pm, pc, hvp, hpm, gp1, gp2, hs⟩ := byParts ho.seq
      subst hvp
      have SP := Lib.hid hs
      have HPM := Lib.hid hpm
      have HC := Lib.hid (fun k hk => txnC.cut t k (txnC_ok hT (fits_effs OK.out)) hk)
      have HL := Lib.hid (txnC_len hT)
      clear hg ho hs hpm hT
      by_cases ht : x1 < 0
      · skip
        go_wp2_with fail
        go_ret
        exact ⟨rfl, G.out⟩
      rename ¬ x1 < 0 => q0
      by_cases ht : (pm : Int) ≤ x1
      · skip
        go_wp2_with fail
        go_ret
        exact ⟨rfl, G.out⟩
      rename ¬ (pm : Int) ≤ x1 => q1
      obtain ⟨k, rfl⟩ : ∃ k : Nat, x1 = (k : Int) := ⟨x1.toNat, by omega⟩
      have hkm : k < pm := by omega
      have SF := Lib.hid (SP.out.first k (by rw [← HPM.out]; omega))
      have K := txreadP SF.out (by rw [List.length_take]; have := HL.out; omega) _ (HC.out k (by rw [← HPM.out]; exact hkm))
      clear q0
      obtain ⟨d, hd⟩ : ∃ d : PTxn, default = d := ⟨_, rfl⟩
      go_wp2_with fail
      refine K.mono ?_
      rintro e u5 ⟨ut, vr, rfl, hu, hr, hb⟩
      replace TB := Lib.hid (TB.out.below hb)
      replace SP := Lib.hid (SP.out.below hb)
      replace G := Lib.hid (G.out.trans (hb.mono G.out.size))
      clear hb K
      rw [hd] at hu
      obtain ⟨fa, fn, fc, ga, gn, gc, hvu, h1, h2⟩ := hu.parts
      subst hvu
      obtain ⟨ra, rn, rc, hvr, hrn, -, -, -⟩ := byParts hr
      subst hvr
      obtain rfl : rn = 0 := hrn
      have hb := (Below.refl u5.heap.size u5).alloc (Nat.le_refl _) (.cells #[.int .i64 d.node, .int .i64 d.seq, .slice fa fn fc, .slice ga gn gc] 26)
      have DB := Lib.hid (txbox_new h1 h2)
      replace TB := Lib.hid (TB.out.below hb)
      replace SP := Lib.hid (SP.out.below hb)
      replace G := Lib.hid (G.out.trans (hb.mono G.out.size))
      clear hb h1 h2 hu hr
      go_upto_region 9 with fail
      generalize (u5.alloc (.cells #[.int .i64 d.node, .int .i64 d.seq, .slice fa fn fc, .slice ga gn gc] 26)) = wd at *
      obtain ⟨z0, z1, z2, z3⟩ := DB.out.c
      have KS := rsameTx DB.out.is (by rw [← hd]; exact txn_zero wd) true (decide_eq_true rfl)
      clear hd
      go_wp2_with fail
      refine KS.mono ?_
      rintro e u6 ⟨rfl, hb⟩
      replace G := Lib.hid (G.out.trans (hb.mono G.out.size))
      clear hb KS z0 z1 z2 z3
      go_wp2_with fail
      go_ret
      exact ⟨rfl, G.out⟩

set_option maxRecDepth 100000 in
theorem lifted (os : Os) (started : os.Started) (H : Type) (enc : TypeId × Value → H) :
    ReturnsInHanded {} Try.checked os 4 .any (Rows.txnCutSpec.pre6 enc Try.prog Try.f4 Rows.txnCutRow.domain false) (Rows.txnCutSpec.post enc Try.prog Try.f4 false true false false) := by
  refine returnsInHanded_of_change (C := Try.checked) own started (by kernel_rfl) Try.func4
    (ChangeSpec.witness6 (enc := enc) (C := Try.checked) false ⟨#[], #[.agg #[.int .i64 0, .int .i64 0, .slice none 0 0, .slice none 0 0], .int .i64 0], []⟩ 8 (by kernel_rfl) (by kernel_rfl) (by kernel_rfl) (by kernel_rfl)) ?_
  intro W base args ds gs before hval0 hW hcnd _
  have hval : ∀ (j : Nat) t v, Try.f4.params[j]? = some t → args[j]? = some v → Value.okWide Try.prog W .any base t v := hval0
  have hW' := hW
  obtain ⟨p, q, hA0, hV, rfl, hfz, hnd⟩ := hW
  have hA : DataW.TrodAll enc Try.prog W 0 (fun _ => true) true Try.f4.params.toList args.toList ds p := hA0
  rw [Try.params4] at hA hval
  obtain ⟨v0, vs0, d0, ds0, p0, q0, hargs, rfl, rfl, h0, r0⟩ := trodAll_cons hA
  obtain ⟨v1, vs1, d1, ds1, p1, q1, rfl, rfl, rfl, h1, r1⟩ := trodAll_cons r0
  obtain ⟨rfl, rfl, rfl⟩ := trodAll_nil r1
  obtain rfl : args = #[v0, v1] := by cases args; simp_all
  obtain ⟨rfl, rfl⟩ := trodVars_none hV
  have k0 := h0
  have lt0 : ∀ x ∈ p0, x.block < W.heap.size := by obtain ⟨m, hm⟩ := k0; exact DataW.trod_lt m _ _ _ hm
  have w0 := open0 (hval 0 26 v0 rfl rfl) h0
  obtain ⟨a1, rfl, rfl, rfl, w1⟩ := open_int Try.underlying3 (hval 1 3 v1 rfl rfl) h1
  clear hA0 hval0
  refine (walk v0 a1 W w0 w1).mono fun e W' ⟨he, bel⟩ => ?_
  subst he
  exact ⟨_, rfl, _, _, _, [], _, [], hW', trodAll_mk1 (shut_bool Try.underlying4 _), (trodAll_cons_mk (Below.trod laidOut (by kernel_rfl) (of_decide_eq_true (by kernel_rfl)) k0 bel lt0) (trodAll_cons_mk (shut_int Try.underlying3 w1) trodAll_mk0)), rfl, bel.frame _, fun h => by cases h⟩

theorem over : Rows.txnCutRow.holds Try.pinned (OpenSpec.ofChange Rows.txnCutSpec) :=
  OpenClaim.holds_of_wide 4 Try.f4 rfl rfl rfl rfl rfl rfl rfl ⟨rfl, rfl, rfl, rfl, rfl⟩ rfl rfl rfl rfl rfl (by kernel_rfl) Try.func4 (by kernel_rfl)
    (of_decide_eq_true (by kernel_rfl)) (by unfold Func.isWrapper; first | (rw [if_pos (by decide +kernel)]; kernel_rfl) | (rw [if_neg (by decide +kernel)]; exact ⟨rfl, rfl⟩))
    (fun os started H enc _ => lifted os started H enc)

/-- the given statement -/
theorem proved : Rows.TxnCutSaid := over
#print axioms proved
end Go.Proofs.Ytkanklppgioacaa.txnCut
