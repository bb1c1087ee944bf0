/-
  For any vector and any transactions the law OrderTwice answers true: taken once more, nothing of what was heard is ready. No condition.
  (The frame was written by the guide's proof-skeleton.mjs, turned for slices of transactions; the walk is ours.)
-/
import Derived.Test.YtlpcpbangmonaaaRows
import Derived.WalkKit
import Derived.ProofKit
import Derived.OpenShut
import Derived.ShutString
import Derived.ChangeOld
import Derived.Below
import Derived.Test.YtlpcpbangmonaaaOrRTks
import Derived.Test.YtlpcpbangmonaaaRefTxOC
import Derived.Test.YtlpcpbangmonaaaVcAll
import Derived.Deep.DeepCutAuto
namespace Go.Proofs.Ytlpcpbangmonaaa.orderTwice
open Go.ChangeShapes Go.WideShapes Go.ChangeAt Go.RowKit
open Go.ChangeMaps (open_string shut_string)
set_option linter.unusedVariables false

theorem own : ownKnob Try.prog.godebug = none := by kernel_rfl
theorem laidOut : laidOutB Try.prog = true := by kernel_rfl

open Plain

set_option maxRecDepth 100000 in
theorem open1 {H : Type} {enc : TypeId × Value → H} {W : World} {r : Reach} {b : Nat} {v : Value} {d : DataW H} {p : List MemPlace} (hv : Value.okWide Try.prog W r b 24 v) (h : DataW.Trod enc Try.prog W 0 (fun _ => true) true 24 v d p) : IsTxns W v := txns_of_trod hv h

set_option maxRecDepth 100000 in
set_option maxHeartbeats 32000000 in
theorem walk (a0 : Option Addr) (n0 c0 : Nat) (z0 : List Int) (v1 : Value) (w : World) (w0 : IsRow .i64 w a0 n0 c0 z0) (w1 : IsTxns w v1) :
    Calls Try.prog 6 #[.slice a0 n0 c0, v1] w fun e w' => e = .returned (.bool true) ∧ Below w.heap.size w w' := by
  obtain ⟨v, sv, lv, c0l⟩ := row_ints w0
  obtain ⟨l, sl, okl⟩ := w1
  obtain ⟨a1, c1, hv1, L1, L2, -, -⟩ := sl.parts
  subst hv1
  have SV := Lib.hid sv
  have SW := Lib.hid sv
  have SL := Lib.hid sl
  have OK := Lib.hid okl
  have LV := Lib.hid lv
  obtain ⟨n, hn⟩ : ∃ n, n = l.length := ⟨_, rfl⟩
  have HN := Lib.hid hn
  rw [← hn] at SL L1 ⊢
  have G := Lib.hid (Below.refl w.heap.size w)
  clear w0 sv sl okl lv hn
  go_enter Try.func6, Try.ntmps6
  go_wp2_with fail
  refine (oawake_any _).mono ?_
  rintro e u2 ⟨rfl, hb⟩
  replace SV := Lib.hid (SV.out.below hb)
  replace SL := Lib.hid (SL.out.below hb)
  replace G := Lib.hid (G.out.trans (hb.mono G.out.size))
  clear hb
  by_cases h60 : 60 < n0
  · have i60 : ((60 : Int) < (n0 : Int)) := by omega
    go_wp2_with fail
    go_ret
    exact ⟨rfl, G.out⟩
  · have i60 : ¬ ((60 : Int) < (n0 : Int)) := by omega
    have HV : Hid (v.length ≤ 60) := Lib.hid (by rw [LV.out]; omega)
    obtain ⟨sh, hsh⟩ : ∃ b, b = shortTx l := ⟨_, rfl⟩
    have HSH := Lib.hid hsh
    have KS := Lib.hid (rshortTx_any SL.out sh hsh.symm)
    clear hsh h60
    cases sh
    · go_wp2_with (go_at_call 9; refine KS.out.mono ?_; rintro e u3 ⟨rfl, hb⟩; have G3 := Lib.hid (G.out.trans (hb.mono G.out.size)); clear hb)
      go_ret
      exact ⟨rfl, G3.out⟩
    · have HFS := Lib.hid (fitS_of HSH.out.symm OK.out)
      have HF : Hid (∀ t ∈ l, FitW t) := Lib.hid (fun t ht => (HFS.out.2 t ht).w)
      have HL : Hid (l.length ≤ 1000000) := Lib.hid (by have := HFS.out.1; omega)
      have HLN : Hid (n ≤ 24) := Lib.hid (by rw [HN.out]; exact HFS.out.1)
      have HO0 : Hid (∀ j, j < 0 → oValid (otx l j) = true) := Lib.hid (fun j hj => absurd hj (Nat.not_lt_zero _))
      go_wp2_with (go_at_call 9; refine KS.out.mono ?_; rintro e u3 ⟨rfl, hb⟩; replace SV := Lib.hid (SV.out.below hb); replace SL := Lib.hid (SL.out.below hb); replace G := Lib.hid (G.out.trans (hb.mono G.out.size)); clear hb KS)
      go_loopw [5] (fun i wr => ∃ k : Nat, k ≤ n ∧ i = .int .i64 k ∧ Aside ((∀ j, j < k → oValid (otx l j) = true) ∧ SeqI wr (.slice a0 n0 c0) v ∧ SeqE LTxn wr (.slice a1 n c1) l ∧ Below w.heap.size w wr)) (fun i _ => n - (intOf i).toNat)
      case atStart => exact ⟨0, Nat.zero_le _, rfl, HO0.out, SV.out, SL.out, G.out⟩
      case round =>
        obtain ⟨k, hk, rfl, hrel⟩ := hrel
        obtain ⟨r1, r2, r3, r4⟩ := Aside.out hrel
        have AV := Lib.hid r1
        replace SV := Lib.hid r2
        replace SL := Lib.hid r3
        replace G := Lib.hid r4
        clear hrel r1 r2 r3 r4
        by_cases hlt : k < n
        · have hkl : k < l.length := by rw [← HN.out]; exact hlt
          obtain ⟨lb, lo, hsl, hc⟩ := txns_at SL.out (by omega)
          subst hsl
          obtain ⟨da, dn, dc, ea, en, ec, hW⟩ := hc k hlt
          obtain ⟨⟨c0', c1', c2', c3'⟩, IT⟩ := hW wr (Below.refl _ _)
          have hft := HFS.out.2 (otx l k) (by rw [otx_lt hkl]; exact List.getElem_mem hkl)
          obtain ⟨fb, hfb⟩ : ∃ b, b = tformedB (otx l k) := ⟨_, rfl⟩
          have KF := Lib.hid (rtformedP IT hft.w.drops hft.texts hft.w.deps fb hfb.symm)
          have HFB : Hid (fb = true → ∀ j, j < k + 1 → oValid (otx l j) = true) := Lib.hid (fun h j hj => by
            by_cases c : j = k
            · rw [c]; exact oFormed_valid (by rw [← hfb]; exact h)
            · exact AV.out j (by omega))
          have k1 : (k : Int) < n := by omega
          have k2 : (n : Int) ≤ c1 := by omega
          have k3 : (c1 : Int) ≤ 9223372036854775807 := by omega
          clear hc hW IT hft hfb hkl
          generalize otx l k = t at *
          cases fb
          · go_wp2_with (go_at_call 26; refine KF.out.mono ?_; rintro e u5 ⟨rfl, hb⟩; replace G := Lib.hid (G.out.trans (hb.mono G.out.size)); clear hb)
            go_ret
            exact ⟨rfl, G.out⟩
          · have HFB2 := Lib.hid (HFB.out rfl)
            go_wp2_with (go_at_call 26; refine KF.out.mono ?_; rintro e u5 ⟨rfl, hb⟩; replace SV := Lib.hid (SV.out.below hb); replace SL := Lib.hid (SL.out.below hb); replace G := Lib.hid (G.out.trans (hb.mono G.out.size)); clear hb)
            go_roundw
            case rel => exact ⟨k + 1, by omega, by go_num, HFB2.out, SV.out, SL.out, G.out⟩
            case measure => simp [intOf]; omega
        · obtain rfl : k = n := by omega
          have HVA : Hid (∀ t ∈ l, oValid t = true) := Lib.hid (fun t ht => by
            obtain ⟨j, hj, rfl⟩ := List.mem_iff_getElem.1 ht
            have := AV.out j (by rw [HN.out]; exact hj)
            rw [otx_lt hj] at this
            exact this)
          clear AV
          have KT := Lib.hid (takeP_any SV.out SL.out HL.out HF.out (by have := HV.out; omega))
          have HE : Hid ((oEnd v (oTake v l)).length ≤ 1000000) := Lib.hid (by have := oEnd_len (oTake v l) v; have := HV.out; omega)
          have HT := Lib.hid (oTake_twice (v := v) HVA.out)
          go_wp2_with (first
            | (go_at_call_of 12 (Value.slice a0 n0 c0); refine KT.out.mono ?_; rintro e u6 ⟨a, x, rfl, ha, hx, hb⟩; replace SL := Lib.hid (SL.out.below hb); replace G := Lib.hid (G.out.trans (hb.mono G.out.size)); have SX := Lib.hid hx; obtain ⟨aa, ac, rfl, -, -, -, -⟩ := ha.parts; obtain ⟨xa, xc, rfl, -, -, -, -⟩ := hx.parts; have KT2 := Lib.hid (takeP_any (seqI_of hx) SL.out HL.out HF.out HE.out); rw [HT.out] at KT2; clear ha hx hb KT)
            | (go_at_call 12; refine KT2.out.mono ?_; rintro e u7 ⟨a, y, rfl, ha, hy, hb⟩; replace SX := Lib.hid (SX.out.below hb); replace G := Lib.hid (G.out.trans (hb.mono G.out.size)); have SY := Lib.hid hy; obtain ⟨aa7, ac7, rfl, -, -, -, -⟩ := ha.parts; obtain ⟨ya, yc, rfl, -, -, -, -⟩ := hy.parts; clear ha hy hb KT2)
            | (go_at_call 15; refine (vc_requal_yes (seqI_of SX.out) (seqI_of SY.out)).mono ?_; rintro e u8 ⟨rfl, q, hq⟩; replace G := Lib.hid (show Below w.heap.size w u8 by rw [hq]; exact below_drewN G.out q); clear hq))
          go_ret
          exact ⟨rfl, G.out⟩

set_option maxRecDepth 100000 in
theorem lifted (os : Os) (started : os.Started) (H : Type) (enc : TypeId × Value → H) :
    ReturnsInHanded {} Try.checked os 6 .any (Rows.orderTwiceSpec.pre6 enc Try.prog Try.f6 Rows.orderTwiceRow.domain false) (Rows.orderTwiceSpec.post enc Try.prog Try.f6 false true false false) := by
  refine returnsInHanded_of_change (C := Try.checked) own started (by kernel_rfl) Try.func6
    (ChangeSpec.witness6 (enc := enc) (C := Try.checked) false ⟨#[], #[.slice none 0 0, .slice none 0 0], []⟩ 8 (by kernel_rfl) (by kernel_rfl) (by kernel_rfl) (by kernel_rfl)) ?_
  intro W base args ds gs before hval0 hW hcnd _
  have hval : ∀ (j : Nat) t v, Try.f6.params[j]? = some t → args[j]? = some v → Value.okWide Try.prog W .any base t v := hval0
  have hW' := hW
  obtain ⟨p, q, hA0, hV, rfl, hfz, hnd⟩ := hW
  have hA : DataW.TrodAll enc Try.prog W 0 (fun _ => true) true Try.f6.params.toList args.toList ds p := hA0
  rw [Try.params6] at hA hval
  obtain ⟨v0, vs0, d0, ds0, p0, q0, hargs, rfl, rfl, h0, r0⟩ := trodAll_cons hA
  obtain ⟨v1, vs1, d1, ds1, p1, q1, rfl, rfl, rfl, h1, r1⟩ := trodAll_cons r0
  obtain ⟨rfl, rfl, rfl⟩ := trodAll_nil r1
  obtain rfl : args = #[v0, v1] := by cases args; simp_all
  obtain ⟨rfl, rfl⟩ := trodVars_none hV
  obtain ⟨a0, len0, cap0, rfl⟩ := okWide_slice Try.underlying23 (hval 0 23 v0 rfl rfl)
  have k0 := h0
  have lt0 : ∀ x ∈ p0, x.block < W.heap.size := by obtain ⟨m, hm⟩ := k0; exact DataW.trod_lt m _ _ _ hm
  obtain ⟨z0, w0⟩ : ∃ zs, IsRow .i64 W a0 len0 cap0 zs := by
    obtain ⟨fuel, hf⟩ := h0
    rcases open_ints Try.underlying23 Try.underlying3 (by kernel_rfl) hf with ⟨hcs, _⟩ | ⟨x, l, c, zs, hcs, _, hl, hm, hz, _, hcell, hwz⟩
    · simp [Value.cells] at hcs
      obtain ⟨rfl, rfl, rfl⟩ := hcs
      exact ⟨[], .inl ⟨rfl, rfl, rfl, rfl⟩⟩
    · simp [Value.cells] at hcs
      obtain ⟨rfl, rfl, rfl⟩ := hcs
      exact ⟨zs, .inr ⟨_, rfl, hl, hm, by simpa using hz, hcell, hwz⟩⟩
  have k1 := h1
  have lt1 : ∀ x ∈ p1, x.block < W.heap.size := by obtain ⟨m, hm⟩ := k1; exact DataW.trod_lt m _ _ _ hm
  have w1 := open1 (hval 1 24 v1 rfl rfl) h1
  clear hA0 hval0
  refine (walk a0 len0 cap0 z0 v1 W w0 w1).mono fun e W' ⟨he, bel⟩ => ?_
  subst he
  exact ⟨_, rfl, _, _, _, [], _, [], hW', trodAll_mk1 (shut_bool Try.underlying4 _), (trodAll_cons_mk (Below.trod laidOut (by kernel_rfl) (of_decide_eq_true (by kernel_rfl)) k0 bel lt0) (trodAll_cons_mk (Below.trod laidOut (by kernel_rfl) (of_decide_eq_true (by kernel_rfl)) k1 bel lt1) trodAll_mk0)), rfl, bel.frame _, fun h => by cases h⟩

theorem over : Rows.orderTwiceRow.holds Try.pinned (OpenSpec.ofChange Rows.orderTwiceSpec) :=
  OpenClaim.holds_of_wide 6 Try.f6 rfl rfl rfl rfl rfl rfl rfl ⟨rfl, rfl, rfl, rfl, rfl⟩ rfl rfl rfl rfl rfl (by kernel_rfl) Try.func6 (by kernel_rfl)
    (of_decide_eq_true (by kernel_rfl)) (by unfold Func.isWrapper; first | (rw [if_pos (by decide +kernel)]; kernel_rfl) | (rw [if_neg (by decide +kernel)]; exact ⟨rfl, rfl⟩))
    (fun os started H enc _ => lifted os started H enc)

/-- the given statement -/
theorem proved : Rows.OrderTwiceSaid := over
#print axioms proved
end Go.Proofs.Ytlpcpbangmonaaa.orderTwice
