/-
  For any three vectors the law VecJoin answers true: of their first 100 numbers each, what two have heard together is the least within which both are, and what both have heard the greatest within both. No condition.
  (The frame was written by the guide's proof-skeleton.mjs; the walk is ours.)
-/
import Derived.Test.YtogmafopgglelaaRows
import Derived.WalkKit
import Derived.ProofKit
import Derived.OpenShut
import Derived.ShutString
import Derived.ChangeOld
import Derived.Below
import Derived.Test.YtogmafopgglelaaWalkV
namespace Go.Proofs.Ytogmafopgglelaa.vecJoin
open Go.ChangeShapes Go.WideShapes Go.ChangeAt Go.RowKit
open Go.ChangeMaps (open_string shut_string)
set_option linter.unusedVariables false

theorem own : ownKnob Try.prog.godebug = none := by kernel_rfl
theorem laidOut : laidOutB Try.prog = true := by kernel_rfl

open Plain

set_option maxRecDepth 100000 in
set_option maxHeartbeats 16000000 in
theorem walk (a0 : Option Addr) (n0 c0 : Nat) (z0 : List Int) (a1 : Option Addr) (n1 c1 : Nat) (z1 : List Int) (a2 : Option Addr) (n2 c2 : Nat) (z2 : List Int) (w : World) (w0 : IsRow .i64 w a0 n0 c0 z0) (w1 : IsRow .i64 w a1 n1 c1 z1) (w2 : IsRow .i64 w a2 n2 c2 z2) :
    Calls Try.prog 4 #[.slice a0 n0 c0, .slice a1 n1 c1, .slice a2 n2 c2] w fun e w' => e = .returned (.bool true) ∧ Below w.heap.size w w' := by
  obtain ⟨xs, m0, hl0, s0, f0⟩ := few_of w0
  have Sx := Lib.hid s0
  have Lx := Lib.hid hl0
  have Fx := Lib.hid f0
  obtain ⟨ys, m1, hl1, s1, f1⟩ := few_of w1
  have Sy := Lib.hid s1
  have Ly := Lib.hid hl1
  have Fy := Lib.hid f1
  obtain ⟨zs, m2, hl2, s2, f2⟩ := few_of w2
  have Sz := Lib.hid s2
  have Lz := Lib.hid hl2
  have Fz := Lib.hid f2
  have G := Lib.hid (Below.refl w.heap.size w)
  clear w0 w1 w2 s0 s1 s2 f0 f1 f2 hl0 hl1 hl2
  obtain ⟨r1, hr1⟩ : ∃ r, Plain.within xs zs = r := ⟨_, rfl⟩
  obtain ⟨r2, hr2⟩ : ∃ r, Plain.within ys zs = r := ⟨_, rfl⟩
  obtain ⟨r3, hr3⟩ : ∃ r, Plain.within zs xs = r := ⟨_, rfl⟩
  obtain ⟨r4, hr4⟩ : ∃ r, Plain.within zs ys = r := ⟨_, rfl⟩
  have RJ := Lib.hid (show Plain.within (join xs ys) zs = (r1 && r2) by rw [← hr1, ← hr2]; exact within_and (join_least xs ys zs))
  have RM := Lib.hid (show Plain.within zs (meet xs ys) = (r3 && r4) by rw [← hr3, ← hr4]; exact within_and (meet_greatest xs ys zs))
  have Hr1 := Lib.hid hr1
  have Hr2 := Lib.hid hr2
  have Hr3 := Lib.hid hr3
  have Hr4 := Lib.hid hr4
  clear hr1 hr2 hr3 hr4
  go_enter Try.func4, Try.ntmps4
  go_wp2_with fail
  refine (awake_any w).mono ?_
  rintro e u2 ⟨rfl, hb⟩
  replace Sx := Lib.hid (Sx.out.below hb)
  replace Sy := Lib.hid (Sy.out.below hb)
  replace Sz := Lib.hid (Sz.out.below hb)
  replace G := Lib.hid (G.out.trans (hb.mono G.out.size))
  clear hb
  go_wp2_with fail
  refine (Fx.out _).mono ?_
  rintro e w' ⟨rfl, rfl⟩
  go_wp2_with fail
  refine (Fy.out _).mono ?_
  rintro e w' ⟨rfl, rfl⟩
  go_wp2_with fail
  refine (Fz.out _).mono ?_
  rintro e w' ⟨rfl, rfl⟩
  go_wp2_with fail
  refine (joinS Sx.out Sy.out Lx.out Ly.out).mono ?_
  rintro e u3 ⟨v3, rfl, ho, hb⟩
  replace Sx := Lib.hid (Sx.out.below hb)
  replace Sy := Lib.hid (Sy.out.below hb)
  replace Sz := Lib.hid (Sz.out.below hb)
  replace G := Lib.hid (G.out.trans (hb.mono G.out.size))
  have Sj := Lib.hid ho.seq
  have Lj := Lib.hid (join100 Lx.out Ly.out)
  clear ho hb
  go_wp2_with fail
  refine (meetS Sx.out Sy.out Lx.out Ly.out).mono ?_
  rintro e u4 ⟨v4, rfl, ho, hb⟩
  replace Sx := Lib.hid (Sx.out.below hb)
  replace Sy := Lib.hid (Sy.out.below hb)
  replace Sz := Lib.hid (Sz.out.below hb)
  replace Sj := Lib.hid (Sj.out.below hb)
  replace G := Lib.hid (G.out.trans (hb.mono G.out.size))
  have Sm := Lib.hid ho.seq
  have Lm := Lib.hid (meet100 Lx.out Ly.out)
  clear ho hb
  go_wp2_with fail
  refine (withinR Sx.out Sj.out Lx.out (within_true (join_above xs ys).1)).mono ?_
  rintro e w' ⟨rfl, rfl⟩
  go_wp2_with fail
  refine (withinR Sy.out Sj.out Ly.out (within_true (join_above xs ys).2)).mono ?_
  rintro e w' ⟨rfl, rfl⟩
  go_wp2_with fail
  refine (withinR Sm.out Sx.out Lm.out (within_true (meet_below xs ys).1)).mono ?_
  rintro e w' ⟨rfl, rfl⟩
  go_wp2_with fail
  refine (withinR Sm.out Sy.out Lm.out (within_true (meet_below xs ys).2)).mono ?_
  rintro e w' ⟨rfl, rfl⟩
  cases r1 with
  | false =>
    go_wp2_with fail
    refine (withinR Sj.out Sz.out Lj.out RJ.out).mono ?_
    rintro e w' ⟨rfl, rfl⟩
    go_wp2_with fail
    refine (withinR Sx.out Sz.out Lx.out Hr1.out).mono ?_
    rintro e w' ⟨rfl, rfl⟩
    cases r3 with
    | false =>
      go_wp2_with fail
      refine (withinR Sz.out Sm.out Lz.out RM.out).mono ?_
      rintro e w' ⟨rfl, rfl⟩
      go_wp2_with fail
      refine (withinR Sz.out Sx.out Lz.out Hr3.out).mono ?_
      rintro e w' ⟨rfl, rfl⟩
      go_wp2_with fail
      go_ret
      exact ⟨rfl, G.out⟩
    | true =>
      have hr4 : (r4 == r4) = true := by simp
      have RM4 := Lib.hid (show Plain.within zs (meet xs ys) = r4 by rw [RM.out]; rfl)
      go_wp2_with fail
      refine (withinR Sz.out Sm.out Lz.out RM4.out).mono ?_
      rintro e w' ⟨rfl, rfl⟩
      go_wp2_with fail
      refine (withinR Sz.out Sx.out Lz.out Hr3.out).mono ?_
      rintro e w' ⟨rfl, rfl⟩
      go_wp2_with fail
      refine (withinR Sz.out Sy.out Lz.out Hr4.out).mono ?_
      rintro e w' ⟨rfl, rfl⟩
      go_wp2_with fail
      go_ret
      exact ⟨rfl, G.out⟩
  | true =>
    have hr2 : (r2 == r2) = true := by simp
    have RJ2 := Lib.hid (show Plain.within (join xs ys) zs = r2 by rw [RJ.out]; rfl)
    go_wp2_with fail
    refine (withinR Sj.out Sz.out Lj.out RJ2.out).mono ?_
    rintro e w' ⟨rfl, rfl⟩
    go_wp2_with fail
    refine (withinR Sx.out Sz.out Lx.out Hr1.out).mono ?_
    rintro e w' ⟨rfl, rfl⟩
    go_wp2_with fail
    refine (withinR Sy.out Sz.out Ly.out Hr2.out).mono ?_
    rintro e w' ⟨rfl, rfl⟩
    cases r3 with
    | false =>
      go_wp2_with fail
      refine (withinR Sz.out Sm.out Lz.out RM.out).mono ?_
      rintro e w' ⟨rfl, rfl⟩
      go_wp2_with fail
      refine (withinR Sz.out Sx.out Lz.out Hr3.out).mono ?_
      rintro e w' ⟨rfl, rfl⟩
      go_wp2_with fail
      go_ret
      exact ⟨rfl, G.out⟩
    | true =>
      have hr4 : (r4 == r4) = true := by simp
      have RM4 := Lib.hid (show Plain.within zs (meet xs ys) = r4 by rw [RM.out]; rfl)
      go_wp2_with fail
      refine (withinR Sz.out Sm.out Lz.out RM4.out).mono ?_
      rintro e w' ⟨rfl, rfl⟩
      go_wp2_with fail
      refine (withinR Sz.out Sx.out Lz.out Hr3.out).mono ?_
      rintro e w' ⟨rfl, rfl⟩
      go_wp2_with fail
      refine (withinR Sz.out Sy.out Lz.out Hr4.out).mono ?_
      rintro e w' ⟨rfl, rfl⟩
      go_wp2_with fail
      go_ret
      exact ⟨rfl, G.out⟩

set_option maxRecDepth 100000 in
theorem lifted (os : Os) (started : os.Started) (H : Type) (enc : TypeId × Value → H) :
    ReturnsInHanded {} Try.checked os 4 .any (Rows.vecJoinSpec.pre6 enc Try.prog Try.f4 Rows.vecJoinRow.domain false) (Rows.vecJoinSpec.post enc Try.prog Try.f4 false true false false) := by
  refine returnsInHanded_of_change (C := Try.checked) own started (by kernel_rfl) Try.func4
    (ChangeSpec.witness6 (enc := enc) (C := Try.checked) false ⟨#[], #[.slice none 0 0, .slice none 0 0, .slice none 0 0], []⟩ 8 (by kernel_rfl) (by kernel_rfl) (by kernel_rfl) (by kernel_rfl)) ?_
  intro W base args ds gs before hval0 hW hcnd _
  have hval : ∀ (j : Nat) t v, Try.f4.params[j]? = some t → args[j]? = some v → Value.okWide Try.prog W .any base t v := hval0
  have hW' := hW
  obtain ⟨p, q, hA0, hV, rfl, hfz, hnd⟩ := hW
  have hA : DataW.TrodAll enc Try.prog W 0 (fun _ => true) true Try.f4.params.toList args.toList ds p := hA0
  rw [Try.params4] at hA hval
  obtain ⟨v0, vs0, d0, ds0, p0, q0, hargs, rfl, rfl, h0, r0⟩ := trodAll_cons hA
  obtain ⟨v1, vs1, d1, ds1, p1, q1, rfl, rfl, rfl, h1, r1⟩ := trodAll_cons r0
  obtain ⟨v2, vs2, d2, ds2, p2, q2, rfl, rfl, rfl, h2, r2⟩ := trodAll_cons r1
  obtain ⟨rfl, rfl, rfl⟩ := trodAll_nil r2
  obtain rfl : args = #[v0, v1, v2] := by cases args; simp_all
  obtain ⟨rfl, rfl⟩ := trodVars_none hV
  obtain ⟨a0, len0, cap0, rfl⟩ := okWide_slice Try.underlying23 (hval 0 23 v0 rfl rfl)
  have k0 := h0
  have lt0 : ∀ x ∈ p0, x.block < W.heap.size := by obtain ⟨m, hm⟩ := k0; exact DataW.trod_lt m _ _ _ hm
  obtain ⟨z0, w0⟩ : ∃ zs, IsRow .i64 W a0 len0 cap0 zs := by
    obtain ⟨fuel, hf⟩ := h0
    rcases open_ints Try.underlying23 Try.underlying3 (by kernel_rfl) hf with ⟨hcs, _⟩ | ⟨x, l, c, zs, hcs, _, hl, hm, hz, _, hcell, hwz⟩
    · simp [Value.cells] at hcs
      obtain ⟨rfl, rfl, rfl⟩ := hcs
      exact ⟨[], .inl ⟨rfl, rfl, rfl, rfl⟩⟩
    · simp [Value.cells] at hcs
      obtain ⟨rfl, rfl, rfl⟩ := hcs
      exact ⟨zs, .inr ⟨_, rfl, hl, hm, by simpa using hz, hcell, hwz⟩⟩
  obtain ⟨a1, len1, cap1, rfl⟩ := okWide_slice Try.underlying23 (hval 1 23 v1 rfl rfl)
  have k1 := h1
  have lt1 : ∀ x ∈ p1, x.block < W.heap.size := by obtain ⟨m, hm⟩ := k1; exact DataW.trod_lt m _ _ _ hm
  obtain ⟨z1, w1⟩ : ∃ zs, IsRow .i64 W a1 len1 cap1 zs := by
    obtain ⟨fuel, hf⟩ := h1
    rcases open_ints Try.underlying23 Try.underlying3 (by kernel_rfl) hf with ⟨hcs, _⟩ | ⟨x, l, c, zs, hcs, _, hl, hm, hz, _, hcell, hwz⟩
    · simp [Value.cells] at hcs
      obtain ⟨rfl, rfl, rfl⟩ := hcs
      exact ⟨[], .inl ⟨rfl, rfl, rfl, rfl⟩⟩
    · simp [Value.cells] at hcs
      obtain ⟨rfl, rfl, rfl⟩ := hcs
      exact ⟨zs, .inr ⟨_, rfl, hl, hm, by simpa using hz, hcell, hwz⟩⟩
  obtain ⟨a2, len2, cap2, rfl⟩ := okWide_slice Try.underlying23 (hval 2 23 v2 rfl rfl)
  have k2 := h2
  have lt2 : ∀ x ∈ p2, x.block < W.heap.size := by obtain ⟨m, hm⟩ := k2; exact DataW.trod_lt m _ _ _ hm
  obtain ⟨z2, w2⟩ : ∃ zs, IsRow .i64 W a2 len2 cap2 zs := by
    obtain ⟨fuel, hf⟩ := h2
    rcases open_ints Try.underlying23 Try.underlying3 (by kernel_rfl) hf with ⟨hcs, _⟩ | ⟨x, l, c, zs, hcs, _, hl, hm, hz, _, hcell, hwz⟩
    · simp [Value.cells] at hcs
      obtain ⟨rfl, rfl, rfl⟩ := hcs
      exact ⟨[], .inl ⟨rfl, rfl, rfl, rfl⟩⟩
    · simp [Value.cells] at hcs
      obtain ⟨rfl, rfl, rfl⟩ := hcs
      exact ⟨zs, .inr ⟨_, rfl, hl, hm, by simpa using hz, hcell, hwz⟩⟩
  clear hA0 hval0
  refine (walk a0 len0 cap0 z0 a1 len1 cap1 z1 a2 len2 cap2 z2 W w0 w1 w2).mono fun e W' ⟨he, bel⟩ => ?_
  subst he
  exact ⟨_, rfl, _, _, _, [], _, [], hW', trodAll_mk1 (shut_bool Try.underlying4 _), (trodAll_cons_mk (Below.trod laidOut (by kernel_rfl) (of_decide_eq_true (by kernel_rfl)) k0 bel lt0) (trodAll_cons_mk (Below.trod laidOut (by kernel_rfl) (of_decide_eq_true (by kernel_rfl)) k1 bel lt1) (trodAll_cons_mk (Below.trod laidOut (by kernel_rfl) (of_decide_eq_true (by kernel_rfl)) k2 bel lt2) trodAll_mk0))), rfl, bel.frame _, fun h => by cases h⟩

theorem over : Rows.vecJoinRow.holds Try.pinned (OpenSpec.ofChange Rows.vecJoinSpec) :=
  OpenClaim.holds_of_wide 4 Try.f4 rfl rfl rfl rfl rfl rfl rfl ⟨rfl, rfl, rfl, rfl, rfl⟩ rfl rfl rfl rfl rfl (by kernel_rfl) Try.func4 (by kernel_rfl)
    (of_decide_eq_true (by kernel_rfl)) (by unfold Func.isWrapper; first | (rw [if_pos (by decide +kernel)]; kernel_rfl) | (rw [if_neg (by decide +kernel)]; exact ⟨rfl, rfl⟩))
    (fun os started H enc _ => lifted os started H enc)

/-- the given statement -/
theorem proved : Rows.VecJoinSaid := over
#print axioms proved
end Go.Proofs.Ytogmafopgglelaa.vecJoin
