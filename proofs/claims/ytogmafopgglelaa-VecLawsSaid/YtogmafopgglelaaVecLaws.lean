/-
  For any three vectors the law VecLaws answers true: of their first 100 numbers each, they are laid together in any order and grouping, with themselves they are the same, and one is within another just where both together are the other. No condition.
  (The frame was written by the guide's proof-skeleton.mjs; the walk is ours.)
-/
import Derived.Test.YtogmafopgglelaaRows
import Derived.WalkKit
import Derived.ProofKit
import Derived.OpenShut
import Derived.ShutString
import Derived.ChangeOld
import Derived.Below
import Derived.Test.YtogmafopgglelaaWalkV
namespace Go.Proofs.Ytogmafopgglelaa.vecLaws
open Go.ChangeShapes Go.WideShapes Go.ChangeAt Go.RowKit
open Go.ChangeMaps (open_string shut_string)
set_option linter.unusedVariables false

theorem own : ownKnob Try.prog.godebug = none := by kernel_rfl
theorem laidOut : laidOutB Try.prog = true := by kernel_rfl

open Plain

set_option maxRecDepth 100000 in
set_option maxHeartbeats 16000000 in
theorem walk (a0 : Option Addr) (n0 c0 : Nat) (z0 : List Int) (a1 : Option Addr) (n1 c1 : Nat) (z1 : List Int) (a2 : Option Addr) (n2 c2 : Nat) (z2 : List Int) (w : World) (w0 : IsRow .i64 w a0 n0 c0 z0) (w1 : IsRow .i64 w a1 n1 c1 z1) (w2 : IsRow .i64 w a2 n2 c2 z2) :
    Calls Try.prog 5 #[.slice a0 n0 c0, .slice a1 n1 c1, .slice a2 n2 c2] w fun e w' => e = .returned (.bool true) ∧ Below w.heap.size w w' := by
  obtain ⟨xs, m0, hl0, s0, f0⟩ := few_of w0
  have Sx := Lib.hid s0
  have Lx := Lib.hid hl0
  have Fx := Lib.hid f0
  obtain ⟨ys, m1, hl1, s1, f1⟩ := few_of w1
  have Sy := Lib.hid s1
  have Ly := Lib.hid hl1
  have Fy := Lib.hid f1
  obtain ⟨zs, m2, hl2, s2, f2⟩ := few_of w2
  have Sz := Lib.hid s2
  have Lz := Lib.hid hl2
  have Fz := Lib.hid f2
  have G := Lib.hid (Below.refl w.heap.size w)
  clear w0 w1 w2 s0 s1 s2 f0 f1 f2 hl0 hl1 hl2
  go_enter Try.func5, Try.ntmps5
  go_wp2_with fail
  refine (awake_any w).mono ?_
  rintro e u2 ⟨rfl, hb⟩
  replace Sx := Lib.hid (Sx.out.below hb)
  replace Sy := Lib.hid (Sy.out.below hb)
  replace Sz := Lib.hid (Sz.out.below hb)
  replace G := Lib.hid (G.out.trans (hb.mono G.out.size))
  clear hb
  go_wp2_with fail
  refine (Fx.out _).mono ?_
  rintro e w' ⟨rfl, rfl⟩
  go_wp2_with fail
  refine (Fy.out _).mono ?_
  rintro e w' ⟨rfl, rfl⟩
  go_wp2_with fail
  refine (Fz.out _).mono ?_
  rintro e w' ⟨rfl, rfl⟩
  go_wp2_with fail
  refine (joinS Sx.out Sy.out Lx.out Ly.out).mono ?_
  rintro e u3 ⟨v3, rfl, ho, hb⟩
  replace Sx := Lib.hid (Sx.out.below hb)
  replace Sy := Lib.hid (Sy.out.below hb)
  replace Sz := Lib.hid (Sz.out.below hb)
  replace G := Lib.hid (G.out.trans (hb.mono G.out.size))
  have Sj := Lib.hid ho.seq
  have Lj := Lib.hid (join100 Lx.out Ly.out)
  clear ho hb
  go_wp2_with fail
  refine (joinS Sy.out Sx.out Ly.out Lx.out).mono ?_
  rintro e u4 ⟨v4, rfl, ho, hb⟩
  replace Sx := Lib.hid (Sx.out.below hb)
  replace Sy := Lib.hid (Sy.out.below hb)
  replace Sz := Lib.hid (Sz.out.below hb)
  replace Sj := Lib.hid (Sj.out.below hb)
  replace G := Lib.hid (G.out.trans (hb.mono G.out.size))
  have Sk := Lib.hid ho.seq
  have Lk := Lib.hid (join100 Ly.out Lx.out)
  clear ho hb
  go_wp2_with fail
  refine (equalB Sj.out Sk.out (join_comm xs ys)).mono ?_
  rintro e u5 ⟨rfl, hb⟩
  replace Sx := Lib.hid (Sx.out.below hb)
  replace Sy := Lib.hid (Sy.out.below hb)
  replace Sz := Lib.hid (Sz.out.below hb)
  replace Sj := Lib.hid (Sj.out.below hb)
  replace Sk := Lib.hid (Sk.out.below hb)
  replace G := Lib.hid (G.out.trans (hb.mono G.out.size))
  clear hb
  clear Sj
  clear Sk
  go_wp2_with fail
  refine (joinS Sx.out Sy.out Lx.out Ly.out).mono ?_
  rintro e u6 ⟨v6, rfl, ho, hb⟩
  replace Sx := Lib.hid (Sx.out.below hb)
  replace Sy := Lib.hid (Sy.out.below hb)
  replace Sz := Lib.hid (Sz.out.below hb)
  replace G := Lib.hid (G.out.trans (hb.mono G.out.size))
  have Sj := Lib.hid ho.seq
  have Lj := Lib.hid (join100 Lx.out Ly.out)
  clear ho hb
  go_wp2_with fail
  refine (joinS Sj.out Sz.out Lj.out Lz.out).mono ?_
  rintro e u7 ⟨v7, rfl, ho, hb⟩
  replace Sx := Lib.hid (Sx.out.below hb)
  replace Sy := Lib.hid (Sy.out.below hb)
  replace Sz := Lib.hid (Sz.out.below hb)
  replace Sj := Lib.hid (Sj.out.below hb)
  replace G := Lib.hid (G.out.trans (hb.mono G.out.size))
  have Sk := Lib.hid ho.seq
  clear ho hb
  go_wp2_with fail
  refine (joinS Sy.out Sz.out Ly.out Lz.out).mono ?_
  rintro e u8 ⟨v8, rfl, ho, hb⟩
  replace Sx := Lib.hid (Sx.out.below hb)
  replace Sy := Lib.hid (Sy.out.below hb)
  replace Sz := Lib.hid (Sz.out.below hb)
  replace Sj := Lib.hid (Sj.out.below hb)
  replace Sk := Lib.hid (Sk.out.below hb)
  replace G := Lib.hid (G.out.trans (hb.mono G.out.size))
  have Sl := Lib.hid ho.seq
  have Ll := Lib.hid (join100 Ly.out Lz.out)
  clear ho hb
  go_wp2_with fail
  refine (joinS Sx.out Sl.out Lx.out Ll.out).mono ?_
  rintro e u9 ⟨v9, rfl, ho, hb⟩
  replace Sx := Lib.hid (Sx.out.below hb)
  replace Sy := Lib.hid (Sy.out.below hb)
  replace Sz := Lib.hid (Sz.out.below hb)
  replace Sj := Lib.hid (Sj.out.below hb)
  replace Sk := Lib.hid (Sk.out.below hb)
  replace Sl := Lib.hid (Sl.out.below hb)
  replace G := Lib.hid (G.out.trans (hb.mono G.out.size))
  have Sm := Lib.hid ho.seq
  clear ho hb
  go_wp2_with fail
  refine (equalB Sk.out Sm.out (join_assoc xs ys zs)).mono ?_
  rintro e u10 ⟨rfl, hb⟩
  replace Sx := Lib.hid (Sx.out.below hb)
  replace Sy := Lib.hid (Sy.out.below hb)
  replace Sz := Lib.hid (Sz.out.below hb)
  replace Sj := Lib.hid (Sj.out.below hb)
  replace Sk := Lib.hid (Sk.out.below hb)
  replace Sl := Lib.hid (Sl.out.below hb)
  replace Sm := Lib.hid (Sm.out.below hb)
  replace G := Lib.hid (G.out.trans (hb.mono G.out.size))
  clear hb
  clear Sj
  clear Sk
  clear Sl
  clear Sm
  go_wp2_with fail
  refine (joinS Sx.out Sx.out Lx.out Lx.out).mono ?_
  rintro e u11 ⟨v11, rfl, ho, hb⟩
  replace Sx := Lib.hid (Sx.out.below hb)
  replace Sy := Lib.hid (Sy.out.below hb)
  replace Sz := Lib.hid (Sz.out.below hb)
  replace G := Lib.hid (G.out.trans (hb.mono G.out.size))
  have Sj := Lib.hid ho.seq
  clear ho hb
  go_wp2_with fail
  refine (trimS Sx.out Lx.out).mono ?_
  rintro e u12 ⟨v12, rfl, ho, hb⟩
  replace Sx := Lib.hid (Sx.out.below hb)
  replace Sy := Lib.hid (Sy.out.below hb)
  replace Sz := Lib.hid (Sz.out.below hb)
  replace Sj := Lib.hid (Sj.out.below hb)
  replace G := Lib.hid (G.out.trans (hb.mono G.out.size))
  have St := Lib.hid ho.seq
  clear ho hb
  go_wp2_with fail
  refine (equalB Sj.out St.out (join_self xs)).mono ?_
  rintro e u13 ⟨rfl, hb⟩
  replace Sx := Lib.hid (Sx.out.below hb)
  replace Sy := Lib.hid (Sy.out.below hb)
  replace Sz := Lib.hid (Sz.out.below hb)
  replace Sj := Lib.hid (Sj.out.below hb)
  replace St := Lib.hid (St.out.below hb)
  replace G := Lib.hid (G.out.trans (hb.mono G.out.size))
  clear hb
  clear Sj
  clear St
  go_wp2_with fail
  refine (joinS Sx.out Sy.out Lx.out Ly.out).mono ?_
  rintro e u14 ⟨v14, rfl, ho, hb⟩
  replace Sx := Lib.hid (Sx.out.below hb)
  replace Sy := Lib.hid (Sy.out.below hb)
  replace Sz := Lib.hid (Sz.out.below hb)
  replace G := Lib.hid (G.out.trans (hb.mono G.out.size))
  have Sj := Lib.hid ho.seq
  have Lj := Lib.hid (join100 Lx.out Ly.out)
  clear ho hb
  go_wp2_with fail
  refine (meetS Sx.out Sj.out Lx.out Lj.out).mono ?_
  rintro e u15 ⟨v15, rfl, ho, hb⟩
  replace Sx := Lib.hid (Sx.out.below hb)
  replace Sy := Lib.hid (Sy.out.below hb)
  replace Sz := Lib.hid (Sz.out.below hb)
  replace Sj := Lib.hid (Sj.out.below hb)
  replace G := Lib.hid (G.out.trans (hb.mono G.out.size))
  have Sk := Lib.hid ho.seq
  clear ho hb
  go_wp2_with fail
  refine (trimS Sx.out Lx.out).mono ?_
  rintro e u16 ⟨v16, rfl, ho, hb⟩
  replace Sx := Lib.hid (Sx.out.below hb)
  replace Sy := Lib.hid (Sy.out.below hb)
  replace Sz := Lib.hid (Sz.out.below hb)
  replace Sj := Lib.hid (Sj.out.below hb)
  replace Sk := Lib.hid (Sk.out.below hb)
  replace G := Lib.hid (G.out.trans (hb.mono G.out.size))
  have St := Lib.hid ho.seq
  clear ho hb
  go_wp2_with fail
  refine (equalB Sk.out St.out (meet_join xs ys)).mono ?_
  rintro e u17 ⟨rfl, hb⟩
  replace Sx := Lib.hid (Sx.out.below hb)
  replace Sy := Lib.hid (Sy.out.below hb)
  replace Sz := Lib.hid (Sz.out.below hb)
  replace Sj := Lib.hid (Sj.out.below hb)
  replace Sk := Lib.hid (Sk.out.below hb)
  replace St := Lib.hid (St.out.below hb)
  replace G := Lib.hid (G.out.trans (hb.mono G.out.size))
  clear hb
  clear Sj
  clear Sk
  clear St
  obtain ⟨r, hr⟩ : ∃ r, Plain.within xs ys = r := ⟨_, rfl⟩
  have RR := Lib.hid (show decide (join xs ys = trim ys) = r by rw [← hr]; exact within_eq (within_join xs ys))
  have RW := Lib.hid hr
  clear hr
  go_wp2_with fail
  refine (withinR Sx.out Sy.out Lx.out RW.out).mono ?_
  rintro e w' ⟨rfl, rfl⟩
  go_wp2_with fail
  refine (joinS Sx.out Sy.out Lx.out Ly.out).mono ?_
  rintro e u18 ⟨v18, rfl, ho, hb⟩
  replace Sx := Lib.hid (Sx.out.below hb)
  replace Sy := Lib.hid (Sy.out.below hb)
  replace Sz := Lib.hid (Sz.out.below hb)
  replace G := Lib.hid (G.out.trans (hb.mono G.out.size))
  have Sj := Lib.hid ho.seq
  clear ho hb
  go_wp2_with fail
  refine (trimS Sy.out Ly.out).mono ?_
  rintro e u19 ⟨v19, rfl, ho, hb⟩
  replace Sx := Lib.hid (Sx.out.below hb)
  replace Sy := Lib.hid (Sy.out.below hb)
  replace Sz := Lib.hid (Sz.out.below hb)
  replace Sj := Lib.hid (Sj.out.below hb)
  replace G := Lib.hid (G.out.trans (hb.mono G.out.size))
  have St := Lib.hid ho.seq
  clear ho hb
  go_wp2_with fail
  refine (equalR Sj.out St.out RR.out).mono ?_
  rintro e u20 ⟨rfl, hb⟩
  replace Sx := Lib.hid (Sx.out.below hb)
  replace Sy := Lib.hid (Sy.out.below hb)
  replace Sz := Lib.hid (Sz.out.below hb)
  replace Sj := Lib.hid (Sj.out.below hb)
  replace St := Lib.hid (St.out.below hb)
  replace G := Lib.hid (G.out.trans (hb.mono G.out.size))
  clear hb
  have hrr : (r == r) = true := by simp
  go_wp2_with fail
  go_ret
  exact ⟨rfl, G.out⟩

set_option maxRecDepth 100000 in
theorem lifted (os : Os) (started : os.Started) (H : Type) (enc : TypeId × Value → H) :
    ReturnsInHanded {} Try.checked os 5 .any (Rows.vecLawsSpec.pre6 enc Try.prog Try.f5 Rows.vecLawsRow.domain false) (Rows.vecLawsSpec.post enc Try.prog Try.f5 false true false false) := by
  refine returnsInHanded_of_change (C := Try.checked) own started (by kernel_rfl) Try.func5
    (ChangeSpec.witness6 (enc := enc) (C := Try.checked) false ⟨#[], #[.slice none 0 0, .slice none 0 0, .slice none 0 0], []⟩ 8 (by kernel_rfl) (by kernel_rfl) (by kernel_rfl) (by kernel_rfl)) ?_
  intro W base args ds gs before hval0 hW hcnd _
  have hval : ∀ (j : Nat) t v, Try.f5.params[j]? = some t → args[j]? = some v → Value.okWide Try.prog W .any base t v := hval0
  have hW' := hW
  obtain ⟨p, q, hA0, hV, rfl, hfz, hnd⟩ := hW
  have hA : DataW.TrodAll enc Try.prog W 0 (fun _ => true) true Try.f5.params.toList args.toList ds p := hA0
  rw [Try.params5] at hA hval
  obtain ⟨v0, vs0, d0, ds0, p0, q0, hargs, rfl, rfl, h0, r0⟩ := trodAll_cons hA
  obtain ⟨v1, vs1, d1, ds1, p1, q1, rfl, rfl, rfl, h1, r1⟩ := trodAll_cons r0
  obtain ⟨v2, vs2, d2, ds2, p2, q2, rfl, rfl, rfl, h2, r2⟩ := trodAll_cons r1
  obtain ⟨rfl, rfl, rfl⟩ := trodAll_nil r2
  obtain rfl : args = #[v0, v1, v2] := by cases args; simp_all
  obtain ⟨rfl, rfl⟩ := trodVars_none hV
  obtain ⟨a0, len0, cap0, rfl⟩ := okWide_slice Try.underlying23 (hval 0 23 v0 rfl rfl)
  have k0 := h0
  have lt0 : ∀ x ∈ p0, x.block < W.heap.size := by obtain ⟨m, hm⟩ := k0; exact DataW.trod_lt m _ _ _ hm
  obtain ⟨z0, w0⟩ : ∃ zs, IsRow .i64 W a0 len0 cap0 zs := by
    obtain ⟨fuel, hf⟩ := h0
    rcases open_ints Try.underlying23 Try.underlying3 (by kernel_rfl) hf with ⟨hcs, _⟩ | ⟨x, l, c, zs, hcs, _, hl, hm, hz, _, hcell, hwz⟩
    · simp [Value.cells] at hcs
      obtain ⟨rfl, rfl, rfl⟩ := hcs
      exact ⟨[], .inl ⟨rfl, rfl, rfl, rfl⟩⟩
    · simp [Value.cells] at hcs
      obtain ⟨rfl, rfl, rfl⟩ := hcs
      exact ⟨zs, .inr ⟨_, rfl, hl, hm, by simpa using hz, hcell, hwz⟩⟩
  obtain ⟨a1, len1, cap1, rfl⟩ := okWide_slice Try.underlying23 (hval 1 23 v1 rfl rfl)
  have k1 := h1
  have lt1 : ∀ x ∈ p1, x.block < W.heap.size := by obtain ⟨m, hm⟩ := k1; exact DataW.trod_lt m _ _ _ hm
  obtain ⟨z1, w1⟩ : ∃ zs, IsRow .i64 W a1 len1 cap1 zs := by
    obtain ⟨fuel, hf⟩ := h1
    rcases open_ints Try.underlying23 Try.underlying3 (by kernel_rfl) hf with ⟨hcs, _⟩ | ⟨x, l, c, zs, hcs, _, hl, hm, hz, _, hcell, hwz⟩
    · simp [Value.cells] at hcs
      obtain ⟨rfl, rfl, rfl⟩ := hcs
      exact ⟨[], .inl ⟨rfl, rfl, rfl, rfl⟩⟩
    · simp [Value.cells] at hcs
      obtain ⟨rfl, rfl, rfl⟩ := hcs
      exact ⟨zs, .inr ⟨_, rfl, hl, hm, by simpa using hz, hcell, hwz⟩⟩
  obtain ⟨a2, len2, cap2, rfl⟩ := okWide_slice Try.underlying23 (hval 2 23 v2 rfl rfl)
  have k2 := h2
  have lt2 : ∀ x ∈ p2, x.block < W.heap.size := by obtain ⟨m, hm⟩ := k2; exact DataW.trod_lt m _ _ _ hm
  obtain ⟨z2, w2⟩ : ∃ zs, IsRow .i64 W a2 len2 cap2 zs := by
    obtain ⟨fuel, hf⟩ := h2
    rcases open_ints Try.underlying23 Try.underlying3 (by kernel_rfl) hf with ⟨hcs, _⟩ | ⟨x, l, c, zs, hcs, _, hl, hm, hz, _, hcell, hwz⟩
    · simp [Value.cells] at hcs
      obtain ⟨rfl, rfl, rfl⟩ := hcs
      exact ⟨[], .inl ⟨rfl, rfl, rfl, rfl⟩⟩
    · simp [Value.cells] at hcs
      obtain ⟨rfl, rfl, rfl⟩ := hcs
      exact ⟨zs, .inr ⟨_, rfl, hl, hm, by simpa using hz, hcell, hwz⟩⟩
  clear hA0 hval0
  refine (walk a0 len0 cap0 z0 a1 len1 cap1 z1 a2 len2 cap2 z2 W w0 w1 w2).mono fun e W' ⟨he, bel⟩ => ?_
  subst he
  exact ⟨_, rfl, _, _, _, [], _, [], hW', trodAll_mk1 (shut_bool Try.underlying4 _), (trodAll_cons_mk (Below.trod laidOut (by kernel_rfl) (of_decide_eq_true (by kernel_rfl)) k0 bel lt0) (trodAll_cons_mk (Below.trod laidOut (by kernel_rfl) (of_decide_eq_true (by kernel_rfl)) k1 bel lt1) (trodAll_cons_mk (Below.trod laidOut (by kernel_rfl) (of_decide_eq_true (by kernel_rfl)) k2 bel lt2) trodAll_mk0))), rfl, bel.frame _, fun h => by cases h⟩

theorem over : Rows.vecLawsRow.holds Try.pinned (OpenSpec.ofChange Rows.vecLawsSpec) :=
  OpenClaim.holds_of_wide 5 Try.f5 rfl rfl rfl rfl rfl rfl rfl ⟨rfl, rfl, rfl, rfl, rfl⟩ rfl rfl rfl rfl rfl (by kernel_rfl) Try.func5 (by kernel_rfl)
    (of_decide_eq_true (by kernel_rfl)) (by unfold Func.isWrapper; first | (rw [if_pos (by decide +kernel)]; kernel_rfl) | (rw [if_neg (by decide +kernel)]; exact ⟨rfl, rfl⟩))
    (fun os started H enc _ => lifted os started H enc)

/-- the given statement -/
theorem proved : Rows.VecLawsSaid := over
#print axioms proved
end Go.Proofs.Ytogmafopgglelaa.vecLaws
