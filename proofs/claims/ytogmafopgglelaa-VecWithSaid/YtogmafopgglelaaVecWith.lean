/-
  For any vector, of which the first 100 numbers count, and any three numbers the law VecWith answers true: with another number for a node it says that of it, and of all others what it said. No condition.
  (The frame was written by the guide's proof-skeleton.mjs; the walk is ours.)
-/
import Derived.Test.YtogmafopgglelaaRows
import Derived.WalkKit
import Derived.ProofKit
import Derived.OpenShut
import Derived.ShutString
import Derived.ChangeOld
import Derived.Below
import Derived.Test.YtogmafopgglelaaWalkV
namespace Go.Proofs.Ytogmafopgglelaa.vecWith
open Go.ChangeShapes Go.WideShapes Go.ChangeAt Go.RowKit
open Go.ChangeMaps (open_string shut_string)
set_option linter.unusedVariables false

theorem own : ownKnob Try.prog.godebug = none := by kernel_rfl
theorem laidOut : laidOutB Try.prog = true := by kernel_rfl

open Plain

set_option maxRecDepth 100000 in
set_option maxHeartbeats 16000000 in
theorem walk (a0 : Option Addr) (n0 c0 : Nat) (z0 : List Int) (x1 x2 x3 : Int) (w : World) (w0 : IsRow .i64 w a0 n0 c0 z0) (w1 : (Lit.int .i64 x1).wf = true) (w2 : (Lit.int .i64 x2).wf = true) (w3 : (Lit.int .i64 x3).wf = true) :
    Calls Try.prog 6 #[.slice a0 n0 c0, .int .i64 x1, .int .i64 x2, .int .i64 x3] w fun e w' => e = .returned (.bool true) ∧ Below w.heap.size w w' := by
  obtain ⟨xs, m0, hl0, s0, f0⟩ := few_of w0
  have Sx := Lib.hid s0
  have Lx := Lib.hid hl0
  have Fx := Lib.hid f0
  have G := Lib.hid (Below.refl w.heap.size w)
  clear w0 w1 w2 w3 s0 f0 hl0
  go_enter Try.func6, Try.ntmps6
  go_wp2_with fail
  refine (awake_any w).mono ?_
  rintro e u2 ⟨rfl, hb⟩
  replace Sx := Lib.hid (Sx.out.below hb)
  replace G := Lib.hid (G.out.trans (hb.mono G.out.size))
  clear hb
  go_wp2_with fail
  refine (Fx.out _).mono ?_
  rintro e w' ⟨rfl, rfl⟩
  by_cases h1 : x1 < 0
  · have KE := Lib.hid (with_err Sx.out x1 x2 (.inl h1))
    go_wp2_with fail
    refine KE.out.mono ?_
    rintro e u3 ⟨rfl, hb⟩
    have G3 := Lib.hid (G.out.trans (hb.mono G.out.size))
    clear hb
    go_wp2_with fail
    go_ret
    exact ⟨rfl, G3.out⟩
  · by_cases h2 : 8 ≤ x1
    · have KE := Lib.hid (with_err Sx.out x1 x2 (.inr (.inl h2)))
      go_wp2_with fail
      refine KE.out.mono ?_
      rintro e u3 ⟨rfl, hb⟩
      have G3 := Lib.hid (G.out.trans (hb.mono G.out.size))
      clear hb
      go_wp2_with fail
      go_ret
      exact ⟨rfl, G3.out⟩
    · by_cases h3 : x2 < 0
      · have KE := Lib.hid (with_err Sx.out x1 x2 (.inr (.inr (.inl h3))))
        go_wp2_with fail
        refine KE.out.mono ?_
        rintro e u3 ⟨rfl, hb⟩
        have G3 := Lib.hid (G.out.trans (hb.mono G.out.size))
        clear hb
        go_wp2_with fail
        go_ret
        exact ⟨rfl, G3.out⟩
      · by_cases h4 : 1073741824 < x2
        · have KE := Lib.hid (with_err Sx.out x1 x2 (.inr (.inr (.inr h4))))
          go_wp2_with fail
          refine KE.out.mono ?_
          rintro e u3 ⟨rfl, hb⟩
          have G3 := Lib.hid (G.out.trans (hb.mono G.out.size))
          clear hb
          go_wp2_with fail
          go_ret
          exact ⟨rfl, G3.out⟩
        · obtain ⟨k, rfl⟩ : ∃ k : Nat, x1 = (k : Int) := ⟨x1.toNat, by omega⟩
          have KW := Lib.hid (with_ok (k0 := k) (n := x2) Sx.out (by have := Lx.out; omega) (by omega) (by omega) (by omega))
          have e1 := Lib.hid (show saysI (withN xs k x2) (k : Int) = x2 by rw [saysI_with xs k x2 (by omega), if_pos rfl])
          have e2 := Lib.hid (show ¬ x3 = (k : Int) → saysI (withN xs k x2) x3 = saysI xs x3 from fun h => by rw [saysI_with xs k x2 (by omega), if_neg h])
          have e3 := Lib.hid (trim_with xs k x2 (by omega))
          have e4 := Lib.hid (with100 (xs := xs) (k := k) (n := x2) Lx.out (by omega))
          have hx2 : (x2 == x2) = true := by simp
          clear h1 h2 h3 h4
          go_wp2_with fail
          refine KW.out.mono ?_
          rintro e u3 ⟨v3, rfl, ho, hb⟩
          have G3 := Lib.hid (G.out.trans (hb.mono G.out.size))
          have S3 := Lib.hid ho.seq
          replace Sx := Lib.hid (Sx.out.below hb)
          clear ho hb
          go_wp2_with fail
          refine (atS S3.out e1.out).mono ?_
          rintro e w' ⟨rfl, rfl⟩
          by_cases he : x3 = (k : Int)
          · have hb0 : (x3 == (k : Int)) = true := by simpa using he
            go_wp2_with fail
            refine (trimS S3.out e4.out).mono ?_
            rintro e u4 ⟨v4, rfl, ho, hb⟩
            have G4 := Lib.hid (G3.out.trans (hb.mono G3.out.size))
            have S4 := Lib.hid ho.seq
            replace S3 := Lib.hid (S3.out.below hb)
            clear ho hb
            go_wp2_with fail
            refine (equalB S4.out S3.out e3.out).mono ?_
            rintro e u5 ⟨rfl, hb⟩
            have G5 := Lib.hid (G4.out.trans (hb.mono G4.out.size))
            clear hb
            go_wp2_with fail
            go_ret
            exact ⟨rfl, G5.out⟩
          · have hb0 : (x3 == (k : Int)) = false := by simpa using he
            have e5 := Lib.hid (e2.out he)
            obtain ⟨r, hr⟩ : ∃ r, saysI xs x3 = r := ⟨_, rfl⟩
            have e6 := Lib.hid (e5.out.trans hr)
            have e7 := Lib.hid hr
            have hrr : (r == r) = true := by simp
            clear hr he
            go_wp2_with fail
            refine (atS S3.out e6.out).mono ?_
            rintro e w' ⟨rfl, rfl⟩
            go_wp2_with fail
            refine (atS Sx.out e7.out).mono ?_
            rintro e w' ⟨rfl, rfl⟩
            go_wp2_with fail
            refine (trimS S3.out e4.out).mono ?_
            rintro e u4 ⟨v4, rfl, ho, hb⟩
            have G4 := Lib.hid (G3.out.trans (hb.mono G3.out.size))
            have S4 := Lib.hid ho.seq
            replace S3 := Lib.hid (S3.out.below hb)
            clear ho hb
            go_wp2_with fail
            refine (equalB S4.out S3.out e3.out).mono ?_
            rintro e u5 ⟨rfl, hb⟩
            have G5 := Lib.hid (G4.out.trans (hb.mono G4.out.size))
            clear hb
            go_wp2_with fail
            go_ret
            exact ⟨rfl, G5.out⟩

set_option maxRecDepth 100000 in
theorem lifted (os : Os) (started : os.Started) (H : Type) (enc : TypeId × Value → H) :
    ReturnsInHanded {} Try.checked os 6 .any (Rows.vecWithSpec.pre6 enc Try.prog Try.f6 Rows.vecWithRow.domain false) (Rows.vecWithSpec.post enc Try.prog Try.f6 false true false false) := by
  refine returnsInHanded_of_change (C := Try.checked) own started (by kernel_rfl) Try.func6
    (ChangeSpec.witness6 (enc := enc) (C := Try.checked) false ⟨#[], #[.slice none 0 0, .int .i64 0, .int .i64 0, .int .i64 0], []⟩ 8 (by kernel_rfl) (by kernel_rfl) (by kernel_rfl) (by kernel_rfl)) ?_
  intro W base args ds gs before hval0 hW hcnd _
  have hval : ∀ (j : Nat) t v, Try.f6.params[j]? = some t → args[j]? = some v → Value.okWide Try.prog W .any base t v := hval0
  have hW' := hW
  obtain ⟨p, q, hA0, hV, rfl, hfz, hnd⟩ := hW
  have hA : DataW.TrodAll enc Try.prog W 0 (fun _ => true) true Try.f6.params.toList args.toList ds p := hA0
  rw [Try.params6] at hA hval
  obtain ⟨v0, vs0, d0, ds0, p0, q0, hargs, rfl, rfl, h0, r0⟩ := trodAll_cons hA
  obtain ⟨v1, vs1, d1, ds1, p1, q1, rfl, rfl, rfl, h1, r1⟩ := trodAll_cons r0
  obtain ⟨v2, vs2, d2, ds2, p2, q2, rfl, rfl, rfl, h2, r2⟩ := trodAll_cons r1
  obtain ⟨v3, vs3, d3, ds3, p3, q3, rfl, rfl, rfl, h3, r3⟩ := trodAll_cons r2
  obtain ⟨rfl, rfl, rfl⟩ := trodAll_nil r3
  obtain rfl : args = #[v0, v1, v2, v3] := by cases args; simp_all
  obtain ⟨rfl, rfl⟩ := trodVars_none hV
  obtain ⟨a0, len0, cap0, rfl⟩ := okWide_slice Try.underlying23 (hval 0 23 v0 rfl rfl)
  have k0 := h0
  have lt0 : ∀ x ∈ p0, x.block < W.heap.size := by obtain ⟨m, hm⟩ := k0; exact DataW.trod_lt m _ _ _ hm
  obtain ⟨z0, w0⟩ : ∃ zs, IsRow .i64 W a0 len0 cap0 zs := by
    obtain ⟨fuel, hf⟩ := h0
    rcases open_ints Try.underlying23 Try.underlying3 (by kernel_rfl) hf with ⟨hcs, _⟩ | ⟨x, l, c, zs, hcs, _, hl, hm, hz, _, hcell, hwz⟩
    · simp [Value.cells] at hcs
      obtain ⟨rfl, rfl, rfl⟩ := hcs
      exact ⟨[], .inl ⟨rfl, rfl, rfl, rfl⟩⟩
    · simp [Value.cells] at hcs
      obtain ⟨rfl, rfl, rfl⟩ := hcs
      exact ⟨zs, .inr ⟨_, rfl, hl, hm, by simpa using hz, hcell, hwz⟩⟩
  obtain ⟨a1, rfl, rfl, rfl, w1⟩ := open_int Try.underlying3 (hval 1 3 v1 rfl rfl) h1
  obtain ⟨a2, rfl, rfl, rfl, w2⟩ := open_int Try.underlying3 (hval 2 3 v2 rfl rfl) h2
  obtain ⟨a3, rfl, rfl, rfl, w3⟩ := open_int Try.underlying3 (hval 3 3 v3 rfl rfl) h3
  clear hA0 hval0
  refine (walk a0 len0 cap0 z0 a1 a2 a3 W w0 w1 w2 w3).mono fun e W' ⟨he, bel⟩ => ?_
  subst he
  exact ⟨_, rfl, _, _, _, [], _, [], hW', trodAll_mk1 (shut_bool Try.underlying4 _), (trodAll_cons_mk (Below.trod laidOut (by kernel_rfl) (of_decide_eq_true (by kernel_rfl)) k0 bel lt0) (trodAll_cons_mk (shut_int Try.underlying3 w1) (trodAll_cons_mk (shut_int Try.underlying3 w2) (trodAll_cons_mk (shut_int Try.underlying3 w3) trodAll_mk0)))), rfl, bel.frame _, fun h => by cases h⟩

theorem over : Rows.vecWithRow.holds Try.pinned (OpenSpec.ofChange Rows.vecWithSpec) :=
  OpenClaim.holds_of_wide 6 Try.f6 rfl rfl rfl rfl rfl rfl rfl ⟨rfl, rfl, rfl, rfl, rfl⟩ rfl rfl rfl rfl rfl (by kernel_rfl) Try.func6 (by kernel_rfl)
    (of_decide_eq_true (by kernel_rfl)) (by unfold Func.isWrapper; first | (rw [if_pos (by decide +kernel)]; kernel_rfl) | (rw [if_neg (by decide +kernel)]; exact ⟨rfl, rfl⟩))
    (fun os started H enc _ => lifted os started H enc)

/-- the given statement -/
theorem proved : Rows.VecWithSaid := over
#print axioms proved
end Go.Proofs.Ytogmafopgglelaa.vecWith
