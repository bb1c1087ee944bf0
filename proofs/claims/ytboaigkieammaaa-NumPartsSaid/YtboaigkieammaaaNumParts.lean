/-
  For any two lists of 64-bit integers the law NumParts answers true: where the totals of their first 200 each are numbers, they and the total of both together are added. Conditions: none.
  (The frame was written by the guide's proof-skeleton.mjs; the walk is ours.)
-/
import Derived.Test.YtboaigkieammaaaRows
import Derived.WalkKit
import Derived.ProofKit
import Derived.OpenShut
import Derived.ShutString
import Derived.ChangeOld
import Derived.Below
import Derived.Test.YtboaigkieammaaaAwake
import Derived.Test.YtboaigkieammaaaPut
import Derived.BigQuiet
import Derived.Deep.QuietTactic
import Derived.WalkSmall
namespace Go.Proofs.Ytboaigkieammaaa.numParts
open Go.ChangeShapes Go.WideShapes Go.ChangeAt Go.RowKit
open Go.ChangeMaps (open_string shut_string)
open Plain
set_option linter.unusedVariables false

theorem own : ownKnob Try.prog.godebug = none := by kernel_rfl
theorem laidOut : laidOutB Try.prog = true := by kernel_rfl

set_option maxHeartbeats 4000000 in
theorem walk (a0 : Option Addr) (len0 cap0 : Nat) (z0 : List Int) (a1 : Option Addr) (len1 cap1 : Nat) (z1 : List Int) (w : World) (w0 : IsRow .i64 w a0 len0 cap0 z0) (w1 : IsRow .i64 w a1 len1 cap1 z1) :
    Calls Try.prog 6 #[.slice a0 len0 cap0, .slice a1 len1 cap1] w fun e w' => e = .returned (.bool true) ∧ Below w.heap.size w w' := by
  obtain ⟨xs, m1, c1, hm1, hs1, hl1, hlc1, hn1, hf1⟩ := row_cut w0 200
  obtain ⟨ys, m2, c2, hm2, hs2, hl2, hlc2, hn2, hf2⟩ := row_cut w1 200
  have M1 := Lib.hid hm1
  have hli1 : (len0 : Int) ≤ cap0 := by omega
  have hli2 : (len1 : Int) ≤ cap1 := by omega
  have M2 := Lib.hid hm2
  clear w0 w1
  have K1 := Lib.hid (fun (u : World) (hb : Below w.heap.size w u) => tot_seq (Seq.below hs1 hb) (by omega) hf1)
  have K2 := Lib.hid (fun (u : World) (hb : Below w.heap.size w u) => tot_seq (Seq.below hs2 hb) (by omega) hf2)
  have S1 := Lib.hid (fun (u : World) (hb : Below w.heap.size w u) => Seq.below hs1 hb)
  have S2 := Lib.hid (fun (u : World) (hb : Below w.heap.size w u) => Seq.below hs2 hb)
  have N1 := Lib.hid hn1
  have N2 := Lib.hid hn2
  have hff : ∀ n ∈ xs ++ ys, fits n := fun n hn => by
    rcases List.mem_append.1 hn with h | h
    · exact hf1 n h
    · exact hf2 n h
  have FF := Lib.hid hff
  have TA := Lib.hid (tot_append xs ys)
  clear hm1 hm2 hs1 hs2 hn1 hn2 hf1 hf2 hff
  by_cases fx : fits (tot xs)
  · rw [(yes _ fx).1, (yes _ fx).2] at K1
    by_cases fy : fits (tot ys)
    · rw [(yes _ fy).1, (yes _ fy).2] at K2
      have KA := Lib.hid (fun u => add_any (tot xs) (tot ys) u fx fy)
      clear fx fy
      rcases c1 with ⟨hb1, rfl⟩ | ⟨hb1, rfl⟩ <;> rcases c2 with ⟨hb2, rfl⟩ | ⟨hb2, rfl⟩
      all_goals
        go_enter Try.func6, Try.ntmps6
        go_wp2_with fail
        refine (awake_any _).mono ?_
        rintro e w' ⟨rfl, hg0, -⟩
        go_wp2_with fail
        go_quiet (fail)
        go_wp2_with fail
        have hg := below_drewN hg0 nq
        generalize w'.drewN nq = W2 at *
        clear hg0
        refine (K1.out _ hg).mono ?_
        rintro e u ⟨rfl, rfl⟩
        go_wp2_with fail
        refine (K2.out _ hg).mono ?_
        rintro e u ⟨rfl, rfl⟩
        have hga := hg.alloc hg.size (.cells #[] 2)
        go_wp2_with (at_builtin; refine wpList_append_seq rfl (.tmp 36) (.tmp 37) rfl W2.heap.size rfl (Owns.empty W2 _ (Nat.le_refl _)) rfl (S1.out _ hga) N1.out (by have := M1.out; simp; omega) (by simp) ?_)
        intro v1 W3 hv1 hg3
        have hgb : Below w.heap.size w W3 := hga.grown hg3 (by have := hg.size; simp; omega) (by intro k hk; cases hk; exact hg.size)
        have hsz : W2.heap.size ≤ W3.heap.size := by have := hg3.size; simp at this; omega
        try rw [List.nil_append] at hv1
        clear hg3 hga
        go_wp2_with (at_builtin; refine wpList_append_seq rfl (.tmp 38) (.tmp 39) rfl W2.heap.size rfl hv1 rfl (S2.out _ hgb) N2.out (by have := M1.out; have := M2.out; omega) hsz ?_)
        intro v2 W4 hv2 hg4
        have hgc : Below w.heap.size w W4 := hgb.grown hg4 (by have := hg.size; omega) (by intro k hk; have := (World.ownsRow.lt hv1 k hk).1; have := hg.size; omega)
        have K3 := Lib.hid (tot_seq (Owns.seq hv2) (by have := M1.out; have := M2.out; rw [List.length_append]; omega) FF.out)
        rw [TA.out] at K3
        clear hgb hg4 hv1 hv2 hsz
        go_wp2_with fail
        refine K3.out.mono ?_
        rintro e u ⟨rfl, rfl⟩
        generalize sumV (tot xs + tot ys) = n3 at *
        generalize sumE (tot xs + tot ys) = m3 at *
        generalize tot xs = n1 at *
        generalize tot ys = n2 at *
        go_wp2_with fail
        refine (KA.out _).mono ?_
        rintro e u ⟨rfl, rfl⟩
        go_wp2_with fail
        go_ret
        exact ⟨rfl, hgc⟩
    · rw [(no _ fy).1, (no _ fy).2] at K2
      clear fx fy
      rcases c1 with ⟨hb1, rfl⟩ | ⟨hb1, rfl⟩ <;> rcases c2 with ⟨hb2, rfl⟩ | ⟨hb2, rfl⟩
      all_goals
        go_enter Try.func6, Try.ntmps6
        go_wp2_with fail
        refine (awake_any _).mono ?_
        rintro e w' ⟨rfl, hg0, -⟩
        go_wp2_with fail
        go_quiet (fail)
        go_wp2_with fail
        have hg := below_drewN hg0 nq
        generalize w'.drewN nq = W2 at *
        clear hg0
        refine (K1.out _ hg).mono ?_
        rintro e u ⟨rfl, rfl⟩
        go_wp2_with fail
        refine (K2.out _ hg).mono ?_
        rintro e u ⟨rfl, rfl⟩
        have hga := hg.alloc hg.size (.cells #[] 2)
        go_wp2_with (at_builtin; refine wpList_append_seq rfl (.tmp 36) (.tmp 37) rfl W2.heap.size rfl (Owns.empty W2 _ (Nat.le_refl _)) rfl (S1.out _ hga) N1.out (by have := M1.out; simp; omega) (by simp) ?_)
        intro v1 W3 hv1 hg3
        have hgb : Below w.heap.size w W3 := hga.grown hg3 (by have := hg.size; simp; omega) (by intro k hk; cases hk; exact hg.size)
        have hsz : W2.heap.size ≤ W3.heap.size := by have := hg3.size; simp at this; omega
        try rw [List.nil_append] at hv1
        clear hg3 hga
        go_wp2_with (at_builtin; refine wpList_append_seq rfl (.tmp 38) (.tmp 39) rfl W2.heap.size rfl hv1 rfl (S2.out _ hgb) N2.out (by have := M1.out; have := M2.out; omega) hsz ?_)
        intro v2 W4 hv2 hg4
        have hgc : Below w.heap.size w W4 := hgb.grown hg4 (by have := hg.size; omega) (by intro k hk; have := (World.ownsRow.lt hv1 k hk).1; have := hg.size; omega)
        have K3 := Lib.hid (tot_seq (Owns.seq hv2) (by have := M1.out; have := M2.out; rw [List.length_append]; omega) FF.out)
        rw [TA.out] at K3
        clear hgb hg4 hv1 hv2 hsz
        go_wp2_with fail
        refine K3.out.mono ?_
        rintro e u ⟨rfl, rfl⟩
        generalize sumV (tot xs + tot ys) = n3 at *
        generalize sumE (tot xs + tot ys) = m3 at *
        go_wp2_with fail
        go_ret
        exact ⟨rfl, hgc⟩
  · rw [(no _ fx).1, (no _ fx).2] at K1
    clear fx
    generalize hq1 : sumV (tot ys) = q1 at K2
    generalize hq2 : sumE (tot ys) = q2 at K2
    clear hq1 hq2
    rcases c1 with ⟨hb1, rfl⟩ | ⟨hb1, rfl⟩ <;> rcases c2 with ⟨hb2, rfl⟩ | ⟨hb2, rfl⟩
    all_goals
      go_enter Try.func6, Try.ntmps6
      go_wp2_with fail
      refine (awake_any _).mono ?_
      rintro e w' ⟨rfl, hg0, -⟩
      go_wp2_with fail
      go_quiet (fail)
      go_wp2_with fail
      have hg := below_drewN hg0 nq
      generalize w'.drewN nq = W2 at *
      clear hg0
      refine (K1.out _ hg).mono ?_
      rintro e u ⟨rfl, rfl⟩
      go_wp2_with fail
      refine (K2.out _ hg).mono ?_
      rintro e u ⟨rfl, rfl⟩
      have hga := hg.alloc hg.size (.cells #[] 2)
      go_wp2_with (at_builtin; refine wpList_append_seq rfl (.tmp 36) (.tmp 37) rfl W2.heap.size rfl (Owns.empty W2 _ (Nat.le_refl _)) rfl (S1.out _ hga) N1.out (by have := M1.out; simp; omega) (by simp) ?_)
      intro v1 W3 hv1 hg3
      have hgb : Below w.heap.size w W3 := hga.grown hg3 (by have := hg.size; simp; omega) (by intro k hk; cases hk; exact hg.size)
      have hsz : W2.heap.size ≤ W3.heap.size := by have := hg3.size; simp at this; omega
      try rw [List.nil_append] at hv1
      clear hg3 hga
      go_wp2_with (at_builtin; refine wpList_append_seq rfl (.tmp 38) (.tmp 39) rfl W2.heap.size rfl hv1 rfl (S2.out _ hgb) N2.out (by have := M1.out; have := M2.out; omega) hsz ?_)
      intro v2 W4 hv2 hg4
      have hgc : Below w.heap.size w W4 := hgb.grown hg4 (by have := hg.size; omega) (by intro k hk; have := (World.ownsRow.lt hv1 k hk).1; have := hg.size; omega)
      have K3 := Lib.hid (tot_seq (Owns.seq hv2) (by have := M1.out; have := M2.out; rw [List.length_append]; omega) FF.out)
      rw [TA.out] at K3
      clear hgb hg4 hv1 hv2 hsz
      go_wp2_with fail
      refine K3.out.mono ?_
      rintro e u ⟨rfl, rfl⟩
      generalize sumV (tot xs + tot ys) = n3 at *
      generalize sumE (tot xs + tot ys) = m3 at *
      go_wp2_with fail
      go_ret
      exact ⟨rfl, hgc⟩

set_option maxRecDepth 100000 in
theorem lifted (os : Os) (started : os.Started) (H : Type) (enc : TypeId × Value → H) :
    ReturnsInHanded {} Try.checked os 6 .any (Rows.numPartsSpec.pre6 enc Try.prog Try.f6 Rows.numPartsRow.domain false) (Rows.numPartsSpec.post enc Try.prog Try.f6 false true false false) := by
  refine returnsInHanded_of_change (C := Try.checked) own started (by kernel_rfl) Try.func6
    (ChangeSpec.witness6 (enc := enc) (C := Try.checked) false ⟨#[], #[.slice none 0 0, .slice none 0 0], []⟩ 8 (by kernel_rfl) (by kernel_rfl) (by kernel_rfl) (by kernel_rfl)) ?_
  intro W base args ds gs before hval0 hW hcnd _
  have hval : ∀ (j : Nat) t v, Try.f6.params[j]? = some t → args[j]? = some v → Value.okWide Try.prog W .any base t v := hval0
  have hW' := hW
  obtain ⟨p, q, hA0, hV, rfl, hfz, hnd⟩ := hW
  have hA : DataW.TrodAll enc Try.prog W 0 (fun _ => true) true Try.f6.params.toList args.toList ds p := hA0
  rw [Try.params6] at hA hval
  obtain ⟨v0, vs0, d0, ds0, p0, q0, hargs, rfl, rfl, h0, r0⟩ := trodAll_cons hA
  obtain ⟨v1, vs1, d1, ds1, p1, q1, rfl, rfl, rfl, h1, r1⟩ := trodAll_cons r0
  obtain ⟨rfl, rfl, rfl⟩ := trodAll_nil r1
  obtain rfl : args = #[v0, v1] := by cases args; simp_all
  obtain ⟨rfl, rfl⟩ := trodVars_none hV
  obtain ⟨a0, len0, cap0, rfl⟩ := okWide_slice Try.underlying29 (hval 0 29 v0 rfl rfl)
  have k0 := h0
  have lt0 : ∀ x ∈ p0, x.block < W.heap.size := by obtain ⟨m, hm⟩ := k0; exact DataW.trod_lt m _ _ _ hm
  obtain ⟨z0, w0⟩ : ∃ zs, IsRow .i64 W a0 len0 cap0 zs := by
    obtain ⟨fuel, hf⟩ := h0
    rcases open_ints Try.underlying29 Try.underlying2 (by kernel_rfl) hf with ⟨hcs, _⟩ | ⟨x, l, c, zs, hcs, _, hl, hm, hz, _, hcell, hwz⟩
    · simp [Value.cells] at hcs
      obtain ⟨rfl, rfl, rfl⟩ := hcs
      exact ⟨[], .inl ⟨rfl, rfl, rfl, rfl⟩⟩
    · simp [Value.cells] at hcs
      obtain ⟨rfl, rfl, rfl⟩ := hcs
      exact ⟨zs, .inr ⟨_, rfl, hl, hm, by simpa using hz, hcell, hwz⟩⟩
  obtain ⟨a1, len1, cap1, rfl⟩ := okWide_slice Try.underlying29 (hval 1 29 v1 rfl rfl)
  have k1 := h1
  have lt1 : ∀ x ∈ p1, x.block < W.heap.size := by obtain ⟨m, hm⟩ := k1; exact DataW.trod_lt m _ _ _ hm
  obtain ⟨z1, w1⟩ : ∃ zs, IsRow .i64 W a1 len1 cap1 zs := by
    obtain ⟨fuel, hf⟩ := h1
    rcases open_ints Try.underlying29 Try.underlying2 (by kernel_rfl) hf with ⟨hcs, _⟩ | ⟨x, l, c, zs, hcs, _, hl, hm, hz, _, hcell, hwz⟩
    · simp [Value.cells] at hcs
      obtain ⟨rfl, rfl, rfl⟩ := hcs
      exact ⟨[], .inl ⟨rfl, rfl, rfl, rfl⟩⟩
    · simp [Value.cells] at hcs
      obtain ⟨rfl, rfl, rfl⟩ := hcs
      exact ⟨zs, .inr ⟨_, rfl, hl, hm, by simpa using hz, hcell, hwz⟩⟩
  clear hA0 hval0
  refine (walk a0 len0 cap0 z0 a1 len1 cap1 z1 W w0 w1).mono fun e W' ⟨he, bel⟩ => ?_
  subst he
  exact ⟨_, rfl, _, _, _, [], _, [], hW', trodAll_mk1 (shut_bool Try.underlying4 _), (trodAll_cons_mk (Below.trod laidOut (by kernel_rfl) (of_decide_eq_true (by kernel_rfl)) k0 bel lt0) (trodAll_cons_mk (Below.trod laidOut (by kernel_rfl) (of_decide_eq_true (by kernel_rfl)) k1 bel lt1) trodAll_mk0)), rfl, bel.frame _, fun h => by cases h⟩

theorem over : Rows.numPartsRow.holds Try.pinned (OpenSpec.ofChange Rows.numPartsSpec) :=
  OpenClaim.holds_of_wide 6 Try.f6 rfl rfl rfl rfl rfl rfl rfl ⟨rfl, rfl, rfl, rfl, rfl⟩ rfl rfl rfl rfl rfl (by kernel_rfl) Try.func6 (by kernel_rfl)
    (of_decide_eq_true (by kernel_rfl)) (by unfold Func.isWrapper; first | (rw [if_pos (by decide +kernel)]; kernel_rfl) | (rw [if_neg (by decide +kernel)]; exact ⟨rfl, rfl⟩))
    (fun os started H enc _ => lifted os started H enc)

/-- the given statement -/
theorem proved : Rows.NumPartsSaid := over
#print axioms proved
end Go.Proofs.Ytboaigkieammaaa.numParts
