/-
  For any list of 64-bit integers the law NumSigns answers true: with all signs of its first 200 turned, the total is the opposite, or as much too great. Conditions: none.
  (The frame was written by the guide's proof-skeleton.mjs; the walk is ours.)
-/
import Derived.Test.YtboaigkieammaaaRows
import Derived.WalkKit
import Derived.ProofKit
import Derived.OpenShut
import Derived.ShutString
import Derived.ChangeOld
import Derived.Below
import Derived.Test.YtboaigkieammaaaAwake
import Derived.Test.YtboaigkieammaaaPut
import Derived.BigQuiet
import Derived.Deep.QuietTactic
import Derived.WalkSmall
namespace Go.Proofs.Ytboaigkieammaaa.numSigns
open Go.ChangeShapes Go.WideShapes Go.ChangeAt Go.RowKit
open Go.ChangeMaps (open_string shut_string)
open Plain
set_option linter.unusedVariables false

theorem own : ownKnob Try.prog.godebug = none := by kernel_rfl
theorem laidOut : laidOutB Try.prog = true := by kernel_rfl

def flip (l : List Int) : List Int := l.map (fun x => -x)
theorem tot_flip (l : List Int) : tot (flip l) = -tot l := by
  induction l with
  | nil => rfl
  | cons a l ih => unfold flip at *; simp only [List.map_cons, tot_cons, ih]; omega
theorem flip_length (l : List Int) : (flip l).length = l.length := by simp [flip]
theorem flip_snoc (xs : List Int) (k : Nat) (h : k < xs.length) : flip (xs.take (k + 1)) = flip (xs.take k) ++ [-(xs.getD k 0)] := by
  rw [take_snoc xs k h]; simp [flip]
theorem flip_fits (l : List Int) (h : ∀ n ∈ l, -9223372036854775808 < n ∧ fits n) : ∀ n ∈ flip l, fits n := by
  intro n hn
  obtain ⟨x, hx, rfl⟩ := List.mem_map.1 hn
  have := h x hx
  unfold fits at *
  omega
theorem take_more (P : Int → Prop) (xs : List Int) (k : Nat) (hk : k < xs.length) (h : ∀ n ∈ xs.take k, P n) (hx : P (xs.getD k 0)) : ∀ n ∈ xs.take (k + 1), P n := by
  intro n hn
  rw [take_snoc xs k hk] at hn
  rcases List.mem_append.1 hn with g | g
  · exact h n g
  · rw [List.mem_singleton.1 g]; exact hx

set_option maxHeartbeats 4000000 in
set_option maxRecDepth 100000 in
theorem signs_some (b off cap0 len0 m : Nat) (xs : List Int) (w : World) (hlc : len0 ≤ cap0) (hp : 0 < m) (c : (len0 ≤ 200 ∧ len0 = m) ∨ (¬ len0 ≤ 200 ∧ m = 200)) (hm : xs.length = m) (hs : Seq w (.slice (some ⟨b, off, none⟩) m cap0) xs)
    (hc : ∀ j, j < xs.length → w.cell? ⟨b, off + j, none⟩ = some (.int .i64 (xs.getD j 0))) (hf : ∀ n ∈ xs, fits n) :
    Calls Try.prog 7 #[.slice (some ⟨b, off, none⟩) len0 cap0] w fun e w' => e = .returned (.bool true) ∧ Below w.heap.size w w' := by
  have hbB : b < w.heap.size := World.block_lt_of_cell? w ⟨b, off + 0, none⟩ (hc 0 (by omega))
  have K1 := Lib.hid (fun (u : World) (hb : Below w.heap.size w u) => tot_seq (Seq.below hs hb) (by omega) hf)
  have HC := Lib.hid hc
  have HF := Lib.hid hf
  have HM := Lib.hid hm
  have hm200 : m ≤ 200 := by omega
  have hml : m ≤ len0 := by omega
  have hend : ∀ k, k ≤ m → ¬ (k < len0 ∧ k < 200) → k = m := by omega
  have hgo : ∀ k, k < len0 → k < 200 → k < m := by omega
  have HE := Lib.hid hend
  have HG := Lib.hid hgo
  have HCC := Lib.hid c
  clear hs hc hf hm hend hgo c
  go_enter Try.func7, Try.ntmps7
  go_wp2_with fail
  refine (awake_any _).mono ?_
  rintro e w' ⟨rfl, hg0, -⟩
  go_wp2_with fail
  go_loopw [3, 4] (fun v i wr => ∃ k : Nat, k ≤ m ∧ i = .int .i64 k ∧ Owns w.heap.size wr v (flip (xs.take k)) ∧ (∀ n ∈ xs.take k, -9223372036854775808 < n ∧ fits n) ∧ Below w.heap.size w wr ∧ w.heap.size ≤ wr.heap.size)
    (fun _ i _ => m - (intOf i).toNat)
  case atStart => exact ⟨0, Nat.zero_le _, rfl, Owns.nil _ _, by simp, hg0, hg0.size⟩
  case round =>
    clear hg0
    obtain ⟨k, hk, rfl, hv, hn, hb, hB⟩ := hrel
    have HN := Lib.hid hn
    clear hn
    by_cases h1 : k < len0 ∧ k < 200
    · obtain ⟨h1, h2⟩ := h1
      have hkm := HG.out k h1 h2
      have hkx : k < xs.length := by rw [HM.out]; exact hkm
      have hcell : wr.cell? ⟨b, off + k, none⟩ = some (.int .i64 (xs.getD k 0)) := (hb.cell (p := ⟨b, off + k, none⟩) hbB).trans (HC.out k hkx)
      have FS := Lib.hid (flip_snoc xs k hkx)
      have TM := Lib.hid (take_more (fun n => -9223372036854775808 < n ∧ fits n) xs k hkx HN.out)
      have hl : (flip (xs.take k)).length ≤ k := by rw [flip_length]; exact List.length_take_le _ _
      have hx : fits (xs.getD k 0) := HF.out _ (by
        have e : xs.getD k 0 = xs[k] := by simp [List.getD, List.getElem?_eq_getElem hkx]
        rw [e]; exact List.getElem_mem _)
      generalize xs.getD k 0 = x at *
      generalize hfl : flip (xs.take k) = fl at *
      clear hfl
      have hx1 : -9223372036854775808 ≤ x := hx.1
      have hx2 : x ≤ 9223372036854775807 := hx.2
      have HX := Lib.hid hx
      clear hkx hx
      by_cases h3 : x = -9223372036854775808
      · have h3' : (x == -9223372036854775808) = true := beq_iff_eq.2 h3
        clear h3
        go_wp2_with fail
        go_ret
        exact ⟨rfl, hb⟩
      · have h3' : (x == -9223372036854775808) = false := beq_eq_false_iff_ne.2 h3
        have hx3 : -9223372036854775807 ≤ x := by omega
        clear h3
        obtain ⟨i0, hi, hz0, hz1, hz2⟩ := info_parts info2'
        go_wp2_with (at_builtin; refine wpList_append_own_at _ rfl _ _ 29 rfl w.heap.size 2 i0 (.int .i64 0) 1 8 Try.underlying29 hi hz0 hz1 hz2 rfl (by decide) _ _ _ rfl (World.ownsRow.alloc hv _) ⟨wr.heap.size, 0, none⟩ 1 1 [.int .i64 (-x)] rfl rfl (cell_one_new _ _ _) (by intro u hu; simp at hu; subst hu; rfl) (by unfold maxLen; omega) (by omega) (by simp; omega) ?_)
        intro u' w1 hown hgrow hnil hat
        obtain ⟨p1, -, -, p4, p5⟩ := Owns.push hB hv (Owns.nil w.heap.size wr) (.inl rfl) hb hown hgrow hat
        clear hown hgrow hnil hat hv hb hB hcell
        go_wp2
        go_roundw
        case rel => exact ⟨k + 1, by omega, by go_num, by rw [FS.out]; exact p1, TM.out ⟨by omega, HX.out⟩, p4, p5⟩
        case measure => simp [intOf]; omega
    · obtain rfl := HE.out k hk h1
      have ht : xs.take k = xs := List.take_of_length_le (by rw [HM.out]; omega)
      rw [ht] at hv
      have hn := HN.out
      rw [ht] at hn
      clear ht HN HC HF HE HG
      have hsq := Owns.seq hv
      have K2 := Lib.hid (tot_seq hsq (by rw [flip_length, HM.out]; omega) (flip_fits xs hn))
      rw [tot_flip] at K2
      generalize tot xs = T at *
      clear hn hsq hv HM
      rcases HCC.out with ⟨hq, rfl⟩ | ⟨hq, rfl⟩
      all_goals
        clear HCC h1
        by_cases hA : fits T ∧ -9223372036854775808 < T
        · have hA2 : fits (-T) := by unfold fits at *; omega
          rw [(yes _ hA.1).1, (yes _ hA.1).2] at K1
          rw [(yes _ hA2).1, (yes _ hA2).2] at K2
          obtain ⟨hA1, hA3⟩ := hA
          have hA4 : T ≤ 9223372036854775807 := hA1.2
          clear hA1 hA2
          go_wp2_with fail
          refine (K1.out _ hb).mono ?_
          rintro e u ⟨rfl, rfl⟩
          go_wp2_with fail
          refine K2.out.mono ?_
          rintro e u ⟨rfl, rfl⟩
          go_wp2_with fail
          go_ret
          exact ⟨rfl, hb⟩
        · by_cases hB2 : fits (-T)
          · have e : T = 9223372036854775808 := by unfold fits at *; omega
            have hT : ¬ fits T := by unfold fits; omega
            rw [(no _ hT).1, (no _ hT).2] at K1
            rw [(yes _ hB2).1, (yes _ hB2).2, e] at K2
            clear hA hB2 e hT
            go_wp2_with fail
            refine (K1.out _ hb).mono ?_
            rintro e u ⟨rfl, rfl⟩
            go_wp2_with fail
            refine K2.out.mono ?_
            rintro e u ⟨rfl, rfl⟩
            go_wp2_with fail
            go_ret
            exact ⟨rfl, hb⟩
          · rw [(no _ hB2).1, (no _ hB2).2] at K2
            by_cases hT : fits T
            · have e : T = -9223372036854775808 := by unfold fits at *; omega
              rw [(yes _ hT).1, (yes _ hT).2, e] at K1
              clear hA hB2 e hT
              go_wp2_with fail
              refine (K1.out _ hb).mono ?_
              rintro e u ⟨rfl, rfl⟩
              go_wp2_with fail
              refine K2.out.mono ?_
              rintro e u ⟨rfl, rfl⟩
              go_wp2_with fail
              go_ret
              exact ⟨rfl, hb⟩
            · rw [(no _ hT).1, (no _ hT).2] at K1
              clear hA hB2 hT
              go_wp2_with fail
              refine (K1.out _ hb).mono ?_
              rintro e u ⟨rfl, rfl⟩
              go_wp2_with fail
              refine K2.out.mono ?_
              rintro e u ⟨rfl, rfl⟩
              go_wp2_with fail
              go_ret
              exact ⟨rfl, hb⟩

theorem signs_none (a : Option Addr) (cap : Nat) (w : World) :
    Calls Try.prog 7 #[.slice a 0 cap] w fun e w' => e = .returned (.bool true) ∧ Below w.heap.size w w' := by
  have K := Lib.hid (fun (a : Option Addr) (cap : Nat) (u : World) => tot_none' a cap u)
  go_enter Try.func7, Try.ntmps7
  go_wp2_with fail
  refine (awake_any _).mono ?_
  rintro e w' ⟨rfl, hg0, -⟩
  go_wp2_with fail
  go_loop [3, 4] (fun v i => i = .int .i64 0 ∧ v = .slice none 0 0) (fun _ _ => 0)
  case atStart => exact ⟨rfl, rfl⟩
  case round =>
    obtain ⟨rfl, rfl⟩ := hrel
    go_wp2_with fail
    refine (K.out _ _ _).mono ?_
    rintro e u ⟨rfl, rfl⟩
    go_wp2_with fail
    refine (K.out _ _ _).mono ?_
    rintro e u ⟨rfl, rfl⟩
    go_wp2_with fail
    go_ret
    exact ⟨rfl, hg0⟩

theorem walk (a0 : Option Addr) (len0 cap0 : Nat) (z0 : List Int) (w : World) (w0 : IsRow .i64 w a0 len0 cap0 z0) :
    Calls Try.prog 7 #[.slice a0 len0 cap0] w fun e w' => e = .returned (.bool true) ∧ Below w.heap.size w w' := by
  obtain ⟨xs, m, c, hm, hs, hl, hlc, hn, hf⟩ := row_cut w0 200
  by_cases hp : 0 < m
  · obtain ⟨a, cap, hv, h1, h2, h3⟩ := id hs
    obtain ⟨b, off, rfl, hc⟩ := h3 (by omega)
    simp only [Value.slice.injEq] at hv
    obtain ⟨rfl, -, -⟩ := hv
    exact signs_some b off cap0 len0 m xs w hlc hp c hm hs hc hf
  · obtain rfl : len0 = 0 := by omega
    exact signs_none a0 cap0 w

set_option maxRecDepth 100000 in
theorem lifted (os : Os) (started : os.Started) (H : Type) (enc : TypeId × Value → H) :
    ReturnsInHanded {} Try.checked os 7 .any (Rows.numSignsSpec.pre6 enc Try.prog Try.f7 Rows.numSignsRow.domain false) (Rows.numSignsSpec.post enc Try.prog Try.f7 false true false false) := by
  refine returnsInHanded_of_change (C := Try.checked) own started (by kernel_rfl) Try.func7
    (ChangeSpec.witness6 (enc := enc) (C := Try.checked) false ⟨#[], #[.slice none 0 0], []⟩ 8 (by kernel_rfl) (by kernel_rfl) (by kernel_rfl) (by kernel_rfl)) ?_
  intro W base args ds gs before hval0 hW hcnd _
  have hval : ∀ (j : Nat) t v, Try.f7.params[j]? = some t → args[j]? = some v → Value.okWide Try.prog W .any base t v := hval0
  have hW' := hW
  obtain ⟨p, q, hA0, hV, rfl, hfz, hnd⟩ := hW
  have hA : DataW.TrodAll enc Try.prog W 0 (fun _ => true) true Try.f7.params.toList args.toList ds p := hA0
  rw [Try.params7] at hA hval
  obtain ⟨v0, vs0, d0, ds0, p0, q0, hargs, rfl, rfl, h0, r0⟩ := trodAll_cons hA
  obtain ⟨rfl, rfl, rfl⟩ := trodAll_nil r0
  obtain rfl : args = #[v0] := by cases args; simp_all
  obtain ⟨rfl, rfl⟩ := trodVars_none hV
  obtain ⟨a0, len0, cap0, rfl⟩ := okWide_slice Try.underlying29 (hval 0 29 v0 rfl rfl)
  have k0 := h0
  have lt0 : ∀ x ∈ p0, x.block < W.heap.size := by obtain ⟨m, hm⟩ := k0; exact DataW.trod_lt m _ _ _ hm
  obtain ⟨z0, w0⟩ : ∃ zs, IsRow .i64 W a0 len0 cap0 zs := by
    obtain ⟨fuel, hf⟩ := h0
    rcases open_ints Try.underlying29 Try.underlying2 (by kernel_rfl) hf with ⟨hcs, _⟩ | ⟨x, l, c, zs, hcs, _, hl, hm, hz, _, hcell, hwz⟩
    · simp [Value.cells] at hcs
      obtain ⟨rfl, rfl, rfl⟩ := hcs
      exact ⟨[], .inl ⟨rfl, rfl, rfl, rfl⟩⟩
    · simp [Value.cells] at hcs
      obtain ⟨rfl, rfl, rfl⟩ := hcs
      exact ⟨zs, .inr ⟨_, rfl, hl, hm, by simpa using hz, hcell, hwz⟩⟩
  clear hA0 hval0
  refine (walk a0 len0 cap0 z0 W w0).mono fun e W' ⟨he, bel⟩ => ?_
  subst he
  exact ⟨_, rfl, _, _, _, [], _, [], hW', trodAll_mk1 (shut_bool Try.underlying4 _), (trodAll_cons_mk (Below.trod laidOut (by kernel_rfl) (of_decide_eq_true (by kernel_rfl)) k0 bel lt0) trodAll_mk0), rfl, bel.frame _, fun h => by cases h⟩

theorem over : Rows.numSignsRow.holds Try.pinned (OpenSpec.ofChange Rows.numSignsSpec) :=
  OpenClaim.holds_of_wide 7 Try.f7 rfl rfl rfl rfl rfl rfl rfl ⟨rfl, rfl, rfl, rfl, rfl⟩ rfl rfl rfl rfl rfl (by kernel_rfl) Try.func7 (by kernel_rfl)
    (of_decide_eq_true (by kernel_rfl)) (by unfold Func.isWrapper; first | (rw [if_pos (by decide +kernel)]; kernel_rfl) | (rw [if_neg (by decide +kernel)]; exact ⟨rfl, rfl⟩))
    (fun os started H enc _ => lifted os started H enc)

/-- the given statement -/
theorem proved : Rows.NumSignsSaid := over
#print axioms proved
end Go.Proofs.Ytboaigkieammaaa.numSigns
