/-
  For any list of 64-bit integers, any turn and any number the law NumTotal answers true: a total hangs on no order, and a number and its opposite more change nothing. Conditions: none.
  (The frame was written by the guide's proof-skeleton.mjs; the walk is ours.)
-/
import Derived.Test.YtboaigkieammaaaRows
import Derived.WalkKit
import Derived.ProofKit
import Derived.OpenShut
import Derived.ShutString
import Derived.ChangeOld
import Derived.Below
import Derived.Test.YtboaigkieammaaaAwake
import Derived.Test.YtboaigkieammaaaPut
import Derived.BigQuiet
import Derived.Deep.QuietTactic
import Derived.WalkSmall
namespace Go.Proofs.Ytboaigkieammaaa.numTotal
open Go.ChangeShapes Go.WideShapes Go.ChangeAt Go.RowKit
open Go.ChangeMaps (open_string shut_string)
open Plain
set_option linter.unusedVariables false

theorem own : ownKnob Try.prog.godebug = none := by kernel_rfl
theorem laidOut : laidOutB Try.prog = true := by kernel_rfl

def rot (xs : List Int) (r : Nat) : List Int := xs.drop r ++ xs.take r
theorem tot_rot (xs : List Int) (r : Nat) : tot (rot xs r) = tot xs := by
  have h : tot (xs.take r ++ xs.drop r) = tot xs := by rw [List.take_append_drop]
  rw [tot_append] at h
  unfold rot
  rw [tot_append]
  omega
theorem rot_length (xs : List Int) (r : Nat) : (rot xs r).length = xs.length := by
  unfold rot; rw [List.length_append, List.length_drop, List.length_take]; omega
theorem rot_fits (xs : List Int) (r : Nat) (h : ∀ n ∈ xs, fits n) : ∀ n ∈ rot xs r, fits n := fun n hn => by
  rcases List.mem_append.1 hn with g | g
  · exact h n (List.mem_of_mem_drop g)
  · exact h n (List.mem_of_mem_take g)
theorem rot_getD (xs : List Int) (r k : Nat) (hr : r < xs.length) (hk : k < xs.length) : (rot xs r).getD k 0 = xs.getD ((k + r) % xs.length) 0 := by
  unfold rot
  by_cases h : k + r < xs.length
  · rw [Nat.mod_eq_of_lt h]
    simp only [List.getD]
    rw [List.getElem?_append_left (by rw [List.length_drop]; omega), List.getElem?_drop, Nat.add_comm]
  · have e : (k + r) % xs.length = k + r - xs.length := by rw [Nat.mod_eq_sub_mod (by omega), Nat.mod_eq_of_lt (by omega)]
    rw [e]
    simp only [List.getD]
    rw [List.getElem?_append_right (by rw [List.length_drop]; omega), List.length_drop, List.getElem?_take, if_pos (by omega)]
    congr 2
    omega

theorem turn_rem (turn : Int) (m : Nat) (hm : 0 < m) : ∃ r : Nat, (IntKind.u64.wrap turn).tmod m = (r : Int) ∧ r < m := by
  have h0 : 0 ≤ IntKind.u64.wrap turn := by rw [IntKind.wrap_u64]; omega
  obtain ⟨u, hu⟩ := Int.eq_ofNat_of_zero_le h0
  refine ⟨u % m, ?_, Nat.mod_lt _ hm⟩
  rw [hu, ← Int.ofNat_tmod]
theorem fits_three (ys : List Int) (n : Int) (hn : fits n) (hm : -9223372036854775808 < n) (h : ∀ x ∈ ys, fits x) : ∀ x ∈ [n] ++ ys ++ [-n], fits x := by
  intro x hx
  simp only [List.mem_append, List.mem_singleton] at hx
  rcases hx with (rfl | g) | rfl
  · exact hn
  · exact h x g
  · unfold fits at *; omega
theorem tot_three (ys : List Int) (n T : Int) (h : tot ys = T) : tot ([n] ++ ys ++ [-n]) = T := by
  rw [tot_append, tot_append, tot_cons, tot_cons, tot_nil, h]; omega
theorem Owns.nil_cap {B : Nat} {w : World} {v : Value} {xs : List Int} (h : Owns B w v xs) : ∀ a c, v = .slice a xs.length c → a = none → c = 0 := by
  intro a c hv ha
  rcases h.2 with ⟨rfl, _⟩ | ⟨g, cap, cur, rfl, _⟩
  · simp only [Value.slice.injEq] at hv; exact hv.2.2.symm
  · simp only [Value.slice.injEq] at hv; rw [ha] at hv; simp at hv

set_option maxHeartbeats 4000000 in
set_option maxRecDepth 100000 in
theorem total_some (b off cap0 len0 m : Nat) (xs : List Int) (turn n : Int) (w : World) (hlc : len0 ≤ cap0) (hp : 0 < m) (c : (len0 ≤ 200 ∧ len0 = m) ∨ (¬ len0 ≤ 200 ∧ m = 200)) (hm : xs.length = m) (hs : Seq w (.slice (some ⟨b, off, none⟩) m cap0) xs)
    (hc : ∀ j, j < xs.length → w.cell? ⟨b, off + j, none⟩ = some (.int .i64 (xs.getD j 0))) (hf : ∀ n ∈ xs, fits n) (ht : fits turn) (hn : fits n) :
    Calls Try.prog 5 #[.slice (some ⟨b, off, none⟩) len0 cap0, .int .i64 turn, .int .i64 n] w fun e w' => e = .returned (.bool true) ∧ Below w.heap.size w w' := by
  have hbB : b < w.heap.size := World.block_lt_of_cell? w ⟨b, off + 0, none⟩ (hc 0 (by omega))
  have K1 := Lib.hid (fun (u : World) (hb : Below w.heap.size w u) => tot_seq (Seq.below hs hb) (by omega) hf)
  have HC := Lib.hid hc
  have HF := Lib.hid hf
  have HM := Lib.hid hm
  have HNF := Lib.hid hn
  have hm200 : m ≤ 200 := by omega
  have hml : m ≤ len0 := by omega
  have ht1 : -9223372036854775808 ≤ turn := ht.1
  have ht2 : turn ≤ 9223372036854775807 := ht.2
  clear hs hc hf hm ht hn
  rcases c with ⟨hq, rfl⟩ | ⟨hq, rfl⟩
  · obtain ⟨r, hr, hrl⟩ : ∃ r : Nat, (IntKind.u64.wrap turn).tmod len0 = (r : Int) ∧ r < len0 := turn_rem turn len0 (by omega)
    go_enter Try.func5, Try.ntmps5
    go_wp2_with fail
    refine (awake_any _).mono ?_
    rintro e w' ⟨rfl, hg0, -⟩
    go_wp2_with fail
    go_loopw [7, 8] (fun v i wr => ∃ k : Nat, k ≤ len0 ∧ i = .int .i64 k ∧ Owns w.heap.size wr v ((rot xs r).take k) ∧ Below w.heap.size w wr ∧ w.heap.size ≤ wr.heap.size)
      (fun _ i _ => len0 - (intOf i).toNat)
    case atStart => exact ⟨0, Nat.zero_le _, rfl, Owns.nil _ _, hg0, hg0.size⟩
    case round =>
      clear hg0
      obtain ⟨k, hk, rfl, hv, hb, hB⟩ := hrel
      by_cases h1 : k < len0
      · have hmod : (k + r) % len0 < len0 := Nat.mod_lt _ (by omega)
        have hcell : wr.cell? ⟨b, off + (k + r) % len0, none⟩ = some (.int .i64 (xs.getD ((k + r) % len0) 0)) := (hb.cell (p := ⟨b, off + (k + r) % len0, none⟩) hbB).trans (HC.out _ (by rw [HM.out]; exact hmod))
        have hsn := take_snoc (rot xs r) k (by rw [rot_length, HM.out]; exact h1)
        rw [rot_getD xs r k (by rw [HM.out]; exact hrl) (by rw [HM.out]; exact h1), HM.out] at hsn
        have hl : ((rot xs r).take k).length ≤ k := List.length_take_le _ _
        generalize xs.getD ((k + r) % len0) 0 = x at *
        generalize hfl : (rot xs r).take k = fl at *
        have SN := Lib.hid hsn
        clear hfl hsn
        obtain ⟨i0, hi, hz0, hz1, hz2⟩ := info_parts info2'
        have hi1 : 0 ≤ ((k : Int) + r) % len0 := Int.emod_nonneg _ (by omega)
        have hi2 : ((k : Int) + r) % len0 < len0 := Int.emod_lt_of_pos _ (by omega)
        go_wp2_with (at_builtin; refine wpList_append_own_at _ rfl _ _ 29 rfl w.heap.size 2 i0 (.int .i64 0) 1 8 Try.underlying29 hi hz0 hz1 hz2 rfl (by decide) _ _ _ rfl (World.ownsRow.alloc hv _) ⟨wr.heap.size, 0, none⟩ 1 1 [.int .i64 x] rfl rfl (cell_one_new _ _ _) (by intro u hu; simp at hu; subst hu; rfl) (by unfold maxLen; omega) (by omega) (by simp; omega) ?_)
        intro u' w1 hown hgrow hnil hat
        obtain ⟨p1, -, -, p4, p5⟩ := Owns.push hB hv (Owns.nil w.heap.size wr) (.inl rfl) hb hown hgrow hat
        clear hown hgrow hnil hat hv hb hB hcell hr
        go_wp2
        go_roundw
        case rel => exact ⟨k + 1, by omega, by go_num, by rw [SN.out]; exact p1, p4, p5⟩
        case measure => simp [intOf]; omega
      · have hkm : k = len0 := by omega
        have ht : (rot xs r).take k = rot xs r := List.take_of_length_le (by rw [rot_length, HM.out]; omega)
        rw [ht] at hv
        clear ht HC hr
        have hl : (rot xs r).length ≤ 200 := by rw [rot_length, HM.out]; omega
        have hrf := rot_fits xs r HF.out
        have htr := tot_rot xs r
        generalize rot xs r = ys at *
        by_cases hn : -9223372036854775808 < n
        · have hn2 : n ≤ 9223372036854775807 := HNF.out.2
          have HRF := Lib.hid (fits_three ys n HNF.out hn hrf)
          have HTR := Lib.hid (tot_three ys n _ htr)
          have SQ := Lib.hid (fun (u : World) (h : Below wr.heap.size wr u) => Seq.below (Owns.seq hv) h)
          have NIL : Hid (∀ a c, u7 = .slice a ys.length c → a = none → c = 0) := Lib.hid (Owns.nil_cap hv)
          obtain ⟨a7, c7, hu7, -⟩ := Owns.seq hv
          have NIL' := Lib.hid (NIL.out a7 c7 hu7)
          subst hu7
          clear htr hrf hv NIL
          go_wp2_with fail
          refine (K1.out _ hb).mono ?_
          rintro e u ⟨rfl, rfl⟩
          have hga := hb.alloc hB (.cells #[.int .i64 n] 2)
          go_wp2_with (at_builtin; refine wpList_append_seq rfl (.tmp 52) (.tmp 53) rfl wr.heap.size rfl (Owns.one wr _ n (Nat.le_refl _)) rfl (SQ.out _ ((Below.refl _ _).alloc (Nat.le_refl _) _)) NIL'.out (by simp; omega) (by simp) ?_)
          intro v1 W3 hv1 hg3
          have hgb : Below w.heap.size w W3 := hga.grown hg3 (by have := hb.size; simp; omega) (by intro k hk; cases hk; exact hb.size)
          have hsz : wr.heap.size ≤ W3.heap.size := by have := hg3.size; simp at this; omega
          have hgd := hgb.alloc hgb.size (.cells #[.int .i64 (-n)] 2)
          have H1 := Lib.hid (World.ownsRow.alloc hv1 (.cells #[.int .i64 (-n)] 2))
          have hwsz := hb.size
          clear hg3 hga SQ NIL'
          go_wp2_with (at_builtin; refine wpList_append_seq rfl (.tmp 54) (.tmp 57) rfl wr.heap.size rfl H1.out rfl (Owns.seq (Owns.one W3 wr.heap.size (-n) hsz)) (by simp) (by simp; omega) (by simp; omega) ?_)
          intro v2 W4 hv2 hg4
          have hgc : Below w.heap.size w W4 := hgd.grown hg4 (by simp; omega) (by intro k hk; have := (World.ownsRow.lt hv1 k hk).1; omega)
          change Owns wr.heap.size W4 v2 ([n] ++ ys ++ [-n]) at hv2
          have K3 := Lib.hid (tot_seq (Owns.seq hv2) (by simp; omega) HRF.out)
          rw [HTR.out] at K3
          generalize sumV (tot xs) = q1 at *
          generalize sumE (tot xs) = q2 at *
          clear hgb hg4 hv1 hv2 hsz hgd H1
          go_wp2_with fail
          refine K3.out.mono ?_
          rintro e u ⟨rfl, rfl⟩
          go_wp2_with fail
          go_ret
          exact ⟨rfl, hgc⟩
        · have K3 := Lib.hid (tot_seq (Owns.seq hv) (by omega) hrf)
          rw [htr] at K3
          generalize sumV (tot xs) = q1 at *
          generalize sumE (tot xs) = q2 at *
          clear hv htr hrf
          go_wp2_with fail
          refine (K1.out _ hb).mono ?_
          rintro e u ⟨rfl, rfl⟩
          go_wp2_with fail
          refine K3.out.mono ?_
          rintro e u ⟨rfl, rfl⟩
          go_wp2_with fail
          go_ret
          exact ⟨rfl, hb⟩
  · obtain ⟨r, hr, hrl⟩ : ∃ r : Nat, (IntKind.u64.wrap turn).tmod 200 = (r : Int) ∧ r < 200 := turn_rem turn 200 (by omega)
    go_enter Try.func5, Try.ntmps5
    go_wp2_with fail
    refine (awake_any _).mono ?_
    rintro e w' ⟨rfl, hg0, -⟩
    go_wp2_with fail
    go_loopw [7, 8] (fun v i wr => ∃ k : Nat, k ≤ 200 ∧ i = .int .i64 k ∧ Owns w.heap.size wr v ((rot xs r).take k) ∧ Below w.heap.size w wr ∧ w.heap.size ≤ wr.heap.size)
      (fun _ i _ => 200 - (intOf i).toNat)
    case atStart => exact ⟨0, Nat.zero_le _, rfl, Owns.nil _ _, hg0, hg0.size⟩
    case round =>
      clear hg0
      obtain ⟨k, hk, rfl, hv, hb, hB⟩ := hrel
      by_cases h1 : k < 200
      · have hmod : (k + r) % 200 < 200 := Nat.mod_lt _ (by omega)
        have hcell : wr.cell? ⟨b, off + (k + r) % 200, none⟩ = some (.int .i64 (xs.getD ((k + r) % 200) 0)) := (hb.cell (p := ⟨b, off + (k + r) % 200, none⟩) hbB).trans (HC.out _ (by rw [HM.out]; exact hmod))
        have hsn := take_snoc (rot xs r) k (by rw [rot_length, HM.out]; exact h1)
        rw [rot_getD xs r k (by rw [HM.out]; exact hrl) (by rw [HM.out]; exact h1), HM.out] at hsn
        have hl : ((rot xs r).take k).length ≤ k := List.length_take_le _ _
        generalize xs.getD ((k + r) % 200) 0 = x at *
        generalize hfl : (rot xs r).take k = fl at *
        have SN := Lib.hid hsn
        clear hfl hsn
        obtain ⟨i0, hi, hz0, hz1, hz2⟩ := info_parts info2'
        have hi1 : 0 ≤ ((k : Int) + r) % (200 : Int) := Int.emod_nonneg _ (by omega)
        have hi2 : ((k : Int) + r) % (200 : Int) < (200 : Int) := Int.emod_lt_of_pos _ (by omega)
        go_wp2_with (at_builtin; refine wpList_append_own_at _ rfl _ _ 29 rfl w.heap.size 2 i0 (.int .i64 0) 1 8 Try.underlying29 hi hz0 hz1 hz2 rfl (by decide) _ _ _ rfl (World.ownsRow.alloc hv _) ⟨wr.heap.size, 0, none⟩ 1 1 [.int .i64 x] rfl rfl (cell_one_new _ _ _) (by intro u hu; simp at hu; subst hu; rfl) (by unfold maxLen; omega) (by omega) (by simp; omega) ?_)
        intro u' w1 hown hgrow hnil hat
        obtain ⟨p1, -, -, p4, p5⟩ := Owns.push hB hv (Owns.nil w.heap.size wr) (.inl rfl) hb hown hgrow hat
        clear hown hgrow hnil hat hv hb hB hcell hr
        go_wp2
        go_roundw
        case rel => exact ⟨k + 1, by omega, by go_num, by rw [SN.out]; exact p1, p4, p5⟩
        case measure => simp [intOf]; omega
      · have hkm : k = 200 := by omega
        have ht : (rot xs r).take k = rot xs r := List.take_of_length_le (by rw [rot_length, HM.out]; omega)
        rw [ht] at hv
        clear ht HC hr
        have hl : (rot xs r).length ≤ 200 := by rw [rot_length, HM.out]; omega
        have hrf := rot_fits xs r HF.out
        have htr := tot_rot xs r
        generalize rot xs r = ys at *
        by_cases hn : -9223372036854775808 < n
        · have hn2 : n ≤ 9223372036854775807 := HNF.out.2
          have HRF := Lib.hid (fits_three ys n HNF.out hn hrf)
          have HTR := Lib.hid (tot_three ys n _ htr)
          have SQ := Lib.hid (fun (u : World) (h : Below wr.heap.size wr u) => Seq.below (Owns.seq hv) h)
          have NIL : Hid (∀ a c, u7 = .slice a ys.length c → a = none → c = 0) := Lib.hid (Owns.nil_cap hv)
          obtain ⟨a7, c7, hu7, -⟩ := Owns.seq hv
          have NIL' := Lib.hid (NIL.out a7 c7 hu7)
          subst hu7
          clear htr hrf hv NIL
          go_wp2_with fail
          refine (K1.out _ hb).mono ?_
          rintro e u ⟨rfl, rfl⟩
          have hga := hb.alloc hB (.cells #[.int .i64 n] 2)
          go_wp2_with (at_builtin; refine wpList_append_seq rfl (.tmp 52) (.tmp 53) rfl wr.heap.size rfl (Owns.one wr _ n (Nat.le_refl _)) rfl (SQ.out _ ((Below.refl _ _).alloc (Nat.le_refl _) _)) NIL'.out (by simp; omega) (by simp) ?_)
          intro v1 W3 hv1 hg3
          have hgb : Below w.heap.size w W3 := hga.grown hg3 (by have := hb.size; simp; omega) (by intro k hk; cases hk; exact hb.size)
          have hsz : wr.heap.size ≤ W3.heap.size := by have := hg3.size; simp at this; omega
          have hgd := hgb.alloc hgb.size (.cells #[.int .i64 (-n)] 2)
          have H1 := Lib.hid (World.ownsRow.alloc hv1 (.cells #[.int .i64 (-n)] 2))
          have hwsz := hb.size
          clear hg3 hga SQ NIL'
          go_wp2_with (at_builtin; refine wpList_append_seq rfl (.tmp 54) (.tmp 57) rfl wr.heap.size rfl H1.out rfl (Owns.seq (Owns.one W3 wr.heap.size (-n) hsz)) (by simp) (by simp; omega) (by simp; omega) ?_)
          intro v2 W4 hv2 hg4
          have hgc : Below w.heap.size w W4 := hgd.grown hg4 (by simp; omega) (by intro k hk; have := (World.ownsRow.lt hv1 k hk).1; omega)
          change Owns wr.heap.size W4 v2 ([n] ++ ys ++ [-n]) at hv2
          have K3 := Lib.hid (tot_seq (Owns.seq hv2) (by simp; omega) HRF.out)
          rw [HTR.out] at K3
          generalize sumV (tot xs) = q1 at *
          generalize sumE (tot xs) = q2 at *
          clear hgb hg4 hv1 hv2 hsz hgd H1
          go_wp2_with fail
          refine K3.out.mono ?_
          rintro e u ⟨rfl, rfl⟩
          go_wp2_with fail
          go_ret
          exact ⟨rfl, hgc⟩
        · have K3 := Lib.hid (tot_seq (Owns.seq hv) (by omega) hrf)
          rw [htr] at K3
          generalize sumV (tot xs) = q1 at *
          generalize sumE (tot xs) = q2 at *
          clear hv htr hrf
          go_wp2_with fail
          refine (K1.out _ hb).mono ?_
          rintro e u ⟨rfl, rfl⟩
          go_wp2_with fail
          refine K3.out.mono ?_
          rintro e u ⟨rfl, rfl⟩
          go_wp2_with fail
          go_ret
          exact ⟨rfl, hb⟩

set_option maxRecDepth 100000 in
theorem total_none (a : Option Addr) (cap : Nat) (turn n : Int) (w : World) (HNF : Hid (fits n)) :
    Calls Try.prog 5 #[.slice a 0 cap, .int .i64 turn, .int .i64 n] w fun e w' => e = .returned (.bool true) ∧ Below w.heap.size w w' := by
  have K := Lib.hid (fun (a : Option Addr) (cap : Nat) (u : World) => tot_none' a cap u)
  by_cases hn : -9223372036854775808 < n
  · have hn2 : n ≤ 9223372036854775807 := HNF.out.2
    have HRF := Lib.hid (fits_three [] n HNF.out hn (by simp))
    have HTR := Lib.hid (tot_three [] n _ tot_nil)
    go_enter Try.func5, Try.ntmps5
    go_wp2_with fail
    refine (awake_any _).mono ?_
    rintro e wr ⟨rfl, hb, -⟩
    go_wp2_with fail
    go_loop [7, 8] (fun v i => i = .int .i64 0 ∧ v = .slice none 0 0) (fun _ _ => 0)
    case atStart => exact ⟨rfl, rfl⟩
    case round =>
      obtain ⟨rfl, rfl⟩ := hrel
      go_wp2_with fail
      refine (K.out _ _ _).mono ?_
      rintro e u ⟨rfl, rfl⟩
      have hga := hb.alloc hb.size (.cells #[.int .i64 n] 2)
      go_wp2_with (at_builtin; refine wpList_append_seq rfl (.tmp 52) (.tmp 53) rfl wr.heap.size rfl (Owns.one wr _ n (Nat.le_refl _)) rfl (Seq.nil _ none 0 (Nat.zero_le _)) (fun _ => rfl) (by simp) (by simp) ?_)
      intro v1 W3 hv1 hg3
      have hgb : Below w.heap.size w W3 := hga.grown hg3 (by have := hb.size; simp; omega) (by intro k hk; cases hk; exact hb.size)
      have hsz : wr.heap.size ≤ W3.heap.size := by have := hg3.size; simp at this; omega
      have hgd := hgb.alloc hgb.size (.cells #[.int .i64 (-n)] 2)
      have H1 := Lib.hid (World.ownsRow.alloc hv1 (.cells #[.int .i64 (-n)] 2))
      have hwsz := hb.size
      clear hg3 hga
      go_wp2_with (at_builtin; refine wpList_append_seq rfl (.tmp 54) (.tmp 57) rfl wr.heap.size rfl H1.out rfl (Owns.seq (Owns.one W3 wr.heap.size (-n) hsz)) (by simp) (by simp) (by simp; omega) ?_)
      intro v2 W4 hv2 hg4
      have hgc : Below w.heap.size w W4 := hgd.grown hg4 (by simp; omega) (by intro k hk; have := (World.ownsRow.lt hv1 k hk).1; omega)
      have K3 := Lib.hid (tot_seq (xs := [n] ++ [] ++ [-n]) (Owns.seq hv2) (by simp) HRF.out)
      rw [HTR.out, show sumV 0 = 0 from rfl, show sumE 0 = 0 from rfl] at K3
      clear hgb hg4 hv1 hv2 hsz hgd H1
      go_wp2_with fail
      refine K3.out.mono ?_
      rintro e u ⟨rfl, rfl⟩
      go_wp2_with fail
      go_ret
      exact ⟨rfl, hgc⟩
  · go_enter Try.func5, Try.ntmps5
    go_wp2_with fail
    refine (awake_any _).mono ?_
    rintro e wr ⟨rfl, hb, -⟩
    go_wp2_with fail
    go_loop [7, 8] (fun v i => i = .int .i64 0 ∧ v = .slice none 0 0) (fun _ _ => 0)
    case atStart => exact ⟨rfl, rfl⟩
    case round =>
      obtain ⟨rfl, rfl⟩ := hrel
      go_wp2_with fail
      refine (K.out _ _ _).mono ?_
      rintro e u ⟨rfl, rfl⟩
      go_wp2_with fail
      refine (K.out _ _ _).mono ?_
      rintro e u ⟨rfl, rfl⟩
      go_wp2_with fail
      go_ret
      exact ⟨rfl, hb⟩

theorem walk (a0 : Option Addr) (len0 cap0 : Nat) (z0 : List Int) (a1 : Int) (a2 : Int) (w : World) (w0 : IsRow .i64 w a0 len0 cap0 z0) (w1 : (Lit.int .i64 a1).wf = true) (w2 : (Lit.int .i64 a2).wf = true) :
    Calls Try.prog 5 #[.slice a0 len0 cap0, .int .i64 a1, .int .i64 a2] w fun e w' => e = .returned (.bool true) ∧ Below w.heap.size w w' := by
  have f1 : fits a1 := by simpa [Lit.wf, IntKind.min, IntKind.max, IntKind.signed, IntKind.bits, fits] using w1
  have f2 : fits a2 := by simpa [Lit.wf, IntKind.min, IntKind.max, IntKind.signed, IntKind.bits, fits] using w2
  obtain ⟨xs, m, c, hm, hs, hl, hlc, hn, hf⟩ := row_cut w0 200
  by_cases hp : 0 < m
  · obtain ⟨a, cap, hv, h1, h2, h3⟩ := id hs
    obtain ⟨b, off, rfl, hc⟩ := h3 (by omega)
    simp only [Value.slice.injEq] at hv
    obtain ⟨rfl, -, -⟩ := hv
    exact total_some b off cap0 len0 m xs a1 a2 w hlc hp c hm hs hc hf f1 f2
  · obtain rfl : len0 = 0 := by omega
    exact total_none a0 cap0 a1 a2 w (Lib.hid f2)

set_option maxRecDepth 100000 in
theorem lifted (os : Os) (started : os.Started) (H : Type) (enc : TypeId × Value → H) :
    ReturnsInHanded {} Try.checked os 5 .any (Rows.numTotalSpec.pre6 enc Try.prog Try.f5 Rows.numTotalRow.domain false) (Rows.numTotalSpec.post enc Try.prog Try.f5 false true false false) := by
  refine returnsInHanded_of_change (C := Try.checked) own started (by kernel_rfl) Try.func5
    (ChangeSpec.witness6 (enc := enc) (C := Try.checked) false ⟨#[], #[.slice none 0 0, .int .i64 0, .int .i64 0], []⟩ 8 (by kernel_rfl) (by kernel_rfl) (by kernel_rfl) (by kernel_rfl)) ?_
  intro W base args ds gs before hval0 hW hcnd _
  have hval : ∀ (j : Nat) t v, Try.f5.params[j]? = some t → args[j]? = some v → Value.okWide Try.prog W .any base t v := hval0
  have hW' := hW
  obtain ⟨p, q, hA0, hV, rfl, hfz, hnd⟩ := hW
  have hA : DataW.TrodAll enc Try.prog W 0 (fun _ => true) true Try.f5.params.toList args.toList ds p := hA0
  rw [Try.params5] at hA hval
  obtain ⟨v0, vs0, d0, ds0, p0, q0, hargs, rfl, rfl, h0, r0⟩ := trodAll_cons hA
  obtain ⟨v1, vs1, d1, ds1, p1, q1, rfl, rfl, rfl, h1, r1⟩ := trodAll_cons r0
  obtain ⟨v2, vs2, d2, ds2, p2, q2, rfl, rfl, rfl, h2, r2⟩ := trodAll_cons r1
  obtain ⟨rfl, rfl, rfl⟩ := trodAll_nil r2
  obtain rfl : args = #[v0, v1, v2] := by cases args; simp_all
  obtain ⟨rfl, rfl⟩ := trodVars_none hV
  obtain ⟨a0, len0, cap0, rfl⟩ := okWide_slice Try.underlying29 (hval 0 29 v0 rfl rfl)
  have k0 := h0
  have lt0 : ∀ x ∈ p0, x.block < W.heap.size := by obtain ⟨m, hm⟩ := k0; exact DataW.trod_lt m _ _ _ hm
  obtain ⟨z0, w0⟩ : ∃ zs, IsRow .i64 W a0 len0 cap0 zs := by
    obtain ⟨fuel, hf⟩ := h0
    rcases open_ints Try.underlying29 Try.underlying2 (by kernel_rfl) hf with ⟨hcs, _⟩ | ⟨x, l, c, zs, hcs, _, hl, hm, hz, _, hcell, hwz⟩
    · simp [Value.cells] at hcs
      obtain ⟨rfl, rfl, rfl⟩ := hcs
      exact ⟨[], .inl ⟨rfl, rfl, rfl, rfl⟩⟩
    · simp [Value.cells] at hcs
      obtain ⟨rfl, rfl, rfl⟩ := hcs
      exact ⟨zs, .inr ⟨_, rfl, hl, hm, by simpa using hz, hcell, hwz⟩⟩
  obtain ⟨a1, rfl, rfl, rfl, w1⟩ := open_int Try.underlying3 (hval 1 3 v1 rfl rfl) h1
  obtain ⟨a2, rfl, rfl, rfl, w2⟩ := open_int Try.underlying2 (hval 2 2 v2 rfl rfl) h2
  clear hA0 hval0
  refine (walk a0 len0 cap0 z0 a1 a2 W w0 w1 w2).mono fun e W' ⟨he, bel⟩ => ?_
  subst he
  exact ⟨_, rfl, _, _, _, [], _, [], hW', trodAll_mk1 (shut_bool Try.underlying4 _), (trodAll_cons_mk (Below.trod laidOut (by kernel_rfl) (of_decide_eq_true (by kernel_rfl)) k0 bel lt0) (trodAll_cons_mk (shut_int Try.underlying3 w1) (trodAll_cons_mk (shut_int Try.underlying2 w2) trodAll_mk0))), rfl, bel.frame _, fun h => by cases h⟩

theorem over : Rows.numTotalRow.holds Try.pinned (OpenSpec.ofChange Rows.numTotalSpec) :=
  OpenClaim.holds_of_wide 5 Try.f5 rfl rfl rfl rfl rfl rfl rfl ⟨rfl, rfl, rfl, rfl, rfl⟩ rfl rfl rfl rfl rfl (by kernel_rfl) Try.func5 (by kernel_rfl)
    (of_decide_eq_true (by kernel_rfl)) (by unfold Func.isWrapper; first | (rw [if_pos (by decide +kernel)]; kernel_rfl) | (rw [if_neg (by decide +kernel)]; exact ⟨rfl, rfl⟩))
    (fun os started H enc _ => lifted os started H enc)

/-- the given statement -/
theorem proved : Rows.NumTotalSaid := over
#print axioms proved
end Go.Proofs.Ytboaigkieammaaa.numTotal
