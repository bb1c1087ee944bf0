/- What slices.Grow of nil and slices.Concat leave, for bytes (the seat must have [][]uint8). -/
import Derived.Test.YtehlbddcgnclaaaDoorWords
import Derived.Lib.AppendZeros
import Derived.WalkSpells
namespace Go.Proofs.YtehlbddcgnclaaaDoor
open Go.RowKit Plain
set_option linter.unusedVariables false

/-- the first k of them, one behind the other -/
def flat (f : Nat → Bytes) : Nat → Bytes
  | 0 => []
  | k + 1 => flat f k ++ f k
theorem flat_len (f : Nat → Bytes) (k n : Nat) (h : k ≤ n) : (flat f k).length ≤ (flat f n).length := by
  induction n with
  | zero => obtain rfl : k = 0 := by omega
            exact Nat.le_refl _
  | succ n ih =>
    by_cases e : k = n + 1
    · subst e; exact Nat.le_refl _
    · have := ih (by omega)
      rw [flat, List.length_append]; omega

set_option maxHeartbeats 1000000 in
theorem grow_nil (n : Nat) (hn : n ≤ 1073741824) (w : World) : Calls Tryd.prog 36 #[.slice none 0 0, .int .i64 n] w (Made w []) := by
  obtain ⟨i0, hi, hz0, hz1, hz2⟩ := info_parts info2'
  by_cases h0 : n = 0
  · subst h0
    go_enter Tryd.func36, Tryd.ntmps36
    go_wp2_with fail
    go_ret
    exact ⟨_, rfl, Owns.nil _ _, Below.refl _ _⟩
  · have hp : 0 < n := by omega
    have hr := Lib.run_append_nil_zeros (P := Tryd.prog) w 22 3 22 5 i0 (.int .u8 0) .i64 .i64 Tryd.underlying22 Tryd.underlying3 hi hz0 n hp (by omega) (by omega) (by rw [hz2]; omega)
    have hge := grownCap_ge w n 0 5
    have hcm : grownCap w n 0 5 ≤ maxLen := grownCap_le_maxLen w n 0 5 (by unfold maxLen; omega)
    have hO : Owns w.heap.size (w.drew.alloc (.cells (Builtin.zeroCells (Value.int .u8 0).cells n ++ Builtin.zeroCells (Value.int .u8 0).cells (grownCap w n 0 5 - n)) 5)) (.slice (some ⟨w.heap.size, 0, none⟩) 0 (grownCap w n 0 5)) [] := by
      refine World.ownsRow_made w.drew _ _ (Nat.le_refl _) hcm ?_
      have hz1 : (Value.int IntKind.u8 0).cells.size = 1 := rfl
      simp only [Array.size_append, size_zeroCells, hz1]
      omega
    have hB : Below w.heap.size w (w.drew.alloc (.cells (Builtin.zeroCells (Value.int .u8 0).cells n ++ Builtin.zeroCells (Value.int .u8 0).cells (grownCap w n 0 5 - n)) 5)) := (Below.refl _ _).drew.alloc (Nat.le_refl _) _
    have HO := Lib.hid hO
    have HB := Lib.hid hB
    have HR := Lib.hid hr
    have hm : maxLen = 9223372036854775807 := rfl
    rw [hm] at hcm
    clear hO hB hr hz0 hz1 hz2 hi hm h0
    generalize hG : grownCap w n 0 5 = G at *
    clear hG
    go_enter Tryd.func36, Tryd.ntmps36
    go_wp2_with (at_builtin; refine Lib.wpList_append_run _ rfl _ _ _ _ rfl _ _ rfl rfl _ _ HR.out ?_)
    go_ret
    exact ⟨_, rfl, HO.out, HB.out⟩

set_option maxHeartbeats 2000000 in
/-- slices.Concat: what all of them read as, one behind the other, in a slice of the call's own -/
theorem concat_any (b n c : Nat) (vs : Nat → Value) (f : Nat → Bytes) (w : World) (hn : n ≤ 1000) (hc : ∀ j, j < n → w.cell? ⟨b, j, none⟩ = some (vs j)) (hs : ∀ j, j < n → Seq w (vs j) (f j)) (hlen : (flat f n).length ≤ 1000000000) :
    Calls Tryd.prog 30 #[.slice (some ⟨b, 0, none⟩) n c] w (Made w (flat f n)) := by
  have HC := Lib.hid hc
  have HS := Lib.hid hs
  clear hc hs
  go_enter Tryd.func30, Tryd.ntmps30
  go_wp2_with fail
  go_loop [3, 11] (fun s i => ∃ k : Nat, k ≤ n ∧ i = .int .i64 k ∧ s = .int .i64 (flat f k).length) (fun _ i => n - (intOf i).toNat)
  case atStart => exact ⟨0, Nat.zero_le _, rfl, rfl⟩
  case round =>
    obtain ⟨k, hk, rfl, rfl⟩ := hrel
    have hl := flat_len f k n hk
    by_cases hlt : k < n
    · have hcell := HC.out k hlt
      obtain ⟨a, cap, hv, h1, h2, h0, hs⟩ := (HS.out k hlt).parts
      rw [hv] at hcell
      have hl' := flat_len f (k + 1) n (by omega)
      have e : (flat f (k + 1)).length = (flat f k).length + (f k).length := by rw [flat, List.length_append]
      have E := Lib.hid e
      have hl2 : (flat f k).length + (f k).length ≤ 1000000000 := by omega
      clear h0 hs hv e hl'
      go_wp2_with fail
      go_round
      case rel => exact ⟨k + 1, by omega, by go_num, by rw [E.out]; go_num⟩
      case measure => simp [intOf]; omega
    · obtain rfl : k = n := by omega
      go_wp2_with fail
      refine (grow_nil _ (by omega) _).mono ?_
      rintro e w1 ⟨v1, rfl, ho1, hb1⟩
      have O1 := Lib.hid ho1
      clear ho1
      go_wp2_with fail
      go_loopw [6, 27] (fun v i wr => ∃ j : Nat, j ≤ k ∧ i = .int .i64 j ∧ Owns w.heap.size wr v (flat f j) ∧ Below w.heap.size w wr) (fun _ i _ => k - (intOf i).toNat)
      case atStart => exact ⟨0, Nat.zero_le _, rfl, O1.out, hb1⟩
      case round =>
        obtain ⟨j, hj, rfl, ho, hb⟩ := hrel
        have hl3 := flat_len f j k hj
        by_cases hlt : j < k
        · have hcell0 := HC.out j hlt
          have hblt : b < w.heap.size := World.block_lt_of_cell? w ⟨b, j, none⟩ hcell0
          obtain ⟨a, cap, hv, h1, h2, h0, hs⟩ := (HS.out j hlt).parts
          rw [hv] at hcell0
          have hcell := (hb.cell (p := ⟨b, j, none⟩) hblt).trans hcell0
          have hl' := flat_len f (j + 1) k (by omega)
          have E : Hid (flat f (j + 1) = flat f j ++ f j) := Lib.hid rfl
          have hl2 : (flat f j).length + (f j).length ≤ 1000000000 := by rw [E.out, List.length_append] at hl'; omega
          have hsz := hb.size
          have S1 := Lib.hid (Seq.below hs hb)
          have O2 := Lib.hid ho
          have B2 := Lib.hid hb
          clear h0 hs hv hl' ho hb hcell0
          go_wp2_with (at_builtin; refine wpList_append_seq rfl (.tmp 31) (.tmp 32) rfl w.heap.size rfl O2.out rfl S1.out (by omega) (by omega) ?_)
          intro v2 w2 ho2 hg2 _
          have hb2 : Below w.heap.size w w2 := B2.out.grown hg2 (by omega) (fun k hk => (O2.out.lt k hk).1)
          have O3 := Lib.hid ho2
          clear ho2 hg2 hcell
          go_wp2_with fail
          go_roundw
          case rel => exact ⟨j + 1, by omega, by go_num, by rw [E.out]; exact O3.out, hb2⟩
          case measure => simp [intOf]; omega
        · obtain rfl : j = k := by omega
          have O2 := Lib.hid ho
          clear ho
          go_wp2_with fail
          go_ret
          exact ⟨_, rfl, O2.out, hb⟩

/-- two parts -/
theorem concat_two (b c : Nat) {u v : Value} {xs ys : Bytes} (w : World) (h0 : w.cell? ⟨b, 0, none⟩ = some u) (h1 : w.cell? ⟨b, 1, none⟩ = some v) (hu : Seq w u xs) (hv : Seq w v ys) (hlen : xs.length + ys.length ≤ 1000000000) :
    Calls Tryd.prog 30 #[.slice (some ⟨b, 0, none⟩) 2 c] w (Made w (xs ++ ys)) := by
  have h := concat_any b 2 c (fun j => if j = 0 then u else v) (fun j => if j = 0 then xs else ys) w (by omega)
    (fun j hj => by match j, hj with | 0, _ => exact h0 | 1, _ => exact h1) (fun j hj => by match j, hj with | 0, _ => exact hu | 1, _ => exact hv) (by simp [flat]; omega)
  simpa [flat] using h
/-- three parts -/
theorem concat_three (b c : Nat) {u v x : Value} {xs ys zs : Bytes} (w : World) (h0 : w.cell? ⟨b, 0, none⟩ = some u) (h1 : w.cell? ⟨b, 1, none⟩ = some v) (h2 : w.cell? ⟨b, 2, none⟩ = some x) (hu : Seq w u xs) (hv : Seq w v ys) (hx : Seq w x zs) (hlen : xs.length + ys.length + zs.length ≤ 1000000000) :
    Calls Tryd.prog 30 #[.slice (some ⟨b, 0, none⟩) 3 c] w (Made w (xs ++ (ys ++ zs))) := by
  have h := concat_any b 3 c (fun j => if j = 0 then u else if j = 1 then v else x) (fun j => if j = 0 then xs else if j = 1 then ys else zs) w (by omega)
    (fun j hj => by match j, hj with | 0, _ => exact h0 | 1, _ => exact h1 | 2, _ => exact h2) (fun j hj => by match j, hj with | 0, _ => exact hu | 1, _ => exact hv | 2, _ => exact hx) (by simp [flat]; omega)
  simpa [flat, List.append_assoc] using h


end Go.Proofs.YtehlbddcgnclaaaDoor
