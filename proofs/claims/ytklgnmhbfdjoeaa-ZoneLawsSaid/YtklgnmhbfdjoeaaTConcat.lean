/- What slices.Grow of nil and slices.Concat leave, for texts (turned out of words/XConcat; the seat must have [][]string). -/
import Derived.Test.YtklgnmhbfdjoeaaTWords
import Derived.Lib.AppendZeros
import Derived.WalkSpells
namespace Go.Proofs.Ytklgnmhbfdjoeaa
open Go.RowKit Plain
set_option linter.unusedVariables false

/-- the first k of them, one behind the other -/
def flatT (f : Nat → List Txt) : Nat → List Txt
  | 0 => []
  | k + 1 => flatT f k ++ f k
theorem flatT_len (f : Nat → List Txt) (k n : Nat) (h : k ≤ n) : (flatT f k).length ≤ (flatT f n).length := by
  induction n with
  | zero => obtain rfl : k = 0 := by omega
            exact Nat.le_refl _
  | succ n ih =>
    by_cases e : k = n + 1
    · subst e; exact Nat.le_refl _
    · have := ih (by omega)
      rw [flatT, List.length_append]; omega

set_option maxHeartbeats 1000000 in
theorem growT_nil (n : Nat) (hn : n ≤ 1073741824) (w : World) : Calls Try.prog 45 #[.slice none 0 0, .int .i64 n] w (MadeT w []) := by
  obtain ⟨i0, hi, hz0, hz1, hz2⟩ := info_parts infoT
  by_cases h0 : n = 0
  · subst h0
    go_enter Try.func45, Try.ntmps45
    go_wp2_with fail
    go_ret
    exact ⟨_, rfl, OwnsT.nil _ _, Below.refl _ _⟩
  · have hp : 0 < n := by omega
    have hr := Lib.run_append_nil_zeros (P := Try.prog) w 22 3 22 9 i0 (.string ByteArray.empty) .i64 .i64 Try.underlying22 Try.underlying3 hi hz0 n hp (by omega) (by omega) (by rw [hz2]; omega)
    have hge := grownCap_ge w n 0 9
    have hcm : grownCap w n 0 9 ≤ maxLen := grownCap_le_maxLen w n 0 9 (by unfold maxLen; omega)
    have hO : OwnsT w.heap.size (w.drew.alloc (.cells (Builtin.zeroCells (Value.string ByteArray.empty).cells n ++ Builtin.zeroCells (Value.string ByteArray.empty).cells (grownCap w n 0 9 - n)) 9)) (.slice (some ⟨w.heap.size, 0, none⟩) 0 (grownCap w n 0 9)) [] := by
      refine World.ownsRow_made w.drew _ _ (Nat.le_refl _) hcm ?_
      have hz1 : (Value.string ByteArray.empty).cells.size = 1 := rfl
      simp only [Array.size_append, size_zeroCells, hz1]
      omega
    have hB : Below w.heap.size w (w.drew.alloc (.cells (Builtin.zeroCells (Value.string ByteArray.empty).cells n ++ Builtin.zeroCells (Value.string ByteArray.empty).cells (grownCap w n 0 9 - n)) 9)) := (Below.refl _ _).drew.alloc (Nat.le_refl _) _
    have HO := Lib.hid hO
    have HB := Lib.hid hB
    have HR := Lib.hid hr
    have hm : maxLen = 9223372036854775807 := rfl
    rw [hm] at hcm
    clear hO hB hr hz0 hz1 hz2 hi hm h0
    generalize hG : grownCap w n 0 9 = G at *
    clear hG
    go_enter Try.func45, Try.ntmps45
    go_wp2_with (at_builtin; refine Lib.wpList_append_run _ rfl _ _ _ _ rfl _ _ rfl rfl _ _ HR.out ?_)
    go_ret
    exact ⟨_, rfl, HO.out, HB.out⟩

set_option maxHeartbeats 2000000 in
/-- slices.Concat: what all of them read as, one behind the other, in a slice of the call's own -/
theorem concatT_any (b n c : Nat) (vs : Nat → Value) (f : Nat → List Txt) (w : World) (hn : n ≤ 1000) (hc : ∀ j, j < n → w.cell? ⟨b, j, none⟩ = some (vs j)) (hs : ∀ j, j < n → SeqT w (vs j) (f j)) (hlen : (flatT f n).length ≤ 1000000000) :
    Calls Try.prog 34 #[.slice (some ⟨b, 0, none⟩) n c] w (MadeT w (flatT f n)) := by
  have HC := Lib.hid hc
  have HS := Lib.hid hs
  clear hc hs
  go_enter Try.func34, Try.ntmps34
  go_wp2_with fail
  go_loop [3, 11] (fun s i => ∃ k : Nat, k ≤ n ∧ i = .int .i64 k ∧ s = .int .i64 (flatT f k).length) (fun _ i => n - (intOf i).toNat)
  case atStart => exact ⟨0, Nat.zero_le _, rfl, rfl⟩
  case round =>
    obtain ⟨k, hk, rfl, rfl⟩ := hrel
    have hl := flatT_len f k n hk
    by_cases hlt : k < n
    · have hcell := HC.out k hlt
      obtain ⟨a, cap, hv, h1, h2, h0, hs⟩ := (HS.out k hlt).parts
      rw [hv] at hcell
      have hl' := flatT_len f (k + 1) n (by omega)
      have e : (flatT f (k + 1)).length = (flatT f k).length + (f k).length := by rw [flatT, List.length_append]
      have E := Lib.hid e
      have hl2 : (flatT f k).length + (f k).length ≤ 1000000000 := by omega
      clear h0 hs hv e hl'
      go_wp2_with fail
      go_round
      case rel => exact ⟨k + 1, by omega, by go_num, by rw [E.out]; go_num⟩
      case measure => simp [intOf]; omega
    · obtain rfl : k = n := by omega
      go_wp2_with fail
      refine (growT_nil _ (by omega) _).mono ?_
      rintro e w1 ⟨v1, rfl, ho1, hb1⟩
      have O1 := Lib.hid ho1
      clear ho1
      go_wp2_with fail
      go_loopw [6, 27] (fun v i wr => ∃ j : Nat, j ≤ k ∧ i = .int .i64 j ∧ OwnsT w.heap.size wr v (flatT f j) ∧ Below w.heap.size w wr) (fun _ i _ => k - (intOf i).toNat)
      case atStart => exact ⟨0, Nat.zero_le _, rfl, O1.out, hb1⟩
      case round =>
        obtain ⟨j, hj, rfl, ho, hb⟩ := hrel
        have hl3 := flatT_len f j k hj
        by_cases hlt : j < k
        · have hcell0 := HC.out j hlt
          have hblt : b < w.heap.size := World.block_lt_of_cell? w ⟨b, j, none⟩ hcell0
          obtain ⟨a, cap, hv, h1, h2, h0, hs⟩ := (HS.out j hlt).parts
          rw [hv] at hcell0
          have hcell := (hb.cell (p := ⟨b, j, none⟩) hblt).trans hcell0
          have hl' := flatT_len f (j + 1) k (by omega)
          have E : Hid (flatT f (j + 1) = flatT f j ++ f j) := Lib.hid rfl
          have hl2 : (flatT f j).length + (f j).length ≤ 1000000000 := by rw [E.out, List.length_append] at hl'; omega
          have hsz := hb.size
          have S1 := Lib.hid (SeqT.below hs hb)
          have O2 := Lib.hid ho
          have B2 := Lib.hid hb
          clear h0 hs hv hl' ho hb hcell0
          go_wp2_with (at_builtin; refine wpList_append_texts rfl (.tmp 31) (.tmp 32) rfl w.heap.size rfl O2.out rfl S1.out (by omega) (by omega) ?_)
          intro v2 w2 ho2 hg2 _
          have hb2 : Below w.heap.size w w2 := B2.out.grown hg2 (by omega) (fun k hk => (O2.out.lt k hk).1)
          have O3 := Lib.hid ho2
          clear ho2 hg2 hcell
          go_wp2_with fail
          go_roundw
          case rel => exact ⟨j + 1, by omega, by go_num, by rw [E.out]; exact O3.out, hb2⟩
          case measure => simp [intOf]; omega
        · obtain rfl : j = k := by omega
          have O2 := Lib.hid ho
          clear ho
          go_wp2_with fail
          go_ret
          exact ⟨_, rfl, O2.out, hb⟩

/-- two parts -/
theorem concatT_two (b c : Nat) {u v : Value} {xs ys : List Txt} (w : World) (h0 : w.cell? ⟨b, 0, none⟩ = some u) (h1 : w.cell? ⟨b, 1, none⟩ = some v) (hu : SeqT w u xs) (hv : SeqT w v ys) (hlen : xs.length + ys.length ≤ 1000000000) :
    Calls Try.prog 34 #[.slice (some ⟨b, 0, none⟩) 2 c] w (MadeT w (xs ++ ys)) := by
  have h := concatT_any b 2 c (fun j => if j = 0 then u else v) (fun j => if j = 0 then xs else ys) w (by omega)
    (fun j hj => by match j, hj with | 0, _ => exact h0 | 1, _ => exact h1) (fun j hj => by match j, hj with | 0, _ => exact hu | 1, _ => exact hv) (by simp [flatT]; omega)
  simpa [flatT] using h
/-- three parts -/
theorem concatT_three (b c : Nat) {u v x : Value} {xs ys zs : List Txt} (w : World) (h0 : w.cell? ⟨b, 0, none⟩ = some u) (h1 : w.cell? ⟨b, 1, none⟩ = some v) (h2 : w.cell? ⟨b, 2, none⟩ = some x) (hu : SeqT w u xs) (hv : SeqT w v ys) (hx : SeqT w x zs) (hlen : xs.length + ys.length + zs.length ≤ 1000000000) :
    Calls Try.prog 34 #[.slice (some ⟨b, 0, none⟩) 3 c] w (MadeT w (xs ++ (ys ++ zs))) := by
  have h := concatT_any b 3 c (fun j => if j = 0 then u else if j = 1 then v else x) (fun j => if j = 0 then xs else if j = 1 then ys else zs) w (by omega)
    (fun j hj => by match j, hj with | 0, _ => exact h0 | 1, _ => exact h1 | 2, _ => exact h2) (fun j hj => by match j, hj with | 0, _ => exact hu | 1, _ => exact hv | 2, _ => exact hx) (by simp [flatT]; omega)
  simpa [flatT, List.append_assoc] using h


end Go.Proofs.Ytklgnmhbfdjoeaa
