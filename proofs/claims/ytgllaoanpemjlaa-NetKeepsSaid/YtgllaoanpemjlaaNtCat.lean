/- What slices.Grow of nil and slices.Concat of packets leave; bytes.Clone of anything. (The middle is past/XPaLists' text, turned.) -/
import Derived.Test.YtgllaoanpemjlaaNtCopy
import Derived.Lib.AppendZeros
import Derived.WalkSpells
namespace Go.Proofs.Ytgllaoanpemjlaa
open Go.RowKit Plain
set_option linter.unusedVariables false

set_option maxRecDepth 100000 in
set_option maxHeartbeats 1000000 in
/-- bytes.Clone -/
theorem byclone_any {v : Value} {xs : Bytes} {w : World} (hs : By.Seq w v xs) (hlen : xs.length ≤ 1000000) : Calls Try.prog 19 #[v] w (By.Made w xs) := by
  obtain ⟨a, cap, rfl, h1, h2, h0, hs⟩ := hs.parts
  cases a with
  | none =>
    obtain rfl := h0 rfl
    obtain rfl : xs = [] := List.eq_nil_of_length_eq_zero (by omega)
    have q22 : ∀ (w : World) (a : Option Addr) (n c n' c' : Nat), (binOp .eql 25 (.slice a n c) (.slice none n' c')).run Try.prog w = .ok (.bool a.isNone) w := fun w a n c n' c' => Lib.run_eql_slice_nil w _ _ a n c n' c' Try.underlying25
    clear hs h0
    go_enter Try.func19, Try.ntmps19
    go_wp2_with fail
    go_ret
    exact ⟨_, rfl, By.Owns.nil _ _, Below.refl _ _⟩
  | some ad => exact By.clone_some hs hlen

/-- what lies lower than a row of the call's own, is apart from it -/
theorem nown_room {α : Type} {L : El α} {N : Nat} {w : World} {v : Value} {xs : List α} (h : OwnE L N w v xs) (hN : N ≤ w.heap.size) : ∀ vs x, L.R (· < N) w vs x → L.R (fun b => b < w.heap.size ∧ v.ownBlock ≠ some b) w vs x :=
  fun vs x hr => L.mono hr fun b hb => ⟨Nat.lt_of_lt_of_le hb hN, fun e => by have := (h.lt b e).1; omega⟩
/-- the first k of them, one behind the other -/
def flatK (f : Nat → List PPkt) : Nat → List PPkt
  | 0 => []
  | k + 1 => flatK f k ++ f k
theorem flatK_len (f : Nat → List PPkt) (k n : Nat) (h : k ≤ n) : (flatK f k).length ≤ (flatK f n).length := by
  induction n with
  | zero =>
    obtain rfl : k = 0 := by omega
    exact Nat.le_refl _
  | succ n ih =>
    by_cases e : k = n + 1
    · subst e; exact Nat.le_refl _
    · have := ih (by omega)
      rw [flatK, List.length_append]; omega

set_option maxRecDepth 100000 in
set_option maxHeartbeats 4000000 in
theorem growK_nil (n : Nat) (hn : n ≤ 1073741824) (w : World) : Calls Try.prog 22 #[.slice none 0 0, .int .i64 n] w (MadeE LPkt w []) := by
  obtain ⟨i0, hi, hz0, hz1, hz2⟩ := info_el LPkt
  have hk8 : LPkt.k = 3 := rfl
  have hb88 : LPkt.bytes = 40 := rfl
  rw [hk8] at hz1
  rw [hb88] at hz2
  by_cases h0 : n = 0
  · subst h0
    go_enter Try.func22, Try.ntmps22
    go_wp2_with fail
    go_ret
    exact ⟨_, rfl, OwnE.nil _ _, Below.refl _ _⟩
  · have hp : 0 < n := by omega
    have hr := Lib.run_append_nil_zeros (P := Try.prog) w 22 3 22 27 i0 zeroPk .i64 .i64 Try.underlying22 Try.underlying3 hi hz0 n hp (by omega) (by omega) (by rw [hz2]; omega)
    have hge := grownCap_ge w n 0 27
    have hcm : grownCap w n 0 27 ≤ maxLen := grownCap_le_maxLen w n 0 27 (by unfold maxLen; omega)
    have hO : OwnE LPkt w.heap.size (w.drew.alloc (.cells (Builtin.zeroCells zeroPk.cells n ++ Builtin.zeroCells zeroPk.cells (grownCap w n 0 27 - n)) 27)) (.slice (some ⟨w.heap.size, 0, none⟩) 0 (grownCap w n 0 27)) [] := by
      refine ⟨[], World.ownsRow_made (size := 3) w.drew _ _ (Nat.le_refl _) hcm ?_, Rows.nil _ _⟩
      have hz1 : zeroPk.cells.size = 3 := rfl
      simp only [Array.size_append, size_zeroCells, hz1]
      omega
    have hB : Below w.heap.size w (w.drew.alloc (.cells (Builtin.zeroCells zeroPk.cells n ++ Builtin.zeroCells zeroPk.cells (grownCap w n 0 27 - n)) 27)) := (Below.refl _ _).drew.alloc (Nat.le_refl _) _
    have HO := Lib.hid hO
    have HB := Lib.hid hB
    have HR := Lib.hid hr
    have hm : maxLen = 9223372036854775807 := rfl
    rw [hm] at hcm
    clear hO hB hr hz0 hz1 hz2 hi hm h0
    generalize hG : grownCap w n 0 27 = G at *
    clear hG
    generalize (Builtin.zeroCells zeroPk.cells n ++ Builtin.zeroCells zeroPk.cells (G - n)) = Z at *
    go_enter Try.func22, Try.ntmps22
    go_wp2_with (at_builtin; refine Lib.wpList_append_run _ rfl _ _ _ _ rfl _ _ rfl rfl _ _ HR.out ?_)
    go_ret
    exact ⟨_, rfl, HO.out, HB.out⟩

set_option maxRecDepth 100000 in
set_option maxHeartbeats 4000000 in
/-- slices.Concat: what all of them read as, one behind the other, in a slice of the call's own -/
theorem concatK_any (b n c : Nat) (vs : Nat → Value) (f : Nat → List PPkt) (w : World) (hn : n ≤ 1000) (hc : ∀ j, j < n → w.cell? ⟨b, j, none⟩ = some (vs j)) (hs : ∀ j, j < n → SeqE LPkt w (vs j) (f j)) (hlen : (flatK f n).length ≤ 1000000000) :
    Calls Try.prog 21 #[.slice (some ⟨b, 0, none⟩) n c] w (MadeE LPkt w (flatK f n)) := by
  have HC := Lib.hid hc
  have HS := Lib.hid hs
  clear hc hs
  go_enter Try.func21, Try.ntmps21
  go_wp2_with fail
  go_loop [3, 11] (fun s i => ∃ k : Nat, k ≤ n ∧ i = .int .i64 k ∧ s = .int .i64 (flatK f k).length) (fun _ i => n - (intOf i).toNat)
  case atStart => exact ⟨0, Nat.zero_le _, rfl, rfl⟩
  case round =>
    obtain ⟨k, hk, rfl, rfl⟩ := hrel
    have hl := flatK_len f k n hk
    by_cases hlt : k < n
    · have hcell := HC.out k hlt
      obtain ⟨a, cap, hv, h1, h2, h0, hs⟩ := (HS.out k hlt).parts
      rw [hv] at hcell
      have hl' := flatK_len f (k + 1) n (by omega)
      have e : (flatK f (k + 1)).length = (flatK f k).length + (f k).length := by rw [flatK, List.length_append]
      have E := Lib.hid e
      have hl2 : (flatK f k).length + (f k).length ≤ 1000000000 := by omega
      clear h0 hs hv e hl'
      go_wp2_with fail
      go_round
      case rel => exact ⟨k + 1, by omega, by go_num, by rw [E.out]; go_num⟩
      case measure => simp [intOf]; omega
    · obtain rfl : k = n := by omega
      go_wp2_with fail
      refine (growK_nil _ (by omega) _).mono ?_
      rintro e w1 ⟨v1, rfl, ho1, hb1⟩
      have O1 := Lib.hid ho1
      clear ho1
      go_wp2_with fail
      go_loopw [6, 27] (fun v i wr => ∃ j : Nat, j ≤ k ∧ i = .int .i64 j ∧ OwnE LPkt w.heap.size wr v (flatK f j) ∧ Below w.heap.size w wr) (fun _ i _ => k - (intOf i).toNat)
      case atStart => exact ⟨0, Nat.zero_le _, rfl, O1.out, hb1⟩
      case round =>
        obtain ⟨j, hj, rfl, ho, hb⟩ := hrel
        have hl3 := flatK_len f j k hj
        by_cases hlt : j < k
        · have hcell0 := HC.out j hlt
          have hblt : b < w.heap.size := World.block_lt_of_cell? w ⟨b, j, none⟩ hcell0
          obtain ⟨a, cap, hv, h1, h2, h0, hs⟩ := (HS.out j hlt).parts
          rw [hv] at hcell0
          have hcell := (hb.cell (p := ⟨b, j, none⟩) hblt).trans hcell0
          have hl' := flatK_len f (j + 1) k (by omega)
          have E : Hid (flatK f (j + 1) = flatK f j ++ f j) := Lib.hid rfl
          have hl2 : (flatK f j).length + (f j).length ≤ 1000000000 := by rw [E.out, List.length_append] at hl'; omega
          have hsz := hb.size
          have S1 : Hid (Sq LPkt (· < w.heap.size) wr (.slice a (f j).length cap) (f j)) := Lib.hid (Sq.agree hs fun b hl => hb.block b hl)
          have O2 := Lib.hid ho
          have B2 := Lib.hid hb
          clear h0 hs hv hl' ho hb hcell0
          go_wp2_with (at_builtin; refine wpList_append_el LPkt rfl (.tmp 31) (.tmp 32) rfl w.heap.size rfl O2.out rfl S1.out (nown_room O2.out hsz) (by omega) (by omega) ?_)
          intro v2 w2 ho2 hg2 _
          have hb2 : Below w.heap.size w w2 := B2.out.grown hg2 (by omega) (fun k hk => (O2.out.lt k hk).1)
          have O3 := Lib.hid ho2
          clear ho2 hg2 hcell
          go_wp2_with fail
          go_roundw
          case rel => exact ⟨j + 1, by omega, by go_num, by rw [E.out]; exact O3.out, hb2⟩
          case measure => simp [intOf]; omega
        · obtain rfl : j = k := by omega
          have O2 := Lib.hid ho
          clear ho
          go_wp2_with fail
          go_ret
          exact ⟨_, rfl, O2.out, hb⟩

/-- two parts -/
theorem concatK_two (b c : Nat) {u v : Value} {xs ys : List PPkt} (w : World) (h0 : w.cell? ⟨b, 0, none⟩ = some u) (h1 : w.cell? ⟨b, 1, none⟩ = some v) (hu : SeqE LPkt w u xs) (hv : SeqE LPkt w v ys) (hlen : xs.length + ys.length ≤ 1000000000) :
    Calls Try.prog 21 #[.slice (some ⟨b, 0, none⟩) 2 c] w (MadeE LPkt w (xs ++ ys)) := by
  have h := concatK_any b 2 c (fun j => if j = 0 then u else v) (fun j => if j = 0 then xs else ys) w (by omega)
    (fun j hj => by match j, hj with | 0, _ => exact h0 | 1, _ => exact h1) (fun j hj => by match j, hj with | 0, _ => exact hu | 1, _ => exact hv) (by simp [flatK]; omega)
  simpa [flatK] using h
end Go.Proofs.Ytgllaoanpemjlaa
