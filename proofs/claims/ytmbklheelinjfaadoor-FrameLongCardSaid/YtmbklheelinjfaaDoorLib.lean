/- What the library's functions and the document's own helpers leave, for bytes: slices.Grow of nil, slices.Concat, bytes.Clone, Copy, Same; over any slices that read as lists of bytes. -/
import Derived.Test.YtmbklheelinjfaaDoorWords
import Derived.Lib.AppendZeros
import Derived.WalkSpells
namespace Go.Proofs.YtmbklheelinjfaaDoor
open Go.RowKit Plain
set_option linter.unusedVariables false

/-- the first k of them, one behind the other -/
def flat (f : Nat → Bytes) : Nat → Bytes
  | 0 => []
  | k + 1 => flat f k ++ f k
theorem flat_len (f : Nat → Bytes) (k n : Nat) (h : k ≤ n) : (flat f k).length ≤ (flat f n).length := by
  induction n with
  | zero => obtain rfl : k = 0 := by omega
            exact Nat.le_refl _
  | succ n ih =>
    by_cases e : k = n + 1
    · subst e; exact Nat.le_refl _
    · have := ih (by omega)
      rw [flat, List.length_append]; omega

set_option maxHeartbeats 1000000 in
theorem grow_nil (n : Nat) (hn : n ≤ 1073741824) (w : World) : Calls Tryd.prog 26 #[.slice none 0 0, .int .i64 n] w (Made w []) := by
  obtain ⟨i0, hi, hz0, hz1, hz2⟩ := info_parts info2'
  by_cases h0 : n = 0
  · subst h0
    go_enter Tryd.func26, Tryd.ntmps26
    go_wp2_with fail
    go_ret
    exact ⟨_, rfl, Owns.nil _ _, Below.refl _ _⟩
  · have hp : 0 < n := by omega
    have hr := Lib.run_append_nil_zeros (P := Tryd.prog) w 22 3 22 5 i0 (.int .u8 0) .i64 .i64 Tryd.underlying22 Tryd.underlying3 hi hz0 n hp (by omega) (by omega) (by rw [hz2]; omega)
    have hge := grownCap_ge w n 0 5
    have hcm : grownCap w n 0 5 ≤ maxLen := grownCap_le_maxLen w n 0 5 (by unfold maxLen; omega)
    have hO : Owns w.heap.size (w.drew.alloc (.cells (Builtin.zeroCells (Value.int .u8 0).cells n ++ Builtin.zeroCells (Value.int .u8 0).cells (grownCap w n 0 5 - n)) 5)) (.slice (some ⟨w.heap.size, 0, none⟩) 0 (grownCap w n 0 5)) [] := by
      refine World.ownsRow_made w.drew _ _ (Nat.le_refl _) hcm ?_
      have hz1 : (Value.int IntKind.u8 0).cells.size = 1 := rfl
      simp only [Array.size_append, size_zeroCells, hz1]
      omega
    have hB : Below w.heap.size w (w.drew.alloc (.cells (Builtin.zeroCells (Value.int .u8 0).cells n ++ Builtin.zeroCells (Value.int .u8 0).cells (grownCap w n 0 5 - n)) 5)) := (Below.refl _ _).drew.alloc (Nat.le_refl _) _
    have HO := Lib.hid hO
    have HB := Lib.hid hB
    have HR := Lib.hid hr
    have hm : maxLen = 9223372036854775807 := rfl
    rw [hm] at hcm
    clear hO hB hr hz0 hz1 hz2 hi hm h0
    generalize hG : grownCap w n 0 5 = G at *
    clear hG
    go_enter Tryd.func26, Tryd.ntmps26
    go_wp2_with (at_builtin; refine Lib.wpList_append_run _ rfl _ _ _ _ rfl _ _ rfl rfl _ _ HR.out ?_)
    go_ret
    exact ⟨_, rfl, HO.out, HB.out⟩

set_option maxHeartbeats 1000000 in
/-- Copy: a slice of the call's own that reads as the other did -/
theorem copy_any {v : Value} {xs : Bytes} {w : World} (hs : Seq w v xs) (hlen : xs.length ≤ 1000000000) :
    Calls Tryd.prog 10 #[v] w (Made w xs) := by
  obtain ⟨a, cap, rfl, h1, h2, h0, hs⟩ := hs.parts
  have hga : Below w.heap.size w (w.alloc (.cells #[] 5)) := (Below.refl _ _).alloc (Nat.le_refl _) _
  have S1 := Lib.hid (Seq.below hs hga)
  clear hs h0
  go_enter Tryd.func10, Tryd.ntmps10
  go_wp2_with (at_builtin; refine wpList_append_seq rfl (.tmp 3) (.tmp 4) rfl w.heap.size rfl (Owns.empty w _ (Nat.le_refl _)) rfl S1.out (by simp; omega) (by simp) ?_)
  intro v1 W3 hv1 hg3 _
  have hgb : Below w.heap.size w W3 := hga.grown hg3 (by simp) (by intro k hk; cases hk; exact Nat.le_refl _)
  have V := Lib.hid hv1
  clear hg3 hga hv1
  go_wp2_with fail
  go_ret
  exact ⟨_, rfl, V.out, hgb⟩

set_option maxHeartbeats 1000000 in
/-- bytes.Clone of a slice that isn't nil -/
theorem clone_some {a : Addr} {n cap : Nat} {xs : Bytes} {w : World} (hs : Seq w (.slice (some a) n cap) xs) (hlen : xs.length ≤ 1000000000) :
    Calls Tryd.prog 24 #[.slice (some a) n cap] w (Made w xs) := by
  have hga : Below w.heap.size w (w.alloc (.cells #[] 5)) := (Below.refl _ _).alloc (Nat.le_refl _) _
  have S1 := Lib.hid (Seq.below hs hga)
  have q22 : ∀ (w : World) (a : Option Addr) (n c n' c' : Nat), (binOp .eql 22 (.slice a n c) (.slice none n' c')).run Tryd.prog w = .ok (.bool a.isNone) w := fun w a n c n' c' => Lib.run_eql_slice_nil w _ _ a n c n' c' Tryd.underlying22
  clear hs
  go_enter Tryd.func24, Tryd.ntmps24
  go_wp2_with (at_builtin; refine wpList_append_seq rfl (.tmp 5) (.tmp 6) rfl w.heap.size rfl (Owns.empty w _ (Nat.le_refl _)) rfl S1.out (by simp; omega) (by simp) ?_)
  intro v1 W3 hv1 hg3 _
  have hgb : Below w.heap.size w W3 := hga.grown hg3 (by simp) (by intro k hk; cases hk; exact Nat.le_refl _)
  have V := Lib.hid hv1
  clear hg3 hga hv1
  go_wp2_with fail
  go_ret
  exact ⟨_, rfl, V.out, hgb⟩

set_option maxHeartbeats 2000000 in
/-- slices.Concat: what all of them read as, one behind the other, in a slice of the call's own -/
theorem concat_any (b n c : Nat) (vs : Nat → Value) (f : Nat → Bytes) (w : World) (hn : n ≤ 1000) (hc : ∀ j, j < n → w.cell? ⟨b, j, none⟩ = some (vs j)) (hs : ∀ j, j < n → Seq w (vs j) (f j)) (hlen : (flat f n).length ≤ 1000000000) :
    Calls Tryd.prog 20 #[.slice (some ⟨b, 0, none⟩) n c] w (Made w (flat f n)) := by
  have HC := Lib.hid hc
  have HS := Lib.hid hs
  clear hc hs
  go_enter Tryd.func20, Tryd.ntmps20
  go_wp2_with fail
  go_loop [3, 11] (fun s i => ∃ k : Nat, k ≤ n ∧ i = .int .i64 k ∧ s = .int .i64 (flat f k).length) (fun _ i => n - (intOf i).toNat)
  case atStart => exact ⟨0, Nat.zero_le _, rfl, rfl⟩
  case round =>
    obtain ⟨k, hk, rfl, rfl⟩ := hrel
    have hl := flat_len f k n hk
    by_cases hlt : k < n
    · have hcell := HC.out k hlt
      obtain ⟨a, cap, hv, h1, h2, h0, hs⟩ := (HS.out k hlt).parts
      rw [hv] at hcell
      have hl' := flat_len f (k + 1) n (by omega)
      have e : (flat f (k + 1)).length = (flat f k).length + (f k).length := by rw [flat, List.length_append]
      have E := Lib.hid e
      have hl2 : (flat f k).length + (f k).length ≤ 1000000000 := by omega
      clear h0 hs hv e hl'
      go_wp2_with fail
      go_round
      case rel => exact ⟨k + 1, by omega, by go_num, by rw [E.out]; go_num⟩
      case measure => simp [intOf]; omega
    · obtain rfl : k = n := by omega
      go_wp2_with fail
      refine (grow_nil _ (by omega) _).mono ?_
      rintro e w1 ⟨v1, rfl, ho1, hb1⟩
      have O1 := Lib.hid ho1
      clear ho1
      go_wp2_with fail
      go_loopw [6, 27] (fun v i wr => ∃ j : Nat, j ≤ k ∧ i = .int .i64 j ∧ Owns w.heap.size wr v (flat f j) ∧ Below w.heap.size w wr) (fun _ i _ => k - (intOf i).toNat)
      case atStart => exact ⟨0, Nat.zero_le _, rfl, O1.out, hb1⟩
      case round =>
        obtain ⟨j, hj, rfl, ho, hb⟩ := hrel
        have hl3 := flat_len f j k hj
        by_cases hlt : j < k
        · have hcell0 := HC.out j hlt
          have hblt : b < w.heap.size := World.block_lt_of_cell? w ⟨b, j, none⟩ hcell0
          obtain ⟨a, cap, hv, h1, h2, h0, hs⟩ := (HS.out j hlt).parts
          rw [hv] at hcell0
          have hcell := (hb.cell (p := ⟨b, j, none⟩) hblt).trans hcell0
          have hl' := flat_len f (j + 1) k (by omega)
          have E : Hid (flat f (j + 1) = flat f j ++ f j) := Lib.hid rfl
          have hl2 : (flat f j).length + (f j).length ≤ 1000000000 := by rw [E.out, List.length_append] at hl'; omega
          have hsz := hb.size
          have S1 := Lib.hid (Seq.below hs hb)
          have O2 := Lib.hid ho
          have B2 := Lib.hid hb
          clear h0 hs hv hl' ho hb hcell0
          go_wp2_with (at_builtin; refine wpList_append_seq rfl (.tmp 31) (.tmp 32) rfl w.heap.size rfl O2.out rfl S1.out (by omega) (by omega) ?_)
          intro v2 w2 ho2 hg2 _
          have hb2 : Below w.heap.size w w2 := B2.out.grown hg2 (by omega) (fun k hk => (O2.out.lt k hk).1)
          have O3 := Lib.hid ho2
          clear ho2 hg2 hcell
          go_wp2_with fail
          go_roundw
          case rel => exact ⟨j + 1, by omega, by go_num, by rw [E.out]; exact O3.out, hb2⟩
          case measure => simp [intOf]; omega
        · obtain rfl : j = k := by omega
          have O2 := Lib.hid ho
          clear ho
          go_wp2_with fail
          go_ret
          exact ⟨_, rfl, O2.out, hb⟩

/-- two parts -/
theorem concat_two (b c : Nat) {u v : Value} {xs ys : Bytes} (w : World) (h0 : w.cell? ⟨b, 0, none⟩ = some u) (h1 : w.cell? ⟨b, 1, none⟩ = some v) (hu : Seq w u xs) (hv : Seq w v ys) (hlen : xs.length + ys.length ≤ 1000000000) :
    Calls Tryd.prog 20 #[.slice (some ⟨b, 0, none⟩) 2 c] w (Made w (xs ++ ys)) := by
  have h := concat_any b 2 c (fun j => if j = 0 then u else v) (fun j => if j = 0 then xs else ys) w (by omega)
    (fun j hj => by match j, hj with | 0, _ => exact h0 | 1, _ => exact h1) (fun j hj => by match j, hj with | 0, _ => exact hu | 1, _ => exact hv) (by simp [flat]; omega)
  simpa [flat] using h
/-- three parts -/
theorem concat_three (b c : Nat) {u v x : Value} {xs ys zs : Bytes} (w : World) (h0 : w.cell? ⟨b, 0, none⟩ = some u) (h1 : w.cell? ⟨b, 1, none⟩ = some v) (h2 : w.cell? ⟨b, 2, none⟩ = some x) (hu : Seq w u xs) (hv : Seq w v ys) (hx : Seq w x zs) (hlen : xs.length + ys.length + zs.length ≤ 1000000000) :
    Calls Tryd.prog 20 #[.slice (some ⟨b, 0, none⟩) 3 c] w (Made w (xs ++ (ys ++ zs))) := by
  have h := concat_any b 3 c (fun j => if j = 0 then u else if j = 1 then v else x) (fun j => if j = 0 then xs else if j = 1 then ys else zs) w (by omega)
    (fun j hj => by match j, hj with | 0, _ => exact h0 | 1, _ => exact h1 | 2, _ => exact h2) (fun j hj => by match j, hj with | 0, _ => exact hu | 1, _ => exact hv | 2, _ => exact hx) (by simp [flat]; omega)
  simpa [flat, List.append_assoc] using h

set_option maxHeartbeats 1000000 in
/-- Same of two slices that read alike: true -/
theorem same_yes {u v : Value} {xs : Bytes} {w : World} (hu : Seq w u xs) (hv : Seq w v xs) :
    Calls Tryd.prog 12 #[u, v] w fun e w' => e = .returned (.bool true) ∧ ∃ n, w' = w.drewN n := by
  by_cases hp : 0 < xs.length
  · obtain ⟨b1, o1, c1, rfl, g1, m1, -, k1⟩ := hu.spot hp
    obtain ⟨b2, o2, c2, rfl, g2, m2, -, k2⟩ := hv.spot hp
    have HU := Lib.hid k1
    have HV := Lib.hid k2
    have hm : maxLen = 9223372036854775807 := rfl
    rw [hm] at m1 m2
    clear hu hv k1 k2 hm
    go_enter Tryd.func12, Tryd.ntmps12
    go_wp2_with fail
    go_loopw [5] (fun i wr => ∃ k : Nat, k ≤ xs.length ∧ i = .int .i64 k ∧ ∃ n, wr = w.drewN n) (fun i _ => xs.length - (intOf i).toNat)
    case atStart => exact ⟨0, Nat.zero_le _, rfl, 0, rfl⟩
    case round =>
      obtain ⟨k, hk, rfl, n, rfl⟩ := hrel
      by_cases hlt : k < xs.length
      · have c1' := HU.out k hlt
        have c2' := HV.out k hlt
        unfold bv at c1' c2'
        generalize xs.getD k 0#8 = x at *
        have hx := x.isLt
        go_wp2_with fail
        go_quiet (fail)
        go_wp2_with fail
        go_roundw
        case rel => exact ⟨k + 1, by omega, by go_num, _, rfl⟩
        case measure => simp [intOf]; omega
      · obtain rfl : k = xs.length := by omega
        go_wp2_with fail
        go_ret
        exact ⟨rfl, _, rfl⟩
  · obtain rfl : xs = [] := List.eq_nil_of_length_eq_zero (by omega)
    obtain ⟨a1, c1, rfl, -⟩ := hu
    obtain ⟨a2, c2, rfl, -⟩ := hv
    simp only [List.length_nil]
    go_enter Tryd.func12, Tryd.ntmps12
    go_wp2_with fail
    go_loop [5] (fun i => i = .int .i64 0) (fun _ => 0)
    case atStart => rfl
    case round =>
      obtain rfl := hrel
      go_wp2_with fail
      go_ret
      exact ⟨rfl, 0, rfl⟩

set_option maxHeartbeats 1000000 in
/-- Same of two slices of one length that read otherwise: false -/
theorem same_no {u v : Value} {xs ys : Bytes} {w : World} (hu : Seq w u xs) (hv : Seq w v ys) (hl : xs.length = ys.length) (hne : xs ≠ ys) :
    Calls Tryd.prog 12 #[u, v] w fun e w' => e = .returned (.bool false) ∧ ∃ n, w' = w.drewN n := by
  have hp : 0 < xs.length := by
    by_cases h : 0 < xs.length
    · exact h
    · exfalso
      apply hne
      rw [List.eq_nil_of_length_eq_zero (show xs.length = 0 by omega), List.eq_nil_of_length_eq_zero (show ys.length = 0 by omega)]
  have hex : ∃ j, j < xs.length ∧ xs.getD j 0#8 ≠ ys.getD j 0#8 := by
    refine Classical.byContradiction fun hno => hne ?_
    apply List.ext_getElem hl
    intro j h1 h2
    have hj : xs.getD j 0#8 = ys.getD j 0#8 := Classical.byContradiction fun h => hno ⟨j, h1, h⟩
    simpa [List.getD, List.getElem?_eq_getElem h1, List.getElem?_eq_getElem h2] using hj
  obtain ⟨b1, o1, c1, rfl, g1, m1, -, k1⟩ := hu.spot hp
  obtain ⟨b2, o2, c2, rfl, g2, m2, -, k2⟩ := hv.spot (by omega)
  rw [← hl] at k2 g2 ⊢
  have HU := Lib.hid k1
  have HV := Lib.hid k2
  have HEX := Lib.hid hex
  have hm : maxLen = 9223372036854775807 := rfl
  rw [hm] at m1 m2
  clear hu hv k1 k2 hm hl hex hne
  go_enter Tryd.func12, Tryd.ntmps12
  go_wp2_with fail
  go_loopw [5] (fun i wr => ∃ k : Nat, k ≤ xs.length ∧ i = .int .i64 k ∧ (∀ j, j < k → xs.getD j 0#8 = ys.getD j 0#8) ∧ ∃ n, wr = w.drewN n) (fun i _ => xs.length - (intOf i).toNat)
  case atStart => exact ⟨0, Nat.zero_le _, rfl, (fun j hj => absurd hj (by omega)), 0, rfl⟩
  case round =>
    obtain ⟨k, hk, rfl, hall, n, rfl⟩ := hrel
    have HALL := Lib.hid hall
    clear hall
    by_cases hlt : k < xs.length
    · have c1' := HU.out k hlt
      have c2' := HV.out k hlt
      unfold bv at c1' c2'
      by_cases he : xs.getD k 0#8 = ys.getD k 0#8
      · have HE := Lib.hid he
        rw [he] at c1'
        clear he
        have HALL2 : Hid (∀ j, j < k + 1 → xs.getD j 0#8 = ys.getD j 0#8) := Lib.hid (fun j hj => by
          by_cases h : j < k
          · exact HALL.out j h
          · obtain rfl : j = k := by omega
            exact HE.out)
        generalize ys.getD k 0#8 = x at *
        have hx := x.isLt
        go_wp2_with fail
        go_quiet (fail)
        go_wp2_with fail
        go_roundw
        case rel => exact ⟨k + 1, by omega, by go_num, HALL2.out, _, rfl⟩
        case measure => simp [intOf]; omega
      · generalize xs.getD k 0#8 = x at *
        generalize ys.getD k 0#8 = y at *
        have hx := x.isLt
        have hy := y.isLt
        have hb : ((x.toNat : Int) == (y.toNat : Int)) = false := beq_eq_false_iff_ne.2 (fun e => he (BitVec.eq_of_toNat_eq (by omega)))
        have hb2 : ((x.toNat : Int) != (y.toNat : Int)) = true := bne_iff_ne.2 (fun e => he (BitVec.eq_of_toNat_eq (by omega)))
        clear he
        go_wp2_with fail
        go_quiet (fail)
        go_wp2_with fail
        go_ret
        exact ⟨rfl, _, World.drewN_drewN _ _ _⟩
    · exfalso
      obtain ⟨j, hj, hne⟩ := HEX.out
      exact hne (HALL.out j (by omega))
end Go.Proofs.YtmbklheelinjfaaDoor
