/- What the program's own functions of package bin leave: a number's form, PutNum, and how a number is read. -/
import Derived.Test.YtbfhhlbnhcngfaaLib
import Derived.OwnWalk
namespace Go.Proofs.Ytbfhhlbnhcngfaa
open Go.RowKit Plain
set_option linter.unusedVariables false

theorem or128 (n : Nat) : bits .or .u8 ((n : Int) % 256) 128 = ((by8 (n % 128 + 128)).toNat : Int) := by
  rw [by8_toNat _ (by omega), show ((n : Int) % 256) = ((n % 256 : Nat) : Int) by omega]
  refine (u8_or_nat (n % 256) 128 (by omega) (by omega)).trans ?_
  have h : ∀ x : Fin 256, x.val ||| 128 = x.val % 128 + 128 := by decide +kernel
  have := h ⟨n % 256, by omega⟩
  simp only at this
  rw [this]
  congr 2
  omega

set_option maxRecDepth 100000 in
set_option maxHeartbeats 1000000 in
/-- numForm: the one form of a number -/
theorem numForm_any (n : Nat) (hn : n < 72057594037927936) (w : World) : Calls Try.prog 20 #[.int .i64 n] w (Made w (form n)) := by
  have hl := form_len8 n hn
  have HF : ∃ z, Hid (form n = z) := ⟨_, Lib.hid rfl⟩
  have HL := Lib.hid hl
  obtain ⟨z, HF⟩ := HF
  rw [HF.out] at hl
  rw [HF.out]
  go_enter Try.func20, Try.ntmps20
  go_wp2_with fail
  go_loopw [0, 3] (fun a v wr => ∃ m : Nat, m < 72057594037927936 ∧ a = .int .i64 m ∧ ∃ xs, Owns w.heap.size wr v xs ∧ xs ++ form m = z ∧ Below w.heap.size w wr) (fun a _ _ => (intOf a).toNat)
  case atStart => exact ⟨n, hn, rfl, [], Owns.nil _ _, (List.nil_append _).trans HF.out, Below.refl _ _⟩
  case round =>
    obtain ⟨m, hm, rfl, xs, ho, hz, hb⟩ := hrel
    have hxl : xs.length ≤ 8 := by have := congrArg List.length hz; rw [List.length_append] at this; omega
    have hsz := hb.size
    have O1 := Lib.hid ho
    have B1 := Lib.hid hb
    have Z1 := Lib.hid hz
    clear ho hb hz
    by_cases hlt : 128 ≤ m
    · have e1 := or128 m
      have FS := Lib.hid (form_high hlt)
      generalize by8 (m % 128 + 128) = c at *
      have hc := c.isLt
      go_wp2_with (at_builtin; refine wpList_append_seq rfl (.tmp 6) (.tmp 10) rfl w.heap.size rfl (O1.out.alloc _) rfl (Seq.one _ _ c rfl) (by simp; omega) (by simp; omega) ?_)
      intro v2 w2 ho2 hg2 _
      have hb2 : Below w.heap.size w w2 := (B1.out.alloc (by omega) _).grown hg2 (by simp; omega) (fun k hk => (O1.out.lt k hk).1)
      have O3 := Lib.hid ho2
      clear ho2 hg2 e1
      go_wp2_with fail
      go_roundw
      case rel => exact ⟨m / 128, by omega, by go_num, xs ++ [c], O3.out, by rw [List.append_assoc, List.singleton_append, ← FS.out]; exact Z1.out, hb2⟩
      case measure => simp [intOf]; omega
    · have FS := Lib.hid (form_low (show m < 128 by omega))
      have hc : (m : Int) = (by8 m).toNat := by rw [by8_toNat m (by omega)]
      have HC := Lib.hid hc
      clear hc
      go_wp2_with (at_builtin; refine wpList_append_seq rfl (.tmp 14) (.tmp 17) rfl w.heap.size rfl (O1.out.alloc _) rfl (Seq.one _ _ (by8 m) HC.out) (by simp; omega) (by simp; omega) ?_)
      intro v2 w2 ho2 hg2 _
      have hb2 : Below w.heap.size w w2 := (B1.out.alloc (by omega) _).grown hg2 (by simp; omega) (fun k hk => (O1.out.lt k hk).1)
      have O3 := Lib.hid ho2
      clear ho2 hg2
      go_wp2_with fail
      go_ret
      refine ⟨_, rfl, ?_, hb2⟩
      rw [← Z1.out, FS.out]
      exact O3.out

/-- the number's form behind bytes -/
def MadeT (w : World) (xs : Bytes) (e : Ending) (w' : World) : Prop := ∃ v, e = .returned (.tuple #[v, .int .i64 0]) ∧ Owns w.heap.size w' v xs ∧ Below w.heap.size w w'

set_option maxRecDepth 100000 in
set_option maxHeartbeats 1000000 in
theorem putNum_ok {v : Value} {xs : Bytes} {w : World} (hs : Seq w v xs) (hlen : xs.length ≤ 900000) (n : Nat) (hn : n < 72057594037927936) :
    Calls Try.prog 9 #[v, .int .i64 n] w (MadeT w (xs ++ form n)) := by
  have hl := form_len8 n hn
  have K1 := Lib.hid (numForm_any n hn)
  have S0 := Lib.hid hs
  obtain ⟨a, cap, rfl, h1, h2, h0, -⟩ := hs.parts
  clear hs h0
  generalize form n = z at *
  go_enter Try.func9, Try.ntmps9
  go_wp2_with fail
  refine (K1.out _).mono ?_
  rintro e w1 ⟨v1, rfl, ho1, hb1⟩
  obtain ⟨a1, c1, rfl, -, -, ho1, -⟩ := ho1.parts
  have O1 := Lib.hid ho1
  have B1 := Lib.hid hb1
  clear ho1
  go_wp2_with fail
  refine (concat_two _ _ _ (cell_of_row _ _ 0 _ 22 (0, 0) (heap_alloc_new w1 _)) (cell_of_row _ _ 1 _ 22 (0, 0) (heap_alloc_new w1 _)) ((S0.out.below B1.out).below_alloc _) (O1.out.seq.below_alloc _) (by omega)).mono ?_
  rintro e w2 ⟨v2, rfl, ho2, hb2⟩
  have hbe : Below w.heap.size w w2 := (B1.out.alloc B1.out.size _).trans (hb2.mono (by have := B1.out.size; simp; omega))
  have O2 := Lib.hid (ho2.mono (by have := B1.out.size; simp; omega : w.heap.size ≤ _))
  clear ho2 hb2
  go_wp2_with fail
  go_ret2
  exact ⟨_, rfl, O2.out, hbe⟩

theorem u64_neg (n : Int) (h : n < 0) (h' : -9223372036854775808 ≤ n) : 72057594037927936 ≤ n % 18446744073709551616 := by omega
set_option maxRecDepth 100000 in
set_option maxHeartbeats 1000000 in
theorem putNum_err (v : Value) (w : World) (n : Int) (h1 : -9223372036854775808 ≤ n) (h2 : n ≤ 9223372036854775807) (hn : n < 0 ∨ 72057594037927935 < n) :
    Calls Try.prog 9 #[v, .int .i64 n] w fun e w' => e = .returned (.tuple #[.slice none 0 0, .int .i64 1]) ∧ w = w' := by
  rcases hn with hn | hn
  · go_enter Try.func9, Try.ntmps9
    go_wp2_with fail
    go_ret2
    exact ⟨rfl, rfl⟩
  · have hn' : 72057594037927936 ≤ n := by omega
    go_enter Try.func9, Try.ntmps9
    go_wp2_with fail
    go_ret2
    exact ⟨rfl, rfl⟩

theorem andNot128 (c : BitVec 8) : bits .andNot .u8 (c.toNat : Int) 128 = ((c.toNat % 128 : Nat) : Int) := by
  have hc := c.isLt
  refine (u8_andNot_nat c.toNat 128 hc (by omega)).trans ?_
  rw [show 255 - 128 = 127 from rfl, nat_mask7]
theorem i64_or_nat (a b : Nat) (ha : a < 2 ^ 63) (hb : b < 2 ^ 63) : bits .or .i64 (a : Int) (b : Int) = ((a ||| b : Nat) : Int) := by
  show IntKind.i64.wrap ((BitVec.ofInt 64 (a : Int) ||| BitVec.ofInt 64 (b : Int)).toNat : Int) = _
  have hab : a ||| b < 2 ^ 63 := Nat.or_lt_two_pow ha hb
  rw [BitVec.toNat_or, BitVec.toNat_ofInt, BitVec.toNat_ofInt, IntKind.wrap_i64]
  rw [show ((a : Int) % (2 ^ 64 : Nat)).toNat = a by omega, show ((b : Int) % (2 ^ 64 : Nat)).toNat = b by omega]
  omega
/-- seven bits more -/
theorem or_next (a x i : Nat) (hi : i < 8) (ha : a < 128 ^ i) (hx : x < 128) : bits .or .i64 (a : Int) ((x * 128 ^ i : Nat) : Int) = ((a + x * 128 ^ i : Nat) : Int) := by
  have e : 128 ^ i = 2 ^ (7 * i) := by rw [Nat.pow_mul]
  have h1 : 128 ^ i ≤ 128 ^ 7 := Nat.pow_le_pow_right (by omega) (by omega)
  have h2 : x * 128 ^ i ≤ 127 * 128 ^ 7 := Nat.mul_le_mul (by omega) h1
  rw [i64_or_nat _ _ (by omega) (by omega), Nat.or_comm, nat_join (7 * i) _ _ (by rw [e]; exact Nat.mul_mod_left _ _) (by rw [← e]; exact ha), Nat.add_comm]

theorem or_step (a k x : Nat) (hk : k < 8) (ha : a < 128 ^ k) : bits .or .i64 (a : Int) (wrap64 ((x : Int) % 128 * 2 ^ (7 * k))) = ((a + x % 128 * 128 ^ k : Nat) : Int) := by
  have h1 : 128 ^ k ≤ 128 ^ 7 := Nat.pow_le_pow_right (by omega) (by omega)
  have h2 : x % 128 * 128 ^ k ≤ 127 * 128 ^ 7 := Nat.mul_le_mul (by omega) h1
  have e : ((x : Int) % 128 * 2 ^ (7 * k)) = ((x % 128 * 128 ^ k : Nat) : Int) := by
    rw [Int.natCast_mul, Int.natCast_pow, Int.natCast_emod, Int.pow_mul]
    rfl
  rw [e, ← or_next a (x % 128) k hk ha (by omega)]
  congr 1
  unfold wrap64
  omega
theorem step_lt (a k x : Nat) (ha : a < 128 ^ k) (hx : x < 128) : a + x * 128 ^ k < 128 ^ (k + 1) := by
  have h : x * 128 ^ k ≤ 127 * 128 ^ k := Nat.mul_le_mul (by omega) (Nat.le_refl _)
  rw [Nat.pow_succ]
  omega
/-- with seven bits more than 2^56 nothing is lost: a number that is read is under 2^56 -/
theorem lt_max (k a : Nat) (hk : k ≤ 8) (ha : a < 128 ^ k) : a < 72057594037927936 := by
  have h1 : 128 ^ k ≤ 128 ^ 8 := Nat.pow_le_pow_right (by omega) (by omega)
  omega

def RdT (r : Nat × Nat × Nat) : Ending := .returned (.tuple #[.int .i64 r.1, .int .i64 r.2.1, .int .i64 r.2.2])
set_option maxRecDepth 100000 in
set_option maxHeartbeats 2000000 in
/-- readNum: the number at the beginning of a slice, and how many bytes it has -/
theorem readNum_seq {v : Value} {xs : Bytes} {w : World} (hs : Seq w v xs) :
    Calls Try.prog 22 #[v] w fun e w' => e = RdT (read xs) ∧ w = w' := by
  by_cases hp : 0 < xs.length
  · obtain ⟨b, o, cap, rfl, h1, h2, -, hc⟩ := hs.spot hp
    have HC := Lib.hid hc
    have hm : maxLen = 9223372036854775807 := rfl
    rw [hm] at h2
    have hci : (xs.length : Int) ≤ cap := by omega
    have E : Hid (rd 0 0 (xs.drop 0) = read xs) := Lib.hid rfl
    generalize read xs = z at *
    obtain ⟨m, c⟩ : ∃ m, (xs.length ≤ 8 ∧ xs.length = m) ∨ (¬ xs.length ≤ 8 ∧ m = 8) := by
      by_cases h : xs.length ≤ 8
      · exact ⟨_, .inl ⟨h, rfl⟩⟩
      · exact ⟨8, .inr ⟨h, rfl⟩⟩
    have hD : ∀ k, k < xs.length → xs.drop k = xs.getD k 0#8 :: xs.drop (k + 1) := fun k hk => by
      rw [List.drop_eq_getElem_cons hk]; simp [List.getD, hk]
    have HD := Lib.hid hD
    have HE : Hid (xs.drop xs.length = []) := Lib.hid List.drop_length
    clear hs hc hm hD
    generalize hL : xs.length = len at *
    clear hL
    rcases c with ⟨hb, rfl⟩ | ⟨hb, rfl⟩
    · go_enter Try.func22, Try.ntmps22
      go_wp2_with fail
      go_loop [2, 13] (fun n i => ∃ k a : Nat, k ≤ len ∧ a < 128 ^ k ∧ i = .int .i64 k ∧ n = .int .i64 a ∧ rd k a (xs.drop k) = z) (fun _ i => len - (intOf i).toNat)
      case atStart => exact ⟨0, 0, Nat.zero_le _, by omega, rfl, rfl, E.out⟩
      case round =>
        obtain ⟨k, a, hk, ha, rfl, rfl, hz⟩ := hrel
        by_cases hlt : k < len
        · have hcell := HC.out k hlt
          rw [HD.out k hlt] at hz
          unfold bv at hcell
          generalize xs.getD k 0#8 = x at *
          have hx := x.isLt
          have hk8 : k < 8 := by omega
          have e1 := andNot128 x
          have Z := Lib.hid hz
          have HA := Lib.hid ha
          clear hz ha
          by_cases hmore : 128 ≤ x.toNat
          · go_wp2_with fail
            go_round
            case rel =>
              refine ⟨k + 1, a + (x.toNat - 128) * 128 ^ k, by omega, step_lt a k _ HA.out (by omega), by go_num, ?_, ?_⟩
              · rw [or_step a k x.toNat hk8 HA.out, show x.toNat % 128 = x.toNat - 128 by omega]
              · rw [← Z.out, rd_more k a x _ hk8 hmore]
            case measure => simp [intOf]; omega
          · have hlow : x.toNat < 128 := by omega
            by_cases hx0 : x.toNat = 0
            · have hb0 : ((x.toNat : Int) == 0) = true := beq_iff_eq.2 (by omega)
              by_cases hk0 : 0 < k
              · have Z2 := Lib.hid ((rd_null k a x (xs.drop (k + 1)) hk8 hx0 hk0).symm.trans Z.out)
                clear hx0
                go_wp2_with fail
                go_ret3
                exact ⟨by rw [← Z2.out]; rfl, rfl⟩
              · have Z2 := Lib.hid ((rd_last k a x (xs.drop (k + 1)) hk8 hlow (fun _ => by omega)).symm.trans Z.out)
                clear hx0
                go_wp2_with fail
                go_ret3
                refine ⟨?_, rfl⟩
                rw [← Z2.out]
                show Ending.returned (.tuple #[.int .i64 (bits .or .i64 (a : Int) (wrap64 ((x.toNat : Int) % 128 * 2 ^ (7 * k)))), .int .i64 ((k : Int) + 1), .int .i64 0]) = _
                rw [or_step a k x.toNat hk8 HA.out, show x.toNat % 128 = x.toNat by omega]
                rfl
            · have hb0 : ((x.toNat : Int) == 0) = false := beq_eq_false_iff_ne.2 (by omega)
              have Z2 := Lib.hid ((rd_last k a x (xs.drop (k + 1)) hk8 hlow (fun h => absurd h hx0)).symm.trans Z.out)
              clear hx0
              go_wp2_with fail
              go_ret3
              refine ⟨?_, rfl⟩
              rw [← Z2.out]
              show Ending.returned (.tuple #[.int .i64 (bits .or .i64 (a : Int) (wrap64 ((x.toNat : Int) % 128 * 2 ^ (7 * k)))), .int .i64 ((k : Int) + 1), .int .i64 0]) = _
              rw [or_step a k x.toNat hk8 HA.out, show x.toNat % 128 = x.toNat by omega]
              rfl
        · obtain rfl : k = len := by omega
          rw [HE.out, rd_nil] at hz
          have Z := Lib.hid hz
          clear hz
          by_cases h8 : k < 8
          · go_wp2_with fail
            go_ret3
            exact ⟨by rw [← Z.out, if_pos h8]; rfl, rfl⟩
          · go_wp2_with fail
            go_ret3
            exact ⟨by rw [← Z.out, if_neg h8]; rfl, rfl⟩
    · have h8 : ∃ n8, n8 = 8 := ⟨_, rfl⟩
      go_enter Try.func22, Try.ntmps22
      go_wp2_with fail
      go_loop [2, 13] (fun n i => ∃ k a : Nat, k ≤ 8 ∧ a < 128 ^ k ∧ i = .int .i64 k ∧ n = .int .i64 a ∧ rd k a (xs.drop k) = z) (fun _ i => 8 - (intOf i).toNat)
      case atStart => exact ⟨0, 0, Nat.zero_le _, by omega, rfl, rfl, E.out⟩
      case round =>
        obtain ⟨k, a, hk, ha, rfl, rfl, hz⟩ := hrel
        rw [HD.out k (by omega)] at hz
        by_cases hk8 : k < 8
        · have hcell := HC.out k (by omega)
          unfold bv at hcell
          generalize xs.getD k 0#8 = x at *
          have hx := x.isLt
          have e1 := andNot128 x
          have Z := Lib.hid hz
          have HA := Lib.hid ha
          clear hz ha
          by_cases hmore : 128 ≤ x.toNat
          · go_wp2_with fail
            go_round
            case rel =>
              refine ⟨k + 1, a + (x.toNat - 128) * 128 ^ k, by omega, step_lt a k _ HA.out (by omega), by go_num, ?_, ?_⟩
              · rw [or_step a k x.toNat hk8 HA.out, show x.toNat % 128 = x.toNat - 128 by omega]
              · rw [← Z.out, rd_more k a x _ hk8 hmore]
            case measure => simp [intOf]; omega
          · have hlow : x.toNat < 128 := by omega
            by_cases hx0 : x.toNat = 0
            · have hb0 : ((x.toNat : Int) == 0) = true := beq_iff_eq.2 (by omega)
              by_cases hk0 : 0 < k
              · have Z2 := Lib.hid ((rd_null k a x (xs.drop (k + 1)) hk8 hx0 hk0).symm.trans Z.out)
                clear hx0
                go_wp2_with fail
                go_ret3
                exact ⟨by rw [← Z2.out]; rfl, rfl⟩
              · have Z2 := Lib.hid ((rd_last k a x (xs.drop (k + 1)) hk8 hlow (fun _ => by omega)).symm.trans Z.out)
                clear hx0
                go_wp2_with fail
                go_ret3
                refine ⟨?_, rfl⟩
                rw [← Z2.out]
                show Ending.returned (.tuple #[.int .i64 (bits .or .i64 (a : Int) (wrap64 ((x.toNat : Int) % 128 * 2 ^ (7 * k)))), .int .i64 ((k : Int) + 1), .int .i64 0]) = _
                rw [or_step a k x.toNat hk8 HA.out, show x.toNat % 128 = x.toNat by omega]
                rfl
            · have hb0 : ((x.toNat : Int) == 0) = false := beq_eq_false_iff_ne.2 (by omega)
              have Z2 := Lib.hid ((rd_last k a x (xs.drop (k + 1)) hk8 hlow (fun h => absurd h hx0)).symm.trans Z.out)
              clear hx0
              go_wp2_with fail
              go_ret3
              refine ⟨?_, rfl⟩
              rw [← Z2.out]
              show Ending.returned (.tuple #[.int .i64 (bits .or .i64 (a : Int) (wrap64 ((x.toNat : Int) % 128 * 2 ^ (7 * k)))), .int .i64 ((k : Int) + 1), .int .i64 0]) = _
              rw [or_step a k x.toNat hk8 HA.out, show x.toNat % 128 = x.toNat by omega]
              rfl
        · obtain rfl : k = 8 := by omega
          rw [rd_end 8 a _ _ (by omega)] at hz
          have Z := Lib.hid hz
          clear hz
          go_wp2_with fail
          go_ret3
          exact ⟨by rw [← Z.out]; rfl, rfl⟩
  · obtain rfl : xs = [] := List.eq_nil_of_length_eq_zero (by omega)
    obtain ⟨a, cap, rfl, h1, h2, h0, -⟩ := hs
    have hm : maxLen = 9223372036854775807 := rfl
    rw [hm] at h2
    simp only [List.length_nil]
    clear hm h0 hp
    go_enter Try.func22, Try.ntmps22
    go_wp2_with fail
    go_loop [2, 13] (fun n i => i = .int .i64 0 ∧ n = .int .i64 0) (fun _ _ => 0)
    case atStart => exact ⟨rfl, rfl⟩
    case round =>
      obtain ⟨rfl, rfl⟩ := hrel
      go_wp2_with fail
      go_ret3
      exact ⟨rfl, rfl⟩
