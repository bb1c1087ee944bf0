/- What the document's own sum answers: the same as the sum step by step; over any slice of at most 6000 bytes. -/
import Derived.Test.YtehlbddcgnclaaaDoorSum
import Derived.Test.YtehlbddcgnclaaaDoorLong
namespace Go.Proofs.YtehlbddcgnclaaaDoor
open Go.RowKit Plain
set_option linter.unusedVariables false

def bn (b : Bool) : Nat := if b then 1 else 0
theorem bn_le (b : Bool) : bn b ≤ 1 := by cases b <;> decide
theorem bit_and (c : BitVec 8) (m : Nat) : bits .and .u64 (IntKind.u64.wrap ((c.toNat : Int) / 2 ^ m)) 1 = ((bn (c.getLsbD m) : Nat) : Int) := by
  have hc := c.isLt
  have e : ((c.toNat : Int) / 2 ^ m) = ((c.toNat / 2 ^ m : Nat) : Int) := by
    rw [Int.natCast_ediv, Int.natCast_pow]; rfl
  have hle : c.toNat / 2 ^ m < 256 := Nat.lt_of_le_of_lt (Nat.div_le_self _ _) hc
  have hw : IntKind.u64.wrap ((c.toNat / 2 ^ m : Nat) : Int) = ((c.toNat / 2 ^ m : Nat) : Int) := by
    rw [IntKind.wrap_u64]
    generalize c.toNat / 2 ^ m = x at *
    omega
  have h := u64_and_nat (c.toNat / 2 ^ m) 1 (by omega) (by omega)
  rw [nat_mask1] at h
  have hb : c.toNat / 2 ^ m % 2 = bn (c.getLsbD m) := by
    unfold bn
    rw [← BitVec.testBit_toNat, Nat.testBit_eq_decide_div_mod_eq]
    by_cases g : c.toNat / 2 ^ m % 2 = 1
    · rw [g]; rfl
    · have : c.toNat / 2 ^ m % 2 = 0 := by omega
      rw [this]; rfl
  rw [e, hw, ← hb]
  exact h
theorem bit_xor (b : Bool) : bits .xor .u64 ((bn b : Nat) : Int) 1 = ((bn (!b) : Nat) : Int) := by
  have h := u64_xor_nat (bn b) 1 (by have := bn_le b; omega) (by omega)
  rw [show bn (!b) = bn b ^^^ 1 by cases b <;> rfl]
  exact h
theorem rest_or (r : BitVec 32) (b : Bool) : bits .or .u64 ((r.toNat : Int) * 2) ((bn b : Nat) : Int) = ((r.toNat * 2 ||| bn b : Nat) : Int) := by
  have hr := r.isLt
  have h := u64_or_nat (r.toNat * 2) (bn b) (by omega) (by have := bn_le b; omega)
  rw [← h, Int.natCast_mul]
  rfl
theorem or_lt (r : BitVec 32) (b : Bool) : r.toNat * 2 ||| bn b < 8589934592 :=
  Nat.or_lt_two_pow (n := 33) (by have := r.isLt; omega) (by have := bn_le b; omega)
theorem poly_xor (y : Nat) (h : y < 8589934592) : bits .xor .u64 (y : Int) 4374732215 = ((y ^^^ 4374732215 : Nat) : Int) :=
  u64_xor_nat y 4374732215 (by omega) (by omega)
theorem top_yes (y : Nat) (h : y / 4294967296 = 1) : (((y : Int) / 4294967296) == 1) = true := beq_iff_eq.2 (by omega)
theorem top_no (y : Nat) (h : ¬ y / 4294967296 = 1) : (((y : Int) / 4294967296) == 1) = false := beq_eq_false_iff_ne.2 (by omega)

theorem rv_int (r : BitVec 32) (k : Nat) : bits .or .u32 (((rv k r).toNat : Int) * 2 % 4294967296) (bits .and .u32 ((r.toNat : Int) / 2 ^ k % 4294967296) 1) = ((rv (k + 1) r).toNat : Int) := by
  have hr := r.isLt
  have e : ((r.toNat : Int) / 2 ^ k % 4294967296) = ((r.toNat / 2 ^ k : Nat) : Int) := by
    have hle : r.toNat / 2 ^ k < 4294967296 := Nat.lt_of_le_of_lt (Nat.div_le_self _ _) hr
    have e : ((r.toNat : Int) / 2 ^ k) = ((r.toNat / 2 ^ k : Nat) : Int) := by
      rw [Int.natCast_ediv, Int.natCast_pow]; rfl
    rw [e]
    generalize r.toNat / 2 ^ k = x at *
    omega
  have hle : r.toNat / 2 ^ k < 4294967296 := Nat.lt_of_le_of_lt (Nat.div_le_self _ _) hr
  have h1 := u32_and_nat (r.toNat / 2 ^ k) 1 hle (by omega)
  rw [nat_mask1] at h1
  rw [e, show (1 : Int) = ((1 : Nat) : Int) by rfl, h1, rv_nat]
  have hb : r.toNat / 2 ^ k % 2 < 2 := Nat.mod_lt _ (by omega)
  generalize r.toNat / 2 ^ k % 2 = b at *
  generalize (rv k r).toNat = o at *
  rw [show ((o : Int) * 2 % 4294967296) = ((o * 2 % 4294967296 : Nat) : Int) by omega]
  exact u32_or_nat _ _ (by omega) (by omega)
theorem ones_int (x : BitVec 32) : bits .xor .u32 (x.toNat : Int) 4294967295 = ((x ^^^ ones).toNat : Int) := xor_u32 x ones

theorem ref_some (a : Option Addr) (len cap : Nat) (xs : Bytes) (w : World) (hlen : xs.length = len) (hbig : len ≤ 6000) (hc : 0 < xs.length → ∃ b off, a = some ⟨b, off, none⟩ ∧ ∀ j, j < xs.length → w.cell? ⟨b, off + j, none⟩ = some (bv (xs.getD j 0#8))) :
    Calls Tryd.prog 26 #[.slice a len cap] w fun e w' => e = .returned (.int .u32 (sum xs).toNat) ∧ w = w' := by
  have HL := Lib.hid hlen
  have HC := Lib.hid hc
  clear hlen hc
  go_enter Tryd.func26, Tryd.ntmps26
  go_wp2_with fail
  go_loop [3, 5, 6] (fun r i _ => ∃ k : Nat, k ≤ 8 * len + 32 ∧ i = .int .i64 k ∧ r = .int .u64 (rest xs k).toNat) (fun _ i _ => 8 * len + 32 - (intOf i).toNat)
  case atStart => exact ⟨0, Nat.zero_le _, rfl, rfl⟩
  case round =>
    obtain ⟨k, hk, rfl, rfl⟩ := hrel
    by_cases hlt : k < 8 * len + 32
    · have RS := Lib.hid (rest_succ xs k)
      have BE := Lib.hid (bitAt_end xs k)
      by_cases h1 : k < 8 * len
      · have hq : (k : Int) / 8 = ((k / 8 : Nat) : Int) := by omega
        have hm : (k : Int) % 8 = ((k % 8 : Nat) : Int) := by omega
        have hq1 : k / 8 < len := by omega
        have hm1 : k % 8 < 8 := by omega
        obtain ⟨b, off, rfl, hcs⟩ := HC.out (by rw [HL.out]; omega)
        have hcell := hcs (k / 8) (by rw [HL.out]; exact hq1)
        clear hcs
        unfold bv at hcell
        have BA : Hid (bitAt xs k = (xs.getD (k / 8) 0#8).getLsbD (k % 8)) := Lib.hid rfl
        generalize k / 8 = q at *
        generalize k % 8 = m at *
        generalize rest xs k = r at *
        generalize xs.getD q 0#8 = c at *
        have g1 := bit_and c m
        generalize c.getLsbD m = p at *
        have hr := r.isLt
        have hcc := c.isLt
        clear HC HL BE
        by_cases h2 : k < 32
        · have g2 := bit_xor p
          have RS2 : Hid (rest xs (k + 1) = T r ^^^ b2v (!p)) := Lib.hid (by rw [RS.out, BA.out]; unfold Plain.ahead; rw [decide_eq_true h2, Bool.xor_true])
          clear RS BA
          generalize (!p) = p2 at *
          have g3 := rest_or r p2
          have g4 := or_lt r p2
          have TN := Lib.hid (T_nat r p2)
          change Hid (_ = if (r.toNat * 2 ||| bn p2) / 4294967296 = 1 then (r.toNat * 2 ||| bn p2) ^^^ 4374732215 else r.toNat * 2 ||| bn p2) at TN
          have g5 := poly_xor _ g4
          generalize (r.toNat * 2 ||| bn p2) = y at *
          by_cases ht : y / 4294967296 = 1
          · have g6 := top_yes y ht
            have TV : Hid ((T r ^^^ b2v p2).toNat = y ^^^ 4374732215) := Lib.hid (by rw [TN.out, if_pos ht])
            clear TN ht
            go_wp2_with fail
            go_round
            case rel => exact ⟨k + 1, by omega, by go_num, by rw [RS2.out, TV.out]⟩
            case measure => simp [intOf]; omega
          · have g6 := top_no y ht
            have TV : Hid ((T r ^^^ b2v p2).toNat = y) := Lib.hid (by rw [TN.out, if_neg ht])
            clear TN ht
            go_wp2_with fail
            go_round
            case rel => exact ⟨k + 1, by omega, by go_num, by rw [RS2.out, TV.out]⟩
            case measure => simp [intOf]; omega
        · have RS2 : Hid (rest xs (k + 1) = T r ^^^ b2v p) := Lib.hid (by rw [RS.out, BA.out]; unfold Plain.ahead; rw [decide_eq_false h2, Bool.xor_false])
          clear RS BA
          have g3 := rest_or r p
          have g4 := or_lt r p
          have TN := Lib.hid (T_nat r p)
          change Hid (_ = if (r.toNat * 2 ||| bn p) / 4294967296 = 1 then (r.toNat * 2 ||| bn p) ^^^ 4374732215 else r.toNat * 2 ||| bn p) at TN
          have g5 := poly_xor _ g4
          generalize (r.toNat * 2 ||| bn p) = y at *
          by_cases ht : y / 4294967296 = 1
          · have g6 := top_yes y ht
            have TV : Hid ((T r ^^^ b2v p).toNat = y ^^^ 4374732215) := Lib.hid (by rw [TN.out, if_pos ht])
            clear TN ht
            go_wp2_with fail
            go_round
            case rel => exact ⟨k + 1, by omega, by go_num, by rw [RS2.out, TV.out]⟩
            case measure => simp [intOf]; omega
          · have g6 := top_no y ht
            have TV : Hid ((T r ^^^ b2v p).toNat = y) := Lib.hid (by rw [TN.out, if_neg ht])
            clear TN ht
            go_wp2_with fail
            go_round
            case rel => exact ⟨k + 1, by omega, by go_num, by rw [RS2.out, TV.out]⟩
            case measure => simp [intOf]; omega
      · have g0 : bitAt xs k = false := BE.out (by rw [HL.out]; omega)
        rw [g0, Bool.false_xor] at RS
        clear BE
        generalize rest xs k = r at *
        have hr := r.isLt
        clear HC HL
        by_cases h2 : k < 32
        · have g2 := bit_xor false
          have RS2 : Hid (rest xs (k + 1) = T r ^^^ b2v true) := Lib.hid (by rw [RS.out]; unfold Plain.ahead; rw [decide_eq_true h2])
          clear RS
          have g3 := rest_or r true
          have g4 := or_lt r true
          have TN := Lib.hid (T_nat r true)
          change Hid (_ = if (r.toNat * 2 ||| bn true) / 4294967296 = 1 then (r.toNat * 2 ||| bn true) ^^^ 4374732215 else r.toNat * 2 ||| bn true) at TN
          have g5 := poly_xor _ g4
          generalize (r.toNat * 2 ||| bn true) = y at *
          change bits .xor .u64 0 1 = 1 at g2
          change bits .or .u64 ((r.toNat : Int) * 2) 1 = (y : Int) at g3
          by_cases ht : y / 4294967296 = 1
          · have g6 := top_yes y ht
            have TV : Hid ((T r ^^^ b2v true).toNat = y ^^^ 4374732215) := Lib.hid (by rw [TN.out, if_pos ht])
            clear TN ht
            go_wp2_with fail
            go_round
            case rel => exact ⟨k + 1, by omega, by go_num, by rw [RS2.out, TV.out]⟩
            case measure => simp [intOf]; omega
          · have g6 := top_no y ht
            have TV : Hid ((T r ^^^ b2v true).toNat = y) := Lib.hid (by rw [TN.out, if_neg ht])
            clear TN ht
            go_wp2_with fail
            go_round
            case rel => exact ⟨k + 1, by omega, by go_num, by rw [RS2.out, TV.out]⟩
            case measure => simp [intOf]; omega
        · have RS2 : Hid (rest xs (k + 1) = T r ^^^ b2v false) := Lib.hid (by rw [RS.out]; unfold Plain.ahead; rw [decide_eq_false h2])
          clear RS
          have g3 := rest_or r false
          have g4 := or_lt r false
          have TN := Lib.hid (T_nat r false)
          change Hid (_ = if (r.toNat * 2 ||| bn false) / 4294967296 = 1 then (r.toNat * 2 ||| bn false) ^^^ 4374732215 else r.toNat * 2 ||| bn false) at TN
          have g5 := poly_xor _ g4
          generalize (r.toNat * 2 ||| bn false) = y at *
          change bits .or .u64 ((r.toNat : Int) * 2) 0 = (y : Int) at g3
          by_cases ht : y / 4294967296 = 1
          · have g6 := top_yes y ht
            have TV : Hid ((T r ^^^ b2v false).toNat = y ^^^ 4374732215) := Lib.hid (by rw [TN.out, if_pos ht])
            clear TN ht
            go_wp2_with fail
            go_round
            case rel => exact ⟨k + 1, by omega, by go_num, by rw [RS2.out, TV.out]⟩
            case measure => simp [intOf]; omega
          · have g6 := top_no y ht
            have TV : Hid ((T r ^^^ b2v false).toNat = y) := Lib.hid (by rw [TN.out, if_neg ht])
            clear TN ht
            go_wp2_with fail
            go_round
            case rel => exact ⟨k + 1, by omega, by go_num, by rw [RS2.out, TV.out]⟩
            case measure => simp [intOf]; omega
    · obtain rfl : k = 8 * len + 32 := by omega
      have LS := Lib.hid (long_sum xs)
      rw [HL.out] at LS
      generalize rest xs (8 * len + 32) = r at *
      clear HC HL
      have hr := r.isLt
      go_wp2_with fail
      go_loop [7, 8] (fun o i => ∃ k : Nat, k ≤ 32 ∧ i = .int .i64 k ∧ o = .int .u32 (rv k r).toNat) (fun _ i => 32 - (intOf i).toNat)
      case atStart => exact ⟨0, Nat.zero_le _, rfl, rfl⟩
      case round =>
        clear hk hlt hbig
        obtain ⟨k, hk, rfl, rfl⟩ := hrel
        by_cases hlt : k < 32
        · have ho := (rv k r).isLt
          have e1 := rv_int r k
          go_wp2_with fail
          go_round
          case rel => exact ⟨k + 1, by omega, by go_num, rfl⟩
          case measure => simp [intOf]; omega
        · obtain rfl : k = 32 := by omega
          have e1 := ones_int (rv 32 r)
          generalize (rv 32 r ^^^ ones) = q at *
          generalize rv 32 r = o at *
          have ho := o.isLt
          go_wp2_with fail
          go_ret
          exact ⟨ret_int (by rw [LS.out]), rfl⟩

/-- the document's own sum over a slice that reads as xs -/
theorem ref_seq {w : World} {v : Value} {xs : Bytes} (h : Seq w v xs) (hn : xs.length ≤ 6000) :
    Calls Tryd.prog 26 #[v] w fun e w' => e = .returned (.int .u32 (sum xs).toNat) ∧ w = w' := by
  obtain ⟨a, cap, rfl, h1, h2, h0, h3⟩ := h
  exact ref_some a xs.length cap xs w rfl hn h3
end Go.Proofs.YtehlbddcgnclaaaDoor
