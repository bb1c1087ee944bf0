/- Signs and halves of 64-bit integers under xor, and, or, as the model reckons them; for all integers within 64 bits. -/
import Derived.Laws.BitsLemmas
import Derived.Laws.BitsAllLaws
namespace Go.Proofs.Ytpkmjddjllpglaa.Nm.Plain

theorem wrap_neg (v : BitVec 64) : IntKind.i64.wrap (v.toNat : Int) < 0 ↔ v.msb = true := by
  rw [BitVec.msb_eq_decide, IntKind.wrap_i64, decide_eq_true_iff]
  have := v.isLt
  omega

theorem msb_int (a : Int) (h : -9223372036854775808 ≤ a) (h' : a ≤ 9223372036854775807) : (BitVec.ofInt 64 a).msb = decide (a < 0) := by
  rw [BitVec.msb_eq_decide, BitVec.toNat_ofInt, decide_eq_decide]
  omega

theorem bits_neg (a : Int) : IntKind.i64.wrap a < 9223372036854775808 ∧ -9223372036854775808 ≤ IntKind.i64.wrap a := by
  rw [IntKind.wrap_i64]; omega

theorem xor_neg (a b : Int) (ha : -9223372036854775808 ≤ a) (ha' : a ≤ 9223372036854775807) (hb : -9223372036854775808 ≤ b) (hb' : b ≤ 9223372036854775807) :
    bits .xor .i64 a b < 0 ↔ ¬ (a < 0 ↔ b < 0) := by
  show IntKind.i64.wrap ((BitVec.ofInt 64 a ^^^ BitVec.ofInt 64 b).toNat : Int) < 0 ↔ _
  rw [wrap_neg, BitVec.msb_xor, msb_int a ha ha', msb_int b hb hb']
  by_cases h1 : a < 0 <;> by_cases h2 : b < 0 <;> simp [h1, h2]

theorem and_neg (a b : Int) (ha : -9223372036854775808 ≤ a) (ha' : a ≤ 9223372036854775807) (hb : -9223372036854775808 ≤ b) (hb' : b ≤ 9223372036854775807) :
    bits .and .i64 a b < 0 ↔ a < 0 ∧ b < 0 := by
  show IntKind.i64.wrap ((BitVec.ofInt 64 a &&& BitVec.ofInt 64 b).toNat : Int) < 0 ↔ _
  rw [wrap_neg, BitVec.msb_and, msb_int a ha ha', msb_int b hb hb']
  simp

theorem bits_range (op : BinOp) (h : op = .and ∨ op = .or ∨ op = .xor) (a b : Int) : -9223372036854775808 ≤ bits op .i64 a b ∧ bits op .i64 a b ≤ 9223372036854775807 := by
  rcases h with rfl | rfl | rfl <;> (simp only [bits]; rw [IntKind.wrap_i64]; omega)

/-- the test by which a sum is seen to run over -/
theorem over_iff (a b : Int) (ha : -9223372036854775808 ≤ a) (ha' : a ≤ 9223372036854775807) (hb : -9223372036854775808 ≤ b) (hb' : b ≤ 9223372036854775807) :
    bits .and .i64 (bits .xor .i64 a (IntKind.i64.wrap (a + b))) (bits .xor .i64 b (IntKind.i64.wrap (a + b))) < 0 ↔ (a + b < -9223372036854775808 ∨ 9223372036854775807 < a + b) := by
  have r := bits_neg (a + b)
  have r1 := bits_range .xor (by simp) a (IntKind.i64.wrap (a + b))
  have r2 := bits_range .xor (by simp) b (IntKind.i64.wrap (a + b))
  rw [and_neg _ _ r1.1 r1.2 r2.1 r2.2, xor_neg _ _ ha ha' r.2 (by omega), xor_neg _ _ hb hb' r.2 (by omega), IntKind.wrap_i64]
  omega

theorem and_low (n : Int) : bits .and .i64 n 4294967295 = n % 4294967296 := by
  show IntKind.i64.wrap ((BitVec.ofInt 64 n &&& BitVec.ofInt 64 4294967295).toNat : Int) = _
  have e : (BitVec.ofInt 64 4294967295).toNat = 2 ^ 32 - 1 := by decide
  rw [BitVec.toNat_and, e, Nat.and_two_pow_sub_one_eq_mod, BitVec.toNat_ofInt, IntKind.wrap_i64]
  omega

theorem or_join (u l : Int) (hu : -2147483648 ≤ u) (hu' : u ≤ 2147483647) (hl : 0 ≤ l) (hl' : l < 4294967296) : bits .or .i64 (u * 4294967296) l = u * 4294967296 + l := by
  show IntKind.i64.wrap ((BitVec.ofInt 64 (u * 4294967296) ||| BitVec.ofInt 64 l).toNat : Int) = _
  rw [BitVec.toNat_or, BitVec.toNat_ofInt, BitVec.toNat_ofInt, nat_join 32 _ _ (by omega) (by omega), IntKind.wrap_i64]
  omega

end Go.Proofs.Ytpkmjddjllpglaa.Nm.Plain
