/- Signs and halves of 64-bit integers under xor, and, or, as the model reckons them; for all integers within 64 bits. Sums of lists of integers, by their upper and lower halves; for all lists. -/
import Derived.Laws.BitsLemmas
import Derived.Laws.BitsAllLaws
namespace Go.Proofs.Ytlpcpbangmonaaa.Nm.Plain

theorem wrap_neg (v : BitVec 64) : IntKind.i64.wrap (v.toNat : Int) < 0 ↔ v.msb = true := by
  rw [BitVec.msb_eq_decide, IntKind.wrap_i64, decide_eq_true_iff]
  have := v.isLt
  omega

theorem msb_int (a : Int) (h : -9223372036854775808 ≤ a) (h' : a ≤ 9223372036854775807) : (BitVec.ofInt 64 a).msb = decide (a < 0) := by
  rw [BitVec.msb_eq_decide, BitVec.toNat_ofInt, decide_eq_decide]
  omega

theorem bits_neg (a : Int) : IntKind.i64.wrap a < 9223372036854775808 ∧ -9223372036854775808 ≤ IntKind.i64.wrap a := by
  rw [IntKind.wrap_i64]; omega

theorem xor_neg (a b : Int) (ha : -9223372036854775808 ≤ a) (ha' : a ≤ 9223372036854775807) (hb : -9223372036854775808 ≤ b) (hb' : b ≤ 9223372036854775807) :
    bits .xor .i64 a b < 0 ↔ ¬ (a < 0 ↔ b < 0) := by
  show IntKind.i64.wrap ((BitVec.ofInt 64 a ^^^ BitVec.ofInt 64 b).toNat : Int) < 0 ↔ _
  rw [wrap_neg, BitVec.msb_xor, msb_int a ha ha', msb_int b hb hb']
  by_cases h1 : a < 0 <;> by_cases h2 : b < 0 <;> simp [h1, h2]

theorem and_neg (a b : Int) (ha : -9223372036854775808 ≤ a) (ha' : a ≤ 9223372036854775807) (hb : -9223372036854775808 ≤ b) (hb' : b ≤ 9223372036854775807) :
    bits .and .i64 a b < 0 ↔ a < 0 ∧ b < 0 := by
  show IntKind.i64.wrap ((BitVec.ofInt 64 a &&& BitVec.ofInt 64 b).toNat : Int) < 0 ↔ _
  rw [wrap_neg, BitVec.msb_and, msb_int a ha ha', msb_int b hb hb']
  simp

theorem bits_range (op : BinOp) (h : op = .and ∨ op = .or ∨ op = .xor) (a b : Int) : -9223372036854775808 ≤ bits op .i64 a b ∧ bits op .i64 a b ≤ 9223372036854775807 := by
  rcases h with rfl | rfl | rfl <;> (simp only [bits]; rw [IntKind.wrap_i64]; omega)

/-- the test by which a sum is seen to run over -/
theorem over_iff (a b : Int) (ha : -9223372036854775808 ≤ a) (ha' : a ≤ 9223372036854775807) (hb : -9223372036854775808 ≤ b) (hb' : b ≤ 9223372036854775807) :
    bits .and .i64 (bits .xor .i64 a (IntKind.i64.wrap (a + b))) (bits .xor .i64 b (IntKind.i64.wrap (a + b))) < 0 ↔ (a + b < -9223372036854775808 ∨ 9223372036854775807 < a + b) := by
  have r := bits_neg (a + b)
  have r1 := bits_range .xor (by simp) a (IntKind.i64.wrap (a + b))
  have r2 := bits_range .xor (by simp) b (IntKind.i64.wrap (a + b))
  rw [and_neg _ _ r1.1 r1.2 r2.1 r2.2, xor_neg _ _ ha ha' r.2 (by omega), xor_neg _ _ hb hb' r.2 (by omega), IntKind.wrap_i64]
  omega

theorem and_low (n : Int) : bits .and .i64 n 4294967295 = n % 4294967296 := by
  show IntKind.i64.wrap ((BitVec.ofInt 64 n &&& BitVec.ofInt 64 4294967295).toNat : Int) = _
  have e : (BitVec.ofInt 64 4294967295).toNat = 2 ^ 32 - 1 := by decide
  rw [BitVec.toNat_and, e, Nat.and_two_pow_sub_one_eq_mod, BitVec.toNat_ofInt, IntKind.wrap_i64]
  omega

theorem or_join (u l : Int) (hu : -2147483648 ≤ u) (hu' : u ≤ 2147483647) (hl : 0 ≤ l) (hl' : l < 4294967296) : bits .or .i64 (u * 4294967296) l = u * 4294967296 + l := by
  show IntKind.i64.wrap ((BitVec.ofInt 64 (u * 4294967296) ||| BitVec.ofInt 64 l).toNat : Int) = _
  rw [BitVec.toNat_or, BitVec.toNat_ofInt, BitVec.toNat_ofInt, nat_join 32 _ _ (by omega) (by omega), IntKind.wrap_i64]
  omega

end Go.Proofs.Ytlpcpbangmonaaa.Nm.Plain
namespace Go.Proofs.Ytlpcpbangmonaaa.Nm.Plain

/-- an integer of 64 bits -/
def fits (n : Int) : Prop := -9223372036854775808 ≤ n ∧ n ≤ 9223372036854775807
instance (n : Int) : Decidable (fits n) := by unfold fits; infer_instance
/-- what a sum answers: itself and 0, or 0 and 5 -/
def sumV (n : Int) : Int := if fits n then n else 0
def sumE (n : Int) : Int := if fits n then 0 else 5

def tot (l : List Int) : Int := l.foldr (· + ·) 0
def ups (l : List Int) : Int := tot (l.map (· / 4294967296))
def los (l : List Int) : Int := tot (l.map (· % 4294967296))

theorem tot_nil : tot [] = 0 := rfl
theorem tot_cons (a : Int) (l : List Int) : tot (a :: l) = a + tot l := rfl
theorem tot_append (l m : List Int) : tot (l ++ m) = tot l + tot m := by
  induction l with
  | nil => simp [tot_nil]
  | cons a l ih => simp only [List.cons_append, tot_cons, ih]; omega
theorem tot_halves (l : List Int) : tot l = ups l * 4294967296 + los l := by
  induction l with
  | nil => rfl
  | cons a l ih =>
    unfold ups los at *
    simp only [List.map_cons, tot_cons, ih]
    omega
theorem los_bd (l : List Int) : 0 ≤ los l ∧ los l ≤ l.length * 4294967296 := by
  induction l with
  | nil => simp [los, tot_nil]
  | cons a l ih =>
    unfold los at *
    simp only [List.map_cons, tot_cons, List.length_cons]
    omega
theorem ups_bd (l : List Int) (h : ∀ n ∈ l, fits n) : -(l.length * 2147483648) ≤ ups l ∧ ups l ≤ l.length * 2147483648 := by
  induction l with
  | nil => simp [ups, tot_nil]
  | cons a l ih =>
    have ih := ih (fun n hn => h n (List.mem_cons_of_mem _ hn))
    have ha := h a List.mem_cons_self
    unfold ups fits at *
    simp only [List.map_cons, tot_cons, List.length_cons]
    omega
/-- the sum fits just where its upper half does -/
theorem fits_halves (u l : Int) : fits (u * 4294967296 + l) ↔ -2147483648 ≤ u + l / 4294967296 ∧ u + l / 4294967296 ≤ 2147483647 := by
  unfold fits; omega
theorem join_halves (u l : Int) : (u + l / 4294967296) * 4294967296 + l % 4294967296 = u * 4294967296 + l := by omega

theorem add_no (a b : Int) (h : ¬ fits (a + b)) : sumV (a + b) = 0 ∧ sumE (a + b) = 5 := by simp [sumV, sumE, h]
theorem add_yes (a b : Int) (h : fits (a + b)) : sumV (a + b) = a + b ∧ sumE (a + b) = 0 := by simp [sumV, sumE, h]
end Go.Proofs.Ytlpcpbangmonaaa.Nm.Plain
