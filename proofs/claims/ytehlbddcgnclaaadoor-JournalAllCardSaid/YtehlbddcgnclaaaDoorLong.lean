/- The document's sum by long division: bits as a polynomial, the first bit the highest, 32 noughts behind them and the first 32 turned, comes to the same as the sum step by step. Plain mathematics: no program. -/
import Derived.Test.YtehlbddcgnclaaaDoorCrc
namespace Go.Proofs.YtehlbddcgnclaaaDoor.Plain
set_option linter.unusedVariables false

/-- x times the rest, divided -/
def T (r : BitVec 32) : BitVec 32 := (r <<< 1) ^^^ (if r.getLsbD 31 then 0x04c11db7#32 else 0#32)
def b2v (b : Bool) : BitVec 32 := if b then 1#32 else 0#32
theorem T_lin : Lin T := by
  intro a b
  unfold T
  rw [BitVec.shiftLeft_xor_distrib, BitVec.getLsbD_xor]
  cases a.getLsbD 31 <;> cases b.getLsbD 31 <;> simp only [Bool.xor_false, Bool.xor_true, Bool.not_true, Bool.not_false, if_true, if_false, BitVec.xor_zero, Bool.false_eq_true]
  · ac_rfl
  · ac_rfl
  · have e : (0x04c11db7#32 ^^^ 0x04c11db7#32 : BitVec 32) = 0#32 := by decide
    rw [show a <<< 1 ^^^ 0x04c11db7#32 ^^^ (b <<< 1 ^^^ 0x04c11db7#32) = a <<< 1 ^^^ b <<< 1 ^^^ (0x04c11db7#32 ^^^ 0x04c11db7#32) by ac_rfl, e, BitVec.xor_zero]
theorem b2v_xor (a b : Bool) : b2v (a ^^ b) = b2v a ^^^ b2v b := by
  cases a <;> cases b <;> decide

/-- T, n times -/
def Tn : Nat → BitVec 32 → BitVec 32
  | 0, r => r
  | n + 1, r => T (Tn n r)
theorem Tn_lin (n : Nat) : Lin (Tn n) := by
  induction n with
  | zero => exact Lin.id
  | succ n ih => exact T_lin.comp ih
theorem Tn_T (n : Nat) (r : BitVec 32) : Tn n (T r) = T (Tn n r) := by
  induction n with
  | zero => rfl
  | succ n ih => show T (Tn n (T r)) = T (T (Tn n r)); rw [ih]

/-- the rest behind i bits of f -/
def fd (f : Nat → Bool) : Nat → BitVec 32
  | 0 => 0#32
  | i + 1 => T (fd f i) ^^^ b2v (f i)
theorem fd_xor (f g : Nat → Bool) (i : Nat) : fd (fun j => f j ^^ g j) i = fd f i ^^^ fd g i := by
  induction i with
  | zero => show 0#32 = 0#32 ^^^ 0#32; rw [BitVec.xor_zero]
  | succ i ih =>
    simp only [fd]
    rw [ih, T_lin, b2v_xor]
    ac_rfl
theorem fd_zero (f : Nat → Bool) (n : Nat) (h : ∀ i, n ≤ i → f i = false) (j : Nat) : fd f (n + j) = Tn j (fd f n) := by
  induction j with
  | zero => rfl
  | succ j ih =>
    show T (fd f (n + j)) ^^^ b2v (f (n + j)) = T (Tn j (fd f n))
    rw [ih, h _ (by omega)]
    show _ ^^^ 0#32 = _
    rw [BitVec.xor_zero]
/-- the first 32 bits -/
def ahead (i : Nat) : Bool := decide (i < 32)
def ones : BitVec 32 := ~~~ 0#32
theorem fd_ahead : fd ahead 32 = ones := by decide +kernel

/-- bit i of the text, the lowest bit of each byte first -/
def bitAt (l : Bytes) (i : Nat) : Bool := (l.getD (i / 8) 0#8).getLsbD (i % 8)
theorem bitAt_end (l : Bytes) (i : Nat) (h : 8 * l.length ≤ i) : bitAt l i = false := by
  unfold bitAt
  rw [show l.getD (i / 8) 0#8 = 0#8 by simp [List.getD, List.getElem?_eq_none (show l.length ≤ i / 8 by omega)]]
  simp
/-- the rest that the long division has behind i bits -/
def rest (l : Bytes) (i : Nat) : BitVec 32 := fd (fun j => bitAt l j ^^ ahead j) i
theorem rest_succ (l : Bytes) (i : Nat) : rest l (i + 1) = T (rest l i) ^^^ b2v (bitAt l i ^^ ahead i) := rfl

/-- the register that takes each bit at its top, begun with all ones -/
def dr (f : Nat → Bool) : Nat → BitVec 32
  | 0 => ones
  | i + 1 => T (dr f i ^^^ (if f i then 0x80000000#32 else 0#32))
theorem top_T (b : Bool) : T (if b then 0x80000000#32 else 0#32) = Tn 32 (b2v b) := by
  cases b <;> decide +kernel
theorem dr_eq (f : Nat → Bool) (i : Nat) : dr f i = Tn i ones ^^^ Tn 32 (fd f i) := by
  induction i with
  | zero => show ones = ones ^^^ Tn 32 0#32; rw [(Tn_lin 32).zero, BitVec.xor_zero]
  | succ i ih =>
    show T (dr f i ^^^ _) = T (Tn i ones) ^^^ Tn 32 (T (fd f i) ^^^ b2v (f i))
    rw [T_lin, ih, T_lin, Tn_lin, Tn_T, top_T]
    ac_rfl
theorem rest_dr (l : Bytes) : rest l (8 * l.length + 32) = dr (bitAt l) (8 * l.length) := by
  unfold rest
  rw [fd_xor, fd_zero (bitAt l) (8 * l.length) (bitAt_end l) 32, Nat.add_comm, fd_zero ahead 32 (fun i hi => by simp [ahead]; omega), fd_ahead, dr_eq]
  ac_rfl

/-! ### turned about -/
def rv : Nat → BitVec 32 → BitVec 32
  | 0, _ => 0#32
  | k + 1, r => (rv k r <<< 1) ^^^ b2v (r.getLsbD k)
theorem rv_lin (k : Nat) : Lin (rv k) := by
  induction k with
  | zero => intro a b; show 0#32 = 0#32 ^^^ 0#32; simp
  | succ k ih =>
    intro a b
    show (rv k (a ^^^ b) <<< 1) ^^^ b2v ((a ^^^ b).getLsbD k) = (rv k a <<< 1 ^^^ b2v (a.getLsbD k)) ^^^ (rv k b <<< 1 ^^^ b2v (b.getLsbD k))
    rw [ih, BitVec.getLsbD_xor, b2v_xor, BitVec.shiftLeft_xor_distrib]
    ac_rfl
theorem rv_T (r : BitVec 32) : rv 32 (T r) = s1 (rv 32 r) :=
  lin_ext (f := fun r => rv 32 (T r)) (g := fun r => s1 (rv 32 r)) ((rv_lin 32).comp T_lin) (s1_lin.comp (rv_lin 32)) (by decide +kernel) r
theorem rv_top (b : Bool) : rv 32 (if b then 0x80000000#32 else 0#32) = b2v b := by
  cases b <;> decide +kernel
theorem rv_ones : rv 32 ones = ones := by decide +kernel

/-- eight bits, the lowest first, one by one -/
def eight (r : BitVec 32) (c : BitVec 8) : Nat → BitVec 32
  | 0 => r
  | k + 1 => s1 (eight r c k ^^^ b2v (c.getLsbD k))
def s1n : Nat → BitVec 32 → BitVec 32
  | 0, r => r
  | n + 1, r => s1 (s1n n r)
theorem eight_split (r : BitVec 32) (c : BitVec 8) (k : Nat) : eight r c k = s1n k r ^^^ eight 0#32 c k := by
  induction k with
  | zero => show r = r ^^^ 0#32; rw [BitVec.xor_zero]
  | succ k ih =>
    show s1 (eight r c k ^^^ _) = s1 (s1n k r) ^^^ s1 (eight 0#32 c k ^^^ _)
    rw [ih, ← s1_lin, BitVec.xor_assoc]
theorem eight_byte : ∀ c : BitVec 8, eight 0#32 c 8 = s4 (s4 (wide c)) := by decide +kernel
theorem eight_eq (r : BitVec 32) (c : BitVec 8) : eight r c 8 = stepB r c := by
  rw [eight_split, eight_byte]
  unfold stepB
  rw [s4_lin, s4_lin]
  rfl
theorem dr_eight (l : Bytes) (n : Nat) (h : n < l.length) (k : Nat) (hk : k ≤ 8) : rv 32 (dr (bitAt l) (8 * n + k)) = eight (rv 32 (dr (bitAt l) (8 * n))) (l.getD n 0#8) k := by
  induction k with
  | zero => rfl
  | succ k ih =>
    show rv 32 (T (dr (bitAt l) (8 * n + k) ^^^ _)) = s1 (eight _ _ k ^^^ _)
    rw [rv_T, rv_lin, ih (by omega), rv_top]
    have e : bitAt l (8 * n + k) = (l.getD n 0#8).getLsbD k := by
      unfold bitAt
      rw [show (8 * n + k) / 8 = n by omega, show (8 * n + k) % 8 = k by omega]
    rw [← e]
    rfl
theorem dr_feed (l : Bytes) (n : Nat) (h : n ≤ l.length) : rv 32 (dr (bitAt l) (8 * n)) = feed ones (l.take n) := by
  induction n with
  | zero => exact rv_ones
  | succ n ih =>
    rw [feed_snoc ones l n (by omega), ← ih (by omega), ← eight_eq, ← dr_eight l n (by omega) 8 (by omega)]
    rfl
/-- the long division's answer is the sum -/
theorem long_sum (l : Bytes) : rv 32 (rest l (8 * l.length + 32)) ^^^ ones = sum l := by
  rw [rest_dr, dr_feed l l.length (Nat.le_refl _), List.take_length]
  show feed ones l ^^^ ones = ~~~ feed ones l
  rw [BitVec.xor_comm]
  exact BitVec.allOnes_xor

/-! ### as numbers -/
theorem T_nat (r : BitVec 32) (b : Bool) :
    (T r ^^^ b2v b).toNat = if (r.toNat * 2 ||| (if b then 1 else 0)) / 4294967296 = 1 then (r.toNat * 2 ||| (if b then 1 else 0)) ^^^ 4374732215 else r.toNat * 2 ||| (if b then 1 else 0) := by
  have hb : (r.toNat * 2 ||| (if b then 1 else 0)) = r.toNat * 2 + (if b then 1 else 0) := by
    rw [Nat.mul_comm, ← Nat.two_pow_add_eq_or_of_lt (i := 1) (b := if b then 1 else 0) (by cases b <;> decide)]
  have hlt := r.isLt
  have h31 : r.getLsbD 31 = decide (2147483648 ≤ r.toNat) := by
    rw [← BitVec.testBit_toNat, Nat.testBit_eq_decide_div_mod_eq]
    apply decide_eq_decide.2
    omega
  have hd : ((r.toNat * 2 ||| (if b then 1 else 0)) / 4294967296 = 1) ↔ 2147483648 ≤ r.toNat := by
    rw [hb]; cases b <;> simp <;> omega
  have hz : (b2v b).toNat = if b then 1 else 0 := by cases b <;> rfl
  have hor : r.toNat * 2 ||| (if b then 1 else 0) = (r.toNat * 2) ^^^ (if b then 1 else 0) := by
    apply Nat.eq_of_testBit_eq
    intro i
    rw [Nat.testBit_or, Nat.testBit_xor]
    rcases i with _ | i
    · rw [Nat.testBit_zero]; simp
    · cases b
      · simp
      · simp [Nat.testBit_succ]
  have key : ∀ i, i < 33 → (r.toNat * 2).testBit i = ((r <<< 1).toNat.testBit i ^^ (decide (i = 32) && decide (2147483648 ≤ r.toNat))) := by
    intro i hi
    rw [BitVec.testBit_toNat, BitVec.getLsbD_shiftLeft]
    rcases i with _ | i
    · simp
    · rw [Nat.testBit_succ, Nat.mul_div_cancel _ (by omega : 0 < 2), BitVec.testBit_toNat]
      by_cases h : i = 31
      · subst h; rw [h31]; simp
      · have h1 : i + 1 < 32 := by omega
        have h2 : ¬ (i + 1 = 32) := by omega
        simp [h1, h2]
  rw [BitVec.toNat_xor, hz]
  unfold T
  rw [h31]
  by_cases h : 2147483648 ≤ r.toNat
  · rw [if_pos (hd.2 h), hor]
    simp only [h, decide_true, if_true]
    rw [BitVec.toNat_xor]
    apply Nat.eq_of_testBit_eq
    intro i
    simp only [Nat.testBit_xor]
    by_cases hi : i < 33
    · rw [key i hi]
      simp only [h, decide_true, Bool.and_true]
      have hp : ∀ i, i < 33 → (decide (i = 32) ^^ Nat.testBit 4374732215 i) = (0x04c11db7#32).toNat.testBit i := by decide +kernel
      rw [← hp i hi]
      generalize Nat.testBit 4374732215 i = p
      generalize (r <<< 1).toNat.testBit i = q
      generalize (if b = true then 1 else 0 : Nat).testBit i = s
      cases p <;> cases q <;> cases s <;> cases decide (i = 32) <;> rfl
    · have e1 : (r.toNat * 2).testBit i = false := Nat.testBit_lt_two_pow (Nat.lt_of_lt_of_le (show _ < 2 ^ 33 by omega) (Nat.pow_le_pow_right (by omega) (by omega)))
      have e2 : (r <<< 1).toNat.testBit i = false := Nat.testBit_lt_two_pow (Nat.lt_of_lt_of_le (BitVec.isLt _) (Nat.pow_le_pow_right (by omega) (by omega)))
      have e3 : Nat.testBit 4374732215 i = false := Nat.testBit_lt_two_pow (Nat.lt_of_lt_of_le (show _ < 2 ^ 33 by decide) (Nat.pow_le_pow_right (by omega) (by omega)))
      have e4 : (0x04c11db7#32).toNat.testBit i = false := Nat.testBit_lt_two_pow (Nat.lt_of_lt_of_le (BitVec.isLt _) (Nat.pow_le_pow_right (by omega) (by omega)))
      rw [e1, e2, e3, e4]
      generalize (if b = true then 1 else 0 : Nat).testBit i = s
      cases s <;> rfl
  · rw [if_neg (fun e => h (hd.1 e)), hor]
    simp only [h, decide_false, Bool.false_eq_true, if_false, BitVec.xor_zero]
    congr 1
    rw [BitVec.toNat_shiftLeft, Nat.shiftLeft_eq]
    omega
theorem rv_nat (r : BitVec 32) (k : Nat) : (rv (k + 1) r).toNat = ((rv k r).toNat * 2) % 4294967296 ||| (r.toNat / 2 ^ k % 2) := by
  have hz : (b2v (r.getLsbD k)).toNat = r.toNat / 2 ^ k % 2 := by
    rw [← BitVec.testBit_toNat, Nat.testBit_eq_decide_div_mod_eq]
    by_cases h : r.toNat / 2 ^ k % 2 = 1
    · rw [h]; rfl
    · have : r.toNat / 2 ^ k % 2 = 0 := by omega
      rw [this]; rfl
  show ((rv k r <<< 1) ^^^ b2v (r.getLsbD k)).toNat = _
  rw [BitVec.toNat_xor, hz, BitVec.toNat_shiftLeft, Nat.shiftLeft_eq, show 2 ^ 32 = 4294967296 by decide, show 2 ^ 1 = 2 by decide]
  have h2 : r.toNat / 2 ^ k % 2 < 2 := Nat.mod_lt _ (by omega)
  generalize r.toNat / 2 ^ k % 2 = b at *
  have h3 : (rv k r).toNat * 2 % 4294967296 % 2 = 0 := by omega
  generalize (rv k r).toNat * 2 % 4294967296 = x at *
  apply Nat.eq_of_testBit_eq
  intro i
  rw [Nat.testBit_or, Nat.testBit_xor]
  rcases i with _ | i
  · rw [Nat.testBit_zero, h3]; simp
  · have : b.testBit (i + 1) = false := by
      rw [Nat.testBit_succ, show b / 2 = 0 by omega]; simp
    rw [this]; simp
end Go.Proofs.YtehlbddcgnclaaaDoor.Plain
