/- CRC-32 over vectors of 32 bits: the document's eight steps a byte are linear over exclusive or and lose nothing; a table of sixteen does four of them; long division of polynomials, the first bit the highest, comes to the same. Plain mathematics: no program. -/
import Derived.Test.YtehlbddcgnclaaaDoorMath
namespace Go.Proofs.YtehlbddcgnclaaaDoor.Plain
set_option linter.unusedVariables false

/-! ### linear maps -/
def Lin (f : BitVec 32 → BitVec 32) : Prop := ∀ a b, f (a ^^^ b) = f a ^^^ f b
theorem Lin.zero {f : BitVec 32 → BitVec 32} (h : Lin f) : f 0#32 = 0#32 := by
  have := h 0#32 0#32
  rw [BitVec.xor_self] at this
  rw [this, BitVec.xor_self]
theorem Lin.comp {f g : BitVec 32 → BitVec 32} (hf : Lin f) (hg : Lin g) : Lin (fun r => f (g r)) := fun a b => by
  show f (g (a ^^^ b)) = f (g a) ^^^ f (g b)
  rw [hg, hf]
theorem Lin.xor {f g : BitVec 32 → BitVec 32} (hf : Lin f) (hg : Lin g) : Lin (fun r => f r ^^^ g r) := fun a b => by
  show f (a ^^^ b) ^^^ g (a ^^^ b) = (f a ^^^ g a) ^^^ (f b ^^^ g b)
  rw [hf, hg]; ac_rfl
theorem Lin.id : Lin (fun r => r) := fun _ _ => rfl

theorem top_bit (r : BitVec 32) (n : Nat) (hn : n < 32) (hr : r.toNat < 2 ^ (n + 1)) (hb : r.getLsbD n = true) : (r ^^^ (1#32 <<< n)).toNat < 2 ^ n := by
  apply Nat.lt_pow_two_of_testBit
  intro i hi
  rw [BitVec.testBit_toNat, BitVec.getLsbD_xor, BitVec.getLsbD_shiftLeft]
  by_cases he : i = n
  · subst he; simp [hb, hn]
  · have h1 : r.getLsbD i = false := by
      rw [← BitVec.testBit_toNat]
      exact Nat.testBit_lt_two_pow (Nat.lt_of_lt_of_le hr (Nat.pow_le_pow_right (by omega) (by omega)))
    have h2 : (1#32).getLsbD (i - n) = false := by
      rw [BitVec.getLsbD_one]; simp; omega
    simp [h1, h2]

theorem low_bit (r : BitVec 32) (n : Nat) (hr : r.toNat < 2 ^ (n + 1)) (hb : r.getLsbD n = false) : r.toNat < 2 ^ n := by
  apply Nat.lt_pow_two_of_testBit
  intro i hi
  by_cases he : i = n
  · subst he; rw [BitVec.testBit_toNat]; exact hb
  · exact Nat.testBit_lt_two_pow (Nat.lt_of_lt_of_le hr (Nat.pow_le_pow_right (by omega) (by omega)))

theorem lin_ext {f g : BitVec 32 → BitVec 32} (hf : Lin f) (hg : Lin g) (h : ∀ i : Fin 32, f (1#32 <<< i.val) = g (1#32 <<< i.val)) (r : BitVec 32) : f r = g r := by
  have go : ∀ n, n ≤ 32 → ∀ r : BitVec 32, r.toNat < 2 ^ n → f r = g r := by
    intro n
    induction n with
    | zero =>
      intro _ r hr
      have : r = 0#32 := BitVec.eq_of_toNat_eq (by simp at hr ⊢; omega)
      rw [this, hf.zero, hg.zero]
    | succ n ih =>
      intro hn r hr
      cases hb : r.getLsbD n with
      | false => exact ih (by omega) r (low_bit r n hr hb)
      | true =>
        have e : r = (r ^^^ (1#32 <<< n)) ^^^ (1#32 <<< n) := by rw [BitVec.xor_assoc, BitVec.xor_self, BitVec.xor_zero]
        rw [e, hf, hg, ih (by omega) _ (top_bit r n (by omega) hr hb), h ⟨n, by omega⟩]
  exact go 32 (Nat.le_refl _) r r.isLt

/-! ### the document's step, and its table -/
/-- one step: one bit down, and edb88320 laid over it where the lowest bit was 1 -/
def s1 (r : BitVec 32) : BitVec 32 := (r >>> 1) ^^^ (if r.getLsbD 0 then 0xedb88320#32 else 0#32)
theorem s1_lin : Lin s1 := by
  intro a b
  unfold s1
  rw [BitVec.ushiftRight_xor_distrib, BitVec.getLsbD_xor]
  cases a.getLsbD 0 <;> cases b.getLsbD 0 <;> simp only [Bool.xor_false, Bool.xor_true, Bool.not_true, Bool.not_false, if_true, if_false, BitVec.xor_zero, Bool.false_eq_true]
  · ac_rfl
  · ac_rfl
  · have e : (0xedb88320#32 ^^^ 0xedb88320#32 : BitVec 32) = 0#32 := by decide
    rw [show a >>> 1 ^^^ 0xedb88320#32 ^^^ (b >>> 1 ^^^ 0xedb88320#32) = a >>> 1 ^^^ b >>> 1 ^^^ (0xedb88320#32 ^^^ 0xedb88320#32) by ac_rfl, e, BitVec.xor_zero]
theorem s1_zero (r : BitVec 32) (h : s1 r = 0#32) : r = 0#32 := by
  unfold s1 at h
  cases hb : r.getLsbD 0 with
  | true =>
    rw [hb, if_pos rfl] at h
    have := congrArg (fun x : BitVec 32 => x.getLsbD 31) h
    simp only [BitVec.getLsbD_xor, BitVec.getLsbD_ushiftRight] at this
    have h1 : r.getLsbD (1 + 31) = false := BitVec.getLsbD_of_ge _ _ (by omega)
    rw [h1] at this
    exact absurd this (by decide)
  | false =>
    rw [hb, if_neg (by simp), BitVec.xor_zero] at h
    apply BitVec.eq_of_getLsbD_eq
    intro i hi
    rcases i with _ | i
    · rw [hb]; simp
    · have := congrArg (fun x : BitVec 32 => x.getLsbD i) h
      simp only [BitVec.getLsbD_ushiftRight] at this
      rw [Nat.add_comm, this]; simp
theorem xor_eq_zero {n : Nat} {a b : BitVec n} (h : a ^^^ b = 0#n) : a = b := by
  have : a ^^^ b ^^^ b = 0#n ^^^ b := by rw [h]
  rw [BitVec.xor_assoc, BitVec.xor_self, BitVec.xor_zero, BitVec.zero_xor] at this
  exact this
theorem s1_inj {a b : BitVec 32} (h : s1 a = s1 b) : a = b := by
  apply xor_eq_zero
  apply s1_zero
  rw [s1_lin, h, BitVec.xor_self]

/-- four steps -/
def s4 (r : BitVec 32) : BitVec 32 := s1 (s1 (s1 (s1 r)))
theorem s4_lin : Lin s4 := s1_lin.comp (s1_lin.comp (s1_lin.comp s1_lin))
theorem s4_inj {a b : BitVec 32} (h : s4 a = s4 b) : a = b := s1_inj (s1_inj (s1_inj (s1_inj h)))

/-- the table, as the program's text has it -/
def tab : List Int := [0, 498536548, 997073096, 651767980, 1994146192, 1802195444, 1303535960, 1342533948, 3988292384, 4027552580, 3604390888, 3412177804, 2607071920, 2262029012, 2685067896, 3183342108]
theorem tab_bd : ∀ i, i < 16 → 0 ≤ tab.getD i 0 ∧ tab.getD i 0 < 4294967296 := by decide
theorem s4_high (r : BitVec 32) : s4 (r ^^^ (r &&& 15#32)) = r >>> 4 := by
  refine lin_ext (f := fun r => s4 (r ^^^ (r &&& 15#32))) (g := fun r => r >>> 4) ?_ ?_ ?_ r
  · refine s4_lin.comp (g := fun r => r ^^^ (r &&& 15#32)) (Lin.id.xor (g := fun r => r &&& 15#32) ?_)
    intro a b
    apply BitVec.eq_of_getLsbD_eq
    intro i hi
    simp only [BitVec.getLsbD_and, BitVec.getLsbD_xor]
    cases a.getLsbD i <;> cases b.getLsbD i <;> simp
  · intro a b; exact BitVec.ushiftRight_xor_distrib ..
  · decide +kernel
theorem s4_low : ∀ i, i < 16 → ((s4 (BitVec.ofNat 32 i)).toNat : Int) = tab.getD i 0 := by decide +kernel
theorem low_four (r : BitVec 32) : r &&& 15#32 = BitVec.ofNat 32 (r.toNat % 16) := by
  apply BitVec.eq_of_toNat_eq
  rw [BitVec.toNat_and, BitVec.toNat_ofNat, BitVec.toNat_ofNat, show 15 % 2 ^ 32 = 2 ^ 4 - 1 by decide, Nat.and_two_pow_sub_one_eq_mod]
  have := r.isLt
  omega
/-- what the program reckons: the register four bits down, and what the table has for them laid over it -/
theorem s4_tab (r : BitVec 32) : (s4 r).toNat = (r.toNat / 16) ^^^ (tab.getD (r.toNat % 16) 0).toNat := by
  have e : s4 r = (r >>> 4) ^^^ s4 (r &&& 15#32) := by
    rw [← s4_high, ← s4_lin, BitVec.xor_assoc, BitVec.xor_self, BitVec.xor_zero]
  have h := s4_low (r.toNat % 16) (Nat.mod_lt _ (by omega))
  rw [e, low_four, BitVec.toNat_xor, BitVec.toNat_ushiftRight, ← h, Int.toNat_natCast, Nat.shiftRight_eq_div_pow]

/-! ### bytes -/
def wide (c : BitVec 8) : BitVec 32 := c.setWidth 32
theorem wide_toNat (c : BitVec 8) : (wide c).toNat = c.toNat := by
  unfold wide; rw [BitVec.toNat_setWidth]; have := c.isLt; omega
theorem wide_xor (a b : BitVec 8) : wide (a ^^^ b) = wide a ^^^ wide b := by
  apply BitVec.eq_of_toNat_eq
  simp [wide_toNat, BitVec.toNat_xor]
theorem wide_zero {c : BitVec 8} (h : wide c = 0#32) : c = 0#8 := by
  apply BitVec.eq_of_toNat_eq
  rw [← wide_toNat, h]; rfl
/-- one byte -/
def stepB (r : BitVec 32) (c : BitVec 8) : BitVec 32 := s4 (s4 (r ^^^ wide c))
def feed (r : BitVec 32) (l : Bytes) : BitVec 32 := l.foldl stepB r
@[simp] theorem feed_nil (r : BitVec 32) : feed r [] = r := rfl
@[simp] theorem feed_cons (r : BitVec 32) (c : BitVec 8) (l : Bytes) : feed r (c :: l) = feed (stepB r c) l := rfl
theorem feed_append (r : BitVec 32) (a b : Bytes) : feed r (a ++ b) = feed (feed r a) b := List.foldl_append ..
theorem feed_snoc (r : BitVec 32) (l : Bytes) (k : Nat) (h : k < l.length) : feed r (l.take (k + 1)) = stepB (feed r (l.take k)) (l.getD k 0#8) := by
  rw [List.take_succ_eq_append_getElem h, feed_append]
  simp [List.getD, List.getElem?_eq_getElem h]
theorem stepB_inj {a b : BitVec 32} {c : BitVec 8} (h : stepB a c = stepB b c) : a = b := by
  have := s4_inj (s4_inj h)
  have e : a ^^^ wide c ^^^ wide c = b ^^^ wide c ^^^ wide c := by rw [this]
  rwa [BitVec.xor_assoc, BitVec.xor_self, BitVec.xor_zero, BitVec.xor_assoc, BitVec.xor_self, BitVec.xor_zero] at e
theorem feed_inj {l : Bytes} : ∀ {a b : BitVec 32}, feed a l = feed b l → a = b := by
  induction l with
  | nil => intro a b h; exact h
  | cons c l ih => intro a b h; exact stepB_inj (ih h)

/-- a sum that goes on -/
def more (s : BitVec 32) (l : Bytes) : BitVec 32 := ~~~ feed (~~~ s) l
/-- a sum -/
def sum (l : Bytes) : BitVec 32 := more 0#32 l
theorem more_nil (s : BitVec 32) : more s [] = s := by simp [more]
theorem more_append (s : BitVec 32) (a b : Bytes) : more s (a ++ b) = more (more s a) b := by
  simp [more, feed_append]
theorem sum_append (a b : Bytes) : more (sum a) b = sum (a ++ b) := (more_append ..).symm
theorem not_inj {a b : BitVec 32} (h : ~~~ a = ~~~ b) : a = b := by
  have := congrArg (fun x => ~~~ x) h
  simpa using this
theorem more_inj {l : Bytes} {a b : BitVec 32} (h : more a l = more b l) : a = b := not_inj (feed_inj (not_inj h))

/-! ### one byte turned -/
theorem sum_turned (l : Bytes) (at_ : Nat) (h : at_ < l.length) (m : BitVec 8) (hm : m ≠ 0#8) : sum (l.set at_ (l.getD at_ 0#8 ^^^ m)) ≠ sum l := by
  intro e
  have e := not_inj e
  have hg : l.getD at_ 0#8 = l[at_] := by simp [List.getD, List.getElem?_eq_getElem h]
  have h1 : l = l.take at_ ++ l[at_] :: l.drop (at_ + 1) := by rw [List.getElem_cons_drop, List.take_append_drop]
  rw [hg, List.set_eq_take_append_cons_drop, if_pos h] at e
  have e2 : feed (~~~ 0#32) l = feed (~~~ 0#32) (l.take at_ ++ l[at_] :: l.drop (at_ + 1)) := by rw [← h1]
  rw [e2, feed_append, feed_append, feed_cons, feed_cons] at e
  have e := s4_inj (s4_inj (feed_inj e))
  rw [wide_xor] at e
  apply hm
  apply wide_zero
  have e3 := congrArg (fun x => x ^^^ (feed (~~~ 0#32) (l.take at_) ^^^ wide l[at_])) e
  simp only [BitVec.xor_self] at e3
  rw [← e3]
  generalize feed (~~~ 0#32) (l.take at_) = p
  generalize wide l[at_] = q
  rw [show p ^^^ (q ^^^ wide m) ^^^ (p ^^^ q) = (p ^^^ p) ^^^ ((q ^^^ q) ^^^ wide m) by ac_rfl, BitVec.xor_self, BitVec.xor_self, BitVec.zero_xor, BitVec.zero_xor]

/-! ### three texts -/
def lay3 : Bytes → Bytes → Bytes → Bytes
  | a :: l, b :: m, c :: n => (a ^^^ b ^^^ c) :: lay3 l m n
  | _, _, _ => []
theorem stepB_three (p q r : BitVec 32) (a b c : BitVec 8) : stepB (p ^^^ q ^^^ r) (a ^^^ b ^^^ c) = stepB p a ^^^ stepB q b ^^^ stepB r c := by
  unfold stepB
  rw [← s4_lin, ← s4_lin, ← s4_lin, ← s4_lin, wide_xor, wide_xor]
  congr 2
  ac_rfl
theorem feed_three : ∀ (l m n : Bytes) (p q r : BitVec 32), l.length = m.length → m.length = n.length → feed (p ^^^ q ^^^ r) (lay3 l m n) = feed p l ^^^ feed q m ^^^ feed r n
  | [], [], [], p, q, r, _, _ => rfl
  | a :: l, b :: m, c :: n, p, q, r, h, g => by
    simp only [lay3, feed_cons, stepB_three]
    exact feed_three l m n _ _ _ (by simpa using h) (by simpa using g)
  | [], _ :: _, _, _, _, _, h, _ => by simp at h
  | _ :: _, [], _, _, _, _, h, _ => by simp at h
  | [], [], _ :: _, _, _, _, _, h => by simp at h
  | _ :: _, _ :: _, [], _, _, _, _, h => by simp at h
theorem sum_three (l m n : Bytes) (h : l.length = m.length) (g : m.length = n.length) : sum (lay3 l m n) = sum l ^^^ sum m ^^^ sum n := by
  unfold sum more
  have e : (~~~ 0#32 : BitVec 32) = ~~~ 0#32 ^^^ ~~~ 0#32 ^^^ ~~~ 0#32 := by decide
  have := feed_three l m n (~~~ 0#32) (~~~ 0#32) (~~~ 0#32) h g
  rw [← e] at this
  rw [this]
  generalize feed (~~~ 0#32) l = x
  generalize feed (~~~ 0#32) m = y
  generalize feed (~~~ 0#32) n = z
  apply BitVec.eq_of_getLsbD_eq
  intro i hi
  simp only [BitVec.getLsbD_not, BitVec.getLsbD_xor, hi, decide_true, Bool.true_and]
  cases x.getLsbD i <;> cases y.getLsbD i <;> cases z.getLsbD i <;> rfl
theorem lay3_length : ∀ (l m n : Bytes), l.length = m.length → m.length = n.length → (lay3 l m n).length = l.length
  | [], [], [], _, _ => rfl
  | a :: l, b :: m, c :: n, h, g => by
    simp only [lay3, List.length_cons]
    rw [lay3_length l m n (by simpa using h) (by simpa using g)]
  | [], _ :: _, _, h, _ => by simp at h
  | _ :: _, [], _, h, _ => by simp at h
  | [], [], _ :: _, _, h => by simp at h
  | _ :: _, _ :: _, [], _, h => by simp at h
theorem lay3_snoc : ∀ (l m n : Bytes) (a b c : BitVec 8), l.length = m.length → m.length = n.length → lay3 (l ++ [a]) (m ++ [b]) (n ++ [c]) = lay3 l m n ++ [a ^^^ b ^^^ c]
  | [], [], [], _, _, _, _, _ => rfl
  | _ :: l, _ :: m, _ :: n, a, b, c, h, g => by
    simp only [List.cons_append, lay3]
    rw [lay3_snoc l m n a b c (by simpa using h) (by simpa using g)]
  | [], _ :: _, _, _, _, _, h, _ => by simp at h
  | _ :: _, [], _, _, _, _, h, _ => by simp at h
  | [], [], _ :: _, _, _, _, _, h => by simp at h
  | _ :: _, _ :: _, [], _, _, _, _, h => by simp at h
end Go.Proofs.YtehlbddcgnclaaaDoor.Plain
