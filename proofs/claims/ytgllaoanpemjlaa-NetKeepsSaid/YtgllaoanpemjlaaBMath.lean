/- Numbers and texts as bytes, as plain mathematics: the one form of a number, how it is read, and that reading and laying undo each other. -/
namespace Go.Proofs.Ytgllaoanpemjlaa.Plain

abbrev Bytes := List (BitVec 8)

/-- a byte by its number -/
def by8 (n : Nat) : BitVec 8 := BitVec.ofNat 8 n
theorem by8_toNat (n : Nat) (h : n < 256) : (by8 n).toNat = n := by unfold by8; rw [BitVec.toNat_ofNat]; exact Nat.mod_eq_of_lt h
theorem by8_eq (c : BitVec 8) : by8 c.toNat = c := by unfold by8; exact BitVec.ofNat_toNat ..

/-- the one form of a number -/
def form (n : Nat) : Bytes := if n < 128 then [by8 n] else by8 (n % 128 + 128) :: form (n / 128)
theorem form_low {n : Nat} (h : n < 128) : form n = [by8 n] := by rw [form, if_pos h]
theorem form_high {n : Nat} (h : 128 ≤ n) : form n = by8 (n % 128 + 128) :: form (n / 128) := by rw [form, if_neg (by omega)]
theorem form_pos (n : Nat) : 0 < (form n).length := by
  by_cases h : n < 128
  · rw [form_low h]; simp
  · rw [form_high (by omega)]; simp

/-- how many bytes the form has -/
theorem form_len : ∀ (k n : Nat), n < 128 ^ (k + 1) → (form n).length ≤ k + 1
  | 0, n, h => by rw [form_low (by simpa using h)]; simp
  | k + 1, n, h => by
    by_cases g : n < 128
    · rw [form_low g]; simp
    · rw [form_high (by omega), List.length_cons]
      have := form_len k (n / 128) (by
        rw [Nat.div_lt_iff_lt_mul (by omega)]
        rw [Nat.pow_succ] at h; exact h)
      omega
theorem form_len8 (n : Nat) (h : n < 72057594037927936) : (form n).length ≤ 8 := form_len 7 n (by omega)

theorem form_mono : ∀ (n m : Nat), n ≤ m → (form n).length ≤ (form m).length := by
  intro n
  induction n using Nat.strongRecOn with
  | _ n ih =>
    intro m h
    by_cases g : n < 128
    · rw [form_low g]; exact form_pos m
    · rw [form_high (by omega), form_high (show 128 ≤ m by omega), List.length_cons, List.length_cons]
      have := ih (n / 128) (by omega) (m / 128) (by omega)
      omega

/-- a number read from the i-th byte on; a of it stands already: the number, how many bytes, the error -/
def rd : Nat → Nat → Bytes → Nat × Nat × Nat
  | i, _, [] => (0, 0, if i < 8 then 3 else 2)
  | i, a, c :: r =>
    if i < 8 then
      if 128 ≤ c.toNat then rd (i + 1) (a + (c.toNat - 128) * 128 ^ i) r
      else if c.toNat = 0 ∧ 0 < i then (0, 0, 2)
      else (a + c.toNat * 128 ^ i, i + 1, 0)
    else (0, 0, 2)
def read (xs : Bytes) : Nat × Nat × Nat := rd 0 0 xs

theorem rd_nil (i a : Nat) : rd i a [] = (0, 0, if i < 8 then 3 else 2) := rfl
theorem rd_end (i a : Nat) (c : BitVec 8) (r : Bytes) (h : ¬ i < 8) : rd i a (c :: r) = (0, 0, 2) := by simp only [rd, if_neg h]
theorem rd_more (i a : Nat) (c : BitVec 8) (r : Bytes) (h : i < 8) (g : 128 ≤ c.toNat) : rd i a (c :: r) = rd (i + 1) (a + (c.toNat - 128) * 128 ^ i) r := by
  simp only [rd, if_pos h, if_pos g]
theorem rd_null (i a : Nat) (c : BitVec 8) (r : Bytes) (h : i < 8) (g : c.toNat = 0) (p : 0 < i) : rd i a (c :: r) = (0, 0, 2) := by
  simp only [rd, if_pos h, if_neg (show ¬ 128 ≤ c.toNat by omega), if_pos (show c.toNat = 0 ∧ 0 < i from ⟨g, p⟩)]
theorem rd_last (i a : Nat) (c : BitVec 8) (r : Bytes) (h : i < 8) (g : c.toNat < 128) (p : c.toNat = 0 → i = 0) : rd i a (c :: r) = (a + c.toNat * 128 ^ i, i + 1, 0) := by
  have q : ¬ (c.toNat = 0 ∧ 0 < i) := fun ⟨x, y⟩ => by have := p x; omega
  simp only [rd, if_pos h, if_neg (show ¬ 128 ≤ c.toNat by omega), if_neg q]

/-- what was laid is read, whatever stands behind it -/
theorem rd_form : ∀ (k n i a : Nat) (more : Bytes), i + k = 7 → n < 128 ^ (k + 1) → (0 < i → 0 < n) → rd i a (form n ++ more) = (a + n * 128 ^ i, i + (form n).length, 0)
  | k, n, i, a, more, hk, hn, hp => by
    by_cases g : n < 128
    · rw [form_low g, List.singleton_append, rd_last i a _ _ (by omega) (by rw [by8_toNat n (by omega)]; exact g) (by rw [by8_toNat n (by omega)]; omega), by8_toNat n (by omega)]
      simp
    · match k, hk, hn with
      | 0, hk, hn => exact absurd hn (by simp; omega)
      | k + 1, hk, hn =>
        rw [form_high (by omega), List.cons_append, rd_more i a _ _ (by omega) (by rw [by8_toNat _ (by omega)]; omega), by8_toNat _ (by omega)]
        rw [rd_form k (n / 128) (i + 1) _ more (by omega) (by rw [Nat.div_lt_iff_lt_mul (by omega)]; rw [Nat.pow_succ] at hn; exact hn) (by omega)]
        rw [List.length_cons]
        have e : a + (n % 128 + 128 - 128) * 128 ^ i + n / 128 * 128 ^ (i + 1) = a + n * 128 ^ i := by
          rw [Nat.add_sub_cancel, Nat.pow_succ, Nat.add_assoc]
          congr 1
          rw [Nat.mul_comm (128 ^ i) 128, ← Nat.mul_assoc, ← Nat.add_mul]
          congr 1
          omega
        rw [e, show i + 1 + (form (n / 128)).length = i + ((form (n / 128)).length + 1) by omega]
theorem read_form (n : Nat) (more : Bytes) (h : n < 72057594037927936) : read (form n ++ more) = (n, (form n).length, 0) := by
  unfold read
  rw [rd_form 7 n 0 0 more rfl (by omega) (by omega)]
  simp

/-- what is read was laid so -/
theorem rd_back : ∀ (xs : Bytes) (i a n s : Nat), rd i a xs = (n, s, 0) →
    ∃ m, n = a + m * 128 ^ i ∧ form m = xs.take (s - i) ∧ i < s ∧ s ≤ 8 ∧ s - i ≤ xs.length ∧ (0 < i → 0 < m) ∧ m < 128 ^ (s - i)
  | [], i, a, n, s, h => by
    rw [rd_nil] at h
    simp only [Prod.mk.injEq] at h
    obtain ⟨-, -, h⟩ := h
    split at h <;> omega
  | c :: r, i, a, n, s, h => by
    by_cases hi : i < 8
    · by_cases g : 128 ≤ c.toNat
      · rw [rd_more i a c r hi g] at h
        obtain ⟨m, h1, h2, h3, h4, h5, h6, h7⟩ := rd_back r (i + 1) _ n s h
        have hm := h6 (by omega)
        have hc := c.isLt
        refine ⟨c.toNat - 128 + m * 128, ?_, ?_, by omega, h4, by rw [List.length_cons]; omega, by omega, ?_⟩
        · rw [h1, Nat.pow_succ, Nat.add_mul, Nat.add_assoc, Nat.mul_comm (128 ^ i) 128, Nat.mul_assoc]
        · rw [form_high (by omega), show (c.toNat - 128 + m * 128) % 128 + 128 = c.toNat by omega, show (c.toNat - 128 + m * 128) / 128 = m by omega, h2, by8_eq, show s - i = (s - (i + 1)) + 1 by omega, List.take_succ_cons]
        · rw [show s - i = (s - (i + 1)) + 1 by omega, Nat.pow_succ]
          omega
      · by_cases z : c.toNat = 0 ∧ 0 < i
        · rw [rd_null i a c r hi z.1 z.2] at h; simp at h
        · rw [rd_last i a c r hi (by omega) (by omega)] at h
          simp only [Prod.mk.injEq, and_true] at h
          obtain ⟨rfl, rfl⟩ := h
          refine ⟨c.toNat, rfl, ?_, by omega, by omega, by rw [List.length_cons]; omega, by omega, by rw [show i + 1 - i = 1 by omega]; omega⟩
          rw [form_low (by omega), by8_eq, show i + 1 - i = 0 + 1 by omega, List.take_succ_cons, List.take_zero]
    · rw [rd_end i a c r hi] at h; simp at h

theorem read_back {xs : Bytes} {n s : Nat} (h : read xs = (n, s, 0)) : form n = xs.take s ∧ n < 72057594037927936 ∧ 0 < s ∧ s ≤ 8 ∧ s ≤ xs.length := by
  obtain ⟨m, h1, h2, h3, h4, h5, h6, h7⟩ := rd_back xs 0 0 n s h
  have e : n = m := by simpa using h1
  subst e
  rw [Nat.sub_zero] at h2 h5 h7
  refine ⟨h2, ?_, h3, h4, h5⟩
  have : 128 ^ s ≤ 128 ^ 8 := Nat.pow_le_pow_right (by omega) h4
  omega

/-- the errors are 0, 2, 3, and with an error the number and the size are nought -/
theorem rd_err : ∀ (xs : Bytes) (i a : Nat), (rd i a xs).2.2 = 0 ∨ rd i a xs = (0, 0, 2) ∨ rd i a xs = (0, 0, 3)
  | [], i, a => by rw [rd_nil]; by_cases h : i < 8 <;> simp [h]
  | c :: r, i, a => by
    by_cases hi : i < 8
    · by_cases g : 128 ≤ c.toNat
      · rw [rd_more i a c r hi g]; exact rd_err r (i + 1) _
      · by_cases z : c.toNat = 0 ∧ 0 < i
        · rw [rd_null i a c r hi z.1 z.2]; simp
        · rw [rd_last i a c r hi (by omega) (by omega)]; simp
    · rw [rd_end i a c r hi]; simp
theorem read_cases (xs : Bytes) : (∃ n s, read xs = (n, s, 0)) ∨ read xs = (0, 0, 2) ∨ read xs = (0, 0, 3) := by
  rcases rd_err xs 0 0 with h | h | h
  · exact .inl ⟨_, _, by rw [← h]; rfl⟩
  · exact .inr (.inl h)
  · exact .inr (.inr h)

/-- the first eight bytes say all -/
theorem rd_eight : ∀ (xs : Bytes) (i a : Nat), i ≤ 8 → rd i a xs = if 8 ≤ i + xs.length then rd i a (xs.take (8 - i) ++ [0#8]) else rd i a xs := by
  intro xs
  induction xs with
  | nil =>
    intro i a h
    by_cases g : 8 ≤ i
    · obtain rfl : i = 8 := by omega
      rw [if_pos (by simp)]; rfl
    · rw [if_neg (by simp; omega)]
  | cons c r ih =>
    intro i a h
    by_cases g : 8 ≤ i + (c :: r).length
    · rw [if_pos g]
      by_cases hi : i < 8
      · rw [show 8 - i = (8 - (i + 1)) + 1 by omega, List.take_succ_cons, List.cons_append]
        by_cases q : 128 ≤ c.toNat
        · rw [rd_more i a c r hi q, rd_more i a c _ hi q, ih (i + 1) _ (by omega), if_pos (by rw [List.length_cons] at g; omega)]
        · by_cases z : c.toNat = 0 ∧ 0 < i
          · rw [rd_null i a c r hi z.1 z.2, rd_null i a c _ hi z.1 z.2]
          · rw [rd_last i a c r hi (by omega) (by omega), rd_last i a c _ hi (by omega) (by omega)]
      · obtain rfl : i = 8 := by omega
        rw [rd_end 8 a c r (by omega)]; rfl
    · rw [if_neg g]

/-! ### whole numbers of 64 bits -/

/-- the number's eight bytes: of one below 0 those of n + 2^64 -/
def low (m : Int) (i : Nat) : BitVec 8 := by8 ((m % 18446744073709551616).toNat / 256 ^ i % 256)
def iform (m : Int) : Bytes := [low m 0, low m 1, low m 2, low m 3, low m 4, low m 5, low m 6, low m 7]
theorem iform_len (m : Int) : (iform m).length = 8 := rfl
/-- of eight bytes -/
def ival (xs : Bytes) : Nat := match xs with
  | [] => 0
  | c :: r => c.toNat + 256 * ival r
/-- a number of 64 bits with its sign -/
def sgn (u : Nat) : Int := if u < 9223372036854775808 then u else (u : Int) - 18446744073709551616
theorem ival_iform (m : Int) : ival (iform m) = (m % 18446744073709551616).toNat := by
  have h : (m % 18446744073709551616).toNat < 18446744073709551616 := by omega
  unfold iform low
  generalize (m % 18446744073709551616).toNat = u at *
  simp only [ival, by8_toNat _ (Nat.mod_lt _ (show 0 < 256 by omega))]
  omega
theorem sgn_iform (m : Int) (h : -9223372036854775808 ≤ m) (h' : m ≤ 9223372036854775807) : sgn (ival (iform m)) = m := by
  rw [ival_iform]; unfold sgn; split <;> omega

theorem ival_lt : ∀ (xs : Bytes), ival xs < 256 ^ xs.length
  | [] => by simp [ival]
  | c :: r => by
    have := ival_lt r
    have := c.isLt
    rw [ival, List.length_cons, Nat.pow_succ]
    omega
theorem ival_snoc (xs : Bytes) (c : BitVec 8) : ival (xs ++ [c]) = ival xs + c.toNat * 256 ^ xs.length := by
  induction xs with
  | nil => simp [ival]
  | cons d r ih =>
    rw [List.cons_append, ival, ih, ival, List.length_cons, Nat.pow_succ]
    rw [Nat.mul_add, Nat.add_assoc]
    congr 2
    rw [Nat.mul_comm (256 ^ r.length) 256, ← Nat.mul_assoc, ← Nat.mul_assoc, Nat.mul_comm 256 c.toNat]

/-! ### texts -/
def bs (s : ByteArray) : Bytes := s.data.toList.map UInt8.toBitVec
def sb (xs : Bytes) : ByteArray := ⟨(xs.map UInt8.ofBitVec).toArray⟩
theorem bs_len (s : ByteArray) : (bs s).length = s.size := by unfold bs; rw [List.length_map]; rfl
theorem sb_size (xs : Bytes) : (sb xs).size = xs.length := by unfold sb; simp [ByteArray.size]
theorem sb_bs (s : ByteArray) : sb (bs s) = s := by
  unfold sb bs
  rw [List.map_map, show (UInt8.ofBitVec ∘ UInt8.toBitVec) = id from rfl, List.map_id]
theorem bs_sb (xs : Bytes) : bs (sb xs) = xs := by
  unfold sb bs
  rw [List.map_map, show (UInt8.toBitVec ∘ UInt8.ofBitVec) = id from rfl, List.map_id]

/-- a text's form -/
def tform (s : ByteArray) : Bytes := form s.size ++ bs s
/-- a text that is read: the text, how many bytes, the error -/
def tread (xs : Bytes) : ByteArray × Nat × Nat :=
  match read xs with
  | (n, s, 0) => if 65536 < n then (sb [], 0, 4) else if xs.length - s < n then (sb [], 0, 3) else (sb ((xs.drop s).take n), s + n, 0)
  | (_, _, e) => (sb [], 0, e)
theorem tread_ok {xs : Bytes} {n s : Nat} (h : read xs = (n, s, 0)) (h1 : n ≤ 65536) (h2 : n ≤ xs.length - s) : tread xs = (sb ((xs.drop s).take n), s + n, 0) := by
  unfold tread
  rw [h]
  simp only [if_neg (show ¬ 65536 < n by omega), if_neg (show ¬ xs.length - s < n by omega)]
theorem tread_form (s : ByteArray) (more : Bytes) (h : s.size ≤ 65536) : tread (tform s ++ more) = (s, (tform s).length, 0) := by
  have hr := read_form s.size (bs s ++ more) (by omega)
  have hl : (tform s ++ more).length = (form s.size).length + s.size + more.length := by unfold tform; simp [bs_len, Nat.add_assoc]
  rw [tread_ok (xs := tform s ++ more) (n := s.size) (s := (form s.size).length) (by unfold tform; rw [List.append_assoc]; exact hr) h (by omega)]
  have e1 : ((tform s ++ more).drop (form s.size).length).take s.size = bs s := by
    unfold tform
    rw [List.append_assoc, List.drop_left, ← bs_len s, List.take_left]
  rw [e1, sb_bs]
  unfold tform
  rw [List.length_append, bs_len]
theorem tread_back {xs : Bytes} {s : ByteArray} {k : Nat} (h : tread xs = (s, k, 0)) : tform s = xs.take k ∧ s.size ≤ 65536 ∧ k ≤ xs.length ∧ 0 < k := by
  rcases read_cases xs with ⟨n, z, hr⟩ | hr | hr
  · obtain ⟨h1, h2, h3, h4, h5⟩ := read_back hr
    unfold tread at h
    rw [hr] at h
    simp only at h
    split at h
    · simp at h
    · split at h
      · simp at h
      · rename_i g1 g2
        simp only [Prod.mk.injEq, and_true] at h
        obtain ⟨rfl, rfl⟩ := h
        have hn : (List.take n (List.drop z xs)).length = n := by rw [List.length_take, List.length_drop]; omega
        refine ⟨?_, by rw [sb_size, hn]; omega, by omega, by omega⟩
        unfold tform
        rw [sb_size, bs_sb, hn, h1, List.take_add]
  · unfold tread at h; rw [hr] at h; simp at h
  · unfold tread at h; rw [hr] at h; simp at h
end Go.Proofs.Ytgllaoanpemjlaa.Plain
