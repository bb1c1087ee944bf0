/- Numbers and texts as bytes, as plain mathematics: the one form of a number, how it is read, and that reading and laying undo each other. What is written and read as bytes, as plain mathematics: numbers, texts, whole numbers; one behind the other, lists with their length, with a test at the end; what was written is read, what is read was written so, and what was cut is none. -/
import Derived.Test.YtfapkepfngddlaaGreatMaths
namespace Go.Proofs.YtfapkepfngddlaaGreat.Plain
abbrev Bytes := List (BitVec 8)
def by8 (n : Nat) : BitVec 8 := BitVec.ofNat 8 n
theorem by8_toNat (n : Nat) (h : n < 256) : (by8 n).toNat = n := by unfold by8; rw [BitVec.toNat_ofNat]; exact Nat.mod_eq_of_lt h
theorem by8_eq (c : BitVec 8) : by8 c.toNat = c := by unfold by8; exact BitVec.ofNat_toNat ..
def form (n : Nat) : Bytes := if n < 128 then [by8 n] else by8 (n % 128 + 128) :: form (n / 128)
theorem form_low {n : Nat} (h : n < 128) : form n = [by8 n] := by rw [form, if_pos h]
theorem form_high {n : Nat} (h : 128 ≤ n) : form n = by8 (n % 128 + 128) :: form (n / 128) := by rw [form, if_neg (by omega)]
theorem form_pos (n : Nat) : 0 < (form n).length := by
 by_cases h : n < 128
 ·rw [form_low h]; simp
 ·rw [form_high (by omega)]; simp
theorem form_len : ∀ (k n : Nat), n < 128 ^ (k + 1) → (form n).length ≤ k + 1
 | 0, n, h => by rw [form_low (by simpa using h)]; simp
 | k + 1, n, h => by
  by_cases g : n < 128
  ·rw [form_low g]; simp
  ·rw [form_high (by omega), List.length_cons]
   have := form_len k (n / 128) (by
    rw [Nat.div_lt_iff_lt_mul (by omega)];rw [Nat.pow_succ] at h; exact h)
   omega
theorem form_len8 (n : Nat) (h : n < 72057594037927936) : (form n).length ≤ 8 := form_len 7 n (by omega)
def rd : Nat → Nat → Bytes → Nat × Nat × Nat
 | i, _, [] => (0, 0, if i < 8 then 3 else 2)
 | i, a, c :: r =>
  if i < 8 then
   if 128 ≤ c.toNat then rd (i + 1) (a + (c.toNat - 128) * 128 ^ i) r
   else if c.toNat = 0 ∧ 0 < i then (0, 0, 2)
   else (a + c.toNat * 128 ^ i, i + 1, 0)
  else (0, 0, 2)
def read (xs : Bytes) : Nat × Nat × Nat := rd 0 0 xs
theorem rd_nil (i a : Nat) : rd i a [] = (0, 0, if i < 8 then 3 else 2) := rfl
theorem rd_end (i a : Nat) (c : BitVec 8) (r : Bytes) (h : ¬ i < 8) : rd i a (c :: r) = (0, 0, 2) := by simp only [rd, if_neg h]
theorem rd_more (i a : Nat) (c : BitVec 8) (r : Bytes) (h : i < 8) (g : 128 ≤ c.toNat) : rd i a (c :: r) = rd (i + 1) (a + (c.toNat - 128) * 128 ^ i) r := by
 simp only [rd, if_pos h, if_pos g]
theorem rd_null (i a : Nat) (c : BitVec 8) (r : Bytes) (h : i < 8) (g : c.toNat = 0) (p : 0 < i) : rd i a (c :: r) = (0, 0, 2) := by
 simp only [rd, if_pos h, if_neg (show ¬ 128 ≤ c.toNat by omega), if_pos (show c.toNat = 0 ∧ 0 < i from ⟨g, p⟩)]
theorem rd_last (i a : Nat) (c : BitVec 8) (r : Bytes) (h : i < 8) (g : c.toNat < 128) (p : c.toNat = 0 → i = 0) : rd i a (c :: r) = (a + c.toNat * 128 ^ i, i + 1, 0) := by
 have q : ¬ (c.toNat = 0 ∧ 0 < i) := fun ⟨x, y⟩ => by have := p x; omega
 simp only [rd, if_pos h, if_neg (show ¬ 128 ≤ c.toNat by omega), if_neg q]
theorem rd_form : ∀ (k n i a : Nat) (more : Bytes), i + k = 7 → n < 128 ^ (k + 1) → (0 < i → 0 < n) → rd i a (form n ++ more) = (a + n * 128 ^ i, i + (form n).length, 0)
 | k, n, i, a, more, hk, hn, hp => by
  by_cases g : n < 128
  ·rw [form_low g, List.singleton_append, rd_last i a _ _ (by omega) (by rw [by8_toNat n (by omega)]; exact g) (by rw [by8_toNat n (by omega)]; omega), by8_toNat n (by omega)]
   simp
  ·match k, hk, hn with
   | 0, hk, hn => exact absurd hn (by simp; omega)
   | k + 1, hk, hn =>
    rw [form_high (by omega), List.cons_append, rd_more i a _ _ (by omega) (by rw [by8_toNat _ (by omega)]; omega), by8_toNat _ (by omega)];rw [rd_form k (n / 128) (i + 1) _ more (by omega) (by rw [Nat.div_lt_iff_lt_mul (by omega)]; rw [Nat.pow_succ] at hn; exact hn) (by omega)];rw [List.length_cons];have e : a + (n % 128 + 128 - 128) * 128 ^ i + n / 128 * 128 ^ (i + 1) = a + n * 128 ^ i := by
     rw [Nat.add_sub_cancel, Nat.pow_succ, Nat.add_assoc]
     congr 1
     rw [Nat.mul_comm (128 ^ i) 128, ← Nat.mul_assoc, ← Nat.add_mul]
     congr 1
     omega
    rw [e, show i + 1 + (form (n / 128)).length = i + ((form (n / 128)).length + 1) by omega]
theorem read_form (n : Nat) (more : Bytes) (h : n < 72057594037927936) : read (form n ++ more) = (n, (form n).length, 0) := by
 unfold read;rw [rd_form 7 n 0 0 more rfl (by omega) (by omega)];simp
theorem rd_back : ∀ (xs : Bytes) (i a n s : Nat), rd i a xs = (n, s, 0) →
  ∃ m, n = a + m * 128 ^ i ∧ form m = xs.take (s - i) ∧ i < s ∧ s ≤ 8 ∧ s - i ≤ xs.length ∧ (0 < i → 0 < m) ∧ m < 128 ^ (s - i)
 | [], i, a, n, s, h => by
  rw [rd_nil] at h;simp only [Prod.mk.injEq] at h
  obtain ⟨-, -, h⟩ := h
  split at h <;> omega
 | c :: r, i, a, n, s, h => by
  by_cases hi : i < 8
  ·by_cases g : 128 ≤ c.toNat
   ·rw [rd_more i a c r hi g] at h
    obtain ⟨m, h1, h2, h3, h4, h5, h6, h7⟩ := rd_back r (i + 1) _ n s h;have hm := h6 (by omega);have hc := c.isLt;refine ⟨c.toNat - 128 + m * 128, ?_, ?_, by omega, h4, by rw [List.length_cons]; omega, by omega, ?_⟩
    ·rw [h1, Nat.pow_succ, Nat.add_mul, Nat.add_assoc, Nat.mul_comm (128 ^ i) 128, Nat.mul_assoc]
    ·rw [form_high (by omega), show (c.toNat - 128 + m * 128) % 128 + 128 = c.toNat by omega, show (c.toNat - 128 + m * 128) / 128 = m by omega, h2, by8_eq, show s - i = (s - (i + 1)) + 1 by omega, List.take_succ_cons]
    ·rw [show s - i = (s - (i + 1)) + 1 by omega, Nat.pow_succ]
     omega
   ·by_cases z : c.toNat = 0 ∧ 0 < i
    ·rw [rd_null i a c r hi z.1 z.2] at h; simp at h
    ·rw [rd_last i a c r hi (by omega) (by omega)] at h
     simp only [Prod.mk.injEq, and_true] at h
     obtain ⟨rfl, rfl⟩ := h;refine ⟨c.toNat, rfl, ?_, by omega, by omega, by rw [List.length_cons]; omega, by omega, by rw [show i + 1 - i = 1 by omega]; omega⟩;rw [form_low (by omega), by8_eq, show i + 1 - i = 0 + 1 by omega, List.take_succ_cons, List.take_zero]
  ·rw [rd_end i a c r hi] at h; simp at h
theorem read_back {xs : Bytes} {n s : Nat} (h : read xs = (n, s, 0)) : form n = xs.take s ∧ n < 72057594037927936 ∧ 0 < s ∧ s ≤ 8 ∧ s ≤ xs.length := by
 obtain ⟨m, h1, h2, h3, h4, h5, h6, h7⟩ := rd_back xs 0 0 n s h;have e : n = m := by simpa using h1
 subst e;rw [Nat.sub_zero] at h2 h5 h7;refine ⟨h2, ?_, h3, h4, h5⟩;have : 128 ^ s ≤ 128 ^ 8 := Nat.pow_le_pow_right (by omega) h4;omega
theorem rd_err : ∀ (xs : Bytes) (i a : Nat), (rd i a xs).2.2 = 0 ∨ rd i a xs = (0, 0, 2) ∨ rd i a xs = (0, 0, 3)
 | [], i, a => by rw [rd_nil]; by_cases h : i < 8 <;> simp [h]
 | c :: r, i, a => by
  by_cases hi : i < 8
  ·by_cases g : 128 ≤ c.toNat
   ·rw [rd_more i a c r hi g]; exact rd_err r (i + 1) _
   ·by_cases z : c.toNat = 0 ∧ 0 < i
    ·rw [rd_null i a c r hi z.1 z.2]; simp
    ·rw [rd_last i a c r hi (by omega) (by omega)]; simp
  ·rw [rd_end i a c r hi]; simp
theorem read_cases (xs : Bytes) : (∃ n s, read xs = (n, s, 0)) ∨ read xs = (0, 0, 2) ∨ read xs = (0, 0, 3) := by
 rcases rd_err xs 0 0 with h | h | h
 ·exact .inl ⟨_, _, by rw [← h]; rfl⟩
 ·exact .inr (.inl h)
 ·exact .inr (.inr h)
def low (m : Int) (i : Nat) : BitVec 8 := by8 ((m % 18446744073709551616).toNat / 256 ^ i % 256)
def iform (m : Int) : Bytes := [low m 0, low m 1, low m 2, low m 3, low m 4, low m 5, low m 6, low m 7]
theorem iform_len (m : Int) : (iform m).length = 8 := rfl
def ival (xs : Bytes) : Nat := match xs with
 | [] => 0
 | c :: r => c.toNat + 256 * ival r
def sgn (u : Nat) : Int := if u < 9223372036854775808 then u else (u : Int) - 18446744073709551616
theorem ival_iform (m : Int) : ival (iform m) = (m % 18446744073709551616).toNat := by
 have h : (m % 18446744073709551616).toNat < 18446744073709551616 := by omega
 unfold iform low;generalize (m % 18446744073709551616).toNat = u at *;simp only [ival, by8_toNat _ (Nat.mod_lt _ (show 0 < 256 by omega))]
 omega
theorem sgn_iform (m : Int) (h : -9223372036854775808 ≤ m) (h' : m ≤ 9223372036854775807) : sgn (ival (iform m)) = m := by
 rw [ival_iform]; unfold sgn; split <;> omega
theorem ival_lt : ∀ (xs : Bytes), ival xs < 256 ^ xs.length
 | [] => by simp [ival]
 | c :: r => by
  have := ival_lt r;have := c.isLt;rw [ival, List.length_cons, Nat.pow_succ];omega
theorem ival_snoc (xs : Bytes) (c : BitVec 8) : ival (xs ++ [c]) = ival xs + c.toNat * 256 ^ xs.length := by
 induction xs with
 | nil => simp [ival]
 | cons d r ih =>
  rw [List.cons_append, ival, ih, ival, List.length_cons, Nat.pow_succ];rw [Nat.mul_add, Nat.add_assoc]
  congr 2
  rw [Nat.mul_comm (256 ^ r.length) 256, ← Nat.mul_assoc, ← Nat.mul_assoc, Nat.mul_comm 256 c.toNat]
def bs (s : ByteArray) : Bytes := s.data.toList.map UInt8.toBitVec
def sb (xs : Bytes) : ByteArray := ⟨(xs.map UInt8.ofBitVec).toArray⟩
theorem bs_len (s : ByteArray) : (bs s).length = s.size := by unfold bs; rw [List.length_map]; rfl
def tform (s : ByteArray) : Bytes := form s.size ++ bs s
def tread (xs : Bytes) : ByteArray × Nat × Nat :=
 match read xs with
 | (n, s, 0) => if 65536 < n then (sb [], 0, 4) else if xs.length - s < n then (sb [], 0, 3) else (sb ((xs.drop s).take n), s + n, 0)
 | (_, _, e) => (sb [], 0, e)
end Go.Proofs.YtfapkepfngddlaaGreat.Plain
namespace Go.Proofs.YtfapkepfngddlaaGreat.Plain
set_option linter.unusedVariables false
inductive Res (α : Type) where
 | ok (a : α) (rest : Bytes) : Res α
 | err (e : Int) : Res α
def Res.bind {α β : Type} (r : Res α) (f : α → Bytes → Res β) : Res β := match r with
 | .ok a rest => f a rest
 | .err e => .err e
theorem Res.bind_err {α β : Type} {r : Res α} {f : α → Bytes → Res β} {e : Int} (h : r.bind f = .err e) : r = .err e ∨ ∃ a m, r = .ok a m ∧ f a m = .err e := by
 cases r with
 | ok a m => exact .inr ⟨a, m, rfl, h⟩
 | err k =>
  left
  cases h
  rfl
theorem Res.bind_ok {α β : Type} {r : Res α} {f : α → Bytes → Res β} {b : β} {rest : Bytes} (h : r.bind f = .ok b rest) : ∃ a m, r = .ok a m ∧ f a m = .ok b rest := by
 cases r with
 | ok a m => exact ⟨a, m, rfl, h⟩
 | err e => cases h
structure Codec (α : Type) where
 put : α → Bytes
 get : Bytes → Res α
 ok : α → Prop
 fwd : ∀ a more, ok a → get (put a ++ more) = .ok a more
 bwd : ∀ {b a rest}, get b = .ok a rest → ok a ∧ put a ++ rest = b
 cut : ∀ a n, ok a → n < (put a).length → get ((put a).take n) = .err 3
 bad : ∀ {b e}, get b = .err e → e ≠ 0
section
variable {α β : Type}
theorem take_two (x y : Bytes) (n : Nat) : (x ++ y).take n = if n < x.length then x.take n else x ++ y.take (n - x.length) := by
 split
 ·rename_i h
  rw [List.take_append_of_le_length (by omega)]
 ·rename_i h
  rw [List.take_append];rw [List.take_of_length_le (by omega)]
def Codec.seq (c : Codec α) (d : Codec β) : Codec (α × β) where
 put p := c.put p.1 ++ d.put p.2
 get b := (c.get b).bind fun a m => (d.get m).bind fun x r => .ok (a, x) r
 ok p := c.ok p.1 ∧ d.ok p.2
 fwd := fun ⟨a, x⟩ more ⟨h1, h2⟩ => by
  show (c.get (c.put a ++ d.put x ++ more)).bind _ = _
  rw [List.append_assoc, c.fwd a _ h1]
  show (d.get (d.put x ++ more)).bind _ = _
  rw [d.fwd x _ h2]
  rfl
 bwd := fun {b p rest} h => by
  obtain ⟨a, m, h1, h2⟩ := Res.bind_ok h;obtain ⟨x, r, h3, h4⟩ := Res.bind_ok h2
  cases h4
  obtain ⟨o1, e1⟩ := c.bwd h1;obtain ⟨o2, e2⟩ := d.bwd h3;exact ⟨⟨o1, o2⟩, by show c.put a ++ d.put x ++ rest = b; rw [List.append_assoc, e2, e1]⟩
 cut := fun ⟨a, x⟩ n ⟨h1, h2⟩ hn => by
  show (c.get ((c.put a ++ d.put x).take n)).bind _ = _
  change n < (c.put a ++ d.put x).length at hn;rw [List.length_append] at hn;rw [take_two]
  split
  ·rename_i h
   rw [c.cut a n h1 h]
   rfl
  ·rename_i h
   rw [c.fwd a _ h1]
   show (d.get _).bind _ = _
   rw [d.cut x _ h2 (by omega)]
   rfl
 bad := fun {b e} h => by
  rcases Res.bind_err h with h | ⟨a, m, -, h⟩
  ·exact c.bad h
  ·rcases Res.bind_err h with h | ⟨x, r, -, h⟩
   ·exact d.bad h
   ·cases h
def Codec.emb (c : Codec α) (f : α → β) (g : β → α) (h1 : ∀ a, c.ok a → g (f a) = a) : Codec β where
 put b := c.put (g b)
 get b := (c.get b).bind fun a r => .ok (f a) r
 ok b := c.ok (g b) ∧ f (g b) = b
 fwd := fun b more h => by
  rw [c.fwd _ _ h.1]
  show Res.ok (f (g b)) more = _
  rw [h.2]
 bwd := fun {b p rest} h => by
  obtain ⟨a, m, e1, e2⟩ := Res.bind_ok h
  cases e2
  obtain ⟨o, e⟩ := c.bwd e1;rw [h1 a o];exact ⟨⟨o, rfl⟩, e⟩
 cut := fun b n h hn => by
  rw [c.cut _ _ h.1 hn]
  rfl
 bad := fun {b e} h => by
  rcases Res.bind_err h with h | ⟨a, m, -, h⟩
  ·exact c.bad h
  ·cases h
def getN (c : Codec α) : Nat → Bytes → Res (List α)
 | 0, b => .ok [] b
 | k + 1, b => (c.get b).bind fun a m => (getN c k m).bind fun l r => .ok (a :: l) r
def putAll (c : Codec α) (l : List α) : Bytes := l.flatMap c.put
theorem putAll_cons (c : Codec α) (a : α) (l : List α) : putAll c (a :: l) = c.put a ++ putAll c l := by unfold putAll; rw [List.flatMap_cons]
theorem getN_bad (c : Codec α) : ∀ (k : Nat) {b : Bytes} {e : Int}, getN c k b = .err e → e ≠ 0
 | 0, b, e, h => by cases h
 | k + 1, b, e, h => by
  rcases Res.bind_err h with h | ⟨a, m, -, h⟩
  ·exact c.bad h
  ·rcases Res.bind_err h with h | ⟨x, r, -, h⟩
   ·exact getN_bad c k h
   ·cases h
theorem getN_fwd (c : Codec α) : ∀ (l : List α) (more : Bytes), (∀ a ∈ l, c.ok a) → getN c l.length (putAll c l ++ more) = .ok l more
 | [], more, _ => rfl
 | a :: l, more, h => by
  show (c.get (putAll c (a :: l) ++ more)).bind _ = _
  rw [putAll_cons, List.append_assoc, c.fwd a _ (h a List.mem_cons_self)]
  show (getN c l.length (putAll c l ++ more)).bind _ = _
  rw [getN_fwd c l more fun x hx => h x (List.mem_cons_of_mem _ hx)]
  rfl
theorem getN_bwd (c : Codec α) : ∀ (k : Nat) {b : Bytes} {l : List α} {rest : Bytes}, getN c k b = .ok l rest → l.length = k ∧ (∀ a ∈ l, c.ok a) ∧ putAll c l ++ rest = b
 | 0, b, l, rest, h => by
  cases h
  exact ⟨rfl, fun a ha => absurd ha (by simp), rfl⟩
 | k + 1, b, l, rest, h => by
  obtain ⟨a, m, h1, h2⟩ := Res.bind_ok h;obtain ⟨l2, r, h3, h4⟩ := Res.bind_ok h2
  cases h4
  obtain ⟨o, e⟩ := c.bwd h1;obtain ⟨g1, g2, g3⟩ := getN_bwd c k h3;refine ⟨by rw [List.length_cons, g1], fun x hx => ?_, by rw [putAll_cons, List.append_assoc, g3, e]⟩
  rcases List.mem_cons.1 hx with rfl | hx
  ·exact o
  ·exact g2 x hx
theorem getN_cut (c : Codec α) : ∀ (l : List α) (n : Nat), (∀ a ∈ l, c.ok a) → n < (putAll c l).length → getN c l.length ((putAll c l).take n) = .err 3
 | [], n, _, hn => absurd hn (by simp [putAll])
 | a :: l, n, h, hn => by
  have ha := h a List.mem_cons_self
  show (c.get ((putAll c (a :: l)).take n)).bind _ = _
  rw [putAll_cons, List.length_append] at hn;rw [putAll_cons, take_two]
  split
  ·rename_i g
   rw [c.cut a n ha g]
   rfl
  ·rename_i g
   rw [c.fwd a _ ha]
   show (getN c l.length _).bind _ = _
   rw [getN_cut c l _ (fun x hx => h x (List.mem_cons_of_mem _ hx)) (by omega)]
   rfl
def Codec.test (c : Codec α) (p : α → Bool) (e : Int) (he : e ≠ 0) : Codec α where
 put := c.put
 get b := (c.get b).bind fun a r => if p a = true then .ok a r else .err e
 ok a := c.ok a ∧ p a = true
 fwd := fun a more h => by
  rw [c.fwd a more h.1]
  show (if p a = true then Res.ok a more else .err e) = _
  rw [if_pos h.2]
 bwd := fun {b a rest} h => by
  obtain ⟨x, r, h1, h2⟩ := Res.bind_ok h
  split at h2
  ·rename_i hp
   cases h2
   exact ⟨⟨(c.bwd h1).1, hp⟩, (c.bwd h1).2⟩
  ·cases h2
 cut := fun a n h hn => by
  rw [c.cut a n h.1 hn]
  rfl
 bad := fun {b k} h => by
  rcases Res.bind_err h with h | ⟨a, m, -, h⟩
  ·exact c.bad h
  ·split at h
   ·cases h
   ·cases h; exact he
end
theorem rd_cut : ∀ (j n i a k : Nat), i + j = 7 → n < 128 ^ (j + 1) → k < (form n).length → rd i a ((form n).take k) = (0, 0, 3)
 | j, n, i, a, 0, hj, hn, hk => by rw [List.take_zero, rd_nil, if_pos (by omega)]
 | j, n, i, a, k + 1, hj, hn, hk => by
  by_cases g : n < 128
  ·rw [form_low g] at hk
   simp at hk
  ·match j, hj, hn with
   | 0, hj, hn => exact absurd hn (by simp; omega)
   | j + 1, hj, hn =>
    rw [form_high (by omega), List.length_cons] at hk;rw [form_high (by omega), List.take_succ_cons, rd_more i a _ _ (by omega) (by rw [by8_toNat _ (by omega)]; omega)];exact rd_cut j (n / 128) (i + 1) _ k (by omega) (by rw [Nat.div_lt_iff_lt_mul (by omega)]; rw [Nat.pow_succ] at hn; exact hn) (by omega)
theorem read_cut {n k : Nat} (hn : n < 72057594037927936) (hk : k < (form n).length) : read ((form n).take k) = (0, 0, 3) := rd_cut 7 n 0 0 k rfl (by omega) hk
def getNum (b : Bytes) : Res Nat := match read b with
 | (n, s, 0) => .ok n (b.drop s)
 | (_, _, e) => .err e
theorem getNum_ok {b : Bytes} {n s : Nat} (h : read b = (n, s, 0)) : getNum b = .ok n (b.drop s) := by
 unfold getNum;rw [h]
 rfl
theorem getNum_err {b : Bytes} {n s e : Nat} (h : read b = (n, s, e)) (he : e ≠ 0) : getNum b = .err e := by
 unfold getNum;rw [h]
 split
 ·rename_i g; cases g; exact absurd rfl he
 ·rename_i g; cases g; rfl
def numC : Codec Nat where
 put := form
 get := getNum
 ok n := n < 72057594037927936
 fwd := fun n more h => by
  rw [getNum_ok (read_form n more h), List.drop_left]
 bwd := fun {b n rest} h => by
  rcases read_cases b with ⟨m, s, hr⟩ | hr | hr
  ·rw [getNum_ok hr] at h
   cases h
   obtain ⟨h1, h2, -⟩ := read_back hr;exact ⟨h2, by rw [h1, List.take_append_drop]⟩
  ·rw [getNum_err hr (by decide)] at h; cases h
  ·rw [getNum_err hr (by decide)] at h; cases h
 cut := fun n k h hk => getNum_err (read_cut h hk) (by decide)
 bad := fun {b e} h => by
  rcases read_cases b with ⟨m, s, hr⟩ | hr | hr
  ·rw [getNum_ok hr] at h; cases h
  ·rw [getNum_err hr (by decide)] at h; cases h; decide
  ·rw [getNum_err hr (by decide)] at h; cases h; decide
def getInt64 (b : Bytes) : Res Int := if b.length < 8 then .err 3 else .ok (sgn (ival (b.take 8))) (b.drop 8)
theorem ival_lt8 (xs : Bytes) (h : xs.length = 8) : ival xs < 18446744073709551616 := by
 have := ival_lt xs;rw [h] at this;omega
theorem sgn_range {u : Nat} (h : u < 18446744073709551616) : -9223372036854775808 ≤ sgn u ∧ sgn u ≤ 9223372036854775807 := by
 unfold sgn
 split <;> omega
theorem sgn_mod {u : Nat} (h : u < 18446744073709551616) : (sgn u % 18446744073709551616).toNat = u := by
 unfold sgn
 split <;> omega
theorem ival_bytes : ∀ (xs : Bytes) (i : Nat) (hi : i < xs.length), by8 (ival xs / 256 ^ i % 256) = xs[i]
 | c :: r, 0, _ => by
  have e : ival (c :: r) = c.toNat + 256 * ival r := by
   simp only [ival]
   try omega
  rw [e, Nat.pow_zero, Nat.div_one, Nat.add_mul_mod_self_left];have := c.isLt;rw [Nat.mod_eq_of_lt (by omega)];exact by8_eq c
 | c :: r, i + 1, hi => by
  have e : ival (c :: r) = c.toNat + 256 * ival r := by
   simp only [ival]
   try omega
  have hc := c.isLt;have h2 : ival (c :: r) / 256 ^ (i + 1) = ival r / 256 ^ i := by
   rw [e, Nat.pow_succ, Nat.mul_comm (256 ^ i) 256, ← Nat.div_div_eq_div_mul]
   congr 1
   omega
  rw [h2];exact ival_bytes r i (by simpa using hi)
theorem iform_back {xs : Bytes} (h : xs.length = 8) : iform (sgn (ival xs)) = xs := by
 have hl := ival_lt8 xs h
 apply List.ext_getElem (by rw [h]; rfl)
 intro i h1 h2;have key : ∀ j, low (sgn (ival xs)) j = by8 (ival xs / 256 ^ j % 256) := fun j => by unfold low; rw [sgn_mod hl]
 have h8 : i < 8 := h1;rw [← ival_bytes xs i h2, ← key]
 match i, h8 with
 | 0, _ => rfl
 | 1, _ => rfl
 | 2, _ => rfl
 | 3, _ => rfl
 | 4, _ => rfl
 | 5, _ => rfl
 | 6, _ => rfl
 | 7, _ => rfl
def intC : Codec Int where
 put := iform
 get := getInt64
 ok m := -9223372036854775808 ≤ m ∧ m ≤ 9223372036854775807
 fwd := fun m more h => by
  have hl : (iform m).length = 8 := iform_len m;unfold getInt64;rw [if_neg (by rw [List.length_append, hl]; omega)];have e1 : (iform m ++ more).take 8 = iform m := List.take_left' hl;have e2 : (iform m ++ more).drop 8 = more := List.drop_left' hl;rw [e1, e2, sgn_iform m h.1 h.2]
 bwd := fun {b m rest} h => by
  unfold getInt64 at h
  split at h
  ·cases h
  ·rename_i g
   cases h
   have hl : (b.take 8).length = 8 := by rw [List.length_take]; omega
   exact ⟨sgn_range (ival_lt8 _ hl), by rw [iform_back hl, List.take_append_drop]⟩
 cut := fun m n h hn => by
  unfold getInt64;rw [if_pos (by rw [List.length_take]; rw [iform_len] at hn ⊢; omega)]
 bad := fun {b e} h => by
  unfold getInt64 at h
  split at h
  ·cases h; decide
  ·cases h
def tbs (t : Txt) : Bytes := t.map UInt8.toBitVec
def tsb (xs : Bytes) : Txt := xs.map UInt8.ofBitVec
theorem tsb_tbs (t : Txt) : tsb (tbs t) = t := by
 unfold tsb tbs;rw [List.map_map, show (UInt8.ofBitVec ∘ UInt8.toBitVec) = id from rfl, List.map_id]
theorem tbs_tsb (xs : Bytes) : tbs (tsb xs) = xs := by
 unfold tsb tbs;rw [List.map_map, show (UInt8.toBitVec ∘ UInt8.ofBitVec) = id from rfl, List.map_id]
theorem tbs_len (t : Txt) : (tbs t).length = t.length := by unfold tbs; rw [List.length_map]
def getText (b : Bytes) : Res Txt := (getNum b).bind fun n r => if 65536 < n then .err 4 else if r.length < n then .err 3 else .ok (tsb (r.take n)) (r.drop n)
def textC : Codec Txt where
 put t := form t.length ++ tbs t
 get := getText
 ok t := t.length ≤ 65536
 fwd := fun t more h => by
  unfold getText;rw [List.append_assoc, show getNum (form t.length ++ (tbs t ++ more)) = .ok t.length (tbs t ++ more) from numC.fwd t.length (tbs t ++ more) (show t.length < 72057594037927936 by omega)]
  show (if 65536 < t.length then Res.err 4 else if (tbs t ++ more).length < t.length then .err 3 else .ok (tsb ((tbs t ++ more).take t.length)) ((tbs t ++ more).drop t.length)) = _
  rw [if_neg (by omega), if_neg (by rw [List.length_append, tbs_len]; omega)];have e1 : (tbs t ++ more).take t.length = tbs t := List.take_left' (tbs_len t);have e2 : (tbs t ++ more).drop t.length = more := List.drop_left' (tbs_len t);rw [e1, e2, tsb_tbs]
 bwd := fun {b t rest} h => by
  obtain ⟨n, r, h1, h2⟩ := Res.bind_ok h;obtain ⟨o, e⟩ := numC.bwd h1
  split at h2
  ·cases h2
  ·split at h2
   ·cases h2
   ·rename_i g1 g2
    cases h2
    have hl : (tsb (r.take n)).length = n := by unfold tsb; rw [List.length_map, List.length_take]; omega
    refine ⟨show (tsb (r.take n)).length ≤ 65536 by omega, ?_⟩
    show form (tsb (r.take n)).length ++ tbs (tsb (r.take n)) ++ r.drop n = b
    rw [hl, tbs_tsb, List.append_assoc, List.take_append_drop];exact e
 cut := fun t n h hn => by
  unfold getText;rw [List.length_append] at hn;rw [take_two]
  split
  ·rename_i g
   rw [show getNum ((form t.length).take n) = .err 3 from numC.cut t.length n (show t.length < 72057594037927936 by omega) g]
   rfl
  ·rename_i g
   rw [show getNum (form t.length ++ (tbs t).take (n - (form t.length).length)) = .ok t.length ((tbs t).take (n - (form t.length).length)) from numC.fwd t.length _ (show t.length < 72057594037927936 by omega)]
   show (if 65536 < t.length then Res.err 4 else if ((tbs t).take (n - (form t.length).length)).length < t.length then .err 3 else _) = _
   rw [if_neg (by omega), if_pos (by rw [List.length_take, tbs_len]; rw [tbs_len] at hn; omega)]
 bad := fun {b e} h => by
  rcases Res.bind_err h with h | ⟨n, r, -, h⟩
  ·exact numC.bad h
  ·split at h
   ·cases h; decide
   ·split at h
    ·cases h; decide
    ·cases h
def Codec.list {α : Type} (c : Codec α) (k : Nat) (e : Int) (hk : k < 72057594037927936) (he : e ≠ 0) : Codec (List α) where
 put l := form l.length ++ putAll c l
 get b := (getNum b).bind fun n r => if k < n then .err e else getN c n r
 ok l := l.length ≤ k ∧ ∀ a ∈ l, c.ok a
 fwd := fun l more h => by
  rw [List.append_assoc, show getNum (form l.length ++ (putAll c l ++ more)) = .ok l.length (putAll c l ++ more) from numC.fwd l.length _ (show l.length < 72057594037927936 by omega)]
  show (if k < l.length then Res.err e else getN c l.length (putAll c l ++ more)) = _
  rw [if_neg (by omega), getN_fwd c l more h.2]
 bwd := fun {b l rest} h => by
  obtain ⟨n, r, h1, h2⟩ := Res.bind_ok h;obtain ⟨o, e1⟩ := numC.bwd h1
  split at h2
  ·cases h2
  ·rename_i g
   obtain ⟨g1, g2, g3⟩ := getN_bwd c n h2;refine ⟨⟨by omega, g2⟩, ?_⟩
   show form l.length ++ putAll c l ++ rest = b
   rw [List.append_assoc, g3, g1];exact e1
 cut := fun l n h hn => by
  rw [List.length_append] at hn;rw [take_two]
  split
  ·rename_i g
   rw [show getNum ((form l.length).take n) = .err 3 from numC.cut l.length n (show l.length < 72057594037927936 by omega) g]
   rfl
  ·rename_i g
   rw [show getNum (form l.length ++ (putAll c l).take (n - (form l.length).length)) = .ok l.length ((putAll c l).take (n - (form l.length).length)) from numC.fwd l.length _ (show l.length < 72057594037927936 by omega)]
   show (if k < l.length then Res.err e else getN c l.length _) = _
   rw [if_neg (by omega), getN_cut c l _ h.2 (by omega)]
 bad := fun {b x} h => by
  rcases Res.bind_err h with h | ⟨n, r, -, h⟩
  ·exact numC.bad h
  ·split at h
   ·cases h; exact he
   ·exact getN_bad c n h
def numI : Codec Int := numC.emb (fun n => (n : Int)) (fun m => m.toNat) fun a _ => rfl
theorem numI_put (m : Int) : numI.put m = form m.toNat := rfl
theorem numI_ok {m : Int} : numI.ok m ↔ 0 ≤ m ∧ m < 72057594037927936 := by
 show (m.toNat < 72057594037927936 ∧ ((m.toNat : Nat) : Int) = m) ↔ _
 omega
end Go.Proofs.YtfapkepfngddlaaGreat.Plain
