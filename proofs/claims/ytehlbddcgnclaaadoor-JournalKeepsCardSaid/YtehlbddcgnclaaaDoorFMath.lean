/- Frames of records, as plain mathematics: the one form of a record; what stands first; what is scanned is determined; cut frames, turned bytes. -/
import Derived.Test.YtehlbddcgnclaaaDoorCrc
namespace Go.Proofs.YtehlbddcgnclaaaDoor.Plain
set_option linter.unusedVariables false

/-- four bytes, the lowest first -/
def le4 (n : Nat) : Bytes := [by8 (n % 256), by8 (n / 256 % 256), by8 (n / 65536 % 256), by8 (n / 16777216 % 256)]
theorem le4_len (n : Nat) : (le4 n).length = 4 := rfl
theorem ival_le4 (n : Nat) (h : n < 4294967296) : ival (le4 n) = n := by
  unfold le4
  simp only [ival, by8_toNat _ (Nat.mod_lt _ (show 0 < 256 by omega))]
  omega
theorem le4_ival : ∀ (xs : Bytes), xs.length = 4 → le4 (ival xs) = xs
  | [a, b, c, d], _ => by
    have ha := a.isLt
    have hb := b.isLt
    have hc := c.isLt
    have hd := d.isLt
    unfold le4
    simp only [ival]
    rw [show (a.toNat + 256 * (b.toNat + 256 * (c.toNat + 256 * (d.toNat + 256 * 0)))) % 256 = a.toNat by omega,
      show (a.toNat + 256 * (b.toNat + 256 * (c.toNat + 256 * (d.toNat + 256 * 0)))) / 256 % 256 = b.toNat by omega,
      show (a.toNat + 256 * (b.toNat + 256 * (c.toNat + 256 * (d.toNat + 256 * 0)))) / 65536 % 256 = c.toNat by omega,
      show (a.toNat + 256 * (b.toNat + 256 * (c.toNat + 256 * (d.toNat + 256 * 0)))) / 16777216 % 256 = d.toNat by omega]
    simp only [by8_eq]
theorem ival4_lt (xs : Bytes) (h : xs.length = 4) : ival xs < 4294967296 := by
  have := ival_lt xs
  rw [h] at this
  exact this

/-- the sum of a record, over the number too -/
def psum (p : Bytes) : BitVec 32 := sum (le4 p.length ++ p)
/-- the frame of a record -/
def frm (p : Bytes) : Bytes := le4 p.length ++ (le4 (psum p).toNat ++ p)
theorem frm_len (p : Bytes) : (frm p).length = 8 + p.length := by unfold frm; simp only [List.length_append, le4_len]; omega

/-- the record of the frame at the beginning, where one stands -/
def first (xs : Bytes) : Option Bytes :=
  if xs.length < 8 then none
  else if 1048576 < ival (xs.take 4) ∨ xs.length < 8 + ival (xs.take 4) then none
  else if psum ((xs.drop 8).take (ival (xs.take 4))) = BitVec.ofNat 32 (ival ((xs.drop 4).take 4)) then some ((xs.drop 8).take (ival (xs.take 4)))
  else none

theorem first_short (xs : Bytes) (h : xs.length < 8) : first xs = none := by unfold first; rw [if_pos h]
theorem first_big (xs : Bytes) (h : 1048576 < ival (xs.take 4) ∨ xs.length < 8 + ival (xs.take 4)) : first xs = none := by
  unfold first
  by_cases g : xs.length < 8
  · rw [if_pos g]
  · rw [if_neg g, if_pos h]
theorem first_sum (xs : Bytes) (h : 8 ≤ xs.length) (h1 : ival (xs.take 4) ≤ 1048576) (h2 : 8 + ival (xs.take 4) ≤ xs.length) :
    first xs = if psum ((xs.drop 8).take (ival (xs.take 4))) = BitVec.ofNat 32 (ival ((xs.drop 4).take 4)) then some ((xs.drop 8).take (ival (xs.take 4))) else none := by
  unfold first
  rw [if_neg (by omega), if_neg (by omega)]

/-- what stands first is a frame -/
theorem first_some {xs p : Bytes} (h : first xs = some p) : xs = frm p ++ xs.drop (8 + p.length) ∧ p.length ≤ 1048576 ∧ 8 + p.length ≤ xs.length := by
  by_cases g : xs.length < 8
  · rw [first_short xs g] at h; cases h
  · by_cases g2 : 1048576 < ival (xs.take 4) ∨ xs.length < 8 + ival (xs.take 4)
    · rw [first_big xs g2] at h; cases h
    · rw [first_sum xs (by omega) (by omega) (by omega)] at h
      split at h
      · rename_i hs
        have hn : ival (xs.take 4) = p.length := by
          have := Option.some.inj h
          rw [← this, List.length_take, List.length_drop]; omega
        rw [hn] at h hs
        have hp := Option.some.inj h
        rw [hp] at hs
        refine ⟨?_, by omega, by omega⟩
        have e1 : xs.take 4 = le4 p.length := by rw [← hn, le4_ival _ (by rw [List.length_take]; omega)]
        have l4 : ((xs.drop 4).take 4).length = 4 := by rw [List.length_take, List.length_drop]; omega
        have e2 : (xs.drop 4).take 4 = le4 (psum p).toNat := by
          rw [hs, BitVec.toNat_ofNat, Nat.mod_eq_of_lt (ival4_lt _ l4), le4_ival _ l4]
        have e3 : xs = xs.take 4 ++ ((xs.drop 4).take 4 ++ ((xs.drop 8).take p.length ++ xs.drop (8 + p.length))) := by
          rw [show xs.drop 8 = (xs.drop 4).drop 4 by rw [List.drop_drop], show xs.drop (8 + p.length) = ((xs.drop 4).drop 4).drop p.length by rw [List.drop_drop, List.drop_drop]; congr 1; omega]
          rw [List.take_append_drop, List.take_append_drop, List.take_append_drop]
        conv => lhs; rw [e3]
        rw [e1, e2, hp]
        unfold frm
        simp only [List.append_assoc]
      · cases h
/-- a frame stands first -/
theorem first_frm (p more : Bytes) (h : p.length ≤ 1048576) : first (frm p ++ more) = some p := by
  have hl : (frm p ++ more).length = 8 + p.length + more.length := by rw [List.length_append, frm_len]
  have e1 : (frm p ++ more).take 4 = le4 p.length := by
    unfold frm; rw [List.append_assoc]; exact List.take_left' (le4_len _)
  have e2 : ((frm p ++ more).drop 4).take 4 = le4 (psum p).toNat := by
    unfold frm; rw [List.append_assoc, List.drop_left' (le4_len _), List.append_assoc]; exact List.take_left' (le4_len _)
  have e3 : ((frm p ++ more).drop 8).take p.length = p := by
    rw [show (frm p ++ more).drop 8 = ((frm p ++ more).drop 4).drop 4 by rw [List.drop_drop]]
    unfold frm
    rw [List.append_assoc, List.drop_left' (le4_len _), List.append_assoc, List.drop_left' (le4_len _)]
    exact List.take_left' rfl
  have hi : ival ((frm p ++ more).take 4) = p.length := by rw [e1, ival_le4 _ (by omega)]
  rw [first_sum _ (by omega) (by omega) (by omega), hi, e2, e3, ival_le4 _ (psum p).isLt]
  rw [if_pos (by simp)]
/-- what stands first, asked by laying the frame again -/
theorem first_iff {xs : Bytes} (h : 8 ≤ xs.length) (h1 : ival (xs.take 4) ≤ 1048576) (h2 : 8 + ival (xs.take 4) ≤ xs.length) :
    (frm ((xs.drop 8).take (ival (xs.take 4))) = xs.take (8 + ival (xs.take 4)) → first xs = some ((xs.drop 8).take (ival (xs.take 4)))) ∧
    (frm ((xs.drop 8).take (ival (xs.take 4))) ≠ xs.take (8 + ival (xs.take 4)) → first xs = none) := by
  have hl : ((xs.drop 8).take (ival (xs.take 4))).length = ival (xs.take 4) := by rw [List.length_take, List.length_drop]; omega
  constructor
  · intro e
    have : xs = frm ((xs.drop 8).take (ival (xs.take 4))) ++ xs.drop (8 + ival (xs.take 4)) := by rw [e, List.take_append_drop]
    have hf := first_frm ((xs.drop 8).take (ival (xs.take 4))) (xs.drop (8 + ival (xs.take 4))) (by omega)
    rw [← this] at hf
    exact hf
  · intro e
    cases hf : first xs with
    | none => rfl
    | some p =>
      exfalso
      apply e
      have hs := first_sum xs h h1 h2
      rw [hf] at hs
      split at hs
      · have hp := Option.some.inj hs
        rw [← hp]
        obtain ⟨g1, g2, g3⟩ := first_some hf
        have hpl : p.length = ival (xs.take 4) := by rw [hp, hl]
        rw [← hpl]
        conv => rhs; rw [g1]
        exact (List.take_left' (frm_len p)).symm
      · cases hs

/-! ### frames one behind the other -/
def flatF : List Bytes → Bytes
  | [] => []
  | p :: l => frm p ++ flatF l
def sizeF : List Bytes → Nat
  | [] => 0
  | p :: l => 8 + p.length + sizeF l
theorem flatF_len (l : List Bytes) : (flatF l).length = sizeF l := by
  induction l with
  | nil => rfl
  | cons p l ih => rw [flatF, List.length_append, frm_len, ih, sizeF]
theorem flatF_append (a b : List Bytes) : flatF (a ++ b) = flatF a ++ flatF b := by
  induction a with
  | nil => rfl
  | cons p a ih => rw [List.cons_append, flatF, ih, flatF, List.append_assoc]
theorem sizeF_append (a b : List Bytes) : sizeF (a ++ b) = sizeF a + sizeF b := by
  induction a with
  | nil => show sizeF b = 0 + sizeF b; omega
  | cons p a ih => rw [List.cons_append, sizeF, ih, sizeF]; omega
theorem sizeF_ge : ∀ l : List Bytes, l.length ≤ sizeF l
  | [] => by simp [sizeF]
  | p :: l => by
    have := sizeF_ge l
    rw [List.length_cons, sizeF]; omega
theorem flatF_one (p : Bytes) : flatF [p] = frm p := by simp [flatF]
theorem sizeF_one (p : Bytes) : sizeF [p] = 8 + p.length := by simp [sizeF]

def Small (l : List Bytes) : Prop := ∀ p ∈ l, p.length ≤ 1048576
/-- what is scanned: all frames from the beginning on, up to where none stands; and their bytes -/
def Scans (xs : Bytes) (l : List Bytes) (k : Nat) : Prop := ∃ rest, xs = flatF l ++ rest ∧ first rest = none ∧ k = sizeF l ∧ Small l
theorem Scans.fix : ∀ {l m : List Bytes} {xs : Bytes} {i j : Nat}, Scans xs l i → Scans xs m j → l = m ∧ i = j
  | [], [], _, _, _, ⟨_, _, _, h, _⟩, ⟨_, _, _, g, _⟩ => ⟨rfl, by rw [h, g]⟩
  | [], q :: m, xs, i, j, ⟨r, h1, h2, _, _⟩, ⟨s, g1, _, _, g4⟩ => by
    exfalso
    have e : xs = r := by simpa [flatF] using h1
    rw [← e, g1, flatF, List.append_assoc, first_frm q _ (g4 q (by simp))] at h2
    cases h2
  | p :: l, [], xs, i, j, ⟨s, g1, _, _, g4⟩, ⟨r, h1, h2, _, _⟩ => by
    exfalso
    have e : xs = r := by simpa [flatF] using h1
    rw [← e, g1, flatF, List.append_assoc, first_frm p _ (g4 p (by simp))] at h2
    cases h2
  | p :: l, q :: m, xs, i, j, ⟨r, h1, h2, h3, h4⟩, ⟨s, g1, g2, g3, g4⟩ => by
    rw [flatF, List.append_assoc] at h1 g1
    have e : p = q := by
      have a := first_frm p (flatF l ++ r) (h4 p (by simp))
      have b := first_frm q (flatF m ++ s) (g4 q (by simp))
      rw [← h1] at a
      rw [← g1, a] at b
      exact Option.some.inj b
    subst e
    rw [h1] at g1
    have e2 := List.append_cancel_left g1
    have hl : Scans (flatF l ++ r) l (sizeF l) := ⟨r, rfl, h2, rfl, fun p hp => h4 p (by simp [hp])⟩
    have hm : Scans (flatF l ++ r) m (sizeF m) := ⟨s, e2, g2, rfl, fun p hp => g4 p (by simp [hp])⟩
    obtain ⟨e3, e4⟩ := Scans.fix hl hm
    subst e3
    exact ⟨rfl, by rw [h3, g3]⟩
theorem Scans.size {xs : Bytes} {l : List Bytes} {k : Nat} (h : Scans xs l k) : k ≤ xs.length ∧ l.length ≤ xs.length := by
  obtain ⟨r, h1, _, h3, _⟩ := h
  have := sizeF_ge l
  rw [h1, List.length_append, flatF_len]
  omega

/-- ahead of it frames -/
theorem Scans.behind {l m : List Bytes} {xs : Bytes} {k : Nat} (hl : Small l) (h : Scans xs m k) : Scans (flatF l ++ xs) (l ++ m) (sizeF l + k) := by
  obtain ⟨r, h1, h2, h3, h4⟩ := h
  refine ⟨r, by rw [h1, flatF_append, List.append_assoc], h2, by rw [sizeF_append, h3], fun p hp => ?_⟩
  rcases List.mem_append.1 hp with g | g
  · exact hl p g
  · exact h4 p g
theorem scans_none {xs : Bytes} (h : first xs = none) : Scans xs [] 0 := ⟨xs, rfl, h, rfl, fun p hp => by cases hp⟩

/-- on the way: ls were taken, k bytes -/
def At (xs : Bytes) (ls : List Bytes) (k : Nat) : Prop := xs = flatF ls ++ xs.drop k ∧ k = sizeF ls ∧ Small ls ∧ k ≤ xs.length
theorem At.zero (xs : Bytes) : At xs [] 0 := ⟨by simp [flatF], rfl, (fun p hp => by cases hp), Nat.zero_le _⟩
theorem At.step {xs p : Bytes} {ls : List Bytes} {k : Nat} (h : At xs ls k) (hf : first (xs.drop k) = some p) : At xs (ls ++ [p]) (k + (8 + p.length)) ∧ k + (8 + p.length) ≤ xs.length ∧ p.length ≤ 1048576 := by
  obtain ⟨h1, h2, h3, h4⟩ := h
  obtain ⟨g1, g2, g3⟩ := first_some hf
  rw [List.length_drop] at g3
  refine ⟨⟨?_, by rw [sizeF_append, sizeF_one, h2], fun q hq => ?_, by omega⟩, by omega, g2⟩
  · rw [flatF_append, flatF_one, List.append_assoc]
    rw [List.drop_drop] at g1
    rw [← g1]; exact h1
  · rcases List.mem_append.1 hq with g | g
    · exact h3 q g
    · simp at g; subst g; exact g2
theorem At.stop {xs : Bytes} {ls : List Bytes} {k : Nat} (h : At xs ls k) (hf : first (xs.drop k) = none) : Scans xs ls k := ⟨xs.drop k, h.1, hf, h.2.1, h.2.2.1⟩
theorem At.many {xs : Bytes} {ls : List Bytes} {k : Nat} (h : At xs ls k) : ls.length ≤ xs.length := by
  have := sizeF_ge ls
  have := h.2.1
  have := h.2.2.2
  omega

/-- a frame that is cut does not stand -/
theorem first_cut (p more : Bytes) (c : Nat) (hp : p.length ≤ 1048576) (h : c < 8 + p.length) : first ((frm p ++ more).take c) = none := by
  have hl : ((frm p ++ more).take c).length = c := by rw [List.length_take, List.length_append, frm_len]; omega
  by_cases g : c < 8
  · exact first_short _ (by omega)
  · apply first_big
    right
    have e : ((frm p ++ more).take c).take 4 = le4 p.length := by
      rw [List.take_take, Nat.min_eq_left (by omega)]
      unfold frm; rw [List.append_assoc]; exact List.take_left' (le4_len _)
    rw [e, ival_le4 _ (by omega), hl]
    exact h

/-- one byte turned -/
def turn (xs : Bytes) (i : Nat) (m : BitVec 8) : Bytes := xs.set i (xs.getD i 0#8 ^^^ m)
theorem turn_len (xs : Bytes) (i : Nat) (m : BitVec 8) : (turn xs i m).length = xs.length := by unfold turn; rw [List.length_set]
theorem turn_right (xs ys : Bytes) (i : Nat) (m : BitVec 8) : turn (xs ++ ys) (xs.length + i) m = xs ++ turn ys i m := by
  unfold turn
  rw [List.set_append_right _ _ (by omega), show xs.length + i - xs.length = i by omega]
  congr 3
  simp [List.getD, List.getElem?_append_right]
theorem turn_left (xs ys : Bytes) (i : Nat) (m : BitVec 8) (h : i < xs.length) : turn (xs ++ ys) i m = turn xs i m ++ ys := by
  unfold turn
  rw [List.set_append_left _ _ h]
  congr 3
  simp [List.getD, List.getElem?_append_left h]
theorem xor_ne (a m : BitVec 8) (hm : m ≠ 0#8) : a ^^^ m ≠ a := by
  intro e
  apply hm
  have : a ^^^ (a ^^^ m) = a ^^^ a := by rw [e]
  rwa [← BitVec.xor_assoc, BitVec.xor_self, BitVec.zero_xor] at this
theorem turn_ne (xs : Bytes) (i : Nat) (m : BitVec 8) (hm : m ≠ 0#8) (h : i < xs.length) : turn xs i m ≠ xs := by
  intro e
  have := congrArg (fun l : Bytes => l.getD i 0#8) e
  unfold turn at this
  simp only [List.getD, List.getElem?_set, h, if_true, List.getElem?_eq_getElem h, Option.getD_some] at this
  exact xor_ne _ m hm this

/-- where one byte of the record or of its sum was turned, none stands -/
theorem first_turned (p more : Bytes) (i : Nat) (m : BitVec 8) (hp : p.length ≤ 1048576) (hm : m ≠ 0#8) (h : i < 4 + p.length) : first (turn (frm p ++ more) (4 + i) m) = none := by
  have e0 : turn (frm p ++ more) (4 + i) m = le4 p.length ++ (turn (le4 (psum p).toNat ++ p) i m ++ more) := by
    unfold frm
    rw [List.append_assoc, show 4 + i = (le4 p.length).length + i from rfl, turn_right, turn_left _ _ _ _ (by rw [List.length_append, le4_len]; exact h)]
  rw [e0]
  cases hf : first (le4 p.length ++ (turn (le4 (psum p).toNat ++ p) i m ++ more)) with
  | none => rfl
  | some q =>
    exfalso
    obtain ⟨g1, g2, g3⟩ := first_some hf
    unfold frm at g1
    rw [List.append_assoc, List.append_assoc] at g1
    have hn : p.length = q.length := by
      have e := (List.append_inj g1 rfl).1
      have := congrArg ival e
      rwa [ival_le4 _ (by omega), ival_le4 _ (by omega)] at this
    have g4 := (List.append_inj g1 rfl).2
    have g5 : turn (le4 (psum p).toNat ++ p) i m = le4 (psum q).toNat ++ q := by
      have := (List.append_inj (s₁ := turn (le4 (psum p).toNat ++ p) i m) (t₁ := more) (s₂ := le4 (psum q).toNat ++ q) (t₂ := List.drop (8 + q.length) (le4 p.length ++ (turn (le4 (psum p).toNat ++ p) i m ++ more))) (by rw [List.append_assoc]; exact g4) (by rw [turn_len]; simp only [List.length_append, le4_len]; omega)).1
      exact this
    by_cases hi : i < 4
    · rw [turn_left _ _ _ _ (by rw [le4_len]; exact hi)] at g5
      obtain ⟨g6, g7⟩ := List.append_inj g5 (by rw [turn_len]; rfl)
      subst g7
      exact turn_ne _ i m hm (by rw [le4_len]; exact hi) g6
    · obtain ⟨j, rfl⟩ : ∃ j, i = 4 + j := ⟨i - 4, by omega⟩
      rw [show 4 + j = (le4 (psum p).toNat).length + j from rfl, turn_right] at g5
      obtain ⟨g6, g7⟩ := List.append_inj g5 rfl
      have hj : j < p.length := by omega
      have g8 : psum p = psum q := by
        have := congrArg ival g6
        rw [ival_le4 _ (psum p).isLt, ival_le4 _ (psum q).isLt] at this
        exact BitVec.eq_of_toNat_eq this
      unfold psum at g8
      rw [← hn, ← g7] at g8
      have hs := sum_turned (le4 p.length ++ p) (4 + j) (by rw [List.length_append, le4_len]; omega) m hm
      apply hs
      have e1 : (le4 p.length ++ p).set (4 + j) ((le4 p.length ++ p).getD (4 + j) 0#8 ^^^ m) = le4 p.length ++ turn p j m := turn_right (le4 p.length) p j m
      rw [e1]
      exact g8.symm

/-! ### the laws' own words -/
/-- frames cut anywhere: those that stand there whole -/
theorem scans_torn {l a : List Bytes} {p : Bytes} {b : List Bytes} {c : Nat} (hs : Small l) (hl : l = a ++ p :: b) (h1 : sizeF a ≤ c) (h2 : c < sizeF a + (8 + p.length)) : Scans ((flatF l).take c) a (sizeF a) := by
  have ha : Small a := fun q hq => hs q (by rw [hl]; simp [hq])
  have e : (flatF l).take c = flatF a ++ (frm p ++ flatF b).take (c - sizeF a) := by
    rw [hl, flatF_append, flatF, List.take_append, flatF_len, List.take_of_length_le (by rw [flatF_len]; exact h1)]
  rw [e]
  have := Scans.behind ha (scans_none (first_cut p (flatF b) (c - sizeF a) (hs p (by rw [hl]; simp)) (by omega)))
  simpa using this
theorem scans_whole {l : List Bytes} {c : Nat} (hs : Small l) (h : sizeF l ≤ c) : Scans ((flatF l).take c) l (sizeF l) := by
  rw [List.take_of_length_le (by rw [flatF_len]; exact h)]
  have := Scans.behind hs (scans_none (first_short [] (by simp)))
  simpa using this
/-- one byte turned: those ahead of it -/
theorem scans_turned {l a : List Bytes} {p : Bytes} {b : List Bytes} {i : Nat} {m : BitVec 8} (hs : Small l) (hl : l = a ++ p :: b) (hm : m ≠ 0#8) (h : i < 4 + p.length) : Scans (turn (flatF l) (sizeF a + (4 + i)) m) a (sizeF a) := by
  have ha : Small a := fun q hq => hs q (by rw [hl]; simp [hq])
  have e : turn (flatF l) (sizeF a + (4 + i)) m = flatF a ++ turn (frm p ++ flatF b) (4 + i) m := by
    rw [hl, flatF_append, flatF, ← flatF_len, turn_right]
  rw [e]
  have := Scans.behind ha (scans_none (first_turned p (flatF b) i m (hs p (by rw [hl]; simp)) hm h))
  simpa using this
theorem scans_one (p : Bytes) (h : p.length ≤ 1048576) : Scans (frm p) [p] (8 + p.length) := by
  have := scans_whole (l := [p]) (c := 8 + p.length) (fun q hq => by simp at hq; subst hq; exact h) (by rw [sizeF_one]; exact Nat.le_refl _)
  rwa [flatF_one, List.take_of_length_le (by rw [frm_len]; exact Nat.le_refl _), sizeF_one] at this
end Go.Proofs.YtehlbddcgnclaaaDoor.Plain
