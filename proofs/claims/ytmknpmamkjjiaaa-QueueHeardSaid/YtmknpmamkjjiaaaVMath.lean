/- Vectors as plain mathematics: what one says of a node, the shortest one that says so, and the laws that follow. -/
namespace Go.Proofs.Ytmknpmamkjjiaaa.Plain

abbrev Ints := List Int

def says (v : Ints) (i : Nat) : Int := max (v.getD i 0) 0
theorem says_pos (v : Ints) (i : Nat) : 0 ≤ says v i := by unfold says; omega
theorem getD_end (v : Ints) (i : Nat) (h : v.length ≤ i) : v.getD i 0 = 0 := by simp [List.getD, List.getElem?_eq_none h]
theorem says_end (v : Ints) (i : Nat) (h : v.length ≤ i) : says v i = 0 := by unfold says; rw [getD_end v i h]; omega
def saysI (v : Ints) (n : Int) : Int := if 0 ≤ n then says v n.toNat else 0
theorem saysI_nat (v : Ints) (i : Nat) : saysI v (i : Int) = says v i := by unfold saysI; rw [if_pos (by omega)]; rfl
def laid (c : Nat → Int) : Nat → Ints
 | 0 => []
 | n + 1 => if c n = 0 then laid c n else (List.range (n + 1)).map c
theorem range_getD (c : Nat → Int) (n i : Nat) : ((List.range n).map c).getD i 0 = if i < n then c i else 0 := by
 by_cases h : i < n
 ·simp [List.getD, h]
 ·rw [if_neg h, getD_end _ _ (by simp; omega)]
theorem laid_len (c : Nat → Int) : ∀ n, (laid c n).length ≤ n
 | 0 => Nat.le_refl _
 | n + 1 => by
  have := laid_len c n
  unfold laid
  split
  ·omega
  ·simp
theorem laid_getD (c : Nat → Int) : ∀ n i, (laid c n).getD i 0 = if i < n then c i else 0
 | 0, i => by simp [laid]
 | n + 1, i => by
  unfold laid
  split
  ·rename_i h
   rw [laid_getD c n i]
   by_cases g : i < n
   ·rw [if_pos g, if_pos (by omega)]
   ·rw [if_neg g]
    by_cases e : i = n
    ·subst e; rw [if_pos (by omega), h]
    ·rw [if_neg (by omega)]
  ·exact range_getD c (n + 1) i
theorem laid_range (c : Nat → Int) : ∀ n, laid c n = (List.range (laid c n).length).map c
 | 0 => rfl
 | n + 1 => by
  have ih := laid_range c n
  unfold laid
  split
  ·exact ih
  ·simp
theorem laid_zero (c : Nat → Int) (n : Nat) (h : c n = 0) : laid c (n + 1) = laid c n := by rw [laid, if_pos h]
theorem laid_some (c : Nat → Int) (n : Nat) (h : ¬ c n = 0) : laid c (n + 1) = (List.range (n + 1)).map c := by rw [laid, if_neg h]
theorem laid_some_len (c : Nat → Int) (n : Nat) (h : ¬ c n = 0) : (laid c (n + 1)).length = n + 1 := by rw [laid_some c n h]; simp

def Short (v : Ints) : Prop := (∀ i, 0 ≤ v.getD i 0) ∧ ∀ k, v.length = k + 1 → v.getD k 0 ≠ 0
theorem Short.says {v : Ints} (h : Short v) (i : Nat) : v.getD i 0 = says v i := by have := h.1 i; unfold Plain.says; omega
theorem laid_says {c : Nat → Int} {n : Nat} (h : ∀ i, 0 ≤ c i) (i : Nat) : says (laid c n) i = if i < n then c i else 0 := by
 have := h i
 unfold says
 rw [laid_getD]
 split <;> omega

def trim (v : Ints) : Ints := laid (says v) v.length
def join (a b : Ints) : Ints := laid (fun i => max (says a i) (says b i)) (max a.length b.length)
def withF (v : Ints) (k : Nat) (n : Int) (i : Nat) : Int := if i = k then n else says v i
def withN (v : Ints) (k : Nat) (n : Int) : Ints := laid (withF v k n) (max v.length (k + 1))
theorem join_pos (a b : Ints) (i : Nat) : 0 ≤ max (says a i) (says b i) := by have := says_pos a i; omega
theorem withF_pos (v : Ints) (k : Nat) (n : Int) (hn : 0 ≤ n) (i : Nat) : 0 ≤ withF v k n i := by unfold withF; split; exact hn; exact says_pos v i
theorem trim_says (v : Ints) (i : Nat) : says (trim v) i = says v i := by
 unfold trim
 rw [laid_says (says_pos v)]
 split
 ·rfl
 ·rw [says_end v i (by omega)]
theorem join_says (a b : Ints) (i : Nat) : says (join a b) i = max (says a i) (says b i) := by
 unfold join
 rw [laid_says (join_pos a b)]
 split
 ·rfl
 ·rw [says_end a i (by omega), says_end b i (by omega)]; rfl
theorem with_says (v : Ints) (k : Nat) (n : Int) (hn : 0 ≤ n) (i : Nat) : says (withN v k n) i = withF v k n i := by
 unfold withN
 rw [laid_says (withF_pos v k n hn)]
 split
 ·rfl
 ·unfold withF
  rw [if_neg (by omega), says_end v i (by omega)]
def Within (a b : Ints) : Prop := ∀ i, says a i ≤ says b i
theorem within_of {a b : Ints} (h : ∀ i, i < a.length → says a i ≤ says b i) : Within a b := fun i => by
 by_cases g : i < a.length
 ·exact h i g
 ·rw [says_end a i (by omega)]; exact says_pos b i
def within (a b : Ints) : Bool := (List.range a.length).all fun i => decide (says a i ≤ says b i)
theorem within_iff {a b : Ints} : within a b = true ↔ Within a b := by
 unfold within
 rw [List.all_eq_true]
 constructor
 ·intro h
  refine within_of fun i hi => ?_
  have := h i (List.mem_range.2 hi)
  exact of_decide_eq_true this
 ·intro h i _
  exact decide_eq_true (h i)
def partI (c : Nat → Int) (m k : Nat) : Ints := (List.range m).map fun i => if i < k then c i else 0
theorem partI_len (c : Nat → Int) (m k : Nat) : (partI c m k).length = m := by simp [partI]
theorem partI_zero (c : Nat → Int) (m : Nat) : partI c m 0 = List.replicate m 0 := by
 refine List.ext_getElem (by simp [partI]) fun i h1 h2 => ?_
 simp [partI]
theorem partI_next (c : Nat → Int) (m k : Nat) : (partI c m k).set k (c k) = partI c m (k + 1) := by
 refine List.ext_getElem (by simp [partI]) fun i h1 h2 => ?_
 simp only [partI, List.getElem_set, List.getElem_map, List.getElem_range]
 by_cases e : k = i
 ·subst e; simp
 ·rw [if_neg e]
  by_cases g : i < k
  ·rw [if_pos g, if_pos (by omega)]
  ·rw [if_neg g, if_neg (by omega)]
theorem partI_all (c : Nat → Int) (m : Nat) : partI c m m = (List.range m).map c := by
 refine List.ext_getElem (by simp [partI]) fun i h1 h2 => ?_
 simp only [partI, List.getElem_map, List.getElem_range]
 rw [if_pos (by simpa [partI] using h1)]
theorem partI_laid (c : Nat → Int) (n : Nat) : partI c (laid c n).length (laid c n).length = laid c n := by
 rw [partI_all]; exact (laid_range c n).symm
theorem laid_step (c : Nat → Int) (n k : Nat) (h : laid c (k + 1) = laid c n) (h0 : c k = 0) : laid c k = laid c n := by rw [← h, laid_zero c k h0]
theorem laid_stop (c : Nat → Int) (n k : Nat) (h : laid c (k + 1) = laid c n) (h0 : ¬ c k = 0) : (laid c n).length = k + 1 := by rw [← h, laid_some_len c k h0]

end Go.Proofs.Ytmknpmamkjjiaaa.Plain
