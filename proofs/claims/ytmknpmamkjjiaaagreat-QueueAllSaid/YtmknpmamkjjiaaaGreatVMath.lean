/- Vectors as plain mathematics: what one says of a node, the shortest one that says so, and the laws that follow. -/
namespace Go.Proofs.YtmknpmamkjjiaaaGreat.Plain

abbrev Ints := List Int

/-- what a vector says of its i-th node -/
def says (v : Ints) (i : Nat) : Int := max (v.getD i 0) 0
theorem says_pos (v : Ints) (i : Nat) : 0 ≤ says v i := by unfold says; omega
theorem getD_end (v : Ints) (i : Nat) (h : v.length ≤ i) : v.getD i 0 = 0 := by simp [List.getD, List.getElem?_eq_none h]
theorem says_end (v : Ints) (i : Nat) (h : v.length ≤ i) : says v i = 0 := by unfold says; rw [getD_end v i h]; omega
/-- of any number -/
def saysI (v : Ints) (n : Int) : Int := if 0 ≤ n then says v n.toNat else 0
theorem saysI_nat (v : Ints) (i : Nat) : saysI v (i : Int) = says v i := by unfold saysI; rw [if_pos (by omega)]; rfl
theorem saysI_pos (v : Ints) (n : Int) : 0 ≤ saysI v n := by unfold saysI; split; exact says_pos _ _; omega

/-- the vector of what c says of the first n, no longer than it must be -/
def laid (c : Nat → Int) : Nat → Ints
 | 0 => []
 | n + 1 => if c n = 0 then laid c n else (List.range (n + 1)).map c
theorem laid_len (c : Nat → Int) : ∀ n, (laid c n).length ≤ n
 | 0 => Nat.le_refl _
 | n + 1 => by
  have := laid_len c n
  unfold laid
  split
  ·omega
  ·simp
theorem laid_range (c : Nat → Int) : ∀ n, laid c n = (List.range (laid c n).length).map c
 | 0 => rfl
 | n + 1 => by
  have ih := laid_range c n
  unfold laid
  split
  ·exact ih
  ·simp
theorem laid_zero (c : Nat → Int) (n : Nat) (h : c n = 0) : laid c (n + 1) = laid c n := by rw [laid, if_pos h]
theorem laid_some (c : Nat → Int) (n : Nat) (h : ¬ c n = 0) : laid c (n + 1) = (List.range (n + 1)).map c := by rw [laid, if_neg h]
theorem laid_some_len (c : Nat → Int) (n : Nat) (h : ¬ c n = 0) : (laid c (n + 1)).length = n + 1 := by rw [laid_some c n h]; simp

/-! ### the document's functions -/
def trim (v : Ints) : Ints := laid (says v) v.length
/-! ### the laws -/
/-! ### as the document's own text makes them -/
/-- a vector that is being laid: what c says of the first k, noughts behind it -/
def partI (c : Nat → Int) (m k : Nat) : Ints := (List.range m).map fun i => if i < k then c i else 0
theorem partI_len (c : Nat → Int) (m k : Nat) : (partI c m k).length = m := by simp [partI]
theorem partI_zero (c : Nat → Int) (m : Nat) : partI c m 0 = List.replicate m 0 := by
 refine List.ext_getElem (by simp [partI]) fun i h1 h2 => ?_
 simp [partI]
theorem partI_next (c : Nat → Int) (m k : Nat) : (partI c m k).set k (c k) = partI c m (k + 1) := by
 refine List.ext_getElem (by simp [partI]) fun i h1 h2 => ?_
 simp only [partI, List.getElem_set, List.getElem_map, List.getElem_range]
 by_cases e : k = i
 ·subst e; simp
 ·rw [if_neg e]
  by_cases g : i < k
  ·rw [if_pos g, if_pos (by omega)]
  ·rw [if_neg g, if_neg (by omega)]
theorem partI_all (c : Nat → Int) (m : Nat) : partI c m m = (List.range m).map c := by
 refine List.ext_getElem (by simp [partI]) fun i h1 h2 => ?_
 simp only [partI, List.getElem_map, List.getElem_range]
 rw [if_pos (by simpa [partI] using h1)]
theorem partI_laid (c : Nat → Int) (n : Nat) : partI c (laid c n).length (laid c n).length = laid c n := by
 rw [partI_all]; exact (laid_range c n).symm
theorem laid_step (c : Nat → Int) (n k : Nat) (h : laid c (k + 1) = laid c n) (h0 : c k = 0) : laid c k = laid c n := by rw [← h, laid_zero c k h0]
theorem laid_stop (c : Nat → Int) (n k : Nat) (h : laid c (k + 1) = laid c n) (h0 : ¬ c k = 0) : (laid c n).length = k + 1 := by rw [← h, laid_some_len c k h0]

end Go.Proofs.YtmknpmamkjjiaaaGreat.Plain
