/- Sorted, and of each run one: what slices.Sort and slices.Compact (in the library's words) make of texts is once. From a slice of texts of the call's own to the library's words for a row that is sorted in place, and back. -/
import Derived.Test.YtmknpmamkjjiaaaGreatRefZs
import Derived.Lib.SlicesCompact
import Derived.Sort.Grow
import Derived.Shelf.Slices.CompactS
namespace Go.Proofs.YtmknpmamkjjiaaaGreat
open Plain
set_option linter.unusedVariables false

theorem take_next {xs : List Txt} {k : Nat} (hk : k < xs.length) : xs.take (k + 1) = xs.take k ++ [xs.getD k []] := by
 rw [List.take_succ_eq_append_getElem hk]
 simp [List.getD, List.getElem?_eq_getElem hk]
theorem le_of_not {a b : Txt} (h : a ≤ b) (hne : a ≠ b) : a < b := by
 rcases Classical.em (a < b) with g | g
 ·exact g
 ·exact absurd (List.le_antisymm h (List.not_lt.1 g)) hne
theorem get_bang (zs : List Txt) (m : Nat) (hm : m < zs.length) : zs.toArray[m]! = zs.getD m [] := by
 simp [getElem!_pos, hm, List.getD]
theorem sorted_at {zs : List Txt} (h : zs.Pairwise (· ≤ ·)) {i j : Nat} (hij : i < j) (hj : j < zs.length) : zs.getD i [] ≤ zs.getD j [] := by
 have := List.pairwise_iff_getElem.1 h i j (by omega) hj hij
 simpa [List.getD, List.getElem?_eq_getElem hj, List.getElem?_eq_getElem (show i < zs.length by omega)] using this
theorem compactUpTo_spec {zs : List Txt} (h : zs.Pairwise (· ≤ ·)) : ∀ m, m ≤ zs.length → Rising (Lib.compactUpTo zs.toArray m) ∧ ∀ t, t ∈ Lib.compactUpTo zs.toArray m ↔ t ∈ zs.take m
 | 0, _ => ⟨List.Pairwise.nil, fun t => by simp [Lib.compactUpTo]⟩
 | m + 1, hm => by
  obtain ⟨hr, hmem⟩ := compactUpTo_spec h m (by omega)
  rw [Lib.compactUpTo_succ, take_next (by omega)]
  by_cases hk : Lib.keeps zs.toArray m = true
  ·rw [if_pos hk, get_bang zs m (by omega)]
   refine ⟨List.pairwise_append.2 ⟨hr, by simp, fun t ht u hu => ?_⟩, fun t => by rw [List.mem_append, List.mem_append, hmem]⟩
   rw [List.mem_singleton.1 hu]
   obtain ⟨j, hj, hjt⟩ := mem_at ((hmem t).1 ht)
   have hjm : j < m := by rw [List.length_take] at hj; omega
   have e : (zs.take m).getD j [] = zs.getD j [] := by simp [List.getD, hjm]
   rw [e] at hjt
   subst hjt
   have hk' : ¬ m = 0 → zs.getD m [] ≠ zs.getD (m - 1) [] := fun h0 => by
    unfold Lib.keeps at hk
    rw [decide_eq_true_iff] at hk
    rcases hk with hk | hk
    ·exact absurd hk h0
    ·rw [get_bang zs m (by omega), get_bang zs (m - 1) (by omega)] at hk
     exact hk
   have h1 := le_of_not (sorted_at h (show m - 1 < m by omega) (by omega)) (fun e => hk' (by omega) e.symm)
   by_cases e : j = m - 1
   ·rw [e]; exact h1
   ·have h2 := sorted_at h (show j < m - 1 by omega) (by omega)
    by_cases e2 : zs.getD j [] = zs.getD (m - 1) []
    ·rw [e2]; exact h1
    ·exact lt_trans (le_of_not h2 e2) h1
  ·rw [if_neg hk, List.append_nil]
   refine ⟨hr, fun t => ?_⟩
   rw [hmem, List.mem_append]
   refine ⟨.inl, fun g => g.elim id fun g => ?_⟩
   rw [List.mem_singleton.1 g]
   have hk' : m ≠ 0 ∧ zs.getD m [] = zs.getD (m - 1) [] := by
    unfold Lib.keeps at hk
    rw [decide_eq_true_iff] at hk
    refine ⟨fun e => hk (.inl e), Classical.byContradiction fun hne => hk (.inr ?_)⟩
    by_cases e : m = 0
    ·exact absurd (.inl e) hk
    ·rw [get_bang zs m (by omega), get_bang zs (m - 1) (by omega)]
     exact hne
   rw [hk'.2]
   have : (zs.take m).getD (m - 1) [] = zs.getD (m - 1) [] := by simp [List.getD, show m - 1 < m by omega]
   rw [← this]
   exact mem_getD (by rw [List.length_take]; omega)
theorem compact_sorted {zs : List Txt} (h : zs.Pairwise (· ≤ ·)) : Lib.compact zs = once zs := by
 obtain ⟨hr, hm⟩ := compactUpTo_spec h zs.length (Nat.le_refl _)
 refine rising_ext hr (rising_once zs) fun t => ?_
 refine (hm t).trans ?_
 rw [mem_once, List.take_length]
theorem sort_pairwise (zs : List Txt) : (zs.mergeSort fun x y => decide (x ≤ y)).Pairwise (· ≤ ·) := by
 have := List.pairwise_mergeSort (le := fun x y : Txt => decide (x ≤ y)) (fun a b c h g => by
  rw [decide_eq_true_iff] at *
  exact List.le_trans h g) (fun a b => by
  rw [Bool.or_eq_true, decide_eq_true_iff, decide_eq_true_iff]
  exact List.le_total a b) zs
 exact this.imp fun h => of_decide_eq_true h
/-- sorted, then each once -/
theorem compact_sort (zs : List Txt) : Lib.compact (zs.mergeSort fun x y => decide (x ≤ y)) = once zs := by
 rw [compact_sorted (sort_pairwise zs)]
 exact once_ext fun t => List.mem_mergeSort
end Go.Proofs.YtmknpmamkjjiaaaGreat
namespace Go.Proofs.YtmknpmamkjjiaaaGreat
open Go.RowKit Plain
set_option linter.unusedVariables false

theorem encStr_tv (t : Txt) : encStr t = tv t := rfl
theorem holds_of_owns {B : Nat} {w : World} {g n cap : Nat} {xs : List Txt} (h : OwnsT B w (.slice (some ⟨g, 0, none⟩) n cap) xs) : Sort.Holds encStr w g 0 xs.toArray := fun j hj => by
 have hj' : j < xs.length := by simpa using hj
 refine ⟨?_, ?_⟩
 ·rw [Nat.zero_add, h.cell j hj', get_bang xs j hj', encStr_tv]
 ·rw [Nat.zero_add]; exact h.free j
theorem seq_of_holds {w : World} {g off cap : Nat} {xs : List Txt} (h : Sort.Holds encStr w g off xs.toArray) (hc : xs.length ≤ cap) (hm : cap ≤ maxLen) : SeqT w (.slice (some ⟨g, off, none⟩) xs.length cap) xs := by
 refine ⟨_, cap, rfl, hc, hm, (by simp), fun _ => ⟨g, off, rfl, fun j hj => ?_⟩⟩
 have := (h j (by simpa using hj)).1
 rw [get_bang xs j hj, encStr_tv] at this
 exact this
/-- the first texts of a row -/
theorem holds_first {w : World} {g off : Nat} {xs ys : List Txt} (h : Sort.Holds encStr w g off (xs ++ ys).toArray) : Sort.Holds encStr w g off xs.toArray := fun j hj => by
 have hj' : j < xs.length := by simpa using hj
 have := h j (by simp; omega)
 rw [get_bang (xs ++ ys) j (by simp; omega)] at this
 rw [get_bang xs j hj']
 rw [show (xs ++ ys).getD j [] = xs.getD j [] by simp [List.getD, List.getElem?_append_left hj']] at this
 exact this
theorem below_put {B : Nat} {w u : World} {g off : Nat} {d : Array Txt} (hb : Below B w u) (hB : B ≤ u.heap.size) (hg : B ≤ g) (n : Nat) (os : Array Obj) : Below B w (Sort.grow (Sort.putRow encStr (Sort.ahead u n) g off d) os) := by
 refine ⟨hb.os, hb.tape, hb.output, ?_, fun k hk => ?_⟩
 ·have := hb.size
  rw [Sort.size_grow, Sort.size_putRow]
  show w.heap.size ≤ u.heap.size + os.size
  omega
 ·have hlt : k < u.heap.size := by omega
  rw [Sort.heap_grow_old _ _ (by rw [Sort.size_putRow]; exact hlt)]
  refine Eq.trans ?_ (hb.block k hk)
  show ((Sort.ahead u n).heap.modify g _)[k]? = u.heap[k]?
  rw [Array.getElem?_modify, if_neg (by omega)]
  rfl
theorem holds_put {u : World} {g off : Nat} {d0 d : Array Txt} (h : Sort.Holds encStr u g off d0) (hs : d.size = d0.size) (hg : g < u.heap.size) (n : Nat) (os : Array Obj) : Sort.Holds encStr (Sort.grow (Sort.putRow encStr (Sort.ahead u n) g off d) os) g off d :=
 Sort.holds_grow encStr _ os g off d (by rw [Sort.size_putRow]; exact hg) (Sort.holds_putRow encStr _ g off d0 d (Sort.holds_ahead encStr u n g off d0 h) hs)
/-- a slice that may be sorted, cut and struck through in place: nothing, or a row of a block from B on -/
def RowT (B : Nat) (w : World) (v : Value) (xs : List Txt) : Prop :=
 (v = .slice none 0 0 ∧ xs = []) ∨ ∃ g off c, v = .slice (some ⟨g, off, none⟩) xs.length c ∧ xs.length ≤ c ∧ c ≤ maxLen ∧ B ≤ g ∧ g < w.heap.size ∧ Sort.Holds encStr w g off xs.toArray
theorem RowT.seq {B : Nat} {w : World} {v : Value} {xs : List Txt} (h : RowT B w v xs) : SeqT w v xs := by
 rcases h with ⟨rfl, rfl⟩ | ⟨g, off, c, rfl, h1, h2, -, -, h3⟩
 ·exact SeqT.nil w
 ·exact seq_of_holds h3 h1 h2
theorem RowT.mono {B C : Nat} {w : World} {v : Value} {xs : List Txt} (h : RowT B w v xs) (hc : C ≤ B) : RowT C w v xs := by
 rcases h with h | ⟨g, off, c, h0, h1, h2, h3, h4⟩
 ·exact .inl h
 ·exact .inr ⟨g, off, c, h0, h1, h2, by omega, h4⟩
/-- what a function that makes such a row answers -/
def RowsT (w : World) (xs : List Txt) (e : Ending) (w' : World) : Prop := ∃ v, e = .returned v ∧ RowT w.heap.size w' v xs ∧ Below w.heap.size w w'
end Go.Proofs.YtmknpmamkjjiaaaGreat
