/- From a slice of texts of the call's own to the library's words for a row that is sorted in place, and back. -/
import Derived.Test.YtpkmjddjllpglaaSortT
import Derived.Sort.Grow
import Derived.Shelf.Slices.CompactS
namespace Go.Proofs.Ytpkmjddjllpglaa
open Go.RowKit Plain
set_option linter.unusedVariables false

theorem encStr_tv (t : Txt) : encStr t = tv t := rfl
theorem holds_of_owns {B : Nat} {w : World} {g n cap : Nat} {xs : List Txt} (h : OwnsT B w (.slice (some ⟨g, 0, none⟩) n cap) xs) : Sort.Holds encStr w g 0 xs.toArray := fun j hj => by
  have hj' : j < xs.length := by simpa using hj
  refine ⟨?_, ?_⟩
  · rw [Nat.zero_add, h.cell j hj', get_bang xs j hj', encStr_tv]
  · rw [Nat.zero_add]; exact h.free j
theorem seq_of_holds {w : World} {g off cap : Nat} {xs : List Txt} (h : Sort.Holds encStr w g off xs.toArray) (hc : xs.length ≤ cap) (hm : cap ≤ maxLen) : SeqT w (.slice (some ⟨g, off, none⟩) xs.length cap) xs := by
  refine ⟨_, cap, rfl, hc, hm, (by simp), fun _ => ⟨g, off, rfl, fun j hj => ?_⟩⟩
  have := (h j (by simpa using hj)).1
  rw [get_bang xs j hj, encStr_tv] at this
  exact this
/-- the first texts of a row -/
theorem holds_first {w : World} {g off : Nat} {xs ys : List Txt} (h : Sort.Holds encStr w g off (xs ++ ys).toArray) : Sort.Holds encStr w g off xs.toArray := fun j hj => by
  have hj' : j < xs.length := by simpa using hj
  have := h j (by simp; omega)
  rw [get_bang (xs ++ ys) j (by simp; omega)] at this
  rw [get_bang xs j hj']
  rw [show (xs ++ ys).getD j [] = xs.getD j [] by simp [List.getD, List.getElem?_append_left hj']] at this
  exact this
theorem below_put {B : Nat} {w u : World} {g off : Nat} {d : Array Txt} (hb : Below B w u) (hB : B ≤ u.heap.size) (hg : B ≤ g) (n : Nat) (os : Array Obj) : Below B w (Sort.grow (Sort.putRow encStr (Sort.ahead u n) g off d) os) := by
  refine ⟨hb.os, hb.tape, hb.output, ?_, fun k hk => ?_⟩
  · have := hb.size
    rw [Sort.size_grow, Sort.size_putRow]
    show w.heap.size ≤ u.heap.size + os.size
    omega
  · have hlt : k < u.heap.size := by omega
    rw [Sort.heap_grow_old _ _ (by rw [Sort.size_putRow]; exact hlt)]
    refine Eq.trans ?_ (hb.block k hk)
    show ((Sort.ahead u n).heap.modify g _)[k]? = u.heap[k]?
    rw [Array.getElem?_modify, if_neg (by omega)]
    rfl
theorem holds_put {u : World} {g off : Nat} {d0 d : Array Txt} (h : Sort.Holds encStr u g off d0) (hs : d.size = d0.size) (hg : g < u.heap.size) (n : Nat) (os : Array Obj) : Sort.Holds encStr (Sort.grow (Sort.putRow encStr (Sort.ahead u n) g off d) os) g off d :=
  Sort.holds_grow encStr _ os g off d (by rw [Sort.size_putRow]; exact hg) (Sort.holds_putRow encStr _ g off d0 d (Sort.holds_ahead encStr u n g off d0 h) hs)
/-- a slice that may be sorted, cut and struck through in place: nothing, or a row of a block from B on -/
def RowT (B : Nat) (w : World) (v : Value) (xs : List Txt) : Prop :=
  (v = .slice none 0 0 ∧ xs = []) ∨ ∃ g off c, v = .slice (some ⟨g, off, none⟩) xs.length c ∧ xs.length ≤ c ∧ c ≤ maxLen ∧ B ≤ g ∧ g < w.heap.size ∧ Sort.Holds encStr w g off xs.toArray
theorem RowT.seq {B : Nat} {w : World} {v : Value} {xs : List Txt} (h : RowT B w v xs) : SeqT w v xs := by
  rcases h with ⟨rfl, rfl⟩ | ⟨g, off, c, rfl, h1, h2, -, -, h3⟩
  · exact SeqT.nil w
  · exact seq_of_holds h3 h1 h2
theorem RowT.mono {B C : Nat} {w : World} {v : Value} {xs : List Txt} (h : RowT B w v xs) (hc : C ≤ B) : RowT C w v xs := by
  rcases h with h | ⟨g, off, c, h0, h1, h2, h3, h4⟩
  · exact .inl h
  · exact .inr ⟨g, off, c, h0, h1, h2, by omega, h4⟩
theorem RowT.of_owns {B : Nat} {w : World} {v : Value} {xs : List Txt} (h : OwnsT B w v xs) : RowT B w v xs := by
  have hb := h.lt
  have h' := h
  rcases h'.2 with ⟨rfl, hn⟩ | ⟨g, cap, cur, rfl, h1, hg, hnc, hcm, -, -⟩
  · exact .inl ⟨rfl, List.eq_nil_of_length_eq_zero hn⟩
  · exact .inr ⟨g, 0, cap, rfl, hnc, hcm, h1, (hb g rfl).2, holds_of_owns h⟩
/-- what a function that makes such a row answers -/
def RowsT (w : World) (xs : List Txt) (e : Ending) (w' : World) : Prop := ∃ v, e = .returned v ∧ RowT w.heap.size w' v xs ∧ Below w.heap.size w w'
end Go.Proofs.Ytpkmjddjllpglaa
