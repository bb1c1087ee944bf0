/- WORDS FOR TEXTS: slices that read as a list of texts (nil, empty, cut), slices of the call's own, append, make. (Turned out of words/XWords, XMore, XMake.) WHAT A CALL ANSWERS: a bool, an integer, a list of texts (zone/XRefS has the first three, too: not both in one seat). -/
import Derived.Test.YtajfliemmfdnhaaGreatEls
import Derived.Test.YtajfliemmfdnhaaGreatMaths
import Derived.Laws.Cover1
import Derived.Sort.Walk0
import Derived.Deep.OwnRows
import Derived.OwnWalk
namespace Go.Proofs.YtajfliemmfdnhaaGreat
open Go.RowKit Plain
set_option linter.unusedVariables false

def bt (t : Txt) : ByteArray := ⟨t.toArray⟩
def tx (s : ByteArray) : Txt := s.data.toList
theorem bt_size (t : Txt) : (bt t).size = t.length := rfl
def tv (t : Txt) : Value := .string (bt t)
def SeqT (w : World) (v : Value) (xs : List Txt) : Prop :=
 ∃ a cap, v = .slice a xs.length cap ∧ xs.length ≤ cap ∧ cap ≤ maxLen ∧ (a = none → cap = 0) ∧
  (0 < xs.length → ∃ b off, a = some ⟨b, off, none⟩ ∧ ∀ j, j < xs.length → w.cell? ⟨b, off + j, none⟩ = some (tv (xs.getD j [])))
theorem SeqT.nil (w : World) : SeqT w (.slice none 0 0) [] := ⟨none, 0, rfl, Nat.zero_le _, Nat.zero_le _, fun _ => rfl, fun h => absurd h (by simp)⟩
theorem SeqT.below' {N : Nat} {w w' : World} {v : Value} {xs : List Txt} (h : SeqT w v xs) (hb : Below N w w') (hN : w.heap.size ≤ N) : SeqT w' v xs := by
 obtain ⟨a, cap, rfl, h1, h2, h0, h3⟩ := h
 refine ⟨a, cap, rfl, h1, h2, h0, fun hp => ?_⟩
 obtain ⟨b, off, rfl, hc⟩ := h3 hp
 refine ⟨b, off, rfl, fun j hj => ?_⟩
 have hlt : b < w.heap.size := World.block_lt_of_cell? w ⟨b, off + j, none⟩ (hc j hj)
 exact (hb.cell (p := ⟨b, off + j, none⟩) (show b < N by omega)).trans (hc j hj)
theorem SeqT.below {w w' : World} {v : Value} {xs : List Txt} (h : SeqT w v xs) (hb : Below w.heap.size w w') : SeqT w' v xs := SeqT.below' h hb (Nat.le_refl _)
theorem SeqT.parts {w : World} {v : Value} {xs : List Txt} (h : SeqT w v xs) : ∃ a cap, v = .slice a xs.length cap ∧ xs.length ≤ cap ∧ cap ≤ maxLen ∧ (a = none → cap = 0) ∧ SeqT w (.slice a xs.length cap) xs := by
 have h' := h
 obtain ⟨a, cap, rfl, h1, h2, h0, h3⟩ := h
 exact ⟨a, cap, rfl, h1, h2, h0, h'⟩
def OwnsT (B : Nat) (w : World) (v : Value) (xs : List Txt) : Prop := w.ownsRow B 9 1 v xs.length (xs.map tv)
theorem OwnsT.nil (B : Nat) (w : World) : OwnsT B w (.slice none 0 0) [] := World.ownsRow_nil _ _ _ _
theorem getD_mapT (xs : List Txt) (j : Nat) (hj : j < xs.length) : (xs.map tv)[j]? = some (tv (xs.getD j [])) := by
 simp [List.getD, List.getElem?_eq_getElem hj]
theorem OwnsT.seq {B : Nat} {w : World} {v : Value} {xs : List Txt} (h : OwnsT B w v xs) : SeqT w v xs := by
 have h' := h
 rcases h.2 with ⟨rfl, hn⟩ | ⟨g, cap, cur, rfl, hb, hg, hnc, hcm, hcs, htake⟩
 ·obtain rfl : xs = [] := List.eq_nil_of_length_eq_zero hn
  exact SeqT.nil w
 ·refine ⟨_, cap, rfl, hnc, hcm, (by simp), fun hp => ⟨g, 0, rfl, fun j hj => ?_⟩⟩
  have := World.ownsRow.cellAt h' j (by omega)
  rw [Nat.zero_add, this, getD_mapT xs j hj]
theorem OwnsT.parts {B : Nat} {w : World} {v : Value} {xs : List Txt} (h : OwnsT B w v xs) : ∃ a cap, v = .slice a xs.length cap ∧ xs.length ≤ cap ∧ cap ≤ maxLen ∧ OwnsT B w (.slice a xs.length cap) xs ∧ (a = none → cap = 0) := by
 obtain ⟨a, cap, rfl, h1, h2, h0, hs⟩ := h.seq.parts
 exact ⟨a, cap, rfl, h1, h2, h, h0⟩
theorem OwnsT.lt {B : Nat} {w : World} {v : Value} {xs : List Txt} (h : OwnsT B w v xs) : ∀ k, v.ownBlock = some k → B ≤ k ∧ k < w.heap.size := World.ownsRow.lt h
theorem OwnsT.mono {B C : Nat} {w : World} {v : Value} {xs : List Txt} (h : OwnsT B w v xs) (hc : C ≤ B) : OwnsT C w v xs := by
 refine ⟨h.1, ?_⟩
 rcases h.2 with hn | ⟨g, cap, cur, hv, hb, hg⟩
 ·exact .inl hn
 ·exact .inr ⟨g, cap, cur, hv, by omega, hg⟩
theorem OwnsT.below {B N : Nat} {w w' : World} {v : Value} {xs : List Txt} (h : OwnsT B w v xs) (hb : Below N w w') (hN : w.heap.size ≤ N) : OwnsT B w' v xs := by
 refine ⟨h.1, ?_⟩
 rcases h.2 with hn | ⟨g, cap, cur, hv, hb', hg, hr⟩
 ·exact .inl hn
 ·have hlt : g < w.heap.size := (Array.getElem?_eq_some_iff.1 hg).1
  exact .inr ⟨g, cap, cur, hv, hb', (hb.block g (by omega)).trans hg, hr⟩
theorem SeqT.dims {w : World} {a : Option Addr} {n cap : Nat} {xs : List Txt} (h : SeqT w (.slice a n cap) xs) : xs.length = n ∧ n ≤ cap ∧ cap ≤ 9223372036854775807 := by
 obtain ⟨a', cap', hv, h1, h2, -, -⟩ := h
 simp only [Value.slice.injEq] at hv
 obtain ⟨rfl, rfl, rfl⟩ := hv
 exact ⟨rfl, h1, h2⟩
theorem OwnsT.cell {B : Nat} {w : World} {g n cap : Nat} {xs : List Txt} (h : OwnsT B w (.slice (some ⟨g, 0, none⟩) n cap) xs) (j : Nat) (hj : j < xs.length) : w.cell? ⟨g, j, none⟩ = some (tv (xs.getD j [])) := by
 have hn := h.seq.dims.1
 have h' : w.ownsRow B 9 1 (.slice (some ⟨g, 0, none⟩) n cap) n (xs.map tv) := by rw [← hn]; unfold OwnsT at h; rw [← hn] at h; exact h
 rw [World.ownsRow.cellAt h' j (by omega), getD_mapT xs j hj]
theorem OwnsT.at {B : Nat} {w : World} {v : Value} {xs : List Txt} (h : OwnsT B w v xs) (n : Nat) (hn : xs.length = n) : ∃ a cap, v = .slice a n cap ∧ (n : Int) ≤ cap ∧ (cap : Int) ≤ 9223372036854775807 ∧ OwnsT B w (.slice a n cap) xs := by
 subst hn
 obtain ⟨a, cap, rfl, h1, h2, h3, -⟩ := h.parts
 have hm : maxLen = 9223372036854775807 := rfl
 exact ⟨a, cap, rfl, by omega, by omega, h3⟩
theorem OwnsT.block {B : Nat} {w : World} {g n cap : Nat} {xs : List Txt} (h : OwnsT B w (.slice (some ⟨g, 0, none⟩) n cap) xs) : B ≤ g ∧ g < w.heap.size := h.lt g rfl

theorem index_run (s : Txt) (k : Nat) (hk : k < s.length) (w : World) : (Instr.index 9 (.string (bt s)) (.int .i64 (k : Int))).run Tryz.prog w = .ok (.int .u8 ((s.getD k 0).toNat : Int)) w := by
 rw [run_index_string w _ _ _ _ Tryz.underlying9]
 have hs := bt_size s
 rw [dif_pos (by omega)]
 congr 2
 show (((bt s).data[((k : Int)).toNat]'(by simp [bt]; omega)).toNat : Int) = _
 simp [bt, List.getD, List.getElem?_eq_getElem hk]
theorem toList_bt (s : Txt) : (bt s).toList = s := by
 rw [ByteArray.toList_eq]
 rfl
theorem text_eq (s t : Txt) : ((bt s).toList == (bt t).toList) = decide (s = t) := by rw [toList_bt, toList_bt]; by_cases h : s = t <;> simp [h]
end Go.Proofs.YtajfliemmfdnhaaGreat
namespace Go.Proofs.YtajfliemmfdnhaaGreat
open Go.RowKit Plain
set_option linter.unusedVariables false

def GivesB (w : World) (r : Bool) (e : Ending) (w' : World) : Prop := e = .returned (.bool r) ∧ Below w.heap.size w w'
def GivesI (w : World) (n : Int) (e : Ending) (w' : World) : Prop := e = .returned (.int .i64 n) ∧ Below w.heap.size w w'
theorem below_of_drawn {w w' : World} (h : ∃ n, w' = w.drewN n) : Below w.heap.size w w' := by
 obtain ⟨n, rfl⟩ := h
 exact below_drewN (Below.refl _ _) n
theorem below_of_same {w w' : World} (h : w = w') : Below w.heap.size w w' := by rw [h]; exact Below.refl _ _
end Go.Proofs.YtajfliemmfdnhaaGreat
