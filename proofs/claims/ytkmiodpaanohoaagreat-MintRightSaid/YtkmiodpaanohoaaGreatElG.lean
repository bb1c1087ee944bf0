/- What stands while one block of the caller's turns (a map that a function value writes) and the call's own rows grow. Of no package. -/
import Derived.Test.YtkmiodpaanohoaaGreatEl
namespace Go.Proofs.YtkmiodpaanohoaaGreat
open Go.RowKit Plain
set_option linter.unusedVariables false

theorem grown_trans {w W W' : World} {row row' : Option Nat} (h : w.grownBy W row) (g : W.grownBy W' row') (hr : ∀ j, row' = some j → row = some j ∨ w.heap.size ≤ j) : w.grownBy W' row :=
  ⟨g.os.trans h.os, g.tape.trans h.tape, g.output.trans h.output, Nat.le_trans h.size g.size, fun k hk hne => (g.block k (Nat.lt_of_lt_of_le hk h.size) (fun e => by
    rcases hr k e.symm with e2 | e2
    · exact hne e2.symm
    · omega)).trans (h.block k hk hne)⟩
theorem grown_below {w W W' : World} {row : Option Nat} (h : w.grownBy W row) (g : Below w.heap.size W W') : w.grownBy W' row :=
  ⟨g.os.trans h.os, g.tape.trans h.tape, g.output.trans h.output, Nat.le_trans h.size g.size, fun k hk hne => (g.block k hk).trans (h.block k hk hne)⟩
theorem grown_alloc {w W : World} {row : Option Nat} (h : w.grownBy W row) (o : Obj) : w.grownBy (W.alloc o) row := grown_below h ((Below.refl w.heap.size W).alloc h.size o)
theorem grown_drawn {w W : World} {row : Option Nat} (h : w.grownBy W row) (n : Nat) : w.grownBy (W.drewN n) row := grown_below h (below_drewN (Below.refl _ _) n)
theorem below_of_grown {w W : World} (h : w.grownBy W none) : Below w.heap.size w W := ⟨h.os, h.tape, h.output, h.size, fun k hk => h.block k hk (by simp)⟩
theorem grown_of_below {w W : World} {row : Option Nat} (h : Below w.heap.size w W) : w.grownBy W row := grown_below (World.grownBy.refl w row) h
/-- what turned is a block of the call's own -/
theorem below_of_own {B : Nat} {w W : World} {m : Nat} (h : w.grownBy W (some m)) (hB : B ≤ w.heap.size) (hm : B ≤ m) : Below B w W := ⟨h.os, h.tape, h.output, h.size, fun k hk => h.block k (by omega) (fun e => by cases e; omega)⟩
variable {α : Type} {L : El α}
theorem OwnE.kept {B : Nat} {w w' : World} {row : Option Nat} {v : Value} {xs : List α} (hf : Flat L) (h : OwnE L B w v xs) (hg : w.grownBy w' row) (hr : ∀ j, row = some j → j < B) : OwnE L B w' v xs := by
  obtain ⟨vals, ho, hrows⟩ := h
  refine ⟨vals, ⟨ho.1, ?_⟩, ⟨hrows.1, fun j x hj => hf (hrows.2 j x hj)⟩⟩
  rcases ho.2 with hn | ⟨g, cap, cur, hv, hb, hgc, hr'⟩
  · exact .inl hn
  · have hlt : g < w.heap.size := (Array.getElem?_eq_some_iff.1 hgc).1
    exact .inr ⟨g, cap, cur, hv, hb, (hg.block g hlt (fun e => by have := hr g e.symm; omega)).trans hgc, hr'⟩
/-- a slice of what was there, of another block than the one that turns -/
def Old (L : El α) (row : Option Nat) (B : Nat) (w : World) (v : Value) (xs : List α) : Prop := Sq L (fun b => b < B ∧ some b ≠ row) w v xs
theorem Old.kept {row : Option Nat} {w w' : World} {v : Value} {xs : List α} (h : Old L row w.heap.size w v xs) (hg : w.grownBy w' row) : Old L row w.heap.size w' v xs := Sq.agree h fun b hb => hg.block b hb.1 hb.2
theorem Old.seq {row : Option Nat} {B : Nat} {w : World} {v : Value} {xs : List α} (h : Old L row B w v xs) (hB : B ≤ w.heap.size) : SeqE L w v xs := h.mono fun b hb => Nat.lt_of_lt_of_le hb.1 hB
theorem SeqE.old {w : World} {v : Value} {xs : List α} (h : SeqE L w v xs) : Old L none w.heap.size w v xs := h.mono fun b hb => ⟨hb, by simp⟩
end Go.Proofs.YtkmiodpaanohoaaGreat
