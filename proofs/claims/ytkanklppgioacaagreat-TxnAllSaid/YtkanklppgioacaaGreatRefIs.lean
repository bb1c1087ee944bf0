/- What the document's own Is, Without, Under, Of, Keys, Size, Same of items leave. What the document's own Less of items leaves. What the document's own Put and Norm of items leave. (Written by gen-put.py.) -/
import Derived.Test.YtkanklppgioacaaGreatISets
import Derived.Test.YtkanklppgioacaaGreatRefZs
import Derived.Test.YtkanklppgioacaaGreatEqI
import Derived.Deep.QuietTactic
import Derived.Deep.Cut
namespace Go.Proofs.YtkanklppgioacaaGreat
open Go.RowKit Plain
set_option linter.unusedVariables false

/-! ### those of which f holds, one behind the other -/
def pickG {α : Type} (f : α → Bool) (xs : List α) (k : Nat) : List α := (xs.take k).filter f
theorem takeG {α : Type} [Inhabited α] {xs : List α} {k : Nat} (hk : k < xs.length) : xs.take (k + 1) = xs.take k ++ [xs.getD k default] := by
 rw [List.take_succ_eq_append_getElem hk]
 simp [List.getD, List.getElem?_eq_getElem hk]
theorem pickG_yes {α : Type} [Inhabited α] {f : α → Bool} {xs : List α} {k : Nat} (hk : k < xs.length) (h : f (xs.getD k default) = true) : pickG f xs k ++ [xs.getD k default] = pickG f xs (k + 1) := by
 unfold pickG
 rw [takeG hk, List.filter_append]
 simp only [List.filter_cons, h, if_true, List.filter_nil]
theorem pickG_no {α : Type} [Inhabited α] {f : α → Bool} {xs : List α} {k : Nat} (hk : k < xs.length) (h : f (xs.getD k default) = false) : pickG f xs k = pickG f xs (k + 1) := by
 unfold pickG
 rw [takeG hk, List.filter_append, List.filter_cons, if_neg (by rw [h]; decide), List.filter_nil, List.append_nil]
theorem pickG_all {α : Type} (f : α → Bool) (xs : List α) : pickG f xs xs.length = xs.filter f := by unfold pickG; rw [List.take_length]
theorem pickG_len {α : Type} (f : α → Bool) (xs : List α) (k : Nat) : (pickG f xs k).length ≤ k := by
 unfold pickG
 have := List.length_filter_le f (xs.take k)
 have := List.length_take_le k xs
 omega

theorem rcoversB {v : Value} {zs : List Txt} {w : World} (hv : SeqT w v zs) (hz : FitT zs) (hm : zs.length ≤ 1000000) (s : Txt) (hs : s.length ≤ 1000000) :
  Calls Tryz.prog 62 #[v, .string (bt s)] w fun e w' => e = .returned (.bool (covers zs s)) ∧ Below w.heap.size w w' :=
 (rcovers_any hv hz hm s hs).mono fun _ _ ⟨h, q, hq⟩ => ⟨h, by rw [hq]; exact below_drewN (Below.refl _ _) q⟩
end Go.Proofs.YtkanklppgioacaaGreat
namespace Go.Proofs.YtkanklppgioacaaGreat
open Go.RowKit Plain
set_option linter.unusedVariables false

/-- the part of Less behind the texts: the four pairs of numbers, Elem, N -/
def tailP (a b : PItem) : Prop := a.kind < b.kind ∨ (a.kind = b.kind ∧ (a.dot.node < b.dot.node ∨ (a.dot.node = b.dot.node ∧ (a.dot.seq < b.dot.seq ∨ (a.dot.seq = b.dot.seq ∧ (a.dot.pos < b.dot.pos ∨ (a.dot.pos = b.dot.pos ∧ (a.elem < b.elem ∨ (a.elem = b.elem ∧ a.n < b.n)))))))))
instance (a b : PItem) : Decidable (tailP a b) := by unfold tailP; infer_instance
/-! ### the four pairs of numbers -/
end Go.Proofs.YtkanklppgioacaaGreat
namespace Go.Proofs.YtkanklppgioacaaGreat
open Go.RowKit Plain
set_option linter.unusedVariables false

end Go.Proofs.YtkanklppgioacaaGreat
