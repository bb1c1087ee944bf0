/- What the document's own texts, Field, Fields and Same of fields leave. (Written by gen-ref.py.) What the document's own Same of fields leaves. What the document's own Field of fields leaves. (Written by gen-reff.py.) -/
import Derived.Test.YtkmiodpaanohoaaGreatVals
import Derived.Test.YtkmiodpaanohoaaGreatRefA
import Derived.Test.YtkmiodpaanohoaaGreatRefZs
import Derived.Test.YtkmiodpaanohoaaGreatRefSame
import Derived.Test.YtkmiodpaanohoaaGreatNmCs
import Derived.Deep.Cut
namespace Go.Proofs.YtkmiodpaanohoaaGreat
open Go.RowKit Plain
set_option linter.unusedVariables false

/-- of the first k items those that pass, and what is taken of each -/
def upto {α : Type} (p : PItem → Bool) (f : PItem → α) (l : List PItem) (k : Nat) : List α := ((l.take k).filter p).map f
theorem upto_zero {α : Type} (p : PItem → Bool) (f : PItem → α) (l : List PItem) : upto p f l 0 = [] := rfl
theorem upto_all {α : Type} (p : PItem → Bool) (f : PItem → α) (l : List PItem) : upto p f l l.length = (l.filter p).map f := by unfold upto; rw [List.take_length]
theorem upto_len {α : Type} (p : PItem → Bool) (f : PItem → α) (l : List PItem) (k : Nat) : (upto p f l k).length ≤ l.length := by
  unfold upto
  rw [List.length_map]
  have h1 := List.length_filter_le p (l.take k)
  have h2 : (l.take k).length ≤ l.length := by rw [List.length_take]; omega
  omega
theorem upto_yes {α : Type} {l : List PItem} {k : Nat} (hk : k < l.length) (p : PItem → Bool) (f : PItem → α) (h : p (l.getD k default) = true) : upto p f l (k + 1) = upto p f l k ++ [f (l.getD k default)] := by
  have e : l.take (k + 1) = l.take k ++ [l.getD k default] := by
    rw [List.take_succ_eq_append_getElem hk]
    simp [List.getD, List.getElem?_eq_getElem hk]
  unfold upto
  rw [e, List.filter_append, List.filter_cons, if_pos h, List.filter_nil, List.map_append]
  rfl
theorem upto_no {α : Type} {l : List PItem} {k : Nat} (hk : k < l.length) (p : PItem → Bool) (f : PItem → α) (h : p (l.getD k default) = false) : upto p f l (k + 1) = upto p f l k := by
  have e : l.take (k + 1) = l.take k ++ [l.getD k default] := by
    rw [List.take_succ_eq_append_getElem hk]
    simp [List.getD, List.getElem?_eq_getElem hk]
  unfold upto
  rw [e, List.filter_append, List.filter_cons, if_neg (by rw [h]; decide), List.filter_nil, List.append_nil]
theorem kind_no1 {x : PItem} {key field : Txt} {kind : Int} (h : ¬ x.key = key) : ofKind key field kind x = false := by unfold ofKind inField; rw [decide_eq_false h]; rfl
theorem kind_no2 {x : PItem} {key field : Txt} {kind : Int} (h : ¬ x.field = field) : ofKind key field kind x = false := by unfold ofKind inField; rw [decide_eq_false h, Bool.and_false]; rfl
theorem kind_no3 {x : PItem} {key field : Txt} {kind : Int} (h : ¬ x.kind = kind) : ofKind key field kind x = false := by unfold ofKind; rw [decide_eq_false h, Bool.and_false]
theorem kind_yes {x : PItem} {key field : Txt} {kind : Int} (h1 : x.key = key) (h2 : x.field = field) (h3 : x.kind = kind) : ofKind key field kind x = true := by unfold ofKind inField; rw [decide_eq_true h1, decide_eq_true h2, decide_eq_true h3]; rfl

end Go.Proofs.YtkmiodpaanohoaaGreat
namespace Go.Proofs.YtkmiodpaanohoaaGreat
open Go.RowKit Plain
set_option linter.unusedVariables false

theorem pval_dec (p q : PVal) : decide (p = q) = (decide (p.elems = q.elems) && (decide (p.regs = q.regs) && (decide (p.total = q.total) && decide (p.over = q.over)))) := by
  rw [Bool.eq_iff_iff]
  simp only [Bool.and_eq_true, decide_eq_true_iff]
  exact ⟨fun h => by subst h; exact ⟨rfl, rfl, rfl, rfl⟩, fun ⟨h1, h2, h3, h4⟩ => pval_ext h1 h2 h3 h4⟩
theorem vpair_cells (w : World) (X Y : Array Value) (t u : TypeId) (i : Nat) :
    ((w.alloc (.cells X t)).alloc (.cells Y u)).cell? ⟨w.heap.size, i, none⟩ = X[i]? ∧ ((w.alloc (.cells X t)).alloc (.cells Y u)).cell? ⟨w.heap.size + 1, i, none⟩ = Y[i]? := by
  have s1 : (w.alloc (.cells X t)).heap.size = w.heap.size + 1 := by simp
  have h1 := World.cell?_alloc_new w X t i
  have h2 := World.cell?_alloc_new (w.alloc (.cells X t)) Y u i
  rw [s1] at h2
  have b2 := (Below.refl (w.heap.size + 1) (w.alloc (.cells X t))).alloc (by rw [s1]; exact Nat.le_refl _) (.cells Y u)
  exact ⟨(b2.cell (p := ⟨w.heap.size, i, none⟩) (show w.heap.size < w.heap.size + 1 by omega)).trans h1, h2⟩
end Go.Proofs.YtkmiodpaanohoaaGreat
namespace Go.Proofs.YtkmiodpaanohoaaGreat
open Go.RowKit Plain
set_option linter.unusedVariables false

/-- texts read the same when a cell that holds none is stored into -/
theorem SeqT.setOther {w : World} {v u x : Value} {xs : List Txt} {a : Addr} (h : SeqT w v xs) (hc : w.cell? a = some u) (hu : ∀ s, u ≠ .string s) : SeqT (w.setCell a x) v xs := by
  obtain ⟨p, cap, rfl, h1, h2, h0, h3⟩ := h
  refine ⟨p, cap, rfl, h1, h2, h0, fun hp => ?_⟩
  obtain ⟨b, off, rfl, g⟩ := h3 hp
  refine ⟨b, off, rfl, fun j hj => ?_⟩
  rw [World.cell?_setCell_other _ _ _ _ (fun e => by
    have := g j hj
    rw [← e] at this
    rw [hc] at this
    exact hu _ (Option.some.inj this))]
  exact g j hj
/-- four cells that were stored into, one behind the other -/
def set4 (w : World) (g : Nat) (v0 v1 v2 v3 : Value) : World := (((w.setCell ⟨g, 0, none⟩ v0).setCell ⟨g, 1, none⟩ v1).setCell ⟨g, 2, none⟩ v2).setCell ⟨g, 3, none⟩ v3
theorem set4_cells {w : World} {g : Nat} {z0 z1 z2 z3 v0 v1 v2 v3 : Value} (h0 : w.cell? ⟨g, 0, none⟩ = some z0) (h1 : w.cell? ⟨g, 1, none⟩ = some z1) (h2 : w.cell? ⟨g, 2, none⟩ = some z2) (h3 : w.cell? ⟨g, 3, none⟩ = some z3) :
    (set4 w g v0 v1 v2 v3).cell? ⟨g, 0, none⟩ = some v0 ∧ (set4 w g v0 v1 v2 v3).cell? ⟨g, 1, none⟩ = some v1 ∧ (set4 w g v0 v1 v2 v3).cell? ⟨g, 2, none⟩ = some v2 ∧ (set4 w g v0 v1 v2 v3).cell? ⟨g, 3, none⟩ = some v3 := by
  have ne : ∀ (W : World) (i j : Nat) (u : Value), i ≠ j → (W.setCell ⟨g, j, none⟩ u).cell? ⟨g, i, none⟩ = W.cell? ⟨g, i, none⟩ := fun W i j u h => World.cell?_setCell_other _ _ _ _ (by simp <;> exact h)
  unfold set4
  refine ⟨?_, ?_, ?_, ?_⟩
  · rw [ne _ 0 3 _ (by decide), ne _ 0 2 _ (by decide), ne _ 0 1 _ (by decide)]
    exact World.cell?_setCell_same _ _ _ h0
  · rw [ne _ 1 3 _ (by decide), ne _ 1 2 _ (by decide)]
    exact World.cell?_setCell_same _ _ _ ((ne _ 1 0 _ (by decide)).trans h1)
  · rw [ne _ 2 3 _ (by decide)]
    exact World.cell?_setCell_same _ _ _ (((ne _ 2 1 _ (by decide)).trans (ne _ 2 0 _ (by decide))).trans h2)
  · exact World.cell?_setCell_same _ _ _ ((((ne _ 3 2 _ (by decide)).trans (ne _ 3 1 _ (by decide))).trans (ne _ 3 0 _ (by decide))).trans h3)
theorem set4_seq {w : World} {g : Nat} {z0 z1 z2 z3 v0 v1 v2 v3 v : Value} {xs : List Txt} (h : SeqT w v xs) (h0 : w.cell? ⟨g, 0, none⟩ = some z0) (h1 : w.cell? ⟨g, 1, none⟩ = some z1) (h2 : w.cell? ⟨g, 2, none⟩ = some z2) (h3 : w.cell? ⟨g, 3, none⟩ = some z3)
    (n0 : ∀ s, z0 ≠ .string s) (n1 : ∀ s, z1 ≠ .string s) (n2 : ∀ s, z2 ≠ .string s) (n3 : ∀ s, z3 ≠ .string s) : SeqT (set4 w g v0 v1 v2 v3) v xs := by
  have ne : ∀ (W : World) (i j : Nat) (u : Value), i ≠ j → (W.setCell ⟨g, j, none⟩ u).cell? ⟨g, i, none⟩ = W.cell? ⟨g, i, none⟩ := fun W i j u h => World.cell?_setCell_other _ _ _ _ (by simp <;> exact h)
  unfold set4
  refine SeqT.setOther (u := z3) (SeqT.setOther (u := z2) (SeqT.setOther (u := z1) (h.setOther h0 n0) ?_ n1) ?_ n2) ?_ n3
  · exact (ne _ 1 0 _ (by decide)).trans h1
  · exact ((ne _ 2 1 _ (by decide)).trans (ne _ 2 0 _ (by decide))).trans h2
  · exact (((ne _ 3 2 _ (by decide)).trans (ne _ 3 1 _ (by decide))).trans (ne _ 3 0 _ (by decide))).trans h3
theorem set4_below {B : Nat} {w u : World} {g : Nat} {v0 v1 v2 v3 : Value} (h : Below B w u) (hg : B ≤ g) : Below B w (set4 u g v0 v1 v2 v3) := (((h.setCell hg _).setCell hg _).setCell hg _).setCell hg _
theorem upto_all_of {α : Type} {p : PItem → Bool} {f : PItem → α} {l : List PItem} {n : Nat} (h : l.length = n) : upto p f l n = (l.filter p).map f := by rw [← h, upto_all]

end Go.Proofs.YtkmiodpaanohoaaGreat
