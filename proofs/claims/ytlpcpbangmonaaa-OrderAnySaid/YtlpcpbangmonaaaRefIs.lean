/- What the document's own Is, Without, Under, Of, Keys, Size, Same of items leave. What the document's own Less of items leaves. What the document's own Put and Norm of items leave. (Written by gen-put.py.) -/
import Derived.Test.YtlpcpbangmonaaaISets
import Derived.Test.YtlpcpbangmonaaaRefZs
import Derived.Test.YtlpcpbangmonaaaEqI
import Derived.Deep.QuietTactic
import Derived.Deep.Cut
namespace Go.Proofs.Ytlpcpbangmonaaa
open Go.RowKit Plain
set_option linter.unusedVariables false

theorem hasDot_yes {xs : List PDot} {d : PDot} {k : Nat} (hk : k < xs.length) (h : xs.getD k default = d) : hasDot xs d = true := hasDot_iff.2 (by rw [← h]; exact mem_def hk)
theorem hasDot_no {xs : List PDot} {d : PDot} (h : ∀ j, j < xs.length → ¬ xs.getD j default = d) : hasDot xs d = false := by
  cases e : hasDot xs d with
  | false => rfl
  | true =>
    obtain ⟨j, hj, rfl⟩ := List.getElem_of_mem (hasDot_iff.1 e)
    exact absurd (by simp [List.getD, List.getElem?_eq_getElem hj]) (h j hj)
theorem dv_eq (d : PDot) : dv d = .agg #[.int .i64 d.node, .int .i64 d.seq, .int .i64 d.pos] := rfl

/-! ### those of which f holds, one behind the other -/
def pickG {α : Type} (f : α → Bool) (xs : List α) (k : Nat) : List α := (xs.take k).filter f
theorem takeG {α : Type} [Inhabited α] {xs : List α} {k : Nat} (hk : k < xs.length) : xs.take (k + 1) = xs.take k ++ [xs.getD k default] := by
  rw [List.take_succ_eq_append_getElem hk]
  simp [List.getD, List.getElem?_eq_getElem hk]
theorem pickG_yes {α : Type} [Inhabited α] {f : α → Bool} {xs : List α} {k : Nat} (hk : k < xs.length) (h : f (xs.getD k default) = true) : pickG f xs k ++ [xs.getD k default] = pickG f xs (k + 1) := by
  unfold pickG
  rw [takeG hk, List.filter_append]
  simp only [List.filter_cons, h, if_true, List.filter_nil]
theorem pickG_no {α : Type} [Inhabited α] {f : α → Bool} {xs : List α} {k : Nat} (hk : k < xs.length) (h : f (xs.getD k default) = false) : pickG f xs k = pickG f xs (k + 1) := by
  unfold pickG
  rw [takeG hk, List.filter_append, List.filter_cons, if_neg (by rw [h]; decide), List.filter_nil, List.append_nil]
theorem pickG_all {α : Type} (f : α → Bool) (xs : List α) : pickG f xs xs.length = xs.filter f := by unfold pickG; rw [List.take_length]
theorem pickG_len {α : Type} (f : α → Bool) (xs : List α) (k : Nat) : (pickG f xs k).length ≤ k := by
  unfold pickG
  have := List.length_filter_le f (xs.take k)
  have := List.length_take_le k xs
  omega

/-- the size of the first k -/
def sizeTo (xs : List PItem) (k : Nat) : Nat := isize (xs.take k)
theorem sizeTo_next {xs : List PItem} {k : Nat} (hk : k < xs.length) : sizeTo xs (k + 1) = sizeTo xs k + isize1 (xs.getD k default) := by
  unfold sizeTo
  rw [takeG hk, isize_append]
  rfl
theorem isize_count (xs : List PItem) (k : Nat) (hk : k ≤ xs.length) : 24 * k ≤ sizeTo xs k := by
  induction k with
  | zero => omega
  | succ k ih =>
    rw [sizeTo_next (by omega)]
    have := ih (by omega)
    unfold isize1
    omega

end Go.Proofs.Ytlpcpbangmonaaa
namespace Go.Proofs.Ytlpcpbangmonaaa
open Go.RowKit Plain
set_option linter.unusedVariables false

theorem itv_eq2 (x : PItem) : itv x = .agg #[.string (bt x.key), .string (bt x.field), .int .i64 x.kind, .string (bt x.elem), .int .i64 x.n, .int .i64 x.dot.node, .int .i64 x.dot.seq, .int .i64 x.dot.pos] := rfl
theorem int_eq {a b : Int} (h : a = b) : (a == b) = true := by subst h; simp
theorem int_ne {a b : Int} (h : ¬ a = b) : (a == b) = false := by simp [h]
/-- the part of Less behind the texts: the four pairs of numbers, Elem, N -/
def tailP (a b : PItem) : Prop := a.kind < b.kind ∨ (a.kind = b.kind ∧ (a.dot.node < b.dot.node ∨ (a.dot.node = b.dot.node ∧ (a.dot.seq < b.dot.seq ∨ (a.dot.seq = b.dot.seq ∧ (a.dot.pos < b.dot.pos ∨ (a.dot.pos = b.dot.pos ∧ (a.elem < b.elem ∨ (a.elem = b.elem ∧ a.n < b.n)))))))))
instance (a b : PItem) : Decidable (tailP a b) := by unfold tailP; infer_instance
theorem less_key {a b : PItem} (h : ¬ a.key = b.key) : lessB a b = decide (a.key < b.key) := by
  unfold lessB
  rw [decide_eq_decide]
  unfold iless
  constructor
  · rintro (g | ⟨e, -⟩)
    · exact g
    · exact absurd e h
  · exact .inl
theorem less_field {a b : PItem} (h : a.key = b.key) (g : ¬ a.field = b.field) : lessB a b = decide (a.field < b.field) := by
  unfold lessB
  rw [decide_eq_decide]
  unfold iless
  rw [h]
  constructor
  · rintro (k | ⟨-, k | ⟨e, -⟩⟩)
    · exact absurd k (lt_irrefl _)
    · exact k
    · exact absurd e g
  · exact fun k => .inr ⟨rfl, .inl k⟩
theorem less_tail {a b : PItem} (h : a.key = b.key) (g : a.field = b.field) : lessB a b = decide (tailP a b) := by
  unfold lessB
  rw [decide_eq_decide]
  unfold iless tailP
  rw [h, g]
  constructor
  · rintro (k | ⟨-, k | ⟨-, k⟩⟩)
    · exact absurd k (lt_irrefl _)
    · exact absurd k (lt_irrefl _)
    · exact k
  · exact fun k => .inr ⟨rfl, .inr ⟨rfl, k⟩⟩
/-! ### the four pairs of numbers -/
def num4 (x : PItem) : Nat → Int
  | 0 => x.kind
  | 1 => x.dot.node
  | 2 => x.dot.seq
  | _ => x.dot.pos
theorem tail_num {x y : PItem} {k : Nat} (hk : k < 4) (h : ∀ j, j < k → num4 x j = num4 y j) (g : ¬ num4 x k = num4 y k) : decide (tailP x y) = decide (num4 x k < num4 y k) := by
  rw [decide_eq_decide]
  unfold tailP
  match k, hk with
  | 0, _ =>
    have g0 : ¬ x.kind = y.kind := g
    show _ ↔ x.kind < y.kind
    constructor
    · rintro (h | ⟨e, -⟩)
      · exact h
      · exact absurd e g0
    · exact .inl
  | 1, _ =>
    have e0 : x.kind = y.kind := h 0 (by omega)
    have g0 : ¬ x.dot.node = y.dot.node := g
    show _ ↔ x.dot.node < y.dot.node
    rw [e0]
    constructor
    · rintro (h | ⟨-, h | ⟨e, -⟩⟩)
      · omega
      · exact h
      · exact absurd e g0
    · exact fun h => .inr ⟨rfl, .inl h⟩
  | 2, _ =>
    have e0 : x.kind = y.kind := h 0 (by omega)
    have e1 : x.dot.node = y.dot.node := h 1 (by omega)
    have g0 : ¬ x.dot.seq = y.dot.seq := g
    show _ ↔ x.dot.seq < y.dot.seq
    rw [e0, e1]
    constructor
    · rintro (h | ⟨-, h | ⟨-, h | ⟨e, -⟩⟩⟩)
      · omega
      · omega
      · exact h
      · exact absurd e g0
    · exact fun h => .inr ⟨rfl, .inr ⟨rfl, .inl h⟩⟩
  | 3, _ =>
    have e0 : x.kind = y.kind := h 0 (by omega)
    have e1 : x.dot.node = y.dot.node := h 1 (by omega)
    have e2 : x.dot.seq = y.dot.seq := h 2 (by omega)
    have g0 : ¬ x.dot.pos = y.dot.pos := g
    show _ ↔ x.dot.pos < y.dot.pos
    rw [e0, e1, e2]
    constructor
    · rintro (h | ⟨-, h | ⟨-, h | ⟨-, h | ⟨e, -⟩⟩⟩⟩)
      · omega
      · omega
      · omega
      · exact h
      · exact absurd e g0
    · exact fun h => .inr ⟨rfl, .inr ⟨rfl, .inr ⟨rfl, .inl h⟩⟩⟩
theorem tail_end {x y : PItem} (h : ∀ j, j < 4 → num4 x j = num4 y j) : tailP x y ↔ x.elem < y.elem ∨ (x.elem = y.elem ∧ x.n < y.n) := by
  have e0 : x.kind = y.kind := h 0 (by omega)
  have e1 : x.dot.node = y.dot.node := h 1 (by omega)
  have e2 : x.dot.seq = y.dot.seq := h 2 (by omega)
  have e3 : x.dot.pos = y.dot.pos := h 3 (by omega)
  unfold tailP
  rw [e0, e1, e2, e3]
  constructor
  · rintro (h | ⟨-, h | ⟨-, h | ⟨-, h | ⟨-, h⟩⟩⟩⟩)
    · omega
    · omega
    · omega
    · omega
    · exact h
  · exact fun h => .inr ⟨rfl, .inr ⟨rfl, .inr ⟨rfl, .inr ⟨rfl, h⟩⟩⟩⟩
theorem tail_elem {x y : PItem} (h : ∀ j, j < 4 → num4 x j = num4 y j) (g : ¬ x.elem = y.elem) : decide (tailP x y) = decide (x.elem < y.elem) := by
  rw [decide_eq_decide, tail_end h]
  constructor
  · rintro (h | ⟨e, -⟩)
    · exact h
    · exact absurd e g
  · exact .inl
theorem tail_n {x y : PItem} (h : ∀ j, j < 4 → num4 x j = num4 y j) (g : x.elem = y.elem) : decide (tailP x y) = decide (x.n < y.n) := by
  rw [decide_eq_decide, tail_end h, g]
  constructor
  · rintro (h | ⟨-, h⟩)
    · exact absurd h (lt_irrefl _)
    · exact h
  · exact fun h => .inr ⟨rfl, h⟩
/-- the block of the four pairs -/
theorem pair_cells (W : World) (x y : PItem) (t : TypeId) : ∀ k, k < 4 → (W.alloc (.cells #[.int .i64 x.kind, .int .i64 y.kind, .int .i64 x.dot.node, .int .i64 y.dot.node, .int .i64 x.dot.seq, .int .i64 y.dot.seq, .int .i64 x.dot.pos, .int .i64 y.dot.pos] t)).cell? ⟨W.heap.size, k * 2, none⟩ = some (.int .i64 (num4 x k)) ∧
    (W.alloc (.cells #[.int .i64 x.kind, .int .i64 y.kind, .int .i64 x.dot.node, .int .i64 y.dot.node, .int .i64 x.dot.seq, .int .i64 y.dot.seq, .int .i64 x.dot.pos, .int .i64 y.dot.pos] t)).cell? ⟨W.heap.size, k * 2 + 1, none⟩ = some (.int .i64 (num4 y k))
  | 0, _ => ⟨by simp [num4], by simp [num4]⟩
  | 1, _ => ⟨by simp [num4], by simp [num4]⟩
  | 2, _ => ⟨by simp [num4], by simp [num4]⟩
  | 3, _ => ⟨by simp [num4], by simp [num4]⟩

end Go.Proofs.Ytlpcpbangmonaaa
namespace Go.Proofs.Ytlpcpbangmonaaa
open Go.RowKit Plain
set_option linter.unusedVariables false

theorem put_at {xs : List PItem} {x : PItem} {k : Nat} (hr : Ris iless xs) (hx : x ∉ xs) (h1 : ∀ j, j < k → lessB (xs.getD j default) x = true) (h2 : k < xs.length → lessB (xs.getD k default) x = false) (hk : k ≤ xs.length) :
    insR iless x xs = xs.take k ++ x :: xs.drop k := by
  have key : insR iless x (xs.take k ++ xs.drop k) = xs.take k ++ x :: xs.drop k := by
    refine insR_at sto_item (by rw [List.take_append_drop]; exact hr) (fun t ht => ?_) (fun t ht => ?_)
    · obtain ⟨j, hj, rfl⟩ := List.getElem_of_mem ht
      rw [List.length_take] at hj
      have := of_decide_eq_true (h1 j (by omega))
      rw [List.getElem_take]
      rwa [show xs.getD j default = xs[j] by simp [List.getD, List.getElem?_eq_getElem (show j < xs.length by omega)]] at this
    · obtain ⟨j, hj, rfl⟩ := List.getElem_of_mem ht
      rw [List.length_drop] at hj
      rw [List.getElem_drop]
      have hk' : k < xs.length := by omega
      have h3 := of_decide_eq_false (h2 hk')
      rw [show xs.getD k default = xs[k] by simp [List.getD, List.getElem?_eq_getElem hk']] at h3
      have h4 : iless x xs[k] := sto_item.total h3 (fun e => hx (by rw [← e]; exact List.getElem_mem hk'))
      by_cases e : j = 0
      · subst e; simpa using h4
      · exact sto_item.trans h4 (List.pairwise_iff_getElem.1 hr k (k + j) hk' (by omega) (by omega))
  rwa [List.take_append_drop] at key

end Go.Proofs.Ytlpcpbangmonaaa
