/- What the document's own Less of items leaves. -/
import Derived.Test.YthcpglbeiibniaaRefA
import Derived.Deep.Cut
namespace Go.Proofs.Ythcpglbeiibniaa
open Go.RowKit Plain
set_option linter.unusedVariables false

theorem itv_eq2 (x : PItem) : itv x = .agg #[.string (bt x.key), .string (bt x.field), .int .i64 x.kind, .string (bt x.elem), .int .i64 x.n, .int .i64 x.dot.node, .int .i64 x.dot.seq, .int .i64 x.dot.pos] := rfl
theorem int_eq {a b : Int} (h : a = b) : (a == b) = true := by subst h; simp
theorem int_ne {a b : Int} (h : ¬ a = b) : (a == b) = false := by simp [h]
/-- the part of Less behind the texts: the four pairs of numbers, Elem, N -/
def tailP (a b : PItem) : Prop := a.kind < b.kind ∨ (a.kind = b.kind ∧ (a.dot.node < b.dot.node ∨ (a.dot.node = b.dot.node ∧ (a.dot.seq < b.dot.seq ∨ (a.dot.seq = b.dot.seq ∧ (a.dot.pos < b.dot.pos ∨ (a.dot.pos = b.dot.pos ∧ (a.elem < b.elem ∨ (a.elem = b.elem ∧ a.n < b.n)))))))))
instance (a b : PItem) : Decidable (tailP a b) := by unfold tailP; infer_instance
theorem less_key {a b : PItem} (h : ¬ a.key = b.key) : lessB a b = decide (a.key < b.key) := by
  unfold lessB
  rw [decide_eq_decide]
  unfold iless
  constructor
  · rintro (g | ⟨e, -⟩)
    · exact g
    · exact absurd e h
  · exact .inl
theorem less_field {a b : PItem} (h : a.key = b.key) (g : ¬ a.field = b.field) : lessB a b = decide (a.field < b.field) := by
  unfold lessB
  rw [decide_eq_decide]
  unfold iless
  rw [h]
  constructor
  · rintro (k | ⟨-, k | ⟨e, -⟩⟩)
    · exact absurd k (lt_irrefl _)
    · exact k
    · exact absurd e g
  · exact fun k => .inr ⟨rfl, .inl k⟩
theorem less_tail {a b : PItem} (h : a.key = b.key) (g : a.field = b.field) : lessB a b = decide (tailP a b) := by
  unfold lessB
  rw [decide_eq_decide]
  unfold iless tailP
  rw [h, g]
  constructor
  · rintro (k | ⟨-, k | ⟨-, k⟩⟩)
    · exact absurd k (lt_irrefl _)
    · exact absurd k (lt_irrefl _)
    · exact k
  · exact fun k => .inr ⟨rfl, .inr ⟨rfl, k⟩⟩
/-! ### the four pairs of numbers -/
def num4 (x : PItem) : Nat → Int
  | 0 => x.kind
  | 1 => x.dot.node
  | 2 => x.dot.seq
  | _ => x.dot.pos
theorem tail_num {x y : PItem} {k : Nat} (hk : k < 4) (h : ∀ j, j < k → num4 x j = num4 y j) (g : ¬ num4 x k = num4 y k) : decide (tailP x y) = decide (num4 x k < num4 y k) := by
  rw [decide_eq_decide]
  unfold tailP
  match k, hk with
  | 0, _ =>
    have g0 : ¬ x.kind = y.kind := g
    show _ ↔ x.kind < y.kind
    constructor
    · rintro (h | ⟨e, -⟩)
      · exact h
      · exact absurd e g0
    · exact .inl
  | 1, _ =>
    have e0 : x.kind = y.kind := h 0 (by omega)
    have g0 : ¬ x.dot.node = y.dot.node := g
    show _ ↔ x.dot.node < y.dot.node
    rw [e0]
    constructor
    · rintro (h | ⟨-, h | ⟨e, -⟩⟩)
      · omega
      · exact h
      · exact absurd e g0
    · exact fun h => .inr ⟨rfl, .inl h⟩
  | 2, _ =>
    have e0 : x.kind = y.kind := h 0 (by omega)
    have e1 : x.dot.node = y.dot.node := h 1 (by omega)
    have g0 : ¬ x.dot.seq = y.dot.seq := g
    show _ ↔ x.dot.seq < y.dot.seq
    rw [e0, e1]
    constructor
    · rintro (h | ⟨-, h | ⟨-, h | ⟨e, -⟩⟩⟩)
      · omega
      · omega
      · exact h
      · exact absurd e g0
    · exact fun h => .inr ⟨rfl, .inr ⟨rfl, .inl h⟩⟩
  | 3, _ =>
    have e0 : x.kind = y.kind := h 0 (by omega)
    have e1 : x.dot.node = y.dot.node := h 1 (by omega)
    have e2 : x.dot.seq = y.dot.seq := h 2 (by omega)
    have g0 : ¬ x.dot.pos = y.dot.pos := g
    show _ ↔ x.dot.pos < y.dot.pos
    rw [e0, e1, e2]
    constructor
    · rintro (h | ⟨-, h | ⟨-, h | ⟨-, h | ⟨e, -⟩⟩⟩⟩)
      · omega
      · omega
      · omega
      · exact h
      · exact absurd e g0
    · exact fun h => .inr ⟨rfl, .inr ⟨rfl, .inr ⟨rfl, .inl h⟩⟩⟩
theorem tail_end {x y : PItem} (h : ∀ j, j < 4 → num4 x j = num4 y j) : tailP x y ↔ x.elem < y.elem ∨ (x.elem = y.elem ∧ x.n < y.n) := by
  have e0 : x.kind = y.kind := h 0 (by omega)
  have e1 : x.dot.node = y.dot.node := h 1 (by omega)
  have e2 : x.dot.seq = y.dot.seq := h 2 (by omega)
  have e3 : x.dot.pos = y.dot.pos := h 3 (by omega)
  unfold tailP
  rw [e0, e1, e2, e3]
  constructor
  · rintro (h | ⟨-, h | ⟨-, h | ⟨-, h | ⟨-, h⟩⟩⟩⟩)
    · omega
    · omega
    · omega
    · omega
    · exact h
  · exact fun h => .inr ⟨rfl, .inr ⟨rfl, .inr ⟨rfl, .inr ⟨rfl, h⟩⟩⟩⟩
theorem tail_elem {x y : PItem} (h : ∀ j, j < 4 → num4 x j = num4 y j) (g : ¬ x.elem = y.elem) : decide (tailP x y) = decide (x.elem < y.elem) := by
  rw [decide_eq_decide, tail_end h]
  constructor
  · rintro (h | ⟨e, -⟩)
    · exact h
    · exact absurd e g
  · exact .inl
theorem tail_n {x y : PItem} (h : ∀ j, j < 4 → num4 x j = num4 y j) (g : x.elem = y.elem) : decide (tailP x y) = decide (x.n < y.n) := by
  rw [decide_eq_decide, tail_end h, g]
  constructor
  · rintro (h | ⟨-, h⟩)
    · exact absurd h (lt_irrefl _)
    · exact h
  · exact fun h => .inr ⟨rfl, h⟩
/-- the block of the four pairs -/
theorem pair_cells (W : World) (x y : PItem) (t : TypeId) : ∀ k, k < 4 → (W.alloc (.cells #[.int .i64 x.kind, .int .i64 y.kind, .int .i64 x.dot.node, .int .i64 y.dot.node, .int .i64 x.dot.seq, .int .i64 y.dot.seq, .int .i64 x.dot.pos, .int .i64 y.dot.pos] t)).cell? ⟨W.heap.size, k * 2, none⟩ = some (.int .i64 (num4 x k)) ∧
    (W.alloc (.cells #[.int .i64 x.kind, .int .i64 y.kind, .int .i64 x.dot.node, .int .i64 y.dot.node, .int .i64 x.dot.seq, .int .i64 y.dot.seq, .int .i64 x.dot.pos, .int .i64 y.dot.pos] t)).cell? ⟨W.heap.size, k * 2 + 1, none⟩ = some (.int .i64 (num4 y k))
  | 0, _ => ⟨by simp [num4], by simp [num4]⟩
  | 1, _ => ⟨by simp [num4], by simp [num4]⟩
  | 2, _ => ⟨by simp [num4], by simp [num4]⟩
  | 3, _ => ⟨by simp [num4], by simp [num4]⟩

end Go.Proofs.Ythcpglbeiibniaa
