/- What the document's own Formed of an item leaves: a walk for each way through its tests. (Written by gen-formed.py.) -/
import Derived.Test.YtkmiodpaanohoaaGreatRefA
import Derived.Test.YtkmiodpaanohoaaGreatRefZs
namespace Go.Proofs.YtkmiodpaanohoaaGreat
open Go.RowKit Plain
set_option linter.unusedVariables false

theorem itv_eq (x : PItem) : itv x = .agg #[.string (bt x.key), .string (bt x.field), .int .i64 x.kind, .string (bt x.elem), .int .i64 x.n, .int .i64 x.dot.node, .int .i64 x.dot.seq, .int .i64 x.dot.pos] := rfl
theorem formed_dot {x : PItem} (h : dotB x.dot = false) : formedB x = false := by unfold formedB; rw [h, Bool.false_and]
theorem formed_key {x : PItem} (h : keyB x.key = false) : formedB x = false := by unfold formedB; rw [h, Bool.false_and, Bool.and_false]
theorem formed_field {x : PItem} (h : prefixB x.field = false) : formedB x = false := by unfold formedB; rw [h, Bool.false_and, Bool.and_false, Bool.and_false]
theorem formed_elem {x : PItem} (h : ¬ x.elem.length ≤ 32) : formedB x = false := by unfold formedB; rw [decide_eq_false h, Bool.false_and, Bool.and_false, Bool.and_false, Bool.and_false]
theorem formed_value {x : PItem} (h1 : dotB x.dot = true) (h2 : keyB x.key = true) (h3 : prefixB x.field = true) (h4 : x.elem.length ≤ 32) : formedB x = valueB x := by
  unfold formedB
  rw [h1, h2, h3, decide_eq_true h4]
  rfl


theorem kind_eq {a b : Int} (h : a = b) : (a == b) = true := by subst h; simp
theorem kind_ne {a b : Int} (h : ¬ a = b) : (a == b) = false := by simp [h]
end Go.Proofs.YtkmiodpaanohoaaGreat
