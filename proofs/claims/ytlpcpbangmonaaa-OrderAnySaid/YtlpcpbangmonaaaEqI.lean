/- How the model compares dots and items. -/
import Derived.Test.YtlpcpbangmonaaaItem
import Derived.Laws.StructEq
namespace Go.Proofs.Ytlpcpbangmonaaa
open Go.RowKit Plain
set_option linter.unusedVariables false

theorem bool3 (a b c : Bool) : (if (!a) = true then false else if (!b) = true then false else c) = (a && (b && c)) := by cases a <;> cases b <;> rfl
theorem fields_dot : Try.prog.underlying 73 = some (.struct (Try.prog.fieldsOf 73)) := by kernel_rfl
theorem held_dot : Try.prog.stoodInHeld 73 = false := by kernel_rfl
theorem fields_item : Try.prog.underlying 98 = some (.struct (Try.prog.fieldsOf 98)) := by kernel_rfl
theorem held_item : Try.prog.stoodInHeld 98 = false := by kernel_rfl
theorem beq_int (a b : Int) : (a == b) = decide (a = b) := by by_cases h : a = b <;> simp [h]
theorem dot_dec (d e : PDot) : decide (d = e) = (decide (d.node = e.node) && (decide (d.seq = e.seq) && decide (d.pos = e.pos))) := by
  rw [Bool.eq_iff_iff, Bool.and_eq_true, Bool.and_eq_true, decide_eq_true_iff, decide_eq_true_iff, decide_eq_true_iff, decide_eq_true_iff]
  exact ⟨fun h => by subst h; exact ⟨rfl, rfl, rfl⟩, fun ⟨h1, h2, h3⟩ => pdot_ext h1 h2 h3⟩
theorem item_dec (x y : PItem) : decide (x = y) = (decide (x.key = y.key) && (decide (x.field = y.field) && (decide (x.kind = y.kind) && (decide (x.elem = y.elem) && (decide (x.n = y.n) && decide (x.dot = y.dot)))))) := by
  rw [Bool.eq_iff_iff]
  simp only [Bool.and_eq_true, decide_eq_true_iff]
  exact ⟨fun h => by subst h; exact ⟨rfl, rfl, rfl, rfl, rfl, rfl⟩, fun ⟨h1, h2, h3, h4, h5, h6⟩ => pitem_ext h1 h2 h3 h4 h5 h6⟩

set_option maxRecDepth 100000 in
theorem eq_dot (k : Nat) (d e : PDot) (w : World) : (Op.equalIn (k + 2) 73 (.agg #[.int .i64 d.node, .int .i64 d.seq, .int .i64 d.pos]) (.agg #[.int .i64 e.node, .int .i64 e.seq, .int .i64 e.pos])).run Try.prog w = .ok (decide (d = e)) w := by
  rw [run_equalIn_agg w (k + 1) _ _ _ fields_dot held_dot, dot_dec]
  simp [Program.fieldsOf, Try.underlying73, Try.underlying3, Try.isAgg3, Try.sizeOf3, Op.eqFields, go_sem]
  by_cases h1 : d.node = e.node
  · by_cases h2 : d.seq = e.seq
    · by_cases h3 : d.pos = e.pos <;> simp [h1, h2, h3]
    · simp [h1, h2]
  · simp [h1]
theorem txt_dec (s t : Txt) : ((bt s).toList == (bt t).toList) = decide (s = t) := text_eq s t
set_option maxRecDepth 100000 in
set_option maxHeartbeats 1000000 in
theorem eq_item (k : Nat) (x y : PItem) (w : World) : (Op.equalIn (k + 3) 98 (.agg #[.string (bt x.key), .string (bt x.field), .int .i64 x.kind, .string (bt x.elem), .int .i64 x.n, .int .i64 x.dot.node, .int .i64 x.dot.seq, .int .i64 x.dot.pos])
    (.agg #[.string (bt y.key), .string (bt y.field), .int .i64 y.kind, .string (bt y.elem), .int .i64 y.n, .int .i64 y.dot.node, .int .i64 y.dot.seq, .int .i64 y.dot.pos])).run Try.prog w = .ok (decide (x = y)) w := by
  rw [run_equalIn_agg w (k + 2) _ _ _ fields_item held_item, item_dec]
  have e1 := txt_dec x.key y.key
  have e2 := txt_dec x.field y.field
  have e3 := txt_dec x.elem y.elem
  have e4 := eq_dot k x.dot y.dot w
  generalize bt x.key = K1 at *
  generalize bt y.key = K2 at *
  generalize bt x.field = F1 at *
  generalize bt y.field = F2 at *
  generalize bt x.elem = E1 at *
  generalize bt y.elem = E2 at *
  by_cases h1 : x.key = y.key
  · by_cases h2 : x.field = y.field
    · by_cases h3 : x.kind = y.kind
      · by_cases h4 : x.elem = y.elem
        · by_cases h5 : x.n = y.n
          · generalize decide (x.dot = y.dot) = b at *
            cases b
            · simp [Program.fieldsOf, Try.underlying98, Try.underlying3, Try.underlying2, Try.underlying9, Try.isAgg3, Try.isAgg2, Try.isAgg9, Try.isAgg73, Try.sizeOf73, Op.eqFields, run_equalIn_int, run_equalIn_string, part, e1, e2, e3, e4, h1, h2, h3, h4, h5]
            · simp [Program.fieldsOf, Try.underlying98, Try.underlying3, Try.underlying2, Try.underlying9, Try.isAgg3, Try.isAgg2, Try.isAgg9, Try.isAgg73, Try.sizeOf73, Op.eqFields, run_equalIn_int, run_equalIn_string, part, e1, e2, e3, e4, h1, h2, h3, h4, h5]
          · simp [Program.fieldsOf, Try.underlying98, Try.underlying3, Try.underlying2, Try.underlying9, Try.isAgg3, Try.isAgg2, Try.isAgg9, Op.eqFields, run_equalIn_int, run_equalIn_string, part, e1, e2, e3, h1, h2, h3, h4, h5]
        · simp [Program.fieldsOf, Try.underlying98, Try.underlying3, Try.underlying2, Try.underlying9, Try.isAgg3, Try.isAgg2, Try.isAgg9, Op.eqFields, run_equalIn_int, run_equalIn_string, part, e1, e2, e3, h1, h2, h3, h4]
      · simp [Program.fieldsOf, Try.underlying98, Try.underlying3, Try.underlying2, Try.underlying9, Try.isAgg3, Try.isAgg2, Try.isAgg9, Op.eqFields, run_equalIn_int, run_equalIn_string, part, e1, e2, h1, h2, h3]
    · simp [Program.fieldsOf, Try.underlying98, Try.underlying3, Try.underlying2, Try.underlying9, Try.isAgg3, Try.isAgg2, Try.isAgg9, Op.eqFields, run_equalIn_int, run_equalIn_string, part, e1, e2, h1, h2]
  · simp [Program.fieldsOf, Try.underlying98, Try.underlying3, Try.underlying2, Try.underlying9, Try.isAgg3, Try.isAgg2, Try.isAgg9, Op.eqFields, run_equalIn_int, run_equalIn_string, part, e1, h1]
/-- == and != of dots and of items -/
theorem eql_dot (d e : PDot) (w : World) : (binOp .eql 73 (.agg #[.int .i64 d.node, .int .i64 d.seq, .int .i64 d.pos]) (.agg #[.int .i64 e.node, .int .i64 e.seq, .int .i64 e.pos])).run Try.prog w = .ok (.bool (decide (d = e))) w := by
  rw [run_eql_struct, eq_dot 9998]
  rfl
theorem neq_item (x y : PItem) (w : World) : (binOp .neq 98 (.agg #[.string (bt x.key), .string (bt x.field), .int .i64 x.kind, .string (bt x.elem), .int .i64 x.n, .int .i64 x.dot.node, .int .i64 x.dot.seq, .int .i64 x.dot.pos])
    (.agg #[.string (bt y.key), .string (bt y.field), .int .i64 y.kind, .string (bt y.elem), .int .i64 y.n, .int .i64 y.dot.node, .int .i64 y.dot.seq, .int .i64 y.dot.pos])).run Try.prog w = .ok (.bool (!decide (x = y))) w := by
  rw [run_neq_struct, eq_item 9997]
  rfl
theorem eql_item (x y : PItem) (w : World) : (binOp .eql 98 (.agg #[.string (bt x.key), .string (bt x.field), .int .i64 x.kind, .string (bt x.elem), .int .i64 x.n, .int .i64 x.dot.node, .int .i64 x.dot.seq, .int .i64 x.dot.pos])
    (.agg #[.string (bt y.key), .string (bt y.field), .int .i64 y.kind, .string (bt y.elem), .int .i64 y.n, .int .i64 y.dot.node, .int .i64 y.dot.seq, .int .i64 y.dot.pos])).run Try.prog w = .ok (.bool (decide (x = y))) w := by
  rw [run_eql_struct, eq_item 9997]
  rfl
end Go.Proofs.Ytlpcpbangmonaaa
