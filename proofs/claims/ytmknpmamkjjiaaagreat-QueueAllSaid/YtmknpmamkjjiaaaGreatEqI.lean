/- How the model compares dots and items. -/
import Derived.Test.YtmknpmamkjjiaaaGreatItem
import Derived.Laws.StructEq
namespace Go.Proofs.YtmknpmamkjjiaaaGreat
open Go.RowKit Plain
set_option linter.unusedVariables false

theorem fields_dot : Tryz.prog.underlying 54 = some (.struct (Tryz.prog.fieldsOf 54)) := by kernel_rfl
theorem held_dot : Tryz.prog.stoodInHeld 54 = false := by kernel_rfl
theorem dot_dec (d e : PDot) : decide (d = e) = (decide (d.node = e.node) && (decide (d.seq = e.seq) && decide (d.pos = e.pos))) := by
 rw [Bool.eq_iff_iff, Bool.and_eq_true, Bool.and_eq_true, decide_eq_true_iff, decide_eq_true_iff, decide_eq_true_iff, decide_eq_true_iff]
 exact ⟨fun h => by subst h; exact ⟨rfl, rfl, rfl⟩, fun ⟨h1, h2, h3⟩ => pdot_ext h1 h2 h3⟩
set_option maxRecDepth 100000 in
theorem eq_dot (k : Nat) (d e : PDot) (w : World) : (Op.equalIn (k + 2) 54 (.agg #[.int .i64 d.node, .int .i64 d.seq, .int .i64 d.pos]) (.agg #[.int .i64 e.node, .int .i64 e.seq, .int .i64 e.pos])).run Tryz.prog w = .ok (decide (d = e)) w := by
 rw [run_equalIn_agg w (k + 1) _ _ _ fields_dot held_dot, dot_dec]
 simp [Program.fieldsOf, Tryz.underlying54, Tryz.underlying3, Tryz.isAgg3, Tryz.sizeOf3, Op.eqFields, go_sem]
 by_cases h1 : d.node = e.node
 ·by_cases h2 : d.seq = e.seq
  ·by_cases h3 : d.pos = e.pos <;> simp [h1, h2, h3]
  ·simp [h1, h2]
 ·simp [h1]
end Go.Proofs.YtmknpmamkjjiaaaGreat
