/- small facts of items -/
import Derived.Test.YtlpcpbangmonaaaRefSs
import Derived.Test.YtlpcpbangmonaaaEqI
import Derived.Deep.Cut
namespace Go.Proofs.Ytlpcpbangmonaaa
open Go.RowKit Plain
set_option linter.unusedVariables false

theorem itv_eq4 (x : PItem) : itv x = .agg #[.string (bt x.key), .string (bt x.field), .int .i64 x.kind, .string (bt x.elem), .int .i64 x.n, .int .i64 x.dot.node, .int .i64 x.dot.seq, .int .i64 x.dot.pos] := rfl
theorem dv_eq4 (d : PDot) : dv d = .agg #[.int .i64 d.node, .int .i64 d.seq, .int .i64 d.pos] := rfl
theorem nil_eq (s : Txt) : ((bt s).toList == []) = decide (s.length = 0) := by
  have t1 := text_eq s []
  rw [show (bt []).toList = [] from toList_bt []] at t1
  rw [t1]
  exact decide_eq_decide.2 ⟨fun e => by rw [e]; rfl, List.eq_nil_of_length_eq_zero⟩
theorem field_way (s : Txt) : (decide (s.length = 0) || keyB s) = prefixB s := by
  unfold keyB
  cases s with
  | nil => rfl
  | cons c s => simp
theorem formed_way (x : PItem) : (keyB x.key && (prefixB x.field && ((decide (x.elem.length ≤ 32) && valueB x) && dotB x.dot))) = formedB x := by
  unfold formedB
  cases keyB x.key <;> cases prefixB x.field <;> cases decide (x.elem.length ≤ 32) <;> cases valueB x <;> cases dotB x.dot <;> rfl

end Go.Proofs.Ytlpcpbangmonaaa
