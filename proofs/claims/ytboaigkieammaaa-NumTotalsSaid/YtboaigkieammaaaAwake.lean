/- The fixed answers with which each statement begins hold. -/
import Derived.Test.YtboaigkieammaaaCalls
namespace Go.Proofs.Ytboaigkieammaaa
open Go.RowKit Plain
set_option linter.unusedVariables false

theorem first_tot : sumV (tot (List.take 3 [9223372036854775807, 1, -5])) = 9223372036854775803 ∧ sumE (tot (List.take 3 [9223372036854775807, 1, -5])) = 0 := by decide
theorem first_add : sumV (2 + 3) = 5 ∧ sumE (2 + 3) = 0 := by decide

theorem awake_any (w : World) : Calls Try.prog 8 #[] w fun e w' => e = .returned (.bool true) ∧ Below w.heap.size w w' ∧ Grown w w' := by
  have C1 : ∀ j, j < [9223372036854775807, 1, -5].length → (w.alloc (Obj.cells #[Value.int IntKind.i64 9223372036854775807, Value.int IntKind.i64 1, Value.int IntKind.i64 (-5)] 2)).cell? ⟨w.heap.size, 0 + j, none⟩ = some (.int .i64 ([9223372036854775807, 1, -5].getD j 0)) := by
    intro j hj
    match j, hj with
    | 0, _ => simp [go_sem]
    | 1, _ => simp [go_sem]
    | 2, _ => simp [go_sem]
  have H1 := tot_any w.heap.size 0 3 3 [9223372036854775807, 1, -5] _ (by simp) (by omega) (by decide) C1
  rw [first_tot.1, first_tot.2] at H1
  have H2 := add_any 2 3 (w.alloc (Obj.cells #[Value.int IntKind.i64 9223372036854775807, Value.int IntKind.i64 1, Value.int IntKind.i64 (-5)] 2)) (by decide) (by decide)
  rw [first_add.1, first_add.2] at H2
  have K1 := Lib.hid H1
  have K2 := Lib.hid H2
  clear H1 H2 C1
  go_enter Try.func8, Try.ntmps8
  go_wp2_with fail
  refine K1.out.mono ?_
  rintro e w' ⟨rfl, rfl⟩
  go_wp2_with fail
  refine K2.out.mono ?_
  rintro e w' ⟨rfl, rfl⟩
  go_wp2_with fail
  go_ret
  exact ⟨rfl, (Below.refl _ _).alloc (Nat.le_refl _) _, by repeat (first | exact Grown.refl _ | apply Grown.drew | apply Grown.alloc)⟩
end Go.Proofs.Ytboaigkieammaaa
