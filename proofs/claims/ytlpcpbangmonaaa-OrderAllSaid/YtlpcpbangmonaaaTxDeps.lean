/- What slices.Equal, slices.IndexFunc, slices.ContainsFunc of vectors and the program's own areDeps leave. (Written by gen-form.py.) -/
import Derived.Test.YtlpcpbangmonaaaVcAll
import Derived.Test.YtlpcpbangmonaaaGives
import Derived.Test.YtlpcpbangmonaaaTxMaths
import Derived.Shelf.Abstract
namespace Go.Proofs.Ytlpcpbangmonaaa
open Go.RowKit Plain
set_option linter.unusedVariables false

/-- may these be a transaction's Deps? -/
def areB (v : List Int) : Bool := decide (v.length ≤ 8) && (decide (v = trim v) && !v.any (fun n => decide (n > 1073741824)))
theorem depsB_is (t : PTxn) : depsB t = (areB t.deps && decide (saysI t.deps t.node = t.seq - 1)) := by
  have e : (!t.deps.any (fun n => decide (n > 1073741824))) = t.deps.all (fun n => decide (n ≤ 1073741824)) := by
    rw [List.not_any_eq_all_not]
    congr 1
    funext n
    by_cases h : n > 1073741824
    · rw [decide_eq_true h, decide_eq_false (show ¬ n ≤ 1073741824 by omega)]; rfl
    · rw [decide_eq_false h, decide_eq_true (show n ≤ 1073741824 by omega)]; rfl
  unfold depsB areB
  rw [e, Bool.and_assoc, Bool.and_assoc]
  congr 2
  · exact decide_eq_decide.2 ⟨fun h => h.symm, fun h => h.symm⟩
  · congr 1
    exact decide_eq_decide.2 (by omega)
end Go.Proofs.Ytlpcpbangmonaaa
