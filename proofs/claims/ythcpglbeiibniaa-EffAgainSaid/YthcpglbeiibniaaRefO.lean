/- What the document's own Once of texts leaves (the walk). -/
import Derived.Test.YthcpglbeiibniaaOnce
import Derived.Deep.LoopGhost
import Derived.BigQuiet
namespace Go.Proofs.Ythcpglbeiibniaa
open Go.RowKit Plain
set_option linter.unusedVariables false

theorem gt_test (s t : Txt) : (!(Op.bytesLess (bt s).toList (bt t).toList || (bt s).toList == (bt t).toList)) = decide (t < s) := by
  rw [text_lt, text_eq]
  by_cases h : s < t
  · simp [h, lt_asymm h]
  · by_cases e : s = t
    · subst e; simp [lt_irrefl]
    · simp [h, e, lt_total h e]

end Go.Proofs.Ythcpglbeiibniaa
