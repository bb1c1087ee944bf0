/- What the program's own Size, Of, Without of items leave, and the functions that Of and Without hand to those. -/
import Derived.Test.YthcpglbeiibniaaIThose
import Derived.Test.YthcpglbeiibniaaRefS
import Derived.IntWalk
namespace Go.Proofs.Ythcpglbeiibniaa
open Go.RowKit Plain
set_option linter.unusedVariables false

/-! ### Of -/
end Go.Proofs.Ythcpglbeiibniaa
