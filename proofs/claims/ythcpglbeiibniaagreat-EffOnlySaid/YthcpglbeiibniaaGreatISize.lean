/- What the program's own Size, Of, Without of items leave, and the functions that Of and Without hand to those. -/
import Derived.Test.YthcpglbeiibniaaGreatIThose
import Derived.Test.YthcpglbeiibniaaGreatRefS
import Derived.IntWalk
namespace Go.Proofs.YthcpglbeiibniaaGreat
open Go.RowKit Plain
set_option linter.unusedVariables false

/-! ### Of -/
end Go.Proofs.YthcpglbeiibniaaGreat
