/- What the program's own compare and Less of items leave. -/
import Derived.Test.YtkanklppgioacaaGreatISets
import Derived.Test.YtkanklppgioacaaGreatShelf
import Derived.Test.YtkanklppgioacaaGreatGives
import Derived.Sort.Grow
import Derived.Deep.RegionHeld3
import Derived.Deep.Cut
namespace Go.Proofs.YtkanklppgioacaaGreat
open Go.RowKit Plain
set_option linter.unusedVariables false

end Go.Proofs.YtkanklppgioacaaGreat
