/- What the program's own compare and Less of items leave. -/
import Derived.Test.YtkanklppgioacaaISets
import Derived.Test.YtkanklppgioacaaShelf
import Derived.Test.YtkanklppgioacaaGives
import Derived.Sort.Grow
import Derived.Deep.RegionHeld3
import Derived.Deep.Cut
namespace Go.Proofs.Ytkanklppgioacaa
open Go.RowKit Plain
set_option linter.unusedVariables false

theorem bt_data (s : Txt) : (bt s).data.toList = s := rfl
end Go.Proofs.Ytkanklppgioacaa
