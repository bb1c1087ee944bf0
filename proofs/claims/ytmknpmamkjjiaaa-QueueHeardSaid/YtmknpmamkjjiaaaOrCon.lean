/- Ready, Next, Chain: the program's and the document's own. (Written by gen-con.py.) -/
import Derived.Test.YtmknpmamkjjiaaaVcAll
import Derived.Test.YtmknpmamkjjiaaaTxn
import Derived.Test.YtmknpmamkjjiaaaTxUses
import Derived.Test.YtmknpmamkjjiaaaOrWait
import Derived.Test.YtmknpmamkjjiaaaGives
import Derived.Deep.RegionHeld3
import Derived.Deep.Cut
namespace Go.Proofs.Ytmknpmamkjjiaaa
open Go.RowKit Plain
set_option linter.unusedVariables false

theorem seq_wrap {s : Int} (h1 : 1 ≤ s) (h2 : s ≤ 9223372036854775807) : IntKind.i64.wrap (s - 1) = s - 1 := by
 simp [IntKind.wrap, IntKind.bits, IntKind.signed]
 omega

end Go.Proofs.Ytmknpmamkjjiaaa
