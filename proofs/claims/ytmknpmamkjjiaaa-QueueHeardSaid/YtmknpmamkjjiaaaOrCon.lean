import Derived.Test.YtmknpmamkjjiaaaTxUses
import Derived.Test.YtmknpmamkjjiaaaOrWait
set_option linter.unusedVariables false
namespace Go.Proofs.Ytmknpmamkjjiaaa
open Go.RowKit Plain
theorem qh{s:Int}(h1:1<=s)(h2:s<=9223372036854775807):IntKind.i64.wrap (s-1)=s-1:=by
 simp [IntKind.wrap,IntKind.bits,IntKind.signed]
 omega
end Go.Proofs.Ytmknpmamkjjiaaa