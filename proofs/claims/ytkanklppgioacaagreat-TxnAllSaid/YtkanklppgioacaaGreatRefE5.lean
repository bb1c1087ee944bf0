/- What the document's own Only of effects leaves. -/
import Derived.Test.YtkanklppgioacaaGreatEDos
import Derived.Test.YtkanklppgioacaaGreatRefIs
namespace Go.Proofs.YtkanklppgioacaaGreat
open Go.RowKit Plain
set_option linter.unusedVariables false

end Go.Proofs.YtkanklppgioacaaGreat
