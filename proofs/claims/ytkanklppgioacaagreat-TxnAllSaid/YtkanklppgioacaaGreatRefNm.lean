/- What the document's own Norm of items leaves. (Written by gen-refnorm.py.) -/
import Derived.Test.YtkanklppgioacaaGreatRefIs
import Derived.Deep.RegionHeld3
namespace Go.Proofs.YtkanklppgioacaaGreat
open Go.RowKit Plain
set_option linter.unusedVariables false

/-! ### of each dot the first one -/
end Go.Proofs.YtkanklppgioacaaGreat
