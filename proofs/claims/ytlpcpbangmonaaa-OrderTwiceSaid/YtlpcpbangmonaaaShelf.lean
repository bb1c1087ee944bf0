/- The contracts of the library at this dump, laid in plain declarations by program. -/
import Derived.Shelf.Lay
import Derived.Shelf.LaySoft

import Derived.Test.YtlpcpbangmonaaaProg
namespace Go.Proofs
open Go.Shelf
shelf_tried
end Go.Proofs
