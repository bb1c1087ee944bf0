/- What the document's own Only of effects (finer) and of transactions, and the program's own Dot leave. (Written by gen-all.py.) What the document's own Copy of effects and of transactions leave: all of it anew. (Written by gen-copy.py.) -/
import Derived.Test.YtmknpmamkjjiaaaEDos
import Derived.Test.YtmknpmamkjjiaaaISets
import Derived.Test.YtmknpmamkjjiaaaRefZs
import Derived.Test.YtmknpmamkjjiaaaEqI
import Derived.Deep.QuietTactic
import Derived.Deep.Cut
import Derived.Test.YtmknpmamkjjiaaaTxIns
import Derived.Test.YtmknpmamkjjiaaaTxRds
import Derived.Test.YtmknpmamkjjiaaaTxFrm
import Derived.Test.YtmknpmamkjjiaaaTxn
import Derived.Test.YtmknpmamkjjiaaaEForms
import Derived.Test.YtmknpmamkjjiaaaVcAll
namespace Go.Proofs.Ytmknpmamkjjiaaa
open Go.RowKit Plain
set_option linter.unusedVariables false

set_option maxRecDepth 100000 in
set_option maxHeartbeats 2000000 in
theorem txdotP {a b : Int} {da ea : Option Addr} {dn dc en ec : Nat} {w : World} : Calls Try.prog 14 #[.agg #[.int .i64 a, .int .i64 b, .slice da dn dc, .slice ea en ec]] w fun e w' => e = .returned (.agg #[.int .i64 a, .int .i64 b, .int .i64 0]) ∧ Below w.heap.size w w' := by
 have G1 : Hid (Below w.heap.size w ((w.alloc (.cells #[.int .i64 a, .int .i64 b, .slice da dn dc, .slice ea en ec] 34)).alloc (.cells #[.int .i64 0, .int .i64 0, .int .i64 0] 47))) := Lib.hid (((Below.refl _ _).alloc (Nat.le_refl _) _).alloc (by simp) _)
 go_enter Try.func14, Try.ntmps14
 go_wp2_with fail
 refine bodyPost_ret (v := .agg #[.int .i64 a, .int .i64 b, .int .i64 0]) (by simp [results, Try.results14, go_sem]) rfl ⟨rfl, ?_⟩
 exact ((Below.refl _ _).alloc (Nat.le_refl _) _).alloc (by simp) _
end Go.Proofs.Ytmknpmamkjjiaaa
namespace Go.Proofs.Ytmknpmamkjjiaaa
open Go.RowKit Plain
set_option linter.unusedVariables false

end Go.Proofs.Ytmknpmamkjjiaaa
