import Derived.Test.YtmknpmamkjjiaaaEDos
import Derived.Test.YtmknpmamkjjiaaaTxRds
import Derived.Test.YtmknpmamkjjiaaaTxFrm
set_option linter.unusedVariables false
set_option maxRecDepth 100000
set_option maxHeartbeats 64000000
namespace Go.Proofs.Ytmknpmamkjjiaaa
open Go.Proofs.Try
open Go.RowKit Plain
theorem yX{a b:Int}{da ea:Option Addr}{dn dc en ec:Nat}{w:World}:Calls prog 14 #[.agg #[.int .i64 a,.int .i64 b,.slice da dn dc,.slice ea en ec]] w fun e w'=>e= .returned (.agg #[.int .i64 a,.int .i64 b,.int .i64 0])/\Below w.heap.size w w':=by
 have G1:Hid (Below w.heap.size w ((w.alloc (.cells #[.int .i64 a,.int .i64 b,.slice da dn dc,.slice ea en ec] 34)).alloc (.cells #[.int .i64 0,.int .i64 0,.int .i64 0] 47))):=zH (((ak _ _).alloc (aj _) _).alloc (by simp) _);go_enter func14,ntmps14
 go_wp2_with fail
 refine bodyPost_ret (v:= .agg #[.int .i64 a,.int .i64 b,.int .i64 0]) (by simp [results,results14,go_sem]) rfl ⟨rfl,?_⟩;exact ((ak _ _).alloc (aj _) _).alloc (by simp) _
end Go.Proofs.Ytmknpmamkjjiaaa