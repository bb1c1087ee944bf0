/- Who waits behind whom, as plain mathematics: transactions that lie behind one that they lack, those that may be ready, and that the least ready one is always found among these. Ready, Next, Chain: the program's and the document's own. (Written by gen-con.py.) -/
import Derived.Test.YtmknpmamkjjiaaaGreatTxMaths
import Derived.Test.YtmknpmamkjjiaaaGreatVcAll
import Derived.Test.YtmknpmamkjjiaaaGreatTxn
import Derived.Test.YtmknpmamkjjiaaaGreatTxUses
import Derived.Test.YtmknpmamkjjiaaaGreatGives
import Derived.Deep.RegionHeld3
import Derived.Deep.Cut
namespace Go.Proofs.YtmknpmamkjjiaaaGreat.Plain
set_option linter.unusedVariables false

def oHas (v : Ints) (n s : Int) : Prop := 1 ≤ s ∧ s ≤ saysI v n
def otx (l : List PTxn) (j : Nat) : PTxn := l.getD j default
theorem otx_lt {l : List PTxn} {j : Nat} (h : j < l.length) : otx l j = l[j] := by unfold otx; simp [List.getD, h]
end Go.Proofs.YtmknpmamkjjiaaaGreat.Plain
namespace Go.Proofs.YtmknpmamkjjiaaaGreat
open Go.RowKit Plain
set_option linter.unusedVariables false

theorem Calls.tell {P : Program} {f : FuncId} {args : Array Value} {w : World} {v : Value} (h : Calls P f args w fun e w' => e = .returned v ∧ w = w') : Calls P f args w fun e w' => e = .returned v ∧ Below w.heap.size w w' :=
 h.mono fun _ _ ⟨he, hw⟩ => ⟨he, by rw [← hw]; exact Below.refl _ _⟩
theorem seq_wrap {s : Int} (h1 : 1 ≤ s) (h2 : s ≤ 9223372036854775807) : IntKind.i64.wrap (s - 1) = s - 1 := by
 simp [IntKind.wrap, IntKind.bits, IntKind.signed]
 omega

end Go.Proofs.YtmknpmamkjjiaaaGreat
