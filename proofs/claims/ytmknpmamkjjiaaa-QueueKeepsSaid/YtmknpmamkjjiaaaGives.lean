import Derived.Test.YtmknpmamkjjiaaaTWords
set_option linter.unusedVariables false
namespace Go.Proofs.Ytmknpmamkjjiaaa
open Go.RowKit Plain
def bH(w:World)(r:Bool)(e:Ending)(w':World):Prop:=e= .returned (.bool r)/\Below w.heap.size w w'
def q9(w:World)(xs:List bL)(e:Ending)(w':World):Prop:=∃ v,e= .returned v/\dx w' v xs/\Below w.heap.size w w'
theorem iw{w w':World}(h:∃ n,w'=w.drewN n):Below w.heap.size w w':=by
 obtain ⟨n,rfl⟩:=h;exact below_drewN (ak _ _) n
end Go.Proofs.Ytmknpmamkjjiaaa