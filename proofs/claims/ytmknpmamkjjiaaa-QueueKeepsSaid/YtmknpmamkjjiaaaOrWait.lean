import Derived.Test.YtmknpmamkjjiaaaTxMaths
set_option linter.unusedVariables false
namespace Go.Proofs.Ytmknpmamkjjiaaa.Plain
def AP(v:Ints)(n s:Int):Prop:=1<=s/\s<=cO v n
def dW(l:List bK)(j:Nat):bK:=l.getD j default
theorem fq{l:List bK}{j:Nat}(h:j<l.length):dW l j=l[j]:=by unfold dW;simp [List.getD,h]
end Go.Proofs.Ytmknpmamkjjiaaa.Plain