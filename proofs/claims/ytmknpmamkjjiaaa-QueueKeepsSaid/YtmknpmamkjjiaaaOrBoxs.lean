import Derived.Lib.OwnKind
import Derived.WideKeyEntry
import Derived.Test.YtmknpmamkjjiaaaOrCon
import Derived.Test.YtmknpmamkjjiaaaRefTxOC
set_option linter.unusedVariables false
namespace Go.Proofs.Ytmknpmamkjjiaaa
open Go.RowKit Plain
section
variable {F:Nat ->Prop} {B:Nat} {w:World} {g:Nat} {l:List bK} {v:Ints} {H:List Nat} {Bh:Int ->Int ->List Nat} {lv hv rv:Value} {m:Nat} {V:bW ->Value} {hs:List Int}
end
def jk(v:Ints)(V:bW ->Value)(w:World)(V':bW ->Value)(w':World):Prop:=∀ d:bW,AP v d.node d.seq ->V' d=V d/\∀ k,(V d).ownBlock=some k ->w'.heap[k]? =w.heap[k]?
theorem jk.trans{v:Ints}{V V' BM:bW ->Value}{a b c:World}(h:jk v V a V' b)(k:jk v V' b BM c):jk v V a BM c:=fun d hd=>by
 obtain ⟨h1,h2⟩:=h d hd;obtain ⟨k1,k2⟩:=k d hd;exact ⟨k1.trans h1,fun x hx=>(k2 x (by rw [h1];exact hx)).trans (h2 x hx)⟩
theorem rY{B:Nat}{w:World}{v:Value}{xs:List bK}(h:Sq dJ (fun b=>b<B) w v xs)(hB:B<=w.heap.size)(hp:0<xs.length):∃ b o cap,v= .slice (some ⟨b,o,none⟩) xs.length cap/\xs.length<=cap/\cap<=9223372036854775807/\
  ∀ j,j<xs.length ->∃ da dn dc ea en ec,jl w b (o+j*4) (dW xs j) (.slice da dn dc) (.slice ea en ec)/\dU w (.agg #[.int .i64 (dW xs j).node,.int .i64 (dW xs j).seq,.slice da dn dc,.slice ea en ec]) (dW xs j):=by
 have hs:bJ dJ w v xs:=h.mono fun b hb=>aK hb hB
 obtain ⟨b,o,cap,e,h1,h2,-,hc⟩:=mV hs hp;refine ⟨b,o,cap,e,h1,h2,fun j hj=> ?_⟩;obtain ⟨dv,ev,ha,hd,he⟩:=hc j hj;obtain ⟨da,dc,rfl,-,-,-,hd'⟩:=hd.parts;obtain ⟨ea,ec,rfl,-,-,-,he'⟩:=he.parts;exact ⟨da,_,dc,ea,_,ec,ha,_,_,rfl,hd',he'⟩
end Go.Proofs.Ytmknpmamkjjiaaa