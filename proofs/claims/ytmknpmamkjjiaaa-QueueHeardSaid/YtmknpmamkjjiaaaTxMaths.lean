import Derived.Test.YtmknpmamkjjiaaaVwMaths
import Derived.Test.YtmknpmamkjjiaaaVMath
set_option linter.unusedVariables false
namespace Go.Proofs.Ytmknpmamkjjiaaa.Plain
structure bK where
 node:Int
 seq:Int
 deps:List Int
 dh:List bO
theorem qK{a b:bK}(h1:a.node=b.node)(h2:a.seq=b.seq)(h3:a.deps=b.deps)(h4:a.dh=b.dh):a=b:=by
 cases a;cases b;simp_all
instance:DecidableEq bK:=fun a b=>decidable_of_iff (a.node=b.node/\a.seq=b.seq/\a.deps=b.deps/\a.dh=b.dh) ⟨fun ⟨h1,h2,h3,h4⟩=>qK h1 h2 h3 h4,fun e=>by subst e;exact ⟨rfl,rfl,rfl,rfl⟩⟩
instance:Inhabited bK:=⟨⟨0,0,[],[]⟩⟩
def fO(node seq:Int)(v:List Int)(d:bW):Bool:=(decide (d.node=node)&&decide (d.seq=seq))||(decide (1<=d.seq)&&decide (d.seq<=cO v d.node))
def gJ(l:List bO)(node seq:Int)(v:List Int):Bool:=l.all fun e=>e.drops.all (fO node seq v)
def tH(t:bK):Bool:=decide (t.deps.length<=8)&&(decide (trim t.deps=t.deps)&&(t.deps.all (fun n=>decide (n<=1073741824))&&decide (cO t.deps t.node+1=t.seq)))
def bN(t:bK):Bool:=inRange t.node t.seq&&(tH t&&(decide (t.dh.length<=8)&&(iR t.node t.seq t.dh&&gJ t.dh t.node t.seq t.deps)))
def tJ(t:bK)(z:List bL):bK:=⟨t.node,t.seq,t.deps,jJ t.dh z⟩
theorem lW{t:bK}:bN t=true↔inRange t.node t.seq=true/\tH t=true/\t.dh.length<=8/\iR t.node t.seq t.dh=true/\gJ t.dh t.node t.seq t.deps=true:=by
 unfold bN;simp only [Bool.and_eq_true,decide_eq_true_iff]
theorem uy(t:bK):tJ t [[]]=t:=by
 have:jJ t.dh [[]]=t.dh:=List.filter_eq_self.2 fun e _=>eB.2 ⟨[],List.mem_singleton.2 rfl,by rfl⟩
 unfold tJ;rw [this]
end Go.Proofs.Ytmknpmamkjjiaaa.Plain