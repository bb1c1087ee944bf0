import Derived.Test.YtmknpmamkjjiaaaMaths
import Derived.Laws.BitsLemmas
import Derived.Laws.BitsAllLaws
set_option linter.unusedVariables false
namespace Go.Proofs.Ytmknpmamkjjiaaa.Plain
structure zq where
 elems:List bL
 regs:List bL
 total:Int
 over:Bool
theorem xg{a b:zq}(h1:a.elems=b.elems)(h2:a.regs=b.regs)(h3:a.total=b.total)(h4:a.over=b.over):a=b:=by
 cases a;cases b;simp_all
instance:DecidableEq zq:=fun a b=>decidable_of_iff (a.elems=b.elems/\a.regs=b.regs/\a.total=b.total/\a.over=b.over) ⟨fun ⟨h1,h2,h3,h4⟩=>xg h1 h2 h3 h4,fun e=>by subst e;exact ⟨rfl,rfl,rfl,rfl⟩⟩
instance:Inhabited zq:=⟨⟨[],[],0,false⟩⟩
def yC(key field:bL)(x:bI):Bool:=decide (x.key=key)&&decide (x.field=field)
structure uZ where
 op:Int
 key:bL
 field:bL
 elem:bL
 n:Int
instance:Inhabited uZ:=⟨⟨0,[],[],[],0⟩⟩
def zu(node:Int)(q:uZ)(x:bI):Bool:=
 yC q.key q.field x&&(if q.op=1\/q.op=2 then decide (x.kind=1)&&decide (x.elem=q.elem) else if q.op=3 then decide (x.kind=2) else if q.op=4 then decide (x.kind=3)&&decide (x.dot.node=node) else true)
def taken(node:Int)(q:uZ)(s:List bI):List bI:=s.filter (zu node q)
def Cg(a b:bW):Prop:=a.node<b.node\/(a.node=b.node/\(a.seq<b.seq\/(a.seq=b.seq/\a.pos<b.pos)))
instance:DecidableRel Cg:=fun a b=>by unfold Cg;infer_instance
def inRange(node seq:Int):Bool:=decide (0<=node/\node<=7/\1<=seq/\seq<=1073741824)
theorem lM:∀ {l:List bI},l.Nodup ->mQ l ->(l.map (·.dot)).Nodup
 |[],_,_=>List.nodup_nil
 |x::l,hn,ha=>by
  rw [List.map_cons,List.nodup_cons];rw [List.nodup_cons] at hn;refine ⟨fun h=> ?_,lM hn.2 fun a h b g e=>ha a (List.mem_cons_of_mem _ h) b (List.mem_cons_of_mem _ g) e⟩;obtain ⟨y,hy,e⟩:=List.mem_map.1 h;exact hn.1 (by rw [<-ha y (List.mem_cons_of_mem _ hy) x List.mem_cons_self e];exact hy)
def lN(s:List bI):Prop:=(s.map (·.dot)).Nodup
theorem lN.of{s:List bI}(hr:rU mP s)(ha:mQ s):lN s:=lM (rU.nodup vP hr) ha
def sM(node:Int)(s:List bI)(l:List uZ):Prop:=lN s\/∀ q∈l,taken node q s=[]
theorem sM.tail{node:Int}{s:List bI}{q:uZ}{l:List uZ}(h:sM node s (q::l)):sM node s l:=h.elim .inl fun h=> .inr fun x hx=>h x (List.mem_cons_of_mem _ hx)
end Go.Proofs.Ytmknpmamkjjiaaa.Plain