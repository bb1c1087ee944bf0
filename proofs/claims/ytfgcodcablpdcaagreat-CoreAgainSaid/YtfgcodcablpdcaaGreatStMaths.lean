import Derived.Test.YtfgcodcablpdcaaGreatOrHps
import Derived.Test.YtfgcodcablpdcaaGreatByLibs
set_option linter.unusedVariables false
namespace Go.Proofs.YtfgcodcablpdcaaGreat.Nm.Plain
def fits(n:Int):Prop:= -9223372036854775808<=n/\n<=9223372036854775807
instance (n:Int):Decidable (fits n):=by unfold fits;infer_instance
def sumV(n:Int):Int:=if fits n then n else 0
def sumE(n:Int):Int:=if fits n then 0 else 5
def tot(l:List Int):Int:=l.foldr (· + ·) 0
theorem vR(zs:List Int)(k:Nat)(h:k<zs.length):zs.take (k+1)=zs.take k++[zs.getD k 0]:=by
 rw [List.take_add_one];simp [List.getD,List.getElem?_eq_getElem h]
end Go.Proofs.YtfgcodcablpdcaaGreat.Nm.Plain
namespace Go.Proofs.YtfgcodcablpdcaaGreat.Plain
open Nm.Plain (fits sumV sumE tot)
structure PVal where
 elems:List iE
 regs:List iE
 total:Int
 over:Bool
theorem pval_ext{a b:PVal}(h1:a.elems=b.elems)(h2:a.regs=b.regs)(h3:a.total=b.total)(h4:a.over=b.over):a=b:=by
 cases a;cases b;simp_all
instance:DecidableEq PVal:=fun a b=>decidable_of_iff (a.elems=b.elems/\a.regs=b.regs/\a.total=b.total/\a.over=b.over) ⟨fun ⟨h1,h2,h3,h4⟩=>pval_ext h1 h2 h3 h4,fun e=>by subst e;exact ⟨rfl,rfl,rfl,rfl⟩⟩
instance:Inhabited PVal:=⟨⟨[],[],0,false⟩⟩
def inField(key field:iE)(x:fK):Bool:=decide (x.key=key)&&decide (x.field=field)
structure ZV where
 op:Int
 key:iE
 field:iE
 elem:iE
 n:Int
instance:Inhabited ZV:=⟨⟨0,[],[],[],0⟩⟩
def takesB(node:Int)(q:ZV)(x:fK):Bool:=
 inField q.key q.field x&&(if q.op=1\/q.op=2 then decide (x.kind=1)&&decide (x.elem=q.elem) else if q.op=3 then decide (x.kind=2) else if q.op=4 then decide (x.kind=3)&&decide (x.dot.node=node) else true)
def taken(node:Int)(q:ZV)(s:List fK):List fK:=s.filter (takesB node q)
def dlt(a b:gB):Prop:=a.node<b.node\/(a.node=b.node/\(a.seq<b.seq\/(a.seq=b.seq/\a.pos<b.pos)))
instance:DecidableRel dlt:=fun a b=>by unfold dlt;infer_instance
def inRange(node seq:Int):Bool:=decide (0<=node/\node<=7/\1<=seq/\seq<=1073741824)
structure Usual(node seq i:Int)(s:List fK):Prop where
 form:iG s=s
 fine:∀ x∈s,iH x=true
 past:∀ x∈s,x.dot.node=node ->x.dot.seq<seq\/(x.dot.seq=seq/\x.dot.pos<i)
theorem Usual.mono{node seq i j:Int}{s:List fK}(h:Usual node seq i s)(hij:i<=j):Usual node seq j s:=⟨h.form,h.fine,fun x hx hn=>by have:=h.past x hx hn;omega⟩
theorem BI{x:fK}:iH x=true↔jX x.dot=true/\xY x.key=true/\iK x.field=true/\x.elem.length<=32/\qB x=true:=by
 unfold iH;simp only [aD,decide_eq_true_iff]
theorem Eo:∀ {l:List gB},qL l=true ->∀ d∈l,jX d=true
 |[],_,d,hd=>absurd hd (by simp)
 |[x],h,d,hd=>by rw [bE.1 hd];exact h
 |x::y::l,h,d,hd=>by
  rw [qL,aD,aD] at h
  rcases bL.1 hd with rfl|hd
  ·exact h.1
  ·exact Eo h.2.2 d hd
theorem JB:∀ {l:List fK},l.Nodup ->zU l ->(l.map (·.dot)).Nodup
 |[],_,_=>List.nodup_nil
 |x::l,hn,ha=>by
  rw [List.map_cons,dZ];rw [dZ] at hn;refine ⟨fun h=> ?_,JB hn.2 fun a h b g e=>ha a (bY _ h) b (bY _ g) e⟩;obtain ⟨y,hy,e⟩:=List.mem_map.1 h;exact hn.1 (by rw [<-ha y (bY _ hy) x dV e];exact hy)
def JC(s:List fK):Prop:=(s.map (·.dot)).Nodup
theorem JC.of{s:List fK}(hr:IQ lW s)(ha:zU s):JC s:=JB (IQ.nodup jg hr) ha
def VP(node:Int)(s:List fK)(l:List ZV):Prop:=JC s\/∀ q∈l,taken node q s=[]
theorem VP.tail{node:Int}{s:List fK}{q:ZV}{l:List ZV}(h:VP node s (q::l)):VP node s l:=h.elim .inl fun h=> .inr fun x hx=>h x (bY _ hx)
open Nm.Plain (fits)
structure fI where
 node:Int
 seq:Int
 deps:List Int
 effs:List gD
theorem SQ{a b:fI}(h1:a.node=b.node)(h2:a.seq=b.seq)(h3:a.deps=b.deps)(h4:a.effs=b.effs):a=b:=by
 cases a;cases b;simp_all
instance:DecidableEq fI:=fun a b=>decidable_of_iff (a.node=b.node/\a.seq=b.seq/\a.deps=b.deps/\a.effs=b.effs) ⟨fun ⟨h1,h2,h3,h4⟩=>SQ h1 h2 h3 h4,fun e=>by subst e;exact ⟨rfl,rfl,rfl,rfl⟩⟩
instance:Inhabited fI:=⟨⟨0,0,[],[]⟩⟩
def sH(node seq:Int)(v:List Int)(d:gB):Bool:=(decide (d.node=node)&&decide (d.seq=seq))||(decide (1<=d.seq)&&decide (d.seq<=iF v d.node))
def vg(l:List gD)(node seq:Int)(v:List Int):Bool:=l.all fun e=>e.drops.all (sH node seq v)
def Hg(t:fI):Bool:=decide (t.deps.length<=8)&&(decide (trim t.deps=t.deps)&&(t.deps.all (fun n=>decide (n<=1073741824))&&decide (iF t.deps t.node+1=t.seq)))
def fQ(t:fI):Bool:=inRange t.node t.seq&&(Hg t&&(decide (t.effs.length<=8)&&(nN t.node t.seq t.effs&&vg t.effs t.node t.seq t.deps)))
def Wo(t:fI)(z:List iE):fI:=⟨t.node,t.seq,t.deps,eonly t.effs z⟩
theorem jq{t:fI}:fQ t=true↔inRange t.node t.seq=true/\Hg t=true/\t.effs.length<=8/\nN t.node t.seq t.effs=true/\vg t.effs t.node t.seq t.deps=true:=by
 unfold fQ;simp only [aD,decide_eq_true_iff]
theorem Px{v:List Int}(h:trim v=v):∀ n∈v,0<=n:=by
 intro n hn;obtain ⟨j,hj,rfl⟩:=bF hn;have e:(trim v).getD j 0=v.getD j 0:=by rw [h]
 have e2:v.getD j 0=v[j]:=by simp [List.getD,List.getElem?_eq_getElem hj]
 rw [e2] at e;rw [<-e];unfold trim;rw [Ai,if_pos hj];exact lC v j
theorem ug{t:fI}(h:Hg t=true):t.deps.length<=8/\∀ n∈t.deps,0<=n/\n<=1073741824:=by
 unfold Hg at h;simp only [aD,decide_eq_true_iff,aR] at h
 exact ⟨h.1,fun n hn=>⟨Px h.2.1 n hn,h.2.2.1 n hn⟩⟩
def yj:iw gB:=(kP.seq (kP.seq kP)).emb (fun p=>⟨p.1,p.2.1,p.2.2⟩) (fun d=>(d.node,d.seq,d.pos)) fun _ _=>rfl
def Gc:iw gD:=(kP.seq (iQ.seq (iQ.seq (kP.seq (iQ.seq (qz.seq (yj.list 64 2 (by decide) (by decide)))))))).emb (fun p=>⟨p.1,p.2.1,p.2.2.1,p.2.2.2.1,p.2.2.2.2.1,p.2.2.2.2.2.1,p.2.2.2.2.2.2⟩) (fun e=>(e.pos,e.key,e.field,e.kind,e.elem,e.n,e.drops)) fun _ _=>rfl
def AB:iw fI:=(kP.seq (kP.seq ((kP.list 8 2 (by decide) (by decide)).seq (Gc.list 8 2 (by decide) (by decide))))).emb (fun p=>⟨p.1,p.2.1,p.2.2.1,p.2.2.2⟩) (fun t=>(t.node,t.seq,t.deps,t.effs)) fun _ _=>rfl
def kC:iw fI:=AB.test fQ 2 (by decide)
theorem Wp{d:gB}(h:jX d=true):yj.ok d:=by
 unfold jX at h;rw [decide_eq_true_iff] at h;exact ⟨⟨jN.2 (by show 0<=d.node/\d.node<_;omega),jN.2 (by show 0<=d.seq/\d.seq<_;omega),jN.2 (by show 0<=d.pos/\d.pos<_;omega)⟩,rfl⟩
theorem wP{s:iE}(h:iK s=true):s.length<=16:=by
 unfold iK at h;rw [aD,decide_eq_true_iff] at h;exact h.2
theorem Mv{s:iE}(h:xY s=true):iK s=true:=by
 unfold xY at h;rw [aD] at h;exact h.2
theorem sZ{node seq:Int}{e:gD}(h:iD node seq e=true):e.key.length<=16/\e.field.length<=16/\e.elem.length<=32/\0<=e.kind/\e.kind<=3/\0<=e.pos/\e.pos<=7/\e.drops.length<=64/\∀ d∈e.drops,jX d=true:=by
 unfold iD at h;rw [aD,aD,decide_eq_true_iff] at h;obtain ⟨h1,h2,h3⟩:=h;have hp:∀ {p:Int},jX ⟨node,seq,p⟩=true ->0<=p/\p<=7:=fun {p} g=>by
  unfold jX at g;rw [decide_eq_true_iff] at g;exact g.2.2.2.2
 unfold yT at h3
 split at h3
 ·rename_i k
  simp only [aD,decide_eq_true_iff] at h3
  obtain ⟨-,g2,-,g4,g5,g6⟩:=h3;exact ⟨wP (Mv g4),wP g5,by omega,by omega,by omega,(hp g6).1,(hp g6).2,h1,Eo h2⟩
 ·obtain ⟨g1,g2,g3,g4,g5⟩:=BI.1 h3
  have hk:0<=e.kind/\e.kind<=3:=by
   change qB (lV node seq e)=true at g5;unfold qB lV at g5;simp only [dX,aD,decide_eq_true_iff] at g5
   omega
  exact ⟨wP (Mv g2),wP g3,g4,hk.1,hk.2,(hp g1).1,(hp g1).2,h1,Eo h2⟩
theorem effC_ok{node seq:Int}{e:gD}(h:iD node seq e=true)(hn:fits e.n):Gc.ok e:=by
 obtain ⟨h1,h2,h3,h4,h5,h6,h7,h8,h9⟩:=sZ h;refine ⟨⟨jN.2 (by show 0<=e.pos/\e.pos<_;omega),?_,?_,jN.2 (by show 0<=e.kind/\e.kind<_;omega),?_,hn,h8,fun d hd=>Wp (h9 d hd)⟩,rfl⟩
 ·show e.key.length<=65536;omega
 ·show e.field.length<=65536;omega
 ·show e.elem.length<=65536;omega
theorem txnC_ok{t:fI}(h:fQ t=true)(hn:∀ e∈t.effs,fits e.n):kC.ok t:=by
 obtain ⟨h1,h2,h3,h4,h5⟩:=jq.1 h;have hr:0<=t.node/\t.node<=7/\1<=t.seq/\t.seq<=1073741824:=by
  unfold inRange at h1;exact bR h1
 obtain ⟨d1,d2⟩:=ug h2;have hf:∀ e∈t.effs,iD t.node t.seq e=true:=by
  unfold nN at h4;rw [aD,aR] at h4;exact h4.1
 exact ⟨⟨⟨jN.2 (by show 0<=t.node/\t.node<_;omega),jN.2 (by show 0<=t.seq/\t.seq<_;omega),⟨d1,fun n hn2=>jN.2 (by have:=d2 n hn2;omega)⟩,h3,fun e he=>effC_ok (hf e he) (hn e he)⟩,rfl⟩,h⟩
theorem jC{α:Type}(c:iw α)(k:Nat):∀ l:List α,(∀ a∈l,(c.put a).length<=k) ->(iA c l).length<=l.length*k
 |[],_=>by simp [iA]
 |a::l,h=>by
  rw [rG,aA,aZ,Nat.add_mul,Nat.one_mul];have h1:=h a dV;have h2:=jC c k l fun x hx=>h x (bY _ hx)
  omega
theorem je{m:Int}(h:0<=m/\m<72057594037927936):(kP.put m).length<=8:=by
 rw [Pp];exact gP _ (by omega)
theorem Pz{d:gB}(h:jX d=true):(yj.put d).length<=24:=by
 unfold jX at h;rw [decide_eq_true_iff] at h
 show (kP.put d.node++(kP.put d.seq++kP.put d.pos)).length<=24
 rw [aA,aA];have h1:=je (m:=d.node) (by omega);have h2:=je (m:=d.seq) (by omega);have h3:=je (m:=d.pos) (by omega);omega
theorem nG{s:iE}{k:Nat}(h:s.length<=k)(hk:k<=65536):(iQ.put s).length<=8+k:=by
 show (form s.length++wO s).length<=_
 rw [aA,oI];have:=gP s.length (by omega);omega
theorem effC_len{node seq:Int}{e:gD}(h:iD node seq e=true):(Gc.put e).length<=1656:=by
 obtain ⟨h1,h2,h3,h4,h5,h6,h7,h8,h9⟩:=sZ h
 show (kP.put e.pos++(iQ.put e.key++(iQ.put e.field++(kP.put e.kind++(iQ.put e.elem++(lI e.n++(form e.drops.length++iA yj e.drops))))))).length<=_
 simp only [aA]
 have a1:=je (m:=e.pos) (by omega);have a2:=nG h1 (by omega);have a3:=nG h2 (by omega);have a4:=je (m:=e.kind) (by omega);have a5:=nG h3 (by omega);have a6:=mV e.n;have a7:=gP e.drops.length (by omega);have a8:=jC yj 24 e.drops fun d hd=>Pz (h9 d hd)
 omega
theorem PG{t:fI}(h:fQ t=true):(kC.put t).length<=14000:=by
 obtain ⟨h1,h2,h3,h4,h5⟩:=jq.1 h;have hr:0<=t.node/\t.node<=7/\1<=t.seq/\t.seq<=1073741824:=by
  unfold inRange at h1;exact bR h1
 obtain ⟨d1,d2⟩:=ug h2;have hf:∀ e∈t.effs,iD t.node t.seq e=true:=by
  unfold nN at h4;rw [aD,aR] at h4;exact h4.1
 show (kP.put t.node++(kP.put t.seq++((form t.deps.length++iA kP t.deps)++(form t.effs.length++iA Gc t.effs)))).length<=_
 simp only [aA]
 have a1:=je (m:=t.node) (by omega);have a2:=je (m:=t.seq) (by omega);have a3:=gP t.deps.length (by omega);have a4:=gP t.effs.length (by omega);have a5:=jC kP 8 t.deps fun n hn=>je (by have:=d2 n hn;omega)
 have a6:=jC Gc 1656 t.effs fun e he=>effC_len (hf e he)
 have a7:t.effs.length*1656<=8*1656:=bN _ h3;omega
theorem ZX{t:fI}(h:kC.ok t):∀ e∈t.effs,fits e.n:=fun e he=>(h.1.1.2.2.2.2 e he).1.2.2.2.2.2.1
def oC(t:fI):Bool:=decide (0<=t.node)&&decide (t.node<=7)&&decide (0<=t.seq)&&decide (t.seq<=1073741824)
def gY(v:Ints)(t:fI):Bool:=decide (0<t.seq)&&decide (iF v t.node=t.seq-1)&&within t.deps v
def gZ(v:Ints)(t:fI):Ints:=if oC t then CQ v t.node.toNat t.seq else trim v
def gX:Ints ->List fI ->Bool
 |_,[]=>true
 |v,t::l=>gY v t&&gX (gZ v t) l
def jd(v:Ints)(l:List fI):Ints:=l.foldl gZ v
def jT(v:Ints):List fI ->Option (fI×List fI)
 |[]=>none
 |t::l=>if gY v t then some (t,l) else (jT v l).map fun x=>(x.1,t::x.2)
def o9:Nat ->Ints ->List fI ->List fI
 |0,_,_=>[]
 |n+1,v,l=>match jT v l with
  |none=>[]
  |some (t,r)=>t::o9 n (gZ v t) r
def kH(v:Ints)(l:List fI):List fI:=o9 l.length v l
def JD:Nat ->Ints ->List fI ->List fI
 |0,_,l=>l
 |n+1,v,l=>match jT v l with
  |none=>l
  |some (t,r)=>JD n (gZ v t) r
theorem jl{t:fI}:oC t=true↔(0<=t.node/\t.node<=7)/\0<=t.seq/\t.seq<=1073741824:=by
 unfold oC;simp [and_assoc]
theorem jP{v:Ints}{t:fI}:gY v t=true↔0<t.seq/\iF v t.node=t.seq-1/\Within t.deps v:=by
 unfold gY;rw [aD,aD,within_iff,decide_eq_true_eq,decide_eq_true_eq,and_assoc]
theorem lT{v:Ints}{n:Int}(h:0<=n):iF v n=says v n.toNat:=by unfold iF;rw [if_pos h]
theorem Zu{v:Ints}{n:Int}(h:¬ 0<=n):iF v n=0:=by unfold iF;rw [if_neg h]
theorem jQ(v:Ints)(t:fI)(i:Nat):says (gZ v t) i=if oC t=true/\i=t.node.toNat then t.seq else says v i:=by
 unfold gZ
 by_cases h:oC t=true
 ·rw [if_pos h,Zj v _ _ (jl.1 h).2.1]
  unfold uP
  by_cases e:i=t.node.toNat
  ·rw [if_pos e,if_pos ⟨h,e⟩]
  ·rw [if_neg e,if_neg (fun x=>e x.2)]
 ·rw [if_neg h,qD,if_neg (fun x=>h x.1)]
theorem Fq(v:Ints)(t:fI):Short (gZ v t):=by
 unfold gZ
 by_cases h:oC t=true
 ·rw [if_pos h];exact Vw v _ _ (jl.1 h).2.1
 ·rw [if_neg h];exact oO v
theorem zm{v:Ints}{t:fI}(h:gY v t=true)(i:Nat):says v i<=says (gZ v t) i:=by
 rw [jQ]
 split
 ·rename_i c
  have h1:=(jP.1 h).2.1;rw [lT (jl.1 c.1).1.1,<-c.2] at h1;omega
 ·exact dD _
theorem vD(v:Ints)(t:fI)(l:List fI):jd v (t::l)=jd (gZ v t) l:=rfl
theorem jk{v:Ints}{t:fI}{l:List fI}:gX v (t::l)=true↔gY v t=true/\gX (gZ v t) l=true:=by
 show (gY v t&&gX (gZ v t) l)=true↔_
 rw [aD]
theorem MC:∀ {l:List fI} {v:Ints},gX v l=true ->∀ i,says v i<=says (jd v l) i
 |[],v,_,i=>dD _
 |t::l,v,h,i=>dG (zm (jk.1 h).1 i) (MC (jk.1 h).2 i)
theorem Hl:∀ {l:List fI} {v:Ints},l≠[] ->Short (jd v l)
 |[],v,h=>absurd rfl h
 |[t],v,h=>Fq v t
 |t::u::l,v,h=>Hl (l:=u::l) (v:=gZ v t) (by simp)
theorem JE:∀ {l:List fI} {v:Ints} {t:fI},gX v l=true ->t∈l ->oC t=true ->t.seq<=says (jd v l) t.node.toNat
 |[],_,_,_,h,_=>by cases h
 |u::l,v,t,hc,hm,ht=>by
  rcases bL.1 hm with e|e
  ·subst e
   have h1:=MC (jk.1 hc).2 t.node.toNat;rw [jQ,if_pos ⟨ht,rfl⟩] at h1;exact h1
  ·show t.seq<=says (jd (gZ v u) l) t.node.toNat
   exact JE (jk.1 hc).2 e ht
theorem pO:∀ {l:List fI} {v:Ints} {t:fI} {r:List fI},jT v l=some (t,r) ->gY v t=true/\l.Perm (t::r)
 |[],_,_,_,h=>by cases h
 |u::l,v,t,r,h=>by
  unfold jT at h
  by_cases c:gY v u=true
  ·rw [if_pos c] at h
   cases h
   exact ⟨c,fE _⟩
  ·rw [if_neg c] at h
   rcases hf:jT v l with _|⟨x,y⟩
   ·rw [hf] at h;cases h
   ·rw [hf] at h
    cases h
    obtain ⟨h1,h2⟩:=pO hf;exact ⟨h1,(h2.cons u).trans (List.Perm.swap _ _ _)⟩
theorem uQ:∀ {l:List fI} {v:Ints},jT v l=none↔∀ t∈l,¬ gY v t=true
 |[],v=>by simp [jT]
 |u::l,v=>by
  unfold jT
  by_cases c:gY v u=true
  ·rw [if_pos c]
   constructor
   ·intro h;cases h
   ·intro h;exact absurd c (h u (by simp))
  ·rw [if_neg c,Option.map_eq_none_iff,uQ]
   constructor
   ·intro h t ht
    rcases bL.1 ht with e|e
    ·subst e;exact c
    ·exact h t e
   ·intro h t ht;exact h t (by simp [ht])
theorem Da:∀ (n:Nat) (v:Ints) (l:List fI),gX v (o9 n v l)=true
 |0,_,_=>rfl
 |n+1,v,l=>by
  unfold o9
  rcases hf:jT v l with _|⟨t,r⟩
  ·rfl
  ·exact jk.2 ⟨(pO hf).1,Da n _ r⟩
theorem uR:∀ (n:Nat) (v:Ints) (l:List fI),l.Perm (o9 n v l++JD n v l)
 |0,_,_=>fE _
 |n+1,v,l=>by
  unfold o9 JD
  rcases hf:jT v l with _|⟨t,r⟩
  ·exact fE _
  ·exact (pO hf).2.trans ((uR n _ r).cons t)
theorem Fu:∀ (n:Nat) (v:Ints) (l:List fI),l.length<=n ->∀ t∈JD n v l,¬ gY (jd v (o9 n v l)) t=true
 |0,v,l,h,t,ht=>by
  have:l=[]:=by cases l;rfl;simp at h
  subst this;cases ht
 |n+1,v,l,h,t,ht=>by
  unfold o9;unfold JD at ht
  rcases hf:jT v l with _|⟨u,r⟩
  ·rw [hf] at ht
   exact uQ.1 hf t ht
  ·rw [hf] at ht
   have hl:=(pO hf).2.length_eq;exact Fu n _ r (by simp at hl;omega) t ht
theorem uK(v:Ints)(l:List fI):gX v (kH v l)=true:=Da _ v l
theorem Mh{v:Ints}{l:List fI}{t:fI}(h:t∈kH v l):t∈l:=
 (uR l.length v l).mem_iff.2 (bA.2 (Or.inl h))
theorem VQ{v:Ints}{l:List fI}{t:fI}(h:t∈l):t∈kH v l\/¬ gY (jd v (kH v l)) t=true:=by
 rcases bA.1 ((uR l.length v l).mem_iff.1 h) with e|e
 ·exact Or.inl e
 ·exact dP (Fu _ v l (ah _) t e)
theorem LW(v:Ints)(l:List fI):(kH v l).length<=l.length:=by
 have:=(uR l.length v l).length_eq;rw [aA] at this
 show (o9 l.length v l).length<=_
 omega
theorem xV:∀ {l:List fI} {v:Ints} (n:Nat),gX v l=true ->l.length<=n ->o9 n v l=l
 |[],v,0,_,_=>rfl
 |[],v,n+1,_,_=>rfl
 |t::l,v,0,_,h=>by simp at h
 |t::l,v,n+1,hc,h=>by
  have h1:=jk.1 hc;have hf:jT v (t::l)=some (t,l):=by unfold jT;rw [if_pos h1.1]
  unfold o9;rw [hf];exact congrArg (t:: ·) (xV n h1.2 (by simp at h;omega))
theorem Hr{v:Ints}{l:List fI}(h:gX v l=true):kH v l=l:=xV _ h (ah _)
theorem JF{v:Ints}{l:List fI}(h:∀ t∈l,¬ gY v t=true):kH v l=[]:=by
 unfold kH
 rcases l with _|⟨t,l⟩
 ·rfl
 ·show o9 (l.length+1) v (t::l)=[]
  unfold o9;rw [uQ.2 h]
theorem xI:∀ {l:List fI} {v:Ints} {t:fI},gX v l=true ->t∈l ->0<=t.node ->says v t.node.toNat<t.seq
 |[],_,_,_,h,_=>by cases h
 |u::l,v,t,hc,hm,hn=>by
  have hc':=jk.1 hc
  rcases bL.1 hm with e|e
  ·subst e
   have:=(jP.1 hc'.1).2.1;rw [lT hn] at this;omega
  ·exact Int.lt_of_le_of_lt (zm hc'.1 _) (xI hc'.2 e hn)
theorem SS{v:Ints}{l:List fI}(hv:∀ t∈l,oC t=true):kH (jd v (kH v l)) l=[]:=by
 refine JF fun t ht hr=> ?_
 rcases VQ (v:=v) ht with e|e
 ·have h1:=JE (uK v l) e (hv t ht)
  have h2:=(jP.1 hr).2.1;rw [lT (jl.1 (hv t ht)).1.1] at h2;omega
 ·exact e hr
theorem lG{t:fI}(h:fQ t=true):oC t=true:=by
 have h:=(jq.1 h).1;unfold inRange at h;simp only [decide_eq_true_eq] at h
 refine jl.2 ?_;omega
theorem Vu{v:Ints}{l:List fI}{t:fI}{r:List fI}(h:jT v l=some (t,r)):kH v l=t::kH (gZ v t) r:=by
 have hl:=(pO h).2.length_eq;unfold kH;rw [hl]
 show o9 (r.length+1) v l=_
 conv=>lhs;unfold o9
 rw [h]
theorem Vt{v:Ints}{l:List fI}(h:jT v l=none):kH v l=[]:=JF (uQ.1 h)
theorem qW:∀ (a:List fI) (v:Ints) (b:List fI),gX v (a++b)=(gX v a&&gX (jd v a) b)
 |[],v,b=>by simp [gX,jd]
 |t::a,v,b=>by
  show (gY v t&&gX (gZ v t) (a++b))=((gY v t&&gX (gZ v t) a)&&gX (jd (gZ v t) a) b)
  rw [qW a,Bool.and_assoc]
theorem Ew(v:Ints)(a b:List fI):jd v (a++b)=jd (jd v a) b:=by unfold jd;rw [List.foldl_append]
theorem Ab(v:Ints)(a:List fI)(t:fI):jd v (a++[t])=gZ (jd v a) t:=by rw [Ew];rfl
theorem RJ{v:Ints}{l:List fI}{k:Nat}(hk:k<l.length)(h:gX v (l.take k)=true)(hr:gY (jd v (l.take k)) l[k]=true):
  gX v (l.take (k+1))=true/\jd v (l.take (k+1))=gZ (jd v (l.take k)) l[k]:=by
 rw [bK hk];refine ⟨?_,Ab _ _ _⟩;rw [qW,h];simp [gX,hr]
theorem Od{v:Ints}{l:List fI}{k:Nat}(hk:k<l.length)(h:gX v (l.take k)=true)(hr:¬ gY (jd v (l.take k)) l[k]=true):gX v l=false:=by
 have e:l=l.take k++(l[k]::l.drop (k+1)):=by rw [<-fH hk,List.take_append_drop]
 rw [e,qW,h];simp only [aS]
 show (gY _ _&&_)=false
 rw [bH.2 hr,bU]
def nC:List Bool ->List fI ->List fI
 |g::gs,t::l=>if g then nC gs l else t::nC gs l
 |_,_=>[]
theorem Ei:∀ l:List fI,nC (List.replicate l.length false) l=l
 |[]=>rfl
 |t::l=>congrArg (t:: ·) (Ei l)
theorem Fb:∀ {g:List Bool} {l:List fI} {v:Ints} {i:Nat} (hg:i<g.length) (hl:i<l.length),g[i]=false ->gY v l[i]=true ->
  (∀ j (h1:j<g.length) (h2:j<l.length),j<i ->g[j]=true\/¬ gY v l[j]=true) ->jT v (nC g l)=some (l[i],nC (g.set i true) l)
 |[],_,_,_,hg,_,_,_,_=>by simp at hg
 |_::_,[],_,_,_,hl,_,_,_=>by simp at hl
 |b::g,t::l,v,0,hg,hl,h1,h2,_=>by
  have hb:b=false:=h1;subst hb;have h2:gY v t=true:=h2
  show jT v (t::nC g l)=some (t,nC g l)
  unfold jT;rw [if_pos h2]
 |b::g,t::l,v,i+1,hg,hl,h1,h2,h3=>by
  have hi:=Fb (g:=g) (l:=l) (v:=v) (i:=i) (by simpa using hg) (by simpa using hl) h1 h2
   fun j a c e=>h3 (j+1) (by simpa using a) (by simpa using c) (by omega)
  have h0:=h3 0 (by simp) (by simp) (by omega)
  cases b with
  |true=>exact hi
  |false=>
   have h0:¬ gY v t=true:=h0.resolve_left (by simp);have hl':i<l.length:=by simpa using hl
   show jT v (t::nC g l)=some (l[i],t::nC (g.set i true) l)
   unfold jT;rw [if_neg h0,hi]
   rfl
theorem Ju:∀ {g:List Bool} {l:List fI} {v:Ints},(∀ j (h1:j<g.length) (h2:j<l.length),g[j]=true\/¬ gY v l[j]=true) ->jT v (nC g l)=none
 |[],_,_,_=>by unfold nC;rfl
 |_::_,[],_,_=>by unfold nC;rfl
 |b::g,t::l,v,h=>by
  have hi:=Ju (g:=g) (l:=l) (v:=v) fun j a c=>h (j+1) (by simpa using a) (by simpa using c)
  have h0:=h 0 (by simp) (by simp)
  cases b with
  |true=>exact hi
  |false=>
   have h0:¬ gY v t=true:=h0.resolve_left (by simp)
   show jT v (t::nC g l)=none
   unfold jT;rw [if_neg h0,hi]
   rfl
structure iP where
 heard:Ints
 items:List fK
theorem AX{a b:iP}(h1:a.heard=b.heard)(h2:a.items=b.items):a=b:=by
 cases a;cases b;simp_all
instance:DecidableEq iP:=fun a b=>decidable_of_iff (a.heard=b.heard/\a.items=b.items) ⟨fun ⟨h1,h2⟩=>AX h1 h2,fun e=>by subst e;exact ⟨rfl,rfl⟩⟩
def qw(i:List fK)(t:fI):List fK:=FW t.node t.seq i t.effs
def sDo(s:iP)(t:fI):iP:=⟨gZ s.heard t,qw s.items t⟩
def Gd(s:iP)(a:List fI):iP:=a.foldl sDo s
def oG(l:List fI):List fI:=l.filter fQ
def kV(v:Ints)(l:List fI):List fI:=kH v (oG l)
def qE(s:iP)(l:List fI):iP:=Gd s (kV s.heard l)
theorem Bt:∀ (a:List fI) (s:iP),(Gd s a).heard=jd s.heard a
 |[],s=>rfl
 |t::a,s=>by
  show (Gd (sDo s t) a).heard=jd (gZ s.heard t) a
  rw [Bt a (sDo s t)]
  rfl
theorem JG:∀ (a:List fI) (s:iP),(Gd s a).items=a.foldl qw s.items
 |[],s=>rfl
 |t::a,s=>JG a (sDo s t)
theorem zL{l:List fI}{t:fI}:t∈oG l↔t∈l/\fQ t=true:=List.mem_filter
theorem sM{v:Ints}{l:List fI}{t:fI}(h:t∈kV v l):fQ t=true:=(zL.1 (Mh h)).2
theorem Hy{v:Ints}{l:List fI}{t:fI}(h:t∈kV v l):t∈l:=(zL.1 (Mh h)).1
theorem Dq(v:Ints)(l:List fI):(kV v l).length<=l.length:=ak (LW _ _) (List.length_filter_le _ _)
theorem Db:∀ {a:List fI} {v:Ints} {x y:fI},gX v a=true ->(∀ t∈a,fQ t=true) ->¬ (x.node=y.node/\x.seq=y.seq) ->List.Sublist [x,y] a ->NM x.effs y.node y.seq=false
 |t::a,v,x,y,hc,hf,hne,h=>by
  have hc':=jk.1 hc
  cases h with
  |cons _ h'=>exact Db hc'.2 (fun u hu=>hf u (by simp [hu])) hne h'
  |cons_cons _ h'=>
   have hy:=List.singleton_sublist.1 h';have hv:=lG (hf y (by simp [hy]));have hn:=(jl.1 hv).1.1;have h1:=xI hc'.2 hy hn;have h2:=zm hc'.1 y.node.toNat;have h3:=(jP.1 hc'.1).2.2 y.node.toNat;rw [bH];intro hnm;unfold NM at hnm;obtain ⟨e,he,hd⟩:=cO.1 hnm;obtain ⟨d,hd,hq⟩:=cO.1 hd;rw [aD,decide_eq_true_iff,decide_eq_true_iff] at hq;have hh:=(jq.1 (hf t (by simp))).2.2.2.2;unfold vg at hh;have:=aR.1 (aR.1 hh e he) d hd;unfold sH at this;simp only [dX,aD,decide_eq_true_iff] at this
   rcases this with h|h
   ·exact hne ⟨by omega,by omega⟩
   ·rw [hq.1,hq.2,lT hn] at h
    omega
theorem SY(v:Ints)(l:List fI):kV (jd v (kV v l)) l=[]:=SS fun t ht=>lG (zL.1 ht).2
theorem T9(s:iP)(l:List fI):kV (qE s l).heard l=[]/\qE (qE s l) l=qE s l:=by
 have h:kV (qE s l).heard l=[]:=by
  show kV (Gd s (kV s.heard l)).heard l=[]
  rw [Bt];exact SY _ _
 refine ⟨h,?_⟩
 show Gd (qE s l) (kV (qE s l).heard l)=_
 rw [h]
 rfl
def zo(v:Ints)(x:fK):Bool:=iH x&&decide (x.dot.seq<=iF v x.dot.node)
def Dm(s:iP):Bool:=decide (s.heard.length<=8)&&(decide (trim s.heard=s.heard)&&(s.heard.all (fun n=>decide (n<=1073741824))&&(s.items.all (zo s.heard)&&decide (iG s.items=s.items))))
structure yA(s:iP):Prop where
 len:s.heard.length<=8
 cut:trim s.heard=s.heard
 top:∀ n∈s.heard,n<=1073741824
 form:∀ x∈s.items,iH x=true/\x.dot.seq<=iF s.heard x.dot.node
 norm:iG s.items=s.items
theorem Kn{s:iP}:Dm s=true↔yA s:=by
 unfold Dm zo;simp only [aD,decide_eq_true_iff,aR]
 exact ⟨fun ⟨h1,h2,h3,h4,h5⟩=>⟨h1,h2,h3,h4,h5⟩,fun h=>⟨h.len,h.cut,h.top,h.form,h.norm⟩⟩
theorem ZY{u v:Ints}(h:∀ i,says u i<=says v i)(n:Int):iF u n<=iF v n:=by
 unfold iF
 split
 ·exact h _
 ·exact dD _
theorem Mi{node seq:Int}:∀ {l:List gD} {t:fK},t∈own node seq l ->∃ e∈l,e.kind≠0/\t=lV node seq e
 |[],t,h=>absurd h (by simp [own,FY])
 |e::l,t,h=>by
  rw [yR,bA] at h
  rcases h with h|h
  ·have:=zW.1 (iX.1 h).1
   exact ⟨e,dV,this.1,this.2⟩
  ·obtain ⟨e2,h2,h3⟩:=Mi h
   exact ⟨e2,bY _ h2,h3⟩
theorem Mj{i:List fK}{t:fI}{x:fK}(h:x∈qw i t):x∈i\/∃ e∈t.effs,e.kind≠0/\x=lV t.node t.seq e:=by
 unfold qw at h
 by_cases h0:t.effs=[]
 ·rw [h0,WQ] at h;exact .inl h
 ·rw [Ea _ _ _ _ h0] at h
  have:=(jy.1 h).1;rw [uO,bA] at this;exact this.imp (fun k=>(iX.1 k).1) Mi
theorem Mk{t:fI}(h:fQ t=true)(i:List fK):(qw i t).length<=i.length+8:=by
 have h1:=Gm t.node t.seq t.effs i;have h2:=(jq.1 h).2.2.1
 show (FW _ _ _ _).length<=_
 omega
theorem VR{t:fI}{i:List fK}(h:iG i=i):iG (qw i t)=qw i t:=by
 unfold qw
 by_cases h0:t.effs=[]
 ·rw [h0,WQ];exact h
 ·exact I6 _ _ _ _ h0
theorem aac{v:Ints}{t:fI}(hv:v.length<=8)(h:oC t=true):(gZ v t).length<=8:=by
 unfold gZ;rw [if_pos h];have:=qg (uP v t.node.toNat t.seq) (max v.length (t.node.toNat+1));have:=(jl.1 h).1;unfold CQ;omega
theorem aad{v:Ints}{t:fI}(hv:∀ n∈v,n<=1073741824)(h:oC t=true):∀ n∈gZ v t,n<=1073741824:=by
 intro n hn;obtain ⟨j,hj,rfl⟩:=dJ.1 hn;have e:(gZ v t)[j]=(gZ v t).getD j 0:=by simp [List.getD,List.getElem?_eq_getElem hj]
 have h1:(gZ v t).getD j 0<=says (gZ v t) j:=by unfold says;omega
 rw [e];refine dG h1 ?_;rw [jQ]
 split
 ·exact (jl.1 h).2.2
 ·unfold says
  by_cases hl:j<v.length
  ·have:=hv v[j] (aU hl)
   have e2:v.getD j 0=v[j]:=by simp [List.getD,List.getElem?_eq_getElem hl]
   omega
  ·have:v.getD j 0=0:=by simp [List.getD,List.getElem?_eq_none (show v.length<=j by omega)]
   omega
theorem S9{s:iP}{t:fI}(h:yA s)(hf:fQ t=true)(hr:gY s.heard t=true):yA (sDo s t):=by
 have hv:=lG hf;refine ⟨aac h.len hv,pz (oO _) (Fq _ _) (fun i=>qD _ i),aad h.top hv,fun x hx=> ?_,VR h.norm⟩
 rcases Mj hx with k|⟨e,he,hk,rfl⟩
 ·obtain ⟨h1,h2⟩:=h.form x k
  exact ⟨h1,dG h2 (ZY (zm hr) _)⟩
 ·refine ⟨?_,?_⟩
  ·have h4:=(jq.1 hf).2.2.2.1
   unfold nN at h4;rw [aD] at h4;have h5:=aR.1 h4.1 e he;unfold iD yT at h5;rw [if_neg hk,aD,aD] at h5;exact h5.2.2
  ·show t.seq<=iF (gZ s.heard t) t.node
   rw [lT (jl.1 hv).1.1,jQ,if_pos ⟨hv,rfl⟩];exact dD _
theorem JH:∀ {a:List fI} {s:iP},yA s ->gX s.heard a=true ->(∀ t∈a,fQ t=true) ->yA (Gd s a)/\(Gd s a).items.length<=s.items.length+8*a.length
 |[],s,h,_,_=>⟨h,ah _⟩
 |t::a,s,h,hc,hf=>by
  have hc':=jk.1 hc;have hft:=hf t (by simp);obtain ⟨h1,h2⟩:=JH (a:=a) (S9 h hft hc'.1) hc'.2 fun u hu=>hf u (by simp [hu])
  refine ⟨h1,?_⟩;have h3:=Mk hft s.items
  show (Gd (sDo s t) a).items.length<=s.items.length+8*(a.length+1)
  have h4:(sDo s t).items.length<=s.items.length+8:=h3;omega
theorem TY{s:iP}(l:List fI)(h:yA s):yA (qE s l)/\(qE s l).items.length<=s.items.length+8*(kV s.heard l).length:=
 JH h (uK _ _) fun t ht=>sM ht
def ku(a:List fI):List fK:=a.flatMap fun t=>FW t.node t.seq [] t.effs
def iL(a:List fI):List gB:=a.flatMap fun t=>gN t.effs
def nW(i:List fK)(a:List fI):List fK:=if ku a=[]/\iL a=[] then i else iG (gH (i++ku a) (iL a))
theorem JA(t:fI)(a:List fI):ku (t::a)=FW t.node t.seq [] t.effs++ku a:=List.flatMap_cons
theorem Fh(t:fI)(a:List fI):iL (t::a)=gN t.effs++iL a:=List.flatMap_cons
theorem OT(a b:List fI):ku (a++b)=ku a++ku b:=List.flatMap_append
theorem Kg(a b:List fI):iL (a++b)=iL a++iL b:=List.flatMap_append
theorem VI(a:List fI)(t:fI):ku (a++[t])=ku a++FW t.node t.seq [] t.effs:=by rw [OT];unfold ku;simp
theorem Sv(a:List fI)(t:fI):iL (a++[t])=iL a++gN t.effs:=by rw [Kg];unfold iL;simp
theorem Ta{node seq:Int}:∀ {l:List gD},l.Pairwise (fun a b=>a.pos<b.pos) ->(∀ e∈l,Ls node seq e=true) ->∀ x∈own node seq l,x.dot∉gN l
 |[],_,_,x,hx=>absurd hx (by simp [own,FY])
 |e::l,hp,hq,x,hx=>by
  obtain ⟨h1,h2⟩:=List.pairwise_cons.1 hp;have past:∀ f:gD,e.pos<=f.pos ->(lV node seq f).dot∉e.drops:=fun f hf hd=>by
   have:=hq e (by simp);unfold Ls at this;have:=aR.1 this _ hd;simp [lV,hf] at this
  rw [yR,bA,iX,zW] at hx;intro hd;have hd:x.dot∈e.drops\/x.dot∈gN l:=by
   unfold gN at hd ⊢
   rwa [List.flatMap_cons,bA] at hd
  rcases hx with ⟨⟨-,rfl⟩,h⟩|h
  ·exact hd.elim (past e (dD _)) h
  ·rcases hd with hd|hd
   ·obtain ⟨f,hf,rfl⟩:=Cm h
    exact past f (Int.le_of_lt (h1 f hf)) hd
   ·exact Ta h2 (fun e he=>hq e (by simp [he])) x h hd
theorem Tc{t:fI}(h:fQ t=true):∀ x∈own t.node t.seq t.effs,x.dot∉gN t.effs:=by
 have hr:=(jq.1 h).2.2.2.1;refine Ta (Q0 hr) fun e he=> ?_
 unfold nN at hr;rw [aD,aD] at hr;exact aR.1 hr.2.2 e he
theorem made_mem{t:fI}{x:fK}(h:x∈FW t.node t.seq [] t.effs):x∈own t.node t.seq t.effs:=by
 by_cases h0:t.effs=[]
 ·rw [h0] at h;exact absurd h (by simp [FW])
 ·rw [Ea _ _ _ _ h0,uO] at h
  have:=(jy.1 h).1;rw [bA] at this;exact this.elim (fun k=>absurd (iX.1 k).1 (by simp)) id
theorem Mg{a:List fI}{x:fK}(h:x∈ku a):∃ u∈a,x∈own u.node u.seq u.effs:=by
 obtain ⟨u,hu,hx⟩:=List.mem_flatMap.1 h;exact ⟨u,hu,made_mem hx⟩
theorem aae{t:fI}(h:fQ t=true)(h0:t.effs≠[]):¬ (FW t.node t.seq [] t.effs=[]/\gN t.effs=[]):=by
 rintro ⟨h1,h2⟩;obtain ⟨e,he⟩:=List.exists_mem_of_ne_nil _ h0;have hd:∀ e∈t.effs,e.drops=[]:=fun e he=>List.eq_nil_iff_forall_not_mem.2 fun d hd=>by
  have:d∈gN t.effs:=yS.2 ⟨e,he,hd⟩;rw [h2] at this;exact absurd this (by simp)
 have hr:=(jq.1 h).2.2.2.1;unfold nN at hr;rw [aD] at hr;have hk:∀ e∈t.effs,e.kind≠0:=fun e he hz=>by
  have h5:=aR.1 hr.1 e he;unfold iD yT at h5;rw [if_pos hz,hd e he] at h5;simp at h5
 have hown:∀ l:List gD,(∀ e∈l,e.drops=[]) ->∀ e∈l,e.kind≠0 ->lV t.node t.seq e∈own t.node t.seq l:=by
  intro l
  induction l with
  |nil=>intro _ e he;exact absurd he (by simp)
  |cons f l ih=>
   intro hl e he hke;rw [yR,bA];have hn:gN l=[]:=List.eq_nil_iff_forall_not_mem.2 fun d hd=>by
    obtain ⟨g,hg,hgd⟩:=yS.1 hd;rw [hl g (by simp [hg])] at hgd;exact absurd hgd (by simp)
   rcases bL.1 he with rfl|he
   ·exact .inl (by rw [hn,uW];exact zW.2 ⟨hke,rfl⟩)
   ·exact .inr (ih (fun g hg=>hl g (by simp [hg])) e he hke)
 have hm:=hown t.effs hd e he (hk e he);rw [Ea _ _ _ _ h0,uO] at h1;obtain ⟨m,hm2,-⟩:=QY (gH [] (gN t.effs)++own t.node t.seq t.effs) _ (bA.2 (.inr hm));rw [h1] at hm2;exact absurd hm2 (by simp)
theorem OV{v:Ints}{t u:fI}{a:List fI}(hc:gX v (t::a)=true)(ht:fQ t=true)(hu:u∈a)(hf:fQ u=true):¬ (t.node=u.node/\t.seq=u.seq):=by
 rintro ⟨e1,e2⟩;have hc':=jk.1 hc;have hv:=lG ht;have hn:=(jl.1 (lG hf)).1.1;have h1:=xI hc'.2 hu hn;rw [jQ,if_pos ⟨hv,by rw [e1]⟩] at h1;omega
theorem JI:∀ {a:List fI} {v:Ints} (i:List fK),gX v a=true ->(∀ t∈a,fQ t=true) ->a.foldl qw i=nW i a
 |[],_,i,_,_=>by unfold nW;rw [if_pos ⟨rfl,rfl⟩];rfl
 |t::a,v,i,hc,hf=>by
  have hc':=jk.1 hc;have hft:=hf t (by simp);have hfa:∀ u∈a,fQ u=true:=fun u hu=>hf u (by simp [hu])
  show a.foldl qw (qw i t)=nW i (t::a)
  rw [JI (qw i t) hc'.2 hfa];unfold nW;rw [JA,Fh]
  by_cases h0:t.effs=[]
  ·have e1:qw i t=i:=by unfold qw;rw [h0];rfl
   have e2:FW t.node t.seq [] t.effs=[]:=by rw [h0];rfl
   have e3:gN t.effs=[]:=by rw [h0];rfl
   rw [e1,e2,e3,bJ,bJ]
  ·have hno:=aae hft h0
   rw [if_neg (c:=_/\_) (fun h=>hno ⟨(List.append_eq_nil_iff.1 h.1).1,(List.append_eq_nil_iff.1 h.2).1⟩)];have eS:qw i t=iG (gH i (gN t.effs)++own t.node t.seq t.effs):=by
    unfold qw;rw [Ea _ _ _ _ h0,uO]
   have eM:FW t.node t.seq [] t.effs=iG (own t.node t.seq t.effs):=by
    rw [Ea _ _ _ _ h0,uO]
    rfl
   have hown:=Tc hft;have hM:∀ x∈ku a,x.dot∉gN t.effs:=fun x hx hd=>by
    obtain ⟨u,hu,hxu⟩:=Mg hx;have hne:=OV hc hft hu (hfa u hu);have hnm:=Db (x:=t) (y:=u) hc hf hne (List.Sublist.cons_cons _ (List.singleton_sublist.2 hu));obtain ⟨e,-,rfl⟩:=Cm hxu;exact names_no hnm hd ⟨rfl,rfl⟩
   have main:iG (gH (qw i t++ku a) (iL a))=iG (gH (i++(FW t.node t.seq [] t.effs++ku a)) (gN t.effs++iL a)):=by
    have eR:iG (gH (i++(FW t.node t.seq [] t.effs++ku a)) (gN t.effs++iL a))=iG (iG (gH (own t.node t.seq t.effs) (gN t.effs++iL a))++(gH i (gN t.effs++iL a)++gH (ku a) (gN t.effs++iL a))):=by
     rw [eM,<-tZ (own t.node t.seq t.effs) (gN t.effs++iL a)];refine DV fun x=> ?_
     simp only [bA,iX]
     constructor
     ·rintro ⟨p|p|p,q⟩
      ·exact .inr (.inl ⟨p,q⟩)
      ·exact .inl ⟨p,q⟩
      ·exact .inr (.inr ⟨p,q⟩)
     ·rintro (⟨p,q⟩|⟨p,q⟩|⟨p,q⟩)
      ·exact ⟨.inr (.inl p),q⟩
      ·exact ⟨.inl p,q⟩
      ·exact ⟨.inr (.inr p),q⟩
    rw [eR,IZ,xS,eS,tZ,IZ];refine DV fun x=> ?_
    simp only [bA,iX]
    constructor
    ·rintro (⟨⟨p,q⟩|p,r⟩|⟨p,r⟩)
     ·exact .inr (.inl ⟨p,fun k=>k.elim q r⟩)
     ·exact .inl ⟨p,fun k=>k.elim (hown x p) r⟩
     ·exact .inr (.inr ⟨p,fun k=>k.elim (hM x p) r⟩)
    ·rintro (⟨p,q⟩|⟨p,q⟩|⟨p,q⟩)
     ·exact .inl ⟨.inr p,fun k=>q (.inr k)⟩
     ·exact .inl ⟨.inl ⟨p,fun k=>q (.inl k)⟩,fun k=>q (.inr k)⟩
     ·exact .inr ⟨p,fun k=>q (.inr k)⟩
   rw [<-main]
   split
   ·rename_i hz
    rw [hz.1,hz.2,uW,aV,eS,ER]
   ·rfl
theorem Uf(s:iP)(l:List fI):(qE s l).items=nW s.items (kV s.heard l):=by
 unfold qE;rw [JG];exact JI _ (uK _ _) fun t ht=>sM ht
theorem Ho(s:iP)(l:List fI):(qE s l).heard=jd s.heard (kV s.heard l):=Bt _ _
theorem OO{i:List fK}{a:List fI}(h1:(ku a).length=0)(h2:(iL a).length=0):nW i a=i:=by
 unfold nW;rw [if_pos ⟨aK h1,aK h2⟩]
theorem OP{i:List fK}{a:List fI}(h:(ku a).length≠0\/(iL a).length≠0):nW i a=iG (gH (i++ku a) (iL a)):=by
 unfold nW;rw [if_neg];rintro ⟨h1,h2⟩;rw [h1,h2] at h;simp at h
theorem sEnd_len{s:iP}:∀ {a:List fI},(∀ t∈a,fQ t=true) ->(Gd s a).items.length<=s.items.length+8*a.length:=by
 intro a
 induction a generalizing s with
 |nil=>intro _;exact ah _
 |cons t a ih=>
  intro h;have h1:=ih (s:=sDo s t) fun u hu=>h u (by simp [hu])
  have h2:=Mk (h t (by simp)) s.items;have h3:(sDo s t).items.length<=s.items.length+8:=h2
  show (Gd (sDo s t) a).items.length<=s.items.length+8*(a.length+1)
  omega
theorem sAll_len(s:iP)(l:List fI):(qE s l).items.length<=s.items.length+8*l.length:=by
 have h1:=sEnd_len (s:=s) (a:=kV s.heard l) fun t ht=>sM ht
 have h2:=Dq s.heard l;unfold qE;omega
theorem aaf{i:List fK}{t:fI}{x:fK}(h:x∈qw i t):x∈i\/∃ e∈t.effs,x=lV t.node t.seq e:=(Mj h).imp id fun ⟨e,he,_,hx⟩=>⟨e,he,hx⟩
theorem sEnd_mem{s:iP}{x:fK}:∀ {a:List fI},x∈(Gd s a).items ->x∈s.items\/∃ t∈a,∃ e∈t.effs,x=lV t.node t.seq e:=by
 intro a
 induction a generalizing s with
 |nil=>exact .inl
 |cons t a ih=>
  intro h
  rcases ih (s:=sDo s t) h with k|⟨u,hu,k⟩
  ·exact (aaf k).imp id fun k=>⟨t,by simp,k⟩
  ·exact .inr ⟨u,by simp [hu],k⟩
theorem sAll_mem{s:iP}{l:List fI}{x:fK}(h:x∈(qE s l).items):x∈s.items\/∃ t∈l,∃ e∈t.effs,x=lV t.node t.seq e:=
 (sEnd_mem h).imp id fun ⟨t,ht,k⟩=>⟨t,Hy ht,k⟩
end Go.Proofs.YtfgcodcablpdcaaGreat.Plain