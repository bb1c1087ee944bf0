import Derived.Lib.Bytealg
import Derived.Lib.Small
set_option linter.unusedVariables false
namespace Go.Proofs.Ytmknpmamkjjiaaa.Plain
abbrev bL:=List UInt8
theorem lt_irrefl(a:bL):¬ a<a:=List.lt_irrefl a
theorem lt_trans{a b c:bL}(h:a<b)(g:b<c):a<c:=List.lt_trans h g
theorem lt_asymm{a b:bL}(h:a<b):¬ b<a:=fun g=>lt_irrefl a (lt_trans h g)
theorem vO{a b:bL}(h:¬ a<b)(g:a≠b):b<a:=by
 rcases Classical.em (b<a) with k|k
 ·exact k
 ·exact absurd (List.le_antisymm (List.not_lt.1 k) (List.not_lt.1 h)) g
def cK(l:List bL):Prop:=l.Pairwise (· < ·)
theorem cK.tail{x:bL}{l:List bL}(h:cK (x::l)):cK l:=(List.pairwise_cons.1 h).2
theorem cK.head{x:bL}{l:List bL}(h:cK (x::l)):∀ y∈l,x<y:=(List.pairwise_cons.1 h).1
theorem cK.filter{l:List bL}(h:cK l)(p:bL ->Bool):cK (l.filter p):=List.Pairwise.filter p h
theorem fP:∀ {a b:List bL},cK a ->cK b ->(∀ t,t∈a↔t∈b) ->a=b
 |[],[],_,_,_=>rfl
 |[],y::b,_,_,h=>absurd ((h y).2 List.mem_cons_self) (by simp)
 |x::a,[],_,_,h=>absurd ((h x).1 List.mem_cons_self) (by simp)
 |x::a,y::b,ha,hb,h=>by
  have hx:=(h x).1 List.mem_cons_self;have hy:=(h y).2 List.mem_cons_self;have e:x=y:=by
   rcases List.mem_cons.1 hx with rfl|hx
   ·rfl
   ·rcases List.mem_cons.1 hy with rfl|hy
    ·rfl
    ·exact absurd (ha.head y hy) (lt_asymm (hb.head x hx))
  subst e;have ht:a=b:=by
   refine fP ha.tail hb.tail fun t=>⟨fun ht=> ?_,fun ht=> ?_⟩
   ·rcases List.mem_cons.1 ((h t).1 (List.mem_cons_of_mem _ ht)) with rfl|g
    ·exact absurd (ha.head t ht) (lt_irrefl t)
    ·exact g
   ·rcases List.mem_cons.1 ((h t).2 (List.mem_cons_of_mem _ ht)) with rfl|g
    ·exact absurd (hb.head t ht) (lt_irrefl t)
    ·exact g
  rw [ht]
def ins(x:bL):List bL ->List bL
 |[]=>[x]
 |y::l=>if x<y then x::y::l else if x=y then y::l else y::ins x l
def once:List bL ->List bL
 |[]=>[]
 |x::l=>ins x (once l)
theorem nR(x t:bL):∀ l,t∈ins x l↔t=x\/t∈l
 |[]=>by simp [ins]
 |y::l=>by
  unfold ins
  split
  ·simp
  ·split
   ·rename_i e
    subst e;simp
   ·rw [List.mem_cons,nR x t l,List.mem_cons]
    constructor
    ·rintro (h|h|h)<;>simp [h]
    ·rintro (h|h|h)<;>simp [h]
theorem kL(x:bL):∀ {l},cK l ->cK (ins x l)
 |[],_=>List.pairwise_cons.2 ⟨fun _ h=>absurd h (by simp),List.Pairwise.nil⟩
 |y::l,h=>by
  unfold ins
  split
  ·rename_i g
   refine List.pairwise_cons.2 ⟨fun t ht=> ?_,h⟩
   rcases List.mem_cons.1 ht with rfl|ht
   ·exact g
   ·exact lt_trans g (h.head t ht)
  ·rename_i g
   split
   ·exact h
   ·rename_i e
    refine List.pairwise_cons.2 ⟨fun t ht=> ?_,kL x h.tail⟩
    rcases (nR x t l).1 ht with rfl|ht
    ·exact vO g e
    ·exact h.head t ht
theorem dN(t:bL):∀ l,t∈once l↔t∈l
 |[]=>by simp [once]
 |x::l=>by rw [once,nR,dN t l,List.mem_cons]
theorem cu:∀ l,cK (once l)
 |[]=>List.Pairwise.nil
 |x::l=>kL x (cu l)
theorem pW{a b:List bL}(h:∀ t,t∈a↔t∈b):once a=once b:=fP (cu a) (cu b) fun t=>by rw [dN,dN,h]
theorem sS(x:bL):∀ l,(ins x l).length<=l.length+1
 |[]=>by simp [ins]
 |y::l=>by
  have:=sS x l;unfold ins
  split
  ·simp
  ·split<;>simp<;>omega
theorem fQ:∀ l,(once l).length<=l.length
 |[]=>by simp [once]
 |x::l=>by
  have:=sS x (once l);have:=fQ l;rw [once,List.length_cons];omega
def jP(s p:bL):Bool:=p.isPrefixOf s
theorem dO{s p:bL}:jP s p=true↔p<+:s:=by unfold jP;exact List.isPrefixOf_iff_prefix
theorem jf(s:bL):jP s s=true:=dO.2 (List.prefix_refl s)
theorem mM{a b c:bL}(h:jP a b=true)(g:jP b c=true):jP a c=true:=dO.2 ((dO.1 g).trans (dO.1 h))
def covers(z:List bL)(k:bL):Bool:=z.any fun p=>jP k p
theorem eB{z:List bL}{k:bL}:covers z k=true↔∃ p∈z,jP k p=true:=by unfold covers;exact List.any_eq_true
theorem pX{z:List bL}{s:bL}(h:s∈z):covers z s=true:=eB.2 ⟨s,h,jf s⟩
def eD(c:UInt8):Bool:=c==47||(48<=c&&c<=57)||(97<=c&&c<=122)
def bZ(s:bL):Bool:=s.all eD&&decide (s.length<=16)
def iU(s:bL):Bool:=decide (0<s.length)&&bZ s
def nS(z:List bL):Prop:=∀ s∈z,∀ t∈z,jP s t=true ->t=s
def alone(l:List bL)(s:bL):Bool:=l.all fun t=>t==s|| !jP s t
theorem fK{l:List bL}{s:bL}:alone l s=true↔∀ t∈l,jP s t=true ->t=s:=by
 unfold alone;rw [List.all_eq_true]
 constructor
 ·intro h t ht hb
  have:=h t ht
  simpa [hb] using this
 ·intro h t ht
  by_cases hb:jP s t=true
  ·simp [h t ht hb]
  ·simp [hb]
def least(l:List bL):List bL:=once (l.filter (alone l))
theorem eY{l:List bL}{s:bL}:s∈least l↔s∈l/\∀ t∈l,jP s t=true ->t=s:=by
 unfold least;rw [dN,List.mem_filter,fK]
theorem jQ(l:List bL):∀ n (s:bL),s.length<=n ->s∈l ->∃ t∈least l,jP s t=true:=by
 intro n
 induction n with
 |zero=>
  intro s hn hs;obtain rfl:s=[]:=List.eq_nil_of_length_eq_zero (by omega);refine ⟨[],eY.2 ⟨hs,fun t _ hb=> ?_⟩,jf _⟩;have:=(dO.1 hb).length_le;exact List.eq_nil_of_length_eq_zero (by simpa using this)
 |succ n ih=>
  intro s hn hs
  by_cases h:∀ t∈l,jP s t=true ->t=s
  ·exact ⟨s,eY.2 ⟨hs,h⟩,jf s⟩
  ·have:∃ t,t∈l/\jP s t=true/\t≠s:=Classical.byContradiction fun hno=>h fun t ht hb=>Classical.byContradiction fun hne=>hno ⟨t,ht,hb,hne⟩
   obtain ⟨t,ht,hb,hne⟩:=this;have hlt:t.length<s.length:=by
    have:=(dO.1 hb).length_le
    rcases Nat.lt_or_ge t.length s.length with g|g
    ·exact g
    ·exact absurd (List.IsPrefix.eq_of_length (dO.1 hb) (by omega)) hne
   obtain ⟨u,hu,hbu⟩:=ih t (by omega) ht;exact ⟨u,hu,mM hb hbu⟩
theorem nT(l:List bL)(k:bL):covers (least l) k=covers l k:=by
 rw [Bool.eq_iff_iff,eB,eB]
 constructor
 ·rintro ⟨p,hp,hb⟩
  exact ⟨p,(eY.1 hp).1,hb⟩
 ·rintro ⟨p,hp,hb⟩
  obtain ⟨t,ht,hbt⟩:=jQ l p.length p (Nat.le_refl _) hp;exact ⟨t,ht,mM hb hbt⟩
theorem pY(l:List bL):nS (least l):=fun s hs t ht hb=>(eY.1 hs).2 t (eY.1 ht).1 hb
theorem uq(l:List bL):(least l).length<=l.length:=by
 unfold least;have:=fQ (l.filter (alone l));have:=List.length_filter_le (alone l) l;omega
def without(a b:List bL):List bL:=once (a.filter fun s=> !covers b s)
theorem jR{a b:List bL}{s:bL}:s∈without a b↔s∈a/\covers b s=false:=by
 unfold without;rw [dN,List.mem_filter];simp
theorem pU(a b:List bL):(without a b).length<=a.length:=by
 unfold without;have:=fQ (a.filter fun s=> !covers b s);have:=List.length_filter_le (fun s=> !covers b s) a;omega
structure xM{α:Type}(r:α ->α ->Prop):Prop where
 irrefl:∀ a,¬ r a a
 trans:∀ {a b c},r a b ->r b c ->r a c
 conn:∀ {a b},¬ r a b ->¬ r b a ->a=b
section
variable {α:Type} {r:α ->α ->Prop}
theorem xM.total(S:xM r){a b:α}(h:¬ r a b)(g:a≠b):r b a:=Classical.byContradiction fun k=>g (S.conn h k)
def rU(r:α ->α ->Prop)(l:List α):Prop:=l.Pairwise r
theorem rU.tail{x:α}{l:List α}(h:rU r (x::l)):rU r l:=(List.pairwise_cons.1 h).2
theorem rU.head{x:α}{l:List α}(h:rU r (x::l)):∀ y∈l,r x y:=(List.pairwise_cons.1 h).1
theorem rU.filter{l:List α}(h:rU r l)(p:α ->Bool):rU r (l.filter p):=List.Pairwise.filter p h
theorem rU.nodup(S:xM r):∀ {l:List α},rU r l ->l.Nodup
 |[],_=>List.nodup_nil
 |x::l,h=>List.nodup_cons.2 ⟨fun hx=>S.irrefl x (h.head x hx),rU.nodup S h.tail⟩
theorem rU.at{l:List α}(h:rU r l){i j:Nat}{x y:α}(hij:i<j)(hi:l[i]? =some x)(hj:l[j]? =some y):r x y:=by
 obtain ⟨hil,rfl⟩:=List.getElem?_eq_some_iff.1 hi;obtain ⟨hjl,rfl⟩:=List.getElem?_eq_some_iff.1 hj;exact List.pairwise_iff_getElem.1 h i j hil hjl hij
variable [DecidableRel r] [DecidableEq α]
def zU(r:α ->α ->Prop)[DecidableRel r][DecidableEq α](x:α):List α ->List α
 |[]=>[x]
 |y::l=>if r x y then x::y::l else if x=y then y::l else y::zU r x l
def yH(r:α ->α ->Prop)[DecidableRel r][DecidableEq α]:List α ->List α
 |[]=>[]
 |x::l=>zU r x (yH r l)
end
def AJ{α β:Type}(f:α ->β)(lt:β ->β ->Prop)(r:α ->α ->Prop)(a b:α):Prop:=lt (f a) (f b)\/(f a=f b/\r a b)
structure Pre{α:Type}(E:α ->α ->Prop)(r:α ->α ->Prop):Prop where
 irrefl:∀ a,¬ r a a
 trans:∀ {a b c},r a b ->r b c ->r a c
 conn:∀ {a b},¬ r a b ->¬ r b a ->E a b
theorem Pre.last{α β:Type}(f:α ->β){lt:β ->β ->Prop}(S:xM lt):Pre (fun a b=>f a=f b) (fun a b=>lt (f a) (f b)):=⟨fun a=>S.irrefl _,fun h g=>S.trans h g,fun h g=>S.conn h g⟩
theorem Pre.lex{α β:Type}{E:α ->α ->Prop}{r:α ->α ->Prop}(p:Pre E r)(f:α ->β){lt:β ->β ->Prop}(S:xM lt):Pre (fun a b=>f a=f b/\E a b) (AJ f lt r) where
 irrefl a h:=h.elim (S.irrefl _) fun g=>p.irrefl a g.2
 trans:=by
  rintro a b c (h|⟨e,h⟩) (g|⟨e',g⟩)
  ·exact .inl (S.trans h g)
  ·exact .inl (by rw [<-e'];exact h)
  ·exact .inl (by rw [e];exact g)
  ·exact .inr ⟨e.trans e',p.trans h g⟩
 conn:=by
  intro a b h g;have e:f a=f b:=S.conn (fun k=>h (.inl k)) (fun k=>g (.inl k));exact ⟨e,p.conn (fun k=>h (.inr ⟨e,k⟩)) (fun k=>g (.inr ⟨e.symm,k⟩))⟩
theorem Pre.CV{α:Type}{E:α ->α ->Prop}{r:α ->α ->Prop}(p:Pre E r)(h:∀ {a b},E a b ->a=b):xM r:=⟨p.irrefl,p.trans,fun x y=>h (p.conn x y)⟩
theorem jg:xM (fun a b:Int=>a<b):=⟨fun a=>by omega,fun h g=>by omega,fun h g=>by omega⟩
structure bW where
 node:Int
 seq:Int
 pos:Int
structure bI where
 key:bL
 field:bL
 kind:Int
 elem:bL
 n:Int
 dot:bW
theorem kI{a b:bW}(h1:a.node=b.node)(h2:a.seq=b.seq)(h3:a.pos=b.pos):a=b:=by
 cases a;cases b;simp_all
theorem mO{a b:bI}(h1:a.key=b.key)(h2:a.field=b.field)(h3:a.kind=b.kind)(h4:a.elem=b.elem)(h5:a.n=b.n)(h6:a.dot=b.dot):a=b:=by
 cases a;cases b;simp_all
instance:DecidableEq bW:=fun a b=>decidable_of_iff (a.node=b.node/\a.seq=b.seq/\a.pos=b.pos) ⟨fun ⟨h1,h2,h3⟩=>kI h1 h2 h3,fun e=>by subst e;exact ⟨rfl,rfl,rfl⟩⟩
instance:DecidableEq bI:=fun a b=>decidable_of_iff (a.key=b.key/\a.field=b.field/\a.kind=b.kind/\a.elem=b.elem/\a.n=b.n/\a.dot=b.dot) ⟨fun ⟨h1,h2,h3,h4,h5,h6⟩=>mO h1 h2 h3 h4 h5 h6,fun e=>by subst e;exact ⟨rfl,rfl,rfl,rfl,rfl,rfl⟩⟩
instance:Inhabited bW:=⟨⟨0,0,0⟩⟩
instance:Inhabited bI:=⟨⟨[],[],0,[],0,default⟩⟩
theorem nU:xM (fun a b:bL=>a<b):=⟨lt_irrefl,fun h g=>lt_trans h g,fun h g=>List.le_antisymm (List.not_lt.1 g) (List.not_lt.1 h)⟩
def mP(a b:bI):Prop:=
 a.key<b.key\/(a.key=b.key/\(a.field<b.field\/(a.field=b.field/\(a.kind<b.kind\/(a.kind=b.kind/\(a.dot.node<b.dot.node\/(a.dot.node=b.dot.node/\
 (a.dot.seq<b.dot.seq\/(a.dot.seq=b.dot.seq/\(a.dot.pos<b.dot.pos\/(a.dot.pos=b.dot.pos/\(a.elem<b.elem\/(a.elem=b.elem/\a.n<b.n)))))))))))))
instance:DecidableRel mP:=fun a b=>by unfold mP;infer_instance
theorem vP:xM mP:=by
 have h:=(((((((Pre.last (fun x:bI=>x.n) jg).lex (fun x=>x.elem) nU).lex (fun x=>x.dot.pos) jg).lex (fun x=>x.dot.seq) jg).lex (fun x=>x.dot.node) jg).lex (fun x=>x.kind) jg).lex (fun x=>x.field) nU).lex (fun x=>x.key) nU;refine Pre.CV h ?_;rintro a b ⟨h1,h2,h3,h4,h5,h6,h7,h8⟩;exact mO h1 h2 h3 h7 h8 (kI h4 h5 h6)
def zV(a b:bI):Bool:=decide (mP a b)
def xO(l:List bI)(x:bI):Bool:=l.all fun y=> !(decide (y.dot=x.dot)&&zV y x)
def BI(l:List bI):List bI:=yH mP (l.filter (xO l))
def mQ(l:List bI):Prop:=∀ x∈l,∀ y∈l,x.dot=y.dot ->x=y
def vM(dots:List bW)(d:bW):Bool:=dots.any fun e=>decide (e=d)
def vQ(l:List bI)(dots:List bW):List bI:=l.filter fun x=> !vM dots x.dot
def gH(l:List bI)(z:List bL):List bI:=l.filter fun x=>covers z x.key
def eG(l:List bI):List bL:=once (l.map (·.key))
theorem kg(l:List bI)(z:List bL):(gH l z).length<=l.length:=List.length_filter_le _ _
theorem mI(l:List bI):(eG l).length<=l.length:=by
 unfold eG;have:=fQ (l.map (·.key))
 rwa [List.length_map] at this
def dY(d:bW):Bool:=decide (0<=d.node/\d.node<=7/\1<=d.seq/\d.seq<=1073741824/\0<=d.pos/\d.pos<=7)
def gL(x:bI):Bool:=(decide (x.kind=1\/x.kind=2)&&decide (x.n=0))||(decide (x.kind=3)&&decide (x.elem.length=0))
def dL(x:bI):Bool:=dY x.dot&&(iU x.key&&(bZ x.field&&(decide (x.elem.length<=32)&&gL x)))
theorem iV{xs:List bL}{k:Nat}(hk:k<xs.length):xs.getD k []∈xs:=by
 rw [List.getD,List.getElem?_eq_getElem hk];exact List.getElem_mem hk
theorem sU{l:List bL}{t:bL}(h:t∈l):∃ j,j<l.length/\l.getD j []=t:=by
 obtain ⟨j,hj,rfl⟩:=List.getElem_of_mem h;exact ⟨j,hj,by simp [List.getD,List.getElem?_eq_getElem hj]⟩
theorem xP{xs:List bL}{k:Nat}(hk:k<xs.length):xs.take (k+1)=xs.take k++[xs.getD k []]:=by
 rw [List.take_succ_eq_append_getElem hk];simp [List.getD,List.getElem?_eq_getElem hk]
theorem eZ{l:List bL}(h:cK l){i j:Nat}(hij:i<j)(hj:j<l.length):l.getD i []<l.getD j []:=by
 have:=List.pairwise_iff_getElem.1 h i j (by omega) hj hij
 simpa [List.getD,List.getElem?_eq_getElem hj,List.getElem?_eq_getElem (show i<l.length by omega)] using this
theorem mR{s p:bL}(h:jP s p=true):p<s\/p=s:=by
 obtain ⟨r,rfl⟩:=dO.1 h;clear h
 induction p with
 |nil=>cases r with
  |nil=>exact .inr rfl
  |cons a r=>exact .inl (by simp)
 |cons a p ih=>
  rcases ih with h|h
  ·exact .inl (by rw [List.cons_append];exact List.cons_lt_cons_iff.2 (.inr ⟨rfl,h⟩))
  ·exact .inr (by rw [List.cons_append,<-h])
theorem nV:∀ {u v s:bL},jP s u=true ->(u<v\/u=v) ->(v<s\/v=s) ->jP v u=true
 |u,v,s,h,.inr e,_=>by rw [e];exact jf v
 |u,v,s,h,_,.inr e=>by rw [e];exact h
 |[],v,s,h,_,_=>dO.2 (List.nil_prefix)
 |a::u,[],s,h,.inl g,_=>absurd g (by simp)
 |a::u,b::v,[],h,_,.inl g=>absurd g (by simp)
 |a::u,b::v,c::s,h,.inl g,.inl k=>by
  obtain ⟨e,h0⟩:=List.cons_prefix_cons.1 (dO.1 h);have h':=dO.2 h0;subst e
  rcases List.cons_lt_cons_iff.1 g with g1|⟨e1,g1⟩
  ·rcases List.cons_lt_cons_iff.1 k with k1|⟨e2,k1⟩
   ·exact absurd (UInt8.lt_trans g1 k1) (UInt8.lt_irrefl _)
   ·rw [e2] at g1;exact absurd g1 (UInt8.lt_irrefl _)
  ·subst e1
   rcases List.cons_lt_cons_iff.1 k with k1|⟨-,k1⟩
   ·exact absurd k1 (UInt8.lt_irrefl _)
   ·exact dO.2 (List.cons_prefix_cons.2 ⟨rfl,dO.1 (nV h' (.inl g1) (.inl k1))⟩)
def bQ(r:List bL)(k:Nat):List bL:=(r.take k).filter (alone r)
theorem nW{r:List bL}{k:Nat}(hk:k<r.length):bQ r (k+1)=if alone r (r.getD k [])=true then bQ r k++[r.getD k []] else bQ r k:=by
 unfold bQ;rw [xP hk,List.filter_append]
 split
 ·rename_i h
  simp only [List.filter_cons,h,if_true,List.filter_nil]
 ·rename_i h
  rw [List.filter_cons,if_neg h,List.filter_nil,List.append_nil]
theorem jS{r:List bL}{k:Nat}{t:bL}(h:t∈bQ r k):t∈r/\alone r t=true/\∃ j,j<k/\j<r.length/\r.getD j []=t:=by
 obtain ⟨h1,h2⟩:=List.mem_filter.1 h;obtain ⟨j,hj,e⟩:=sU h1;rw [List.length_take] at hj;have e2:(r.take k).getD j []=r.getD j []:=by simp [List.getD,show j<k by omega]
 exact ⟨List.mem_of_mem_take h1,h2,j,by omega,by omega,by rw [<-e2];exact e⟩
theorem rV{r:List bL}(hr:cK r){k:Nat}{t:bL}(ht:t∈r)(ha:alone r t=true)(hlt:t<r.getD k [])(hk:k<r.length):t∈bQ r k:=by
 obtain ⟨j,hj,rfl⟩:=sU ht;have hjk:j<k:=by
  rcases Nat.lt_or_ge j k with g|g
  ·exact g
  ·rcases Nat.lt_or_eq_of_le g with g|g
   ·exact absurd (eZ hr g hj) (lt_asymm hlt)
   ·subst g;exact absurd hlt (lt_irrefl _)
 unfold bQ;refine List.mem_filter.2 ⟨?_,ha⟩;rw [show r.getD j []=(r.take k).getD j [] by simp [List.getD,hjk]];exact iV (by rw [List.length_take];omega)
theorem rW{r:List bL}(hr:cK r){k:Nat}(hk:k<r.length):alone r (r.getD k [])=((bQ r k).length==0|| !jP (r.getD k []) ((bQ r k).getD ((bQ r k).length-1) [])):=by
 generalize hs:r.getD k []=s;generalize hh:bQ r k=H;have hmem:s∈r:=by rw [<-hs];exact iV hk
 have CW:cK H:=by rw [<-hh];exact (List.Pairwise.take hr).filter _
 rw [Bool.eq_iff_iff,Bool.or_eq_true,beq_iff_eq,Bool.not_eq_true']
 constructor
 ·intro ha
  by_cases h0:H.length=0
  ·exact .inl h0
  ·refine .inr ?_
   have hin:H.getD (H.length-1) []∈H:=iV (by omega);generalize H.getD (H.length-1) []=t at hin
   cases hb:jP s t with
   |false=>rfl
   |true=>
    exfalso
    rw [<-hh] at hin;obtain ⟨h1,h2,j,hj,hjl,e⟩:=jS hin;have h3:=fK.1 ha t h1 hb;have:r.getD j []<r.getD k []:=eZ hr hj hk;rw [e,hs,h3] at this;exact lt_irrefl _ this
 ·intro h
  rcases Classical.em (alone r s=true) with ha|ha
  ·exact ha
  ·exfalso
   obtain ⟨u,hu,hbu⟩:=jQ r s.length s (Nat.le_refl _) hmem;obtain ⟨hur,BJ⟩:=eY.1 hu;have hne:u≠s:=by
    rintro rfl;exact ha (fK.2 BJ)
   have CX:u<s:=(mR hbu).resolve_right hne;have AL:u∈H:=by rw [<-hh];exact rV hr hur (fK.2 BJ) (by rw [hs];exact CX) hk
   have hpos:H.length≠0:=by
    intro e;rw [List.eq_nil_of_length_eq_zero e] at AL;simp at AL
   have hf:=h.resolve_left hpos;obtain ⟨i,hi,e⟩:=sU AL;have hin:H.getD (H.length-1) []∈H:=iV (by omega);have huv:u<H.getD (H.length-1) []\/u=H.getD (H.length-1) []:=by
    by_cases e2:i=H.length-1
    ·exact .inr (by rw [<-e,e2])
    ·exact .inl (by rw [<-e];exact eZ CW (by omega) (by omega))
   generalize hv:H.getD (H.length-1) []=v at hin huv hf;rw [<-hh] at hin;obtain ⟨h1,h2,j,hj,hjl,ej⟩:=jS hin;have hvs:v<s:=by rw [<-ej,<-hs];exact eZ hr hj hk
   have hbv:=nV hbu huv (.inl hvs);have:=fK.1 h2 u hur hbv;subst this;rw [hbu] at hf;exact absurd hf (by decide)
theorem uw(l:List bL):bQ (once l) (once l).length=least l:=by
 unfold bQ;rw [List.take_length];refine fP ((cu l).filter _) (cu _) fun t=> ?_
 show _↔t∈least l
 rw [List.mem_filter,fK,eY,dN];exact ⟨fun ⟨p,q⟩=>⟨p,fun u hu=>q u ((dN u l).2 hu)⟩,fun ⟨p,q⟩=>⟨p,fun u hu=>q u ((dN u l).1 hu)⟩⟩
theorem p8(r:List bL)(k:Nat):(bQ r k).length<=r.length:=by
 unfold bQ;have:=List.length_filter_le (alone r) (r.take k);rw [List.length_take] at this;omega
theorem p9{z:List bL}(hr:cK z)(ha:nS z){s:bL}{k:Nat}(hk:k<=z.length)(h1:∀ j,j<k ->z.getD j []<s)(h2:∀ j,k<=j ->j<z.length ->¬ z.getD j []<s):
  covers z s=(decide (k<z.length/\z.getD k []=s)||(decide (0<k)&&jP s (z.getD (k-1) []))):=by
 rw [Bool.eq_iff_iff,Bool.or_eq_true,Bool.and_eq_true,decide_eq_true_iff,decide_eq_true_iff]
 constructor
 ·intro h
  obtain ⟨p,hp,hb⟩:=eB.1 h;obtain ⟨j,hj,rfl⟩:=sU hp
  rcases mR hb with g|g
  ·have hjk:j<k:=by
    rcases Nat.lt_or_ge j k with q|q
    ·exact q
    ·exact absurd g (h2 j q hj)
   refine .inr ⟨by omega,?_⟩;have hv:z.getD (k-1) []<s:=h1 _ (by omega);have hm:z.getD j []<z.getD (k-1) []\/z.getD j []=z.getD (k-1) []:=by
    by_cases e:j=k-1
    ·exact .inr (by rw [e])
    ·exact .inl (eZ hr (by omega) (by omega))
   have hbv:=nV hb hm (.inl hv);have:=ha _ (iV (show k-1<z.length by omega)) _ hp hbv;rw [<-this];exact hb
  ·refine .inl ?_
   by_cases hjk:j<k
   ·have:=h1 j hjk
    rw [g] at this;exact absurd this (lt_irrefl _)
   ·by_cases e:j=k
    ·exact ⟨by omega,by rw [<-e];exact g⟩
    ·have:=eZ hr (show k<j by omega) hj
     rw [g] at this;exact absurd this (h2 k (Nat.le_refl _) (by omega))
 ·rintro (⟨h,e⟩|⟨h,hb⟩)
  ·rw [<-e];exact pX (iV h)
  ·exact eB.2 ⟨_,iV (by omega),hb⟩
theorem parted{z:List bL}(hr:cK z)(s:bL):∃ k,k<=z.length/\(∀ j,j<k ->z.getD j []<s)/\∀ j,k<=j ->j<z.length ->¬ z.getD j []<s:=by
 have key:∀ m,m<=z.length ->∃ k,k<=m/\(∀ j,j<k ->z.getD j []<s)/\∀ j,k<=j ->j<m ->¬ z.getD j []<s:=by
  intro m
  induction m with
  |zero=>intro _;exact ⟨0,Nat.le_refl _,fun j hj=>absurd hj (Nat.not_lt_zero _),fun j _ hj=>absurd hj (Nat.not_lt_zero _)⟩
  |succ m ih=>
   intro hm;obtain ⟨k,hk,h1,h2⟩:=ih (by omega)
   by_cases g:z.getD m []<s
   ·have hkm:k=m:=by
     rcases Nat.lt_or_ge k m with q|q
     ·exact absurd (lt_trans (eZ hr q (by omega)) g) (h2 k (Nat.le_refl _) q)
     ·omega
    subst hkm;refine ⟨k+1,Nat.le_refl _,fun j hj=> ?_,fun j hj hj2=>by omega⟩
    by_cases e:j=k
    ·rw [e];exact g
    ·exact h1 j (by omega)
   ·refine ⟨k,by omega,h1,fun j hj hj2=> ?_⟩
    by_cases e:j=m
    ·rw [e];exact g
    ·exact h2 j hj (by omega)
 exact key _ (Nat.le_refl _)
def zW(z:List bL):Bool:=(List.range 256).all fun b=> !eD (UInt8.ofNat b)||covers z [UInt8.ofNat b]
theorem mU:∀ {a b:List bL},a.Nodup ->(∀ t∈a,t∈b) ->a.length<=b.length
 |[],_,_,_=>Nat.zero_le _
 |x::a,b,hn,hs=>by
  have hx:x∈b:=hs x List.mem_cons_self;have hn':=List.nodup_cons.1 hn;have:=mU (a:=a) (b:=b.erase x) hn'.2 fun t ht=>(List.mem_erase_of_ne (by rintro rfl;exact hn'.1 ht)).2 (hs t (List.mem_cons_of_mem _ ht))
  rw [List.length_erase_of_mem hx] at this;have:=List.length_pos_of_mem hx;rw [List.length_cons];omega
def ones:List bL:=((List.range 256).filter fun b=>eD (UInt8.ofNat b)).map fun b=>[UInt8.ofNat b]
theorem vR:ones.length=37:=by decide+kernel
theorem rX:ones.Nodup:=by decide+kernel
theorem all_nil{z:List bL}(hl:z.length<=36)(h:zW z=true):[]∈z:=by
 rcases Classical.em ([]∈z) with g|g
 ·exact g
 ·exfalso
  have hs:∀ t∈ones,t∈z:=by
   intro t ht;obtain ⟨b,hb,rfl⟩:=List.mem_map.1 ht;obtain ⟨hb1,hb2⟩:=List.mem_filter.1 hb;unfold zW at h;rw [List.all_eq_true] at h;have hc:=h b hb1;rw [hb2] at hc;obtain ⟨p,hp,hbp⟩:=eB.1 (by simpa using hc);have hle:=(dO.1 hbp).length_le
   cases p with
   |nil=>exact absurd hp g
   |cons c p=>
    have:c::p=[UInt8.ofNat b]:=List.IsPrefix.eq_of_length (dO.1 hbp) (by simp at hle ⊢;exact hle);rw [<-this];exact hp
  have:=mU rX hs;rw [vR] at this;omega
def dH:List Int ->Int
 |[]=>0
 |x::l=>if x=0 then dH l else x
theorem jD(x y:Int):(Lib.compareInt x y<0↔x<y)/\(Lib.compareInt x y=0↔x=y):=by
 unfold Lib.compareInt
 split
 ·refine ⟨⟨fun _=>by omega,fun _=>by decide⟩,⟨fun e=>absurd e (by decide),fun e=>by omega⟩⟩
 ·split
  ·refine ⟨⟨fun e=>absurd e (by decide),fun e=>by omega⟩,⟨fun e=>absurd e (by decide),fun e=>by omega⟩⟩
  ·refine ⟨⟨fun e=>absurd e (by decide),fun e=>by omega⟩,⟨fun e=>by omega,fun e=>rfl⟩⟩
theorem jh{c:Int}{l:List Int}{lt eq r:Prop}(h:(c<0↔lt)/\(c=0↔eq))(hr:dH l<0↔r):dH (c::l)<0↔lt\/(eq/\r):=by
 rw [dH]
 by_cases e:c=0
 ·rw [if_pos e,hr]
  have hl:¬ lt:=fun k=>by have:=h.1.2 k;omega
  exact ⟨fun k=> .inr ⟨h.2.1 e,k⟩,fun k=>k.elim (fun k=>absurd k hl) fun k=>k.2⟩
 ·rw [if_neg e,h.1]
  exact ⟨.inl,fun k=>k.elim id fun k=>absurd (h.2.2 k.1) e⟩
theorem nX{c:Int}{lt eq:Prop}(h:(c<0↔lt)/\(c=0↔eq)):dH [c]<0↔lt:=by
 rw [dH,dH]
 split
 ·rename_i e
  rw [<-h.1,e]
 ·exact h.1
section
variable {α:Type} [Inhabited α]
def dF(f:Nat ->Bool)(xs:List α):Nat ->List α
 |0=>[]
 |k+1=>if f k then dF f xs k++[xs.getD k default] else dF f xs k
theorem mF{f:Nat ->Bool}{xs:List α}{k:Nat}(h:f k=true):dF f xs (k+1)=dF f xs k++[xs.getD k default]:=by rw [dF,if_pos h]
theorem pq{f:Nat ->Bool}{xs:List α}{k:Nat}(h:f k=false):dF f xs (k+1)=dF f xs k:=by rw [dF,if_neg (by rw [h];decide)]
theorem jC(f:Nat ->Bool)(xs:List α):∀ k,(dF f xs k).length<=k
 |0=>Nat.le_refl _
 |k+1=>by
  have:=jC f xs k;rw [dF]
  split
  ·rw [List.length_append];simp;omega
  ·omega
theorem iP{xs:List α}{k:Nat}(hk:k<xs.length):xs.take (k+1)=xs.take k++[xs.getD k default]:=by
 rw [List.take_succ_eq_append_getElem hk];simp [List.getD,List.getElem?_eq_getElem hk]
theorem kM(p:α ->Bool)(xs:List α):∀ k,k<=xs.length ->dF (fun j=>p (xs.getD j default)) xs k=(xs.take k).filter p
 |0,_=>by simp [dF]
 |k+1,h=>by
  rw [dF,kM p xs k (by omega),iP (by omega),List.filter_append]
  split
  ·rename_i e;rw [List.filter_cons,if_pos e,List.filter_nil]
  ·rename_i e;rw [List.filter_cons,if_neg e,List.filter_nil,List.append_nil]
theorem mJ(p:α ->Bool)(xs:List α):dF (fun j=>p (xs.getD j default)) xs xs.length=xs.filter p:=by
 rw [kM p xs _ (Nat.le_refl _),List.take_length]
theorem kK{f g:Nat ->Bool}(xs:List α):∀ k,(∀ j,j<k ->f j=g j) ->dF f xs k=dF g xs k
 |0,_=>rfl
 |k+1,h=>by rw [dF,dF,kK xs k (fun j hj=>h j (by omega)),h k (by omega)]
end
def iT(xs:List bI)(k:Nat):Bool:=decide (k=0)|| !decide ((xs.getD k default).key=(xs.getD (k-1) default).key)
def cZ(xs:List bI):Nat ->List bL
 |0=>[]
 |k+1=>if iT xs k then cZ xs k++[(xs.getD k default).key] else cZ xs k
theorem nP{xs:List bI}{k:Nat}(h:iT xs k=true):cZ xs (k+1)=cZ xs k++[(xs.getD k default).key]:=by rw [cZ,if_pos h]
theorem pO{xs:List bI}{k:Nat}(h:iT xs k=false):cZ xs (k+1)=cZ xs k:=by rw [cZ,if_neg (by rw [h];decide)]
theorem gK(xs:List bI):∀ k,(cZ xs k).length<=k
 |0=>Nat.le_refl _
 |k+1=>by
  have:=gK xs k;rw [cZ]
  split
  ·rw [List.length_append];simp;omega
  ·omega
theorem ji(xs:List bI):∀ k,k<=xs.length ->∀ t,t∈cZ xs k↔t∈(xs.take k).map (·.key)
 |0,_,t=>by simp [cZ]
 |k+1,h,t=>by
  have ih:=ji xs k (by omega) t;rw [iP (by omega),List.map_append,List.mem_append,cZ]
  split
  ·rw [List.mem_append,ih];rfl
  ·rename_i hn
   rw [ih];refine ⟨.inl,fun g=>g.elim id fun g=> ?_⟩;have hk:¬ k=0/\(xs.getD k default).key=(xs.getD (k-1) default).key:=by
    unfold iT at hn;simp only [Bool.or_eq_true,decide_eq_true_eq,Bool.not_eq_true',decide_eq_false_iff_not,not_or,Classical.not_not] at hn
    exact hn
   have e:t=(xs.getD k default).key:=by simpa using g
   rw [e,hk.2];refine List.mem_map.2 ⟨xs.getD (k-1) default,?_,rfl⟩;have e2:(xs.take k).getD (k-1) default=xs.getD (k-1) default:=by simp [List.getD,show k-1<k by omega]
   rw [<-e2];have hl:k-1<(xs.take k).length:=by rw [List.length_take];omega
   have e3:(xs.take k).getD (k-1) default=(xs.take k)[k-1]:=by rw [List.getD,List.getElem?_eq_getElem hl];rfl
   rw [e3];exact List.getElem_mem hl
theorem vI(xs:List bI):once (cZ xs xs.length)=eG xs:=pW fun t=>by rw [ji xs _ (Nat.le_refl _),List.take_length]
theorem uj{xs:List bI}{zs:List bL}{x:bI}(hx:x∈xs):(!decide (x.key∈without (eG xs) zs))=covers zs x.key:=by
 have h:x.key∈eG xs:=by unfold eG;rw [dN];exact List.mem_map.2 ⟨x,hx,rfl⟩
 cases hc:covers zs x.key with
 |true=>
  rw [decide_eq_false fun k=>by have:=(jR.1 k).2;rw [hc] at this;cases this]
  rfl
 |false=>
  rw [decide_eq_true (jR.2 ⟨h,hc⟩)]
  rfl
structure bO where
 pos:Int
 key:bL
 field:bL
 kind:Int
 elem:bL
 n:Int
 drops:List bW
theorem qb{a b:bO}(h0:a.pos=b.pos)(h1:a.key=b.key)(h2:a.field=b.field)(h3:a.kind=b.kind)(h4:a.elem=b.elem)(h5:a.n=b.n)(h6:a.drops=b.drops):a=b:=by
 cases a;cases b;simp_all
instance:DecidableEq bO:=fun a b=>decidable_of_iff (a.pos=b.pos/\a.key=b.key/\a.field=b.field/\a.kind=b.kind/\a.elem=b.elem/\a.n=b.n/\a.drops=b.drops) ⟨fun ⟨h0,h1,h2,h3,h4,h5,h6⟩=>qb h0 h1 h2 h3 h4 h5 h6,fun e=>by subst e;exact ⟨rfl,rfl,rfl,rfl,rfl,rfl,rfl⟩⟩
instance:Inhabited bO:=⟨⟨0,[],[],0,[],0,[]⟩⟩
def jd(node seq:Int)(e:bO):bI:=⟨e.key,e.field,e.kind,e.elem,e.n,⟨node,seq,e.pos⟩⟩
def makes(node seq:Int)(e:bO):List bI:=if e.kind=0 then [] else [jd node seq e]
def xQ(node seq:Int)(s:List bI)(e:bO):List bI:=vQ s e.drops++makes node seq e
def AO(node seq:Int)(s:List bI)(l:List bO):List bI:=l.foldl (xQ node seq) s
def jJ(l:List bO)(z:List bL):List bO:=l.filter fun e=>covers z e.key
def own(node seq:Int)(l:List bO):List bI:=AO node seq [] l
theorem kN{a:List bI}{z:List bL}{t:bI}:t∈gH a z↔t∈a/\covers z t.key=true:=List.mem_filter
def eu(a b:bW):Bool:=decide (a.node<b.node\/(a.node=b.node/\(a.seq<b.seq\/(a.seq=b.seq/\a.pos<b.pos))))
def fM:List bW ->Bool
 |[]=>true
 |[d]=>dY d
 |d::e::l=>dY d&&(eu d e&&fM (e::l))
def kP(node seq:Int)(e:bO):Bool:=
 if e.kind=0 then decide (0<e.drops.length)&&(decide (e.elem.length=0)&&(decide (e.n=0)&&(iU e.key&&(bZ e.field&&dY ⟨node,seq,e.pos⟩)))) else dL (jd node seq e)
def bU(node seq:Int)(e:bO):Bool:=decide (e.drops.length<=64)&&(fM e.drops&&kP node seq e)
def sV(node seq:Int)(e:bO):Bool:=e.drops.all fun d=> !(decide (d.node=node)&&(decide (d.seq=seq)&&decide (e.pos<=d.pos)))
def kQ:List bO ->Bool
 |[]=>true
 |[_]=>true
 |a::b::l=>decide (a.pos<b.pos)&&kQ (b::l)
def iR(node seq:Int)(l:List bO):Bool:=l.all (bU node seq)&&(kQ l&&l.all (sV node seq))
def jB(e:bO):bI:=⟨e.key,[],0,[],0,⟨0,0,0⟩⟩
def dX(l:List bO)(z:List bL):List bL:=eG (gH (l.map jB) z)
theorem o8{l:List bO}{z:List bL}{e:bO}(he:e∈l):decide (e.key∈dX l z)=covers z e.key:=by
 have h:e.key∈dX l z↔covers z e.key=true:=by
  unfold dX eG;rw [dN,List.mem_map]
  constructor
  ·rintro ⟨x,hx,hk⟩
   rw [<-hk];exact (kN.1 hx).2
  ·intro h
   exact ⟨jB e,kN.2 ⟨List.mem_map.2 ⟨e,he,rfl⟩,h⟩,rfl⟩
 cases hc:covers z e.key with
 |true=>exact decide_eq_true (h.2 hc)
 |false=>exact decide_eq_false fun k=>by have:=h.1 k;rw [hc] at this;cases this
theorem o9(l:List bO)(z:List bL):(dX l z).length<=l.length:=by
 have h1:=mI (gH (l.map jB) z);have h2:=kg (l.map jB) z;rw [List.length_map] at h2;unfold dX;omega
theorem vw(l:List bO)(z:List bL):dF (fun j=>covers z (l.getD j default).key) l l.length=jJ l z:=mJ (fun e:bO=>covers z e.key) l
def sO(a b:bW):List Int:=[Lib.compareInt a.node b.node,Lib.compareInt a.seq b.seq,Lib.compareInt a.pos b.pos]
def tQ(a b:bW):Int:=dH (sO a b)
theorem vS(a b:bW):decide (tQ a b<0)=eu a b:=by
 unfold eu tQ sO;exact decide_eq_decide.2 (jh (jD _ _) (jh (jD _ _) (nX (jD _ _))))
theorem xH(a b:bW):decide (0<=tQ a b)= !eu a b:=by
 rw [<-vS,Bool.eq_iff_iff,Bool.not_eq_true',decide_eq_true_iff,decide_eq_false_iff_not];omega
theorem ku:∀ {l:List bW},fM l=true↔∀ j,j<l.length ->dY (l.getD j default)=true/\(0<j ->eu (l.getD (j-1) default) (l.getD j default)=true)
 |[]=>⟨fun _ j hj=>absurd hj (by simp),fun _=>rfl⟩
 |[d]=>by
  rw [fM]
  constructor
  ·intro h j hj
   obtain rfl:j=0:=by simp at hj;exact hj
   exact ⟨h,fun k=>absurd k (by omega)⟩
  ·intro h
   exact (h 0 (by simp)).1
 |d::e::l=>by
  rw [fM,Bool.and_eq_true,Bool.and_eq_true,ku (l:=e::l)]
  constructor
  ·rintro ⟨h1,h2,h3⟩ j hj
   cases j with
   |zero=>exact ⟨h1,fun k=>absurd k (by omega)⟩
   |succ j=>
    have h4:=h3 j (by simp at hj ⊢;omega);refine ⟨h4.1,fun _=> ?_⟩
    cases j with
    |zero=>exact h2
    |succ j=>exact h4.2 (by omega)
  ·intro h
   refine ⟨(h 0 (by simp)).1,(h 1 (by simp)).2 (by omega),fun j hj=> ?_⟩;have h4:=h (j+1) (by simp at hj ⊢;omega);refine ⟨h4.1,fun hp=> ?_⟩;obtain ⟨i,rfl⟩:∃ i,j=i+1:=⟨j-1,by omega⟩;exact h4.2 (by omega)
theorem kR:∀ {l:List bO},kQ l=true↔∀ j,j<l.length ->0<j ->(l.getD (j-1) default).pos<(l.getD j default).pos
 |[]=>⟨fun _ j hj=>absurd hj (by simp),fun _=>rfl⟩
 |[d]=>by
  rw [kQ];exact ⟨fun _ j hj hp=>by simp at hj;omega,fun _=>rfl⟩
 |d::e::l=>by
  rw [kQ,Bool.and_eq_true,decide_eq_true_iff,kR (l:=e::l)]
  constructor
  ·rintro ⟨h2,h3⟩ j hj hp
   obtain ⟨i,rfl⟩:∃ i,j=i+1:=⟨j-1,by omega⟩
   cases i with
   |zero=>exact h2
   |succ i=>exact h3 (i+1) (by simp at hj ⊢;omega) (by omega)
  ·intro h
   refine ⟨h 1 (by simp) (by omega),fun j hj hp=> ?_⟩;obtain ⟨i,rfl⟩:∃ i,j=i+1:=⟨j-1,by omega⟩;exact h (i+1+1) (by simp at hj ⊢;omega) (by omega)
theorem gY{l:List bO}{k:Nat}(hk:k<l.length):l.getD k default∈l:=by
 have:l.getD k default=l[k]:=by simp [List.getD,List.getElem?_eq_getElem hk]
 rw [this];exact List.getElem_mem hk
theorem qd{p:bO ->Bool}{l:List bO}:l.all p=true↔∀ j,j<l.length ->p (l.getD j default)=true:=by
 rw [List.all_eq_true]
 constructor
 ·intro h j hj
  exact h _ (gY hj)
 ·intro h x hx
  obtain ⟨j,hj,rfl⟩:=List.getElem_of_mem hx;have:=h j hj
  rwa [show l.getD j default=l[j] by simp [List.getD,List.getElem?_eq_getElem hj]] at this
theorem rC{node seq:Int}{l:List bO}:iR node seq l=true↔∀ j,j<l.length ->(0<j ->(l.getD (j-1) default).pos<(l.getD j default).pos)/\bU node seq (l.getD j default)=true/\sV node seq (l.getD j default)=true:=by
 unfold iR;rw [Bool.and_eq_true,Bool.and_eq_true,qd,qd,kR];exact ⟨fun ⟨h1,h2,h3⟩ j hj=>⟨h2 j hj,h1 j hj,h3 j hj⟩,fun h=>⟨fun j hj=>(h j hj).2.1,fun j hj=>(h j hj).1,fun j hj=>(h j hj).2.2⟩⟩
def iL(l:List bW):Bool:=decide (l.length<=64)&&fM l
def tX(node seq:Int)(e:bO):bI:=⟨e.key,e.field,1,e.elem,e.n,⟨node,seq,e.pos⟩⟩
theorem nI{node seq:Int}{e:bO}(hk:e.kind=0)(he:e.elem.length=0)(hd:0<e.drops.length):bU node seq e=(dL (tX node seq e)&&iL e.drops):=by
 have h1:e.elem.length<=32:=by omega
 have h2:(tX node seq e).elem.length<=32:=h1;unfold bU kP dL iL gL;rw [if_pos hk,decide_eq_true hd,decide_eq_true he,decide_eq_true h2]
 show (decide (e.drops.length<=64)&&(fM e.drops&&(true&&(true&&(decide (e.n=0)&&(iU e.key&&(bZ e.field&&dY ⟨node,seq,e.pos⟩)))))))=((dY ⟨node,seq,e.pos⟩&&(iU e.key&&(bZ e.field&&(true&&(decide ((1:Int)=1\/(1:Int)=2)&&decide (e.n=0)||(decide ((1:Int)=3)&&decide (e.elem.length=0)))))))&&(decide (e.drops.length<=64)&&fM e.drops))
 rw [show decide ((1:Int)=1\/(1:Int)=2)=true by decide,show decide ((1:Int)=3)=false by decide];generalize decide (e.drops.length<=64)=b1;generalize fM e.drops=b2;generalize decide (e.n=0)=b3;generalize iU e.key=b4;generalize bZ e.field=b5;generalize dY ⟨node,seq,e.pos⟩=b6
 cases b1<;>cases b2<;>cases b3<;>cases b4<;>cases b5<;>cases b6<;>rfl
theorem nJ{node seq:Int}{e:bO}(hk:e.kind=0)(he:¬ e.elem.length=0):bU node seq e=false:=by
 unfold bU kP;rw [if_pos hk,decide_eq_false he];simp
theorem nK{node seq:Int}{e:bO}(hk:e.kind=0)(hd:e.drops.length=0):bU node seq e=false:=by
 unfold bU kP;rw [if_pos hk,decide_eq_false (by omega:¬ 0<e.drops.length)];simp
theorem nL{node seq:Int}{e:bO}(hk:¬ e.kind=0):bU node seq e=(dL (jd node seq e)&&iL e.drops):=by
 unfold bU kP iL;rw [if_neg hk];generalize decide (e.drops.length<=64)=b1;generalize fM e.drops=b2;generalize dL (jd node seq e)=b3
 cases b1<;>cases b2<;>cases b3<;>rfl
def dI(node seq pos:Int)(d:bW):Bool:=decide (d.node=node)&&(decide (d.seq=seq)&&decide (pos<=d.pos))
theorem pz(node seq:Int)(e:bO):sV node seq e= !(e.drops.any (dI node seq e.pos)):=by
 unfold sV dI;rw [Bool.eq_iff_iff,Bool.not_eq_true',List.all_eq_true,List.any_eq_false]
 constructor
 ·intro h d hd k
  have:=h d hd;rw [k] at this
  cases this
 ·intro h d hd
  have:=h d hd
  cases hb:(decide (d.node=node)&&(decide (d.seq=seq)&&decide (e.pos<=d.pos))) with
  |true=>exact absurd hb this
  |false=>rfl
theorem xG(d:bW):dL ⟨[97],[],1,[],0,d⟩=dY d:=by
 have h1:iU [97]=true:=by decide
 have h2:bZ []=true:=by decide
 unfold dL gL
 show (dY d&&(iU [97]&&(bZ []&&(decide (([]:bL).length<=32)&&((decide ((1:Int)=1\/(1:Int)=2)&&decide ((0:Int)=0))||(decide ((1:Int)=3)&&decide (([]:bL).length=0)))))))=dY d
 rw [h1,h2];simp
end Go.Proofs.Ytmknpmamkjjiaaa.Plain