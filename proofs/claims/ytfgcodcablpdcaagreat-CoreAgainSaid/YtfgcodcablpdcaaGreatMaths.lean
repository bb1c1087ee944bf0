import Derived.Lib.Bytealg
import Derived.Lib.Small
set_option linter.unusedVariables false
namespace Go.Proofs.YtfgcodcablpdcaaGreat.Plain
abbrev iE:=List UInt8
theorem lt_irrefl(a:iE):¬ a<a:=List.lt_irrefl a
theorem lt_trans{a b c:iE}(h:a<b)(g:b<c):a<c:=List.lt_trans h g
theorem lt_asymm{a b:iE}(h:a<b):¬ b<a:=fun g=>lt_irrefl a (lt_trans h g)
theorem lt_total{a b:iE}(h:¬ a<b)(g:a≠b):b<a:=by
 rcases Classical.em (b<a) with k|k
 ·exact k
 ·exact absurd (List.le_antisymm (List.not_lt.1 k) (List.not_lt.1 h)) g
def nQ(l:List iE):Prop:=l.Pairwise (· < ·)
theorem nQ.tail{x:iE}{l:List iE}(h:nQ (x::l)):nQ l:=(List.pairwise_cons.1 h).2
theorem nQ.head{x:iE}{l:List iE}(h:nQ (x::l)):∀ y∈l,x<y:=(List.pairwise_cons.1 h).1
theorem nQ.filter{l:List iE}(h:nQ l)(p:iE ->Bool):nQ (l.filter p):=List.Pairwise.filter p h
theorem IJ:∀ {a b:List iE},nQ a ->nQ b ->(∀ t,t∈a↔t∈b) ->a=b
 |[],[],_,_,_=>rfl
 |[],y::b,_,_,h=>absurd ((h y).2 List.mem_cons_self) (by simp)
 |x::a,[],_,_,h=>absurd ((h x).1 List.mem_cons_self) (by simp)
 |x::a,y::b,ha,hb,h=>by
  have hx:=(h x).1 List.mem_cons_self;have hy:=(h y).2 List.mem_cons_self;have e:x=y:=by
   rcases List.mem_cons.1 hx with rfl|hx
   ·rfl
   ·rcases List.mem_cons.1 hy with rfl|hy
    ·rfl
    ·exact absurd (ha.head y hy) (lt_asymm (hb.head x hx))
  subst e;have ht:a=b:=by
   refine IJ ha.tail hb.tail fun t=>⟨fun ht=> ?_,fun ht=> ?_⟩
   ·rcases List.mem_cons.1 ((h t).1 (List.mem_cons_of_mem _ ht)) with rfl|g
    ·exact absurd (ha.head t ht) (lt_irrefl t)
    ·exact g
   ·rcases List.mem_cons.1 ((h t).2 (List.mem_cons_of_mem _ ht)) with rfl|g
    ·exact absurd (hb.head t ht) (lt_irrefl t)
    ·exact g
  rw [ht]
def ins(x:iE):List iE ->List iE
 |[]=>[x]
 |y::l=>if x<y then x::y::l else if x=y then y::l else y::ins x l
def once:List iE ->List iE
 |[]=>[]
 |x::l=>ins x (once l)
theorem NC(x t:iE):∀ l,t∈ins x l↔t=x\/t∈l
 |[]=>by simp [ins]
 |y::l=>by
  unfold ins
  split
  ·simp
  ·split
   ·rename_i e
    subst e;simp
   ·rw [List.mem_cons,NC x t l,List.mem_cons]
    constructor
    ·rintro (h|h|h)<;>simp [h]
    ·rintro (h|h|h)<;>simp [h]
theorem IK(x:iE):∀ {l},nQ l ->nQ (ins x l)
 |[],_=>List.pairwise_cons.2 ⟨fun _ h=>absurd h (by simp),List.Pairwise.nil⟩
 |y::l,h=>by
  unfold ins
  split
  ·rename_i g
   refine List.pairwise_cons.2 ⟨fun t ht=> ?_,h⟩
   rcases List.mem_cons.1 ht with rfl|ht
   ·exact g
   ·exact lt_trans g (h.head t ht)
  ·rename_i g
   split
   ·exact h
   ·rename_i e
    refine List.pairwise_cons.2 ⟨fun t ht=> ?_,IK x h.tail⟩
    rcases (NC x t l).1 ht with rfl|ht
    ·exact lt_total g e
    ·exact h.head t ht
theorem QL(t:iE):∀ l,t∈once l↔t∈l
 |[]=>by simp [once]
 |x::l=>by rw [once,NC,QL t l,List.mem_cons]
theorem yP:∀ l,nQ (once l)
 |[]=>List.Pairwise.nil
 |x::l=>IK x (yP l)
def Gi(s p:iE):Bool:=p.isPrefixOf s
theorem sO{s p:iE}:Gi s p=true↔p<+:s:=by unfold Gi;exact List.isPrefixOf_iff_prefix
theorem beg_self(s:iE):Gi s s=true:=sO.2 (List.prefix_refl s)
def covers(z:List iE)(k:iE):Bool:=z.any fun p=>Gi k p
theorem UR{z:List iE}{k:iE}:covers z k=true↔∃ p∈z,Gi k p=true:=by unfold covers;exact List.any_eq_true
def oW(c:UInt8):Bool:=c==47||(48<=c&&c<=57)||(97<=c&&c<=122)
def iK(s:iE):Bool:=s.all oW&&decide (s.length<=16)
def xY(s:iE):Bool:=decide (0<s.length)&&iK s
def UU(z:List iE):Prop:=∀ s∈z,∀ t∈z,Gi s t=true ->t=s
def alone(l:List iE)(s:iE):Bool:=l.all fun t=>t==s|| !Gi s t
theorem Yv{l:List iE}{s:iE}:alone l s=true↔∀ t∈l,Gi s t=true ->t=s:=by
 unfold alone;rw [List.all_eq_true]
 constructor
 ·intro h t ht hb
  have:=h t ht
  simpa [hb] using this
 ·intro h t ht
  by_cases hb:Gi s t=true
  ·simp [h t ht hb]
  ·simp [hb]
def least(l:List iE):List iE:=once (l.filter (alone l))
theorem DT{l:List iE}{s:iE}:s∈least l↔s∈l/\∀ t∈l,Gi s t=true ->t=s:=by
 unfold least;rw [QL,List.mem_filter,Yv]
theorem QM(l:List iE):UU (least l):=fun s hs t ht hb=>(DT.1 hs).2 t (DT.1 ht).1 hb
theorem QN{l:List iE}(hr:nQ l)(h:UU l):least l=l:=IJ (yP _) hr fun t=>by
 show t∈least l↔t∈l
 rw [DT];exact ⟨fun g=>g.1,fun g=>⟨g,fun u hu hb=>h t g u hu hb⟩⟩
def Pv(l:List iE):Nat:=if l.all iK=true then (if 8<(least l).length then 4 else 0) else 2
def Zone(z:List iE):Prop:=nQ z/\UU z/\z.all iK=true/\z.length<=8
theorem zone_iff{z:List iE}:Zone z↔Pv z=0/\least z=z:=by
 constructor
 ·rintro ⟨h1,h2,h3,h4⟩
  have e:=QN h1 h2;refine ⟨?_,e⟩;unfold Pv;rw [if_pos h3,e,if_neg (by omega)]
 ·rintro ⟨h,e⟩
  unfold Pv at h
  split at h
  ·rename_i hp
   split at h
   ·exact absurd h (by decide)
   ·rename_i hl
    rw [e] at hl;exact ⟨by rw [<-e];exact yP _,by rw [<-e];exact QM z,hp,by omega⟩
  ·exact absurd h (by decide)
structure WM{α:Type}(r:α ->α ->Prop):Prop where
 irrefl:∀ a,¬ r a a
 trans:∀ {a b c},r a b ->r b c ->r a c
 conn:∀ {a b},¬ r a b ->¬ r b a ->a=b
section
variable {α:Type} {r:α ->α ->Prop}
theorem WM.asymm(S:WM r){a b:α}(h:r a b):¬ r b a:=fun g=>S.irrefl a (S.trans h g)
theorem WM.total(S:WM r){a b:α}(h:¬ r a b)(g:a≠b):r b a:=Classical.byContradiction fun k=>g (S.conn h k)
def IQ(r:α ->α ->Prop)(l:List α):Prop:=l.Pairwise r
theorem IQ.tail{x:α}{l:List α}(h:IQ r (x::l)):IQ r l:=(List.pairwise_cons.1 h).2
theorem IQ.head{x:α}{l:List α}(h:IQ r (x::l)):∀ y∈l,r x y:=(List.pairwise_cons.1 h).1
theorem IQ.filter{l:List α}(h:IQ r l)(p:α ->Bool):IQ r (l.filter p):=List.Pairwise.filter p h
theorem IQ.nodup(S:WM r):∀ {l:List α},IQ r l ->l.Nodup
 |[],_=>List.nodup_nil
 |x::l,h=>List.nodup_cons.2 ⟨fun hx=>S.irrefl x (h.head x hx),IQ.nodup S h.tail⟩
theorem zT(S:WM r):∀ {a b:List α},IQ r a ->IQ r b ->(∀ t,t∈a↔t∈b) ->a=b
 |[],[],_,_,_=>rfl
 |[],y::b,_,_,h=>absurd ((h y).2 List.mem_cons_self) (by simp)
 |x::a,[],_,_,h=>absurd ((h x).1 List.mem_cons_self) (by simp)
 |x::a,y::b,ha,hb,h=>by
  have hx:=(h x).1 List.mem_cons_self;have hy:=(h y).2 List.mem_cons_self;have e:x=y:=by
   rcases List.mem_cons.1 hx with rfl|hx
   ·rfl
   ·rcases List.mem_cons.1 hy with rfl|hy
    ·rfl
    ·exact absurd (ha.head y hy) (S.asymm (hb.head x hx))
  subst e;have ht:a=b:=by
   refine zT S ha.tail hb.tail fun t=>⟨fun ht=> ?_,fun ht=> ?_⟩
   ·rcases List.mem_cons.1 ((h t).1 (List.mem_cons_of_mem _ ht)) with rfl|g
    ·exact absurd (ha.head t ht) (S.irrefl t)
    ·exact g
   ·rcases List.mem_cons.1 ((h t).2 (List.mem_cons_of_mem _ ht)) with rfl|g
    ·exact absurd (hb.head t ht) (S.irrefl t)
    ·exact g
  rw [ht]
theorem IQ.at{l:List α}(h:IQ r l){i j:Nat}{x y:α}(hij:i<j)(hi:l[i]? =some x)(hj:l[j]? =some y):r x y:=by
 obtain ⟨hil,rfl⟩:=List.getElem?_eq_some_iff.1 hi;obtain ⟨hjl,rfl⟩:=List.getElem?_eq_some_iff.1 hj;exact List.pairwise_iff_getElem.1 h i j hil hjl hij
variable [DecidableRel r] [DecidableEq α]
def J8(r:α ->α ->Prop)[DecidableRel r][DecidableEq α](x:α):List α ->List α
 |[]=>[x]
 |y::l=>if r x y then x::y::l else if x=y then y::l else y::J8 r x l
def AA(r:α ->α ->Prop)[DecidableRel r][DecidableEq α]:List α ->List α
 |[]=>[]
 |x::l=>J8 r x (AA r l)
theorem IU(x t:α):∀ l,t∈J8 r x l↔t=x\/t∈l
 |[]=>by simp [J8]
 |y::l=>by
  unfold J8
  split
  ·simp
  ·split
   ·rename_i e
    subst e;simp
   ·rw [List.mem_cons,IU x t l,List.mem_cons]
    constructor
    ·rintro (h|h|h)<;>simp [h]
    ·rintro (h|h|h)<;>simp [h]
theorem QO(S:WM r)(x:α):∀ {l},IQ r l ->IQ r (J8 r x l)
 |[],_=>List.pairwise_cons.2 ⟨fun _ h=>absurd h (by simp),List.Pairwise.nil⟩
 |y::l,h=>by
  unfold J8
  split
  ·rename_i g
   refine List.pairwise_cons.2 ⟨fun t ht=> ?_,h⟩
   rcases List.mem_cons.1 ht with rfl|ht
   ·exact g
   ·exact S.trans g (h.head t ht)
  ·rename_i g
   split
   ·exact h
   ·rename_i e
    refine List.pairwise_cons.2 ⟨fun t ht=> ?_,QO S x h.tail⟩
    rcases (IU x t l).1 ht with rfl|ht
    ·exact S.total g e
    ·exact h.head t ht
theorem Lh(t:α):∀ l,t∈AA r l↔t∈l
 |[]=>by simp [AA]
 |x::l=>by rw [AA,IU,Lh t l,List.mem_cons]
theorem Li(S:WM r):∀ l,IQ r (AA r l)
 |[]=>List.Pairwise.nil
 |x::l=>QO S x (Li S l)
theorem QS(x:α):∀ l,(J8 r x l).length<=l.length+1
 |[]=>by simp [J8]
 |y::l=>by
  have:=QS x l;unfold J8
  split
  ·simp
  ·split<;>simp<;>omega
theorem Lj:∀ l:List α,(AA r l).length<=l.length
 |[]=>by simp [AA]
 |x::l=>by
  have:=QS (r:=r) x (AA r l);have:=Lj l;rw [AA,List.length_cons];omega
end
def lexR{α β:Type}(f:α ->β)(lt:β ->β ->Prop)(r:α ->α ->Prop)(a b:α):Prop:=lt (f a) (f b)\/(f a=f b/\r a b)
structure Pre{α:Type}(E:α ->α ->Prop)(r:α ->α ->Prop):Prop where
 irrefl:∀ a,¬ r a a
 trans:∀ {a b c},r a b ->r b c ->r a c
 conn:∀ {a b},¬ r a b ->¬ r b a ->E a b
theorem Pre.last{α β:Type}(f:α ->β){lt:β ->β ->Prop}(S:WM lt):Pre (fun a b=>f a=f b) (fun a b=>lt (f a) (f b)):=⟨fun a=>S.irrefl _,fun h g=>S.trans h g,fun h g=>S.conn h g⟩
theorem Pre.lex{α β:Type}{E:α ->α ->Prop}{r:α ->α ->Prop}(p:Pre E r)(f:α ->β){lt:β ->β ->Prop}(S:WM lt):Pre (fun a b=>f a=f b/\E a b) (lexR f lt r) where
 irrefl a h:=h.elim (S.irrefl _) fun g=>p.irrefl a g.2
 trans:=by
  rintro a b c (h|⟨e,h⟩) (g|⟨e',g⟩)
  ·exact .inl (S.trans h g)
  ·exact .inl (by rw [<-e'];exact h)
  ·exact .inl (by rw [e];exact g)
  ·exact .inr ⟨e.trans e',p.trans h g⟩
 conn:=by
  intro a b h g;have e:f a=f b:=S.conn (fun k=>h (.inl k)) (fun k=>g (.inl k));exact ⟨e,p.conn (fun k=>h (.inr ⟨e,k⟩)) (fun k=>g (.inr ⟨e.symm,k⟩))⟩
theorem Pre.sto{α:Type}{E:α ->α ->Prop}{r:α ->α ->Prop}(p:Pre E r)(h:∀ {a b},E a b ->a=b):WM r:=⟨p.irrefl,p.trans,fun x y=>h (p.conn x y)⟩
theorem Cr:WM (fun a b:Int=>a<b):=⟨fun a=>by omega,fun h g=>by omega,fun h g=>by omega⟩
structure gB where
 node:Int
 seq:Int
 pos:Int
structure fK where
 key:iE
 field:iE
 kind:Int
 elem:iE
 n:Int
 dot:gB
theorem yQ{a b:gB}(h1:a.node=b.node)(h2:a.seq=b.seq)(h3:a.pos=b.pos):a=b:=by
 cases a;cases b;simp_all
theorem DU{a b:fK}(h1:a.key=b.key)(h2:a.field=b.field)(h3:a.kind=b.kind)(h4:a.elem=b.elem)(h5:a.n=b.n)(h6:a.dot=b.dot):a=b:=by
 cases a;cases b;simp_all
instance:DecidableEq gB:=fun a b=>decidable_of_iff (a.node=b.node/\a.seq=b.seq/\a.pos=b.pos) ⟨fun ⟨h1,h2,h3⟩=>yQ h1 h2 h3,fun e=>by subst e;exact ⟨rfl,rfl,rfl⟩⟩
instance:DecidableEq fK:=fun a b=>decidable_of_iff (a.key=b.key/\a.field=b.field/\a.kind=b.kind/\a.elem=b.elem/\a.n=b.n/\a.dot=b.dot) ⟨fun ⟨h1,h2,h3,h4,h5,h6⟩=>DU h1 h2 h3 h4 h5 h6,fun e=>by subst e;exact ⟨rfl,rfl,rfl,rfl,rfl,rfl⟩⟩
instance:Inhabited gB:=⟨⟨0,0,0⟩⟩
instance:Inhabited fK:=⟨⟨[],[],0,[],0,default⟩⟩
theorem NH:WM (fun a b:iE=>a<b):=⟨lt_irrefl,fun h g=>lt_trans h g,fun h g=>List.le_antisymm (List.not_lt.1 g) (List.not_lt.1 h)⟩
def lW(a b:fK):Prop:=
 a.key<b.key\/(a.key=b.key/\(a.field<b.field\/(a.field=b.field/\(a.kind<b.kind\/(a.kind=b.kind/\(a.dot.node<b.dot.node\/(a.dot.node=b.dot.node/\
 (a.dot.seq<b.dot.seq\/(a.dot.seq=b.dot.seq/\(a.dot.pos<b.dot.pos\/(a.dot.pos=b.dot.pos/\(a.elem<b.elem\/(a.elem=b.elem/\a.n<b.n)))))))))))))
instance:DecidableRel lW:=fun a b=>by unfold lW;infer_instance
theorem jg:WM lW:=by
 have h:=(((((((Pre.last (fun x:fK=>x.n) Cr).lex (fun x=>x.elem) NH).lex (fun x=>x.dot.pos) Cr).lex (fun x=>x.dot.seq) Cr).lex (fun x=>x.dot.node) Cr).lex (fun x=>x.kind) Cr).lex (fun x=>x.field) NH).lex (fun x=>x.key) NH;refine Pre.sto h ?_;rintro a b ⟨h1,h2,h3,h4,h5,h6,h7,h8⟩;exact DU h1 h2 h3 h7 h8 (yQ h4 h5 h6)
def yO(a b:fK):Bool:=decide (lW a b)
def Ct(l:List fK)(x:fK):Bool:=l.all fun y=> !(decide (y.dot=x.dot)&&yO y x)
theorem QT{l:List fK}{x:fK}:Ct l x=true↔∀ y∈l,y.dot=x.dot ->¬ lW y x:=by
 unfold Ct yO;rw [List.all_eq_true]
 constructor
 ·intro h y hy hd hl
  have:=h y hy;simp [hd,hl] at this
 ·intro h y hy
  by_cases hd:y.dot=x.dot
  ·simp [hd,h y hy hd]
  ·simp [hd]
def iG(l:List fK):List fK:=AA lW (l.filter (Ct l))
theorem jy{l:List fK}{x:fK}:x∈iG l↔x∈l/\∀ y∈l,y.dot=x.dot ->¬ lW y x:=by
 unfold iG;rw [Lh,List.mem_filter,QT]
theorem og(l:List fK):IQ lW (iG l):=Li jg _
def zU(l:List fK):Prop:=∀ x∈l,∀ y∈l,x.dot=y.dot ->x=y
theorem QU(l:List fK):zU (iG l):=fun x hx y hy e=>
 jg.conn ((jy.1 hy).2 x (jy.1 hx).1 e) ((jy.1 hx).2 y (jy.1 hy).1 e.symm)
theorem UW{l:List fK}(hr:IQ lW l)(ha:zU l):iG l=l:=zT jg (og l) hr fun t=>by
 rw [jy];refine ⟨fun h=>h.1,fun h=>⟨h,fun y hy e hl=> ?_⟩⟩;have:=ha y hy t h e;subst this;exact jg.irrefl y hl
theorem ER(l:List fK):iG (iG l)=iG l:=UW (og l) (QU l)
theorem DV{a b:List fK}(h:∀ t,t∈a↔t∈b):iG a=iG b:=zT jg (og a) (og b) fun t=>by
 rw [jy,jy,h];exact ⟨fun ⟨p,q⟩=>⟨p,fun y hy=>q y ((h y).2 hy)⟩,fun ⟨p,q⟩=>⟨p,fun y hy=>q y ((h y).1 hy)⟩⟩
theorem Ko(l:List fK):(iG l).length<=l.length:=by
 unfold iG;have:=Lj (r:=lW) (l.filter (Ct l));have:=List.length_filter_le (Ct l) l;omega
def mH(dots:List gB)(d:gB):Bool:=dots.any fun e=>decide (e=d)
def gH(l:List fK)(dots:List gB):List fK:=l.filter fun x=> !mH dots x.dot
theorem IV{dots:List gB}{d:gB}:mH dots d=true↔d∈dots:=by
 unfold mH;rw [List.any_eq_true]
 constructor
 ·rintro ⟨e,he,h⟩
  rw [<-of_decide_eq_true h];exact he
 ·intro h
  exact ⟨d,h,decide_eq_true rfl⟩
theorem p9(l:List fK)(d:List gB):(gH l d).length<=l.length:=List.length_filter_le _ _
def jX(d:gB):Bool:=decide (0<=d.node/\d.node<=7/\1<=d.seq/\d.seq<=1073741824/\0<=d.pos/\d.pos<=7)
def qB(x:fK):Bool:=(decide (x.kind=1\/x.kind=2)&&decide (x.n=0))||(decide (x.kind=3)&&decide (x.elem.length=0))
def iH(x:fK):Bool:=jX x.dot&&(xY x.key&&(iK x.field&&(decide (x.elem.length<=32)&&qB x)))
theorem UY{xs:List iE}{k:Nat}(hk:k<xs.length):xs.getD k []∈xs:=by
 rw [List.getD,List.getElem?_eq_getElem hk];exact List.getElem_mem hk
theorem gd_of{l:List iE}{t:iE}(h:t∈l):∃ j,j<l.length/\l.getD j []=t:=by
 obtain ⟨j,hj,rfl⟩:=List.getElem_of_mem h;exact ⟨j,hj,by simp [List.getD,List.getElem?_eq_getElem hj]⟩
theorem Ll{l:List iE}(h:nQ l){i j:Nat}(hij:i<j)(hj:j<l.length):l.getD i []<l.getD j []:=by
 have:=List.pairwise_iff_getElem.1 h i j (by omega) hj hij
 simpa [List.getD,List.getElem?_eq_getElem hj,List.getElem?_eq_getElem (show i<l.length by omega)] using this
theorem Yw{s p:iE}(h:Gi s p=true):p<s\/p=s:=by
 obtain ⟨r,rfl⟩:=sO.1 h;clear h
 induction p with
 |nil=>cases r with
  |nil=>exact .inr rfl
  |cons a r=>exact .inl (by simp)
 |cons a p ih=>
  rcases ih with h|h
  ·exact .inl (by rw [List.cons_append];exact List.cons_lt_cons_iff.2 (.inr ⟨rfl,h⟩))
  ·exact .inr (by rw [List.cons_append,<-h])
theorem WO:∀ {u v s:iE},Gi s u=true ->(u<v\/u=v) ->(v<s\/v=s) ->Gi v u=true
 |u,v,s,h,.inr e,_=>by rw [e];exact beg_self v
 |u,v,s,h,_,.inr e=>by rw [e];exact h
 |[],v,s,h,_,_=>sO.2 (List.nil_prefix)
 |a::u,[],s,h,.inl g,_=>absurd g (by simp)
 |a::u,b::v,[],h,_,.inl g=>absurd g (by simp)
 |a::u,b::v,c::s,h,.inl g,.inl k=>by
  obtain ⟨e,h0⟩:=List.cons_prefix_cons.1 (sO.1 h);have h':=sO.2 h0;subst e
  rcases List.cons_lt_cons_iff.1 g with g1|⟨e1,g1⟩
  ·rcases List.cons_lt_cons_iff.1 k with k1|⟨e2,k1⟩
   ·exact absurd (UInt8.lt_trans g1 k1) (UInt8.lt_irrefl _)
   ·rw [e2] at g1;exact absurd g1 (UInt8.lt_irrefl _)
  ·subst e1
   rcases List.cons_lt_cons_iff.1 k with k1|⟨-,k1⟩
   ·exact absurd k1 (UInt8.lt_irrefl _)
   ·exact sO.2 (List.cons_prefix_cons.2 ⟨rfl,sO.1 (WO h' (.inl g1) (.inl k1))⟩)
def ru(z:List iE)(k:Nat):Prop:=(∀ j,j<k ->iK (z.getD j [])=true)/\∀ j,0<j ->j<k ->z.getD (j-1) []<z.getD j []/\Gi (z.getD j []) (z.getD (j-1) [])=false
theorem NI(z:List iE):ru z 0:=⟨fun j hj=>absurd hj (Nat.not_lt_zero _),fun j _ hj=>absurd hj (Nat.not_lt_zero _)⟩
theorem Cu{z:List iE}{k:Nat}(h:ru z k)(hp:iK (z.getD k [])=true)(hn:0<k ->z.getD (k-1) []<z.getD k []/\Gi (z.getD k []) (z.getD (k-1) [])=false):ru z (k+1):=by
 refine ⟨fun j hj=> ?_,fun j h0 hj=> ?_⟩
 ·by_cases e:j=k
  ·rw [e];exact hp
  ·exact h.1 j (by omega)
 ·by_cases e:j=k
  ·rw [e] at h0 ⊢;exact hn h0
  ·exact h.2 j h0 (by omega)
theorem Cv{z:List iE}{n:Nat}(h:ru z n):∀ d i,i+d+1<n ->z.getD i []<z.getD (i+d+1) []
 |0,i,hi=>by have:=(h.2 (i+1) (by omega) (by omega)).1;simpa using this
 |d+1,i,hi=>by
  have h1:=Cv h d i (by omega);have h2:=(h.2 (i+d+2) (by omega) (by omega)).1;rw [show i+d+2-1=i+d+1 by omega] at h2;exact lt_trans h1 h2
theorem UZ{z:List iE}(hl:z.length<=8)(h:ru z z.length):Zone z:=by
 have hlt:∀ i j,i<j ->j<z.length ->z.getD i []<z.getD j []:=fun i j hij hj=>by
  have:=Cv h (j-i-1) i (by omega)
  rwa [show i+(j-i-1)+1=j by omega] at this
 have hr:nQ z:=List.pairwise_iff_getElem.2 fun i j hi hj hij=>by
  have:=hlt i j hij hj
  simpa [List.getD,List.getElem?_eq_getElem hj,List.getElem?_eq_getElem hi] using this
 refine ⟨hr,fun s hs t ht hb=> ?_,?_,hl⟩
 ·obtain ⟨i,hi,rfl⟩:=gd_of hs
  obtain ⟨j,hj,rfl⟩:=gd_of ht
  rcases Nat.lt_or_ge j i with g|g
  ·exfalso
   have hm:z.getD (j+1) []<z.getD i []\/z.getD (j+1) []=z.getD i []:=by
    by_cases e:j+1=i
    ·exact .inr (by rw [e])
    ·exact .inl (hlt _ _ (by omega) hi)
   have hb2:=WO hb (.inl (hlt j (j+1) (by omega) (by omega))) hm;have:=(h.2 (j+1) (by omega) (by omega)).2;rw [show j+1-1=j by omega,hb2] at this;exact absurd this (by decide)
  ·by_cases e:i=j
   ·rw [e]
   ·rcases Yw hb with q|q
    ·exact absurd q (lt_asymm (hlt i j (by omega) hj))
    ·exact q
 ·rw [List.all_eq_true]
  intro s hs;obtain ⟨i,hi,rfl⟩:=gd_of hs;exact h.1 i hi
theorem Bd{z:List iE}(h:Zone z):z.length<=8/\ru z z.length:=by
 obtain ⟨h1,h2,h3,h4⟩:=h;rw [List.all_eq_true] at h3;refine ⟨h4,fun j hj=>h3 _ (UY hj),fun j h0 hj=>⟨Ll h1 (by omega) hj,?_⟩⟩
 cases hb:Gi (z.getD j []) (z.getD (j-1) []) with
 |false=>rfl
 |true=>
  have e:=h2 _ (UY hj) _ (UY (show j-1<z.length by omega)) hb;have:=Ll h1 (show j-1<j by omega) hj;rw [e] at this;exact absurd this (lt_irrefl _)
def allB(z:List iE):Bool:=(List.range 256).all fun b=> !oW (UInt8.ofNat b)||covers z [UInt8.ofNat b]
theorem Lm:∀ {a b:List iE},a.Nodup ->(∀ t∈a,t∈b) ->a.length<=b.length
 |[],_,_,_=>Nat.zero_le _
 |x::a,b,hn,hs=>by
  have hx:x∈b:=hs x List.mem_cons_self;have hn':=List.nodup_cons.1 hn;have:=Lm (a:=a) (b:=b.erase x) hn'.2 fun t ht=>(List.mem_erase_of_ne (by rintro rfl;exact hn'.1 ht)).2 (hs t (List.mem_cons_of_mem _ ht))
  rw [List.length_erase_of_mem hx] at this;have:=List.length_pos_of_mem hx;rw [List.length_cons];omega
def ones:List iE:=((List.range 256).filter fun b=>oW (UInt8.ofNat b)).map fun b=>[UInt8.ofNat b]
theorem ones_len:ones.length=37:=by decide+kernel
theorem U0:ones.Nodup:=by decide+kernel
theorem all_nil{z:List iE}(hl:z.length<=36)(h:allB z=true):[]∈z:=by
 rcases Classical.em ([]∈z) with g|g
 ·exact g
 ·exfalso
  have hs:∀ t∈ones,t∈z:=by
   intro t ht;obtain ⟨b,hb,rfl⟩:=List.mem_map.1 ht;obtain ⟨hb1,hb2⟩:=List.mem_filter.1 hb;unfold allB at h;rw [List.all_eq_true] at h;have hc:=h b hb1;rw [hb2] at hc;obtain ⟨p,hp,hbp⟩:=UR.1 (by simpa using hc);have hle:=(sO.1 hbp).length_le
   cases p with
   |nil=>exact absurd hp g
   |cons c p=>
    have:c::p=[UInt8.ofNat b]:=List.IsPrefix.eq_of_length (sO.1 hbp) (by simp at hle ⊢;exact hle);rw [<-this];exact hp
  have:=Lm U0 hs;rw [ones_len] at this;omega
def kF:List Int ->Int
 |[]=>0
 |x::l=>if x=0 then kF l else x
def J2(a b:iE):Int:=Lib.compareBytes a b
theorem zV:∀ a b:iE,(J2 a b<0↔a<b)/\(J2 a b=0↔a=b)
 |[],[]=>⟨⟨fun h=>absurd h (by decide),fun h=>absurd h (lt_irrefl [])⟩,⟨fun _=>rfl,fun _=>rfl⟩⟩
 |[],y::b=>⟨⟨fun _=>List.nil_lt_cons y b,fun _=>(by decide:(-1:Int)<0)⟩,⟨fun h=>absurd h (by decide:¬ (-1:Int)=0),fun h=>absurd h (by simp)⟩⟩
 |x::a,[]=>⟨⟨fun h=>absurd h (by decide:¬ (1:Int)<0),fun h=>absurd h (by simp)⟩,⟨fun h=>absurd h (by decide:¬ (1:Int)=0),fun h=>absurd h (by simp)⟩⟩
 |x::a,y::b=>by
  have ih:=zV a b;unfold J2 at ih ⊢;unfold Lib.compareBytes;rw [List.cons_lt_cons_iff,List.cons.injEq]
  by_cases h:x<y
  ·rw [if_pos h]
   refine ⟨⟨fun _=> .inl h,fun _=>by decide⟩,⟨fun e=>absurd e (by decide),fun e=> ?_⟩⟩;rw [e.1] at h;exact absurd h (UInt8.lt_irrefl y)
  ·rw [if_neg h]
   by_cases g:y<x
   ·rw [if_pos g]
    refine ⟨⟨fun e=>absurd e (by decide),fun e=> ?_⟩,⟨fun e=>absurd e (by decide),fun e=> ?_⟩⟩
    ·rcases e with e|⟨e,-⟩
     ·exact absurd e h
     ·rw [e] at g;exact absurd g (UInt8.lt_irrefl y)
    ·rw [e.1] at g;exact absurd g (UInt8.lt_irrefl y)
   ·rw [if_neg g]
    have e:x=y:=UInt8.le_antisymm (UInt8.not_lt.1 g) (UInt8.not_lt.1 h);subst e;refine ⟨ih.1.trans ⟨fun k=> .inr ⟨rfl,k⟩,fun k=>k.elim (fun k=>absurd k h) fun k=>k.2⟩,ih.2.trans ⟨fun k=>⟨rfl,k⟩,fun k=>k.2⟩⟩
theorem pG(x y:Int):(Lib.compareInt x y<0↔x<y)/\(Lib.compareInt x y=0↔x=y):=by
 unfold Lib.compareInt
 split
 ·refine ⟨⟨fun _=>by omega,fun _=>by decide⟩,⟨fun e=>absurd e (by decide),fun e=>by omega⟩⟩
 ·split
  ·refine ⟨⟨fun e=>absurd e (by decide),fun e=>by omega⟩,⟨fun e=>absurd e (by decide),fun e=>by omega⟩⟩
  ·refine ⟨⟨fun e=>absurd e (by decide),fun e=>by omega⟩,⟨fun e=>by omega,fun e=>rfl⟩⟩
theorem kM{c:Int}{l:List Int}{lt eq r:Prop}(h:(c<0↔lt)/\(c=0↔eq))(hr:kF l<0↔r):kF (c::l)<0↔lt\/(eq/\r):=by
 rw [kF]
 by_cases e:c=0
 ·rw [if_pos e,hr]
  have hl:¬ lt:=fun k=>by have:=h.1.2 k;omega
  exact ⟨fun k=> .inr ⟨h.2.1 e,k⟩,fun k=>k.elim (fun k=>absurd k hl) fun k=>k.2⟩
 ·rw [if_neg e,h.1]
  exact ⟨.inl,fun k=>k.elim id fun k=>absurd (h.2.2 k.1) e⟩
theorem Cw{c:Int}{lt eq:Prop}(h:(c<0↔lt)/\(c=0↔eq)):kF [c]<0↔lt:=by
 rw [kF,kF]
 split
 ·rename_i e
  rw [<-h.1,e]
 ·exact h.1
def cmps(x y:fK):List Int:=[J2 x.key y.key,J2 x.field y.field,Lib.compareInt x.kind y.kind,Lib.compareInt x.dot.node y.dot.node,Lib.compareInt x.dot.seq y.dot.seq,Lib.compareInt x.dot.pos y.dot.pos,J2 x.elem y.elem,Lib.compareInt x.n y.n]
def DC(x y:fK):Int:=kF (cmps x y)
theorem icmp_lt(x y:fK):DC x y<0↔lW x y:=by
 unfold DC cmps lW;exact kM (zV _ _) (kM (zV _ _) (kM (pG _ _) (kM (pG _ _) (kM (pG _ _) (kM (pG _ _) (kM (zV _ _) (Cw (pG _ _))))))))
theorem icmp_dec(x y:fK):decide (DC x y<0)=yO x y:=by
 unfold yO;exact decide_eq_decide.2 (icmp_lt x y)
section
variable {α:Type} [Inhabited α]
def ou(f:Nat ->Bool)(xs:List α):Nat ->List α
 |0=>[]
 |k+1=>if f k then ou f xs k++[xs.getD k default] else ou f xs k
theorem Lp{f:Nat ->Bool}{xs:List α}{k:Nat}(h:f k=true):ou f xs (k+1)=ou f xs k++[xs.getD k default]:=by rw [ou,if_pos h]
theorem QV{f:Nat ->Bool}{xs:List α}{k:Nat}(h:f k=false):ou f xs (k+1)=ou f xs k:=by rw [ou,if_neg (by rw [h];decide)]
theorem Lr(f:Nat ->Bool)(xs:List α):∀ k,(ou f xs k).length<=k
 |0=>Nat.le_refl _
 |k+1=>by
  have:=Lr f xs k;rw [ou]
  split
  ·rw [List.length_append];simp;omega
  ·omega
theorem oZ{xs:List α}{k:Nat}(hk:k<xs.length):xs.take (k+1)=xs.take k++[xs.getD k default]:=by
 rw [List.take_succ_eq_append_getElem hk];simp [List.getD,List.getElem?_eq_getElem hk]
theorem IW(p:α ->Bool)(xs:List α):∀ k,k<=xs.length ->ou (fun j=>p (xs.getD j default)) xs k=(xs.take k).filter p
 |0,_=>by simp [ou]
 |k+1,h=>by
  rw [ou,IW p xs k (by omega),oZ (by omega),List.filter_append]
  split
  ·rename_i e;rw [List.filter_cons,if_pos e,List.filter_nil]
  ·rename_i e;rw [List.filter_cons,if_neg e,List.filter_nil,List.append_nil]
theorem Yr(p:α ->Bool)(xs:List α):ou (fun j=>p (xs.getD j default)) xs xs.length=xs.filter p:=by
 rw [IW p xs _ (Nat.le_refl _),List.take_length]
end
def rV(xs:List fK)(k:Nat):List gB:=(xs.take k).map (·.dot)
theorem J5{xs:List fK}{k:Nat}(hk:k<xs.length):rV xs (k+1)=rV xs k++[(xs.getD k default).dot]:=by
 unfold rV;rw [oZ hk,List.map_append]
 rfl
def fresh(xs:List fK)(k:Nat):Bool:= !mH (rV xs k) (xs.getD k default).dot
theorem Yx{xs:List fK}{k:Nat}:fresh xs k=true↔∀ y∈xs.take k,y.dot≠(xs.getD k default).dot:=by
 unfold fresh;rw [Bool.not_eq_true',<-Bool.not_eq_true,IV];unfold rV;rw [List.mem_map]
 constructor
 ·intro h y hy e
  exact h ⟨y,hy,e⟩
 ·rintro h ⟨y,hy,e⟩
  exact h y hy e
theorem IX{xs:List fK}(hs:xs.Pairwise fun a b=>¬ lW b a):∀ k,k<=xs.length ->IQ lW (ou (fresh xs) xs k)/\∀ t,t∈ou (fresh xs) xs k↔t∈xs.take k/\∀ y∈xs.take k,y.dot=t.dot ->¬ lW y t
 |0,_=>⟨List.Pairwise.nil,fun t=>by simp [ou]⟩
 |k+1,hk=>by
  obtain ⟨hr,hm⟩:=IX hs k (by omega);have hlt:k<xs.length:=by omega
  have hx:∀ y∈xs.take k,¬ lW (xs.getD k default) y:=by
   intro y hy;have h2:=hs.sublist (List.take_sublist (k+1) xs);rw [oZ hlt] at h2;exact (List.pairwise_append.1 h2).2.2 y hy _ (List.mem_singleton.2 rfl)
  have hmem:∀ t,t∈xs.take (k+1)↔t∈xs.take k\/t=xs.getD k default:=fun t=>by rw [oZ hlt,List.mem_append,List.mem_singleton]
  have hfr:=Yx (xs:=xs) (k:=k)
  cases hf:fresh xs k with
  |true=>
   have hn:=hfr.1 hf;rw [Lp hf];refine ⟨List.pairwise_append.2 ⟨hr,by simp,fun t ht u hu=> ?_⟩,fun t=> ?_⟩
   ·rw [List.mem_singleton.1 hu]
    have h1:=((hm t).1 ht).1;exact jg.total (hx t h1) fun e=>hn t h1 (by rw [<-e])
   ·rw [List.mem_append,List.mem_singleton,hm,hmem]
    constructor
    ·rintro (⟨h1,h2⟩|rfl)
     ·refine ⟨.inl h1,fun y hy e=> ?_⟩
      rcases (hmem y).1 hy with hy|rfl
      ·exact h2 y hy e
      ·exact absurd e.symm (hn t h1)
     ·refine ⟨.inr rfl,fun y hy e=> ?_⟩
      rcases (hmem y).1 hy with hy|rfl
      ·exact absurd e (hn y hy)
      ·exact jg.irrefl _
    ·rintro ⟨h1|h1,h2⟩
     ·exact .inl ⟨h1,fun y hy e=>h2 y ((hmem y).2 (.inl hy)) e⟩
     ·exact .inr h1
  |false=>
   have hn:∃ y∈xs.take k,y.dot=(xs.getD k default).dot:=Classical.byContradiction fun h=>by
    have:=hfr.2 fun y hy e=>h ⟨y,hy,e⟩
    rw [hf] at this
    cases this
   obtain ⟨y0,hy0,e0⟩:=hn;rw [QV hf];refine ⟨hr,fun t=> ?_⟩;rw [hm,hmem]
   constructor
   ·rintro ⟨h1,h2⟩
    refine ⟨.inl h1,fun y hy e=> ?_⟩
    rcases (hmem y).1 hy with hy|rfl
    ·exact h2 y hy e
    ·exact hx t h1
   ·rintro ⟨h1,h2⟩
    have h3:∀ y∈xs.take k,y.dot=t.dot ->¬ lW y t:=fun y hy e=>h2 y ((hmem y).2 (.inl hy)) e
    rcases h1 with h1|rfl
    ·exact ⟨h1,h3⟩
    ·have e:=jg.conn (h3 y0 hy0 e0) (hx y0 hy0)
     exact ⟨by rw [<-e];exact hy0,h3⟩
def rU(xs:List fK):List fK:=xs.mergeSort fun x y=> !yO y x
theorem IY(xs:List fK):(rU xs).Pairwise fun a b=>¬ lW b a:=by
 have:=List.pairwise_mergeSort (le:=fun x y:fK=> !yO y x) (fun a b c h g=>by
  unfold yO at*;simp only [Bool.not_eq_true',decide_eq_false_iff_not] at*
  intro k
  by_cases e:b=c
  ·subst e;exact h k
  ·exact h (jg.trans (jg.total g (fun e2=>e e2.symm)) k)) (fun a b=>by
  unfold yO;simp only [Bool.or_eq_true,Bool.not_eq_true',decide_eq_false_iff_not]
  by_cases k:lW b a
  ·exact .inr (jg.asymm k)
  ·exact .inl k) xs
 refine this.imp fun h=> ?_
 unfold yO at h
 simpa using h
theorem Lf(xs:List fK):(rU xs).length=xs.length:=List.length_mergeSort _
theorem zQ{xs:List fK}{t:fK}:t∈rU xs↔t∈xs:=List.mem_mergeSort
theorem norm_way(xs:List fK):ou (fresh (rU xs)) (rU xs) (rU xs).length=iG xs:=by
 obtain ⟨hr,hm⟩:=IX (IY xs) _ (Nat.le_refl _);refine zT jg hr (og xs) fun t=> ?_
 rw [hm,jy,List.take_length,zQ];exact ⟨fun ⟨h,g⟩=>⟨h,fun y hy=>g y (zQ.2 hy)⟩,fun ⟨h,g⟩=>⟨h,fun y hy=>g y (zQ.1 hy)⟩⟩
structure gD where
 pos:Int
 key:iE
 field:iE
 kind:Int
 elem:iE
 n:Int
 drops:List gB
theorem QW{a b:gD}(h0:a.pos=b.pos)(h1:a.key=b.key)(h2:a.field=b.field)(h3:a.kind=b.kind)(h4:a.elem=b.elem)(h5:a.n=b.n)(h6:a.drops=b.drops):a=b:=by
 cases a;cases b;simp_all
instance:DecidableEq gD:=fun a b=>decidable_of_iff (a.pos=b.pos/\a.key=b.key/\a.field=b.field/\a.kind=b.kind/\a.elem=b.elem/\a.n=b.n/\a.drops=b.drops) ⟨fun ⟨h0,h1,h2,h3,h4,h5,h6⟩=>QW h0 h1 h2 h3 h4 h5 h6,fun e=>by subst e;exact ⟨rfl,rfl,rfl,rfl,rfl,rfl,rfl⟩⟩
instance:Inhabited gD:=⟨⟨0,[],[],0,[],0,[]⟩⟩
def lV(node seq:Int)(e:gD):fK:=⟨e.key,e.field,e.kind,e.elem,e.n,⟨node,seq,e.pos⟩⟩
def makes(node seq:Int)(e:gD):List fK:=if e.kind=0 then [] else [lV node seq e]
def sP(node seq:Int)(s:List fK)(e:gD):List fK:=gH s e.drops++makes node seq e
def NJ(node seq:Int)(s:List fK)(e:gD):List fK:=iG (sP node seq s e)
def FY(node seq:Int)(s:List fK)(l:List gD):List fK:=l.foldl (sP node seq) s
def FW(node seq:Int)(s:List fK)(l:List gD):List fK:=l.foldl (NJ node seq) s
def eonly(l:List gD)(z:List iE):List gD:=l.filter fun e=>covers z e.key
def gN(l:List gD):List gB:=l.flatMap (·.drops)
theorem iX{s:List fK}{d:List gB}{t:fK}:t∈gH s d↔t∈s/\t.dot∉d:=by
 unfold gH;rw [List.mem_filter,Bool.not_eq_true',<-Bool.not_eq_true,IV]
theorem xS(a b:List fK)(d:List gB):gH (a++b) d=gH a d++gH b d:=List.filter_append _ _
theorem NK(a:List fK)(d e:List gB):gH (gH a d) e=gH a (d++e):=by
 unfold gH;rw [List.filter_filter]
 congr 1
 funext x
 unfold mH;rw [List.any_append,Bool.not_or,Bool.and_comm]
theorem uW(a:List fK):gH a []=a:=by
 unfold gH;exact List.filter_eq_self.2 fun _ _=>rfl
theorem QY:∀ (a:List fK) (y:fK),y∈a ->∃ m∈iG a,m.dot=y.dot/\(m=y\/lW m y):=by
 intro a y hy;have key:∀ (n:Nat) (b:List fK),b.length<=n ->(∀ t∈b,t∈a) ->(∀ t∈a,t.dot=y.dot ->t∉b ->¬ lW t y) ->∃ m∈a,m.dot=y.dot/\(m=y\/lW m y)/\∀ t∈a,t.dot=y.dot ->¬ lW t m:=by
  have main:∀ (b:List fK),(∀ t∈b,t∈a) ->∃ m∈a,m.dot=y.dot/\(m=y\/lW m y)/\∀ t∈b,t.dot=y.dot ->¬ lW t m:=by
   intro b
   induction b with
   |nil=>intro _;exact ⟨y,hy,rfl,.inl rfl,fun t ht=>absurd ht (by simp)⟩
   |cons x b ih=>
    intro hb;obtain ⟨m,hm,h1,h2,h3⟩:=ih fun t ht=>hb t (List.mem_cons_of_mem _ ht)
    by_cases hx:x.dot=y.dot/\lW x m
    ·refine ⟨x,hb x List.mem_cons_self,hx.1,.inr ?_,fun t ht he=> ?_⟩
     ·rcases h2 with rfl|h2
      ·exact hx.2
      ·exact jg.trans hx.2 h2
     ·rcases List.mem_cons.1 ht with rfl|ht
      ·exact jg.irrefl _
      ·exact fun k=>h3 t ht he (jg.trans k hx.2)
    ·refine ⟨m,hm,h1,h2,fun t ht he=> ?_⟩
     rcases List.mem_cons.1 ht with rfl|ht
     ·exact fun k=>hx ⟨he,k⟩
     ·exact h3 t ht he
  intro n b _ _ _;exact main a fun t h=>h
 obtain ⟨m,hm,h1,h2,h3⟩:=key a.length a (Nat.le_refl _) (fun t h=>h) (fun t h _ k=>absurd h k);exact ⟨m,jy.2 ⟨hm,fun t ht he=>h3 t ht (he.trans h1)⟩,h1,h2⟩
theorem IZ(a m:List fK):iG (iG a++m)=iG (a++m):=zT jg (og _) (og _) fun t=>by
 rw [jy,jy]
 constructor
 ·rintro ⟨h,g⟩
  refine ⟨?_,fun y hy he hl=> ?_⟩
  ·rcases List.mem_append.1 h with h|h
   ·exact List.mem_append.2 (.inl (jy.1 h).1)
   ·exact List.mem_append.2 (.inr h)
  ·rcases List.mem_append.1 hy with hy|hy
   ·obtain ⟨m2,hm2,h1,h2⟩:=QY a y hy
    have:=g m2 (List.mem_append.2 (.inl hm2)) (h1.trans he)
    rcases h2 with rfl|h2
    ·exact this hl
    ·exact this (jg.trans h2 hl)
   ·exact g y (List.mem_append.2 (.inr hy)) he hl
 ·rintro ⟨h,g⟩
  refine ⟨?_,fun y hy he=> ?_⟩
  ·rcases List.mem_append.1 h with h|h
   ·exact List.mem_append.2 (.inl (jy.2 ⟨h,fun y hy he=>g y (List.mem_append.2 (.inl hy)) he⟩))
   ·exact List.mem_append.2 (.inr h)
  ·rcases List.mem_append.1 hy with hy|hy
   ·exact g y (List.mem_append.2 (.inl (jy.1 hy).1)) he
   ·exact g y (List.mem_append.2 (.inr hy)) he
theorem tZ(a:List fK)(d:List gB):gH (iG a) d=iG (gH a d):=zT jg ((og a).filter _) (og _) fun t=>by
 rw [iX,jy,jy,iX]
 constructor
 ·rintro ⟨⟨h,g⟩,k⟩
  exact ⟨⟨h,k⟩,fun y hy he=>g y (iX.1 hy).1 he⟩
 ·rintro ⟨⟨h,k⟩,g⟩
  exact ⟨⟨h,fun y hy he=>g y (iX.2 ⟨hy,by rw [he];exact k⟩) he⟩,k⟩
theorem Bf(node seq:Int):∀ (l:List gD) (a b:List fK),FY node seq (a++b) l=gH a (gN l)++FY node seq b l
 |[],a,b=>by
  show a++b=gH a []++b
  rw [uW]
 |e::l,a,b=>by
  show FY node seq (sP node seq (a++b) e) l=gH a (gN (e::l))++FY node seq (sP node seq b e) l
  unfold sP;rw [xS,List.append_assoc,Bf node seq l,NK]
  rfl
def own(node seq:Int)(l:List gD):List fK:=FY node seq [] l
theorem uO(node seq:Int)(s:List fK)(l:List gD):FY node seq s l=gH s (gN l)++own node seq l:=by
 have:=Bf node seq l s []
 rwa [List.append_nil] at this
theorem yR(node seq:Int)(e:gD)(l:List gD):own node seq (e::l)=gH (makes node seq e) (gN l)++own node seq l:=by
 have:=Bf node seq l (makes node seq e) [];rw [List.append_nil] at this;exact this
theorem zW{node seq:Int}{e:gD}{t:fK}:t∈makes node seq e↔e.kind≠0/\t=lV node seq e:=by
 unfold makes
 split
 ·rename_i h;simp [h]
 ·rename_i h;simp [h]
theorem Cm{node seq:Int}:∀ {l:List gD} {t:fK},t∈own node seq l ->∃ e∈l,t=lV node seq e
 |[],t,h=>absurd h (by simp [own,FY])
 |e::l,t,h=>by
  rw [yR,List.mem_append] at h
  rcases h with h|h
  ·exact ⟨e,List.mem_cons_self,(zW.1 (iX.1 h).1).2⟩
  ·obtain ⟨e2,h2,h3⟩:=Cm h
   exact ⟨e2,List.mem_cons_of_mem _ h2,h3⟩
theorem QZ(node seq:Int):∀ (l:List gD) (s:List fK),iG (FW node seq s l)=iG (FY node seq s l)
 |[],s=>rfl
 |e::l,s=>by
  show iG (FW node seq (iG (sP node seq s e)) l)=iG (FY node seq (sP node seq s e) l)
  rw [QZ node seq l,uO,tZ,IZ,<-uO]
theorem I6(node seq:Int):∀ (l:List gD) (s:List fK),l≠[] ->iG (FW node seq s l)=FW node seq s l
 |[],_,h=>absurd rfl h
 |[e],s,_=>ER _
 |e::e2::l,s,_=>I6 node seq (e2::l) _ (by simp)
theorem Ea(node seq:Int)(l:List gD)(s:List fK)(h:l≠[]):FW node seq s l=iG (FY node seq s l):=by
 rw [<-I6 node seq l s h,QZ]
theorem WQ(node seq:Int)(s:List fK):FW node seq s []=s:=rfl
theorem Gm(node seq:Int):∀ (l:List gD) (s:List fK),(FW node seq s l).length<=s.length+l.length
 |[],s=>Nat.le_refl _
 |e::l,s=>by
  have h1:=Gm node seq l (NJ node seq s e);have h2:=Ko (sP node seq s e);have h3:=p9 s e.drops;have h4:(makes node seq e).length<=1:=by unfold makes;split<;>simp
  have h5:(sP node seq s e).length=(gH s e.drops).length+(makes node seq e).length:=List.length_append
  show (FW node seq (NJ node seq s e) l).length<=s.length+(e::l).length
  rw [List.length_cons];unfold NJ at h1 ⊢;omega
def NM(l:List gD)(node seq:Int):Bool:=l.any fun e=>e.drops.any fun d=>decide (d.node=node)&&decide (d.seq=seq)
theorem names_no{l:List gD}{node seq:Int}(h:NM l node seq=false){d:gB}(hd:d∈gN l):¬ (d.node=node/\d.seq=seq):=by
 rintro ⟨h1,h2⟩;obtain ⟨e,he,hde⟩:=List.mem_flatMap.1 hd;unfold NM at h;rw [List.any_eq_false] at h;refine h e he (List.any_eq_true.2 ⟨d,hde,?_⟩);simp [h1,h2]
theorem yS{l:List gD}{d:gB}:d∈gN l↔∃ e∈l,d∈e.drops:=List.mem_flatMap
def oV(a b:gB):Bool:=decide (a.node<b.node\/(a.node=b.node/\(a.seq<b.seq\/(a.seq=b.seq/\a.pos<b.pos))))
def qL:List gB ->Bool
 |[]=>true
 |[d]=>jX d
 |d::e::l=>jX d&&(oV d e&&qL (e::l))
def yT(node seq:Int)(e:gD):Bool:=
 if e.kind=0 then decide (0<e.drops.length)&&(decide (e.elem.length=0)&&(decide (e.n=0)&&(xY e.key&&(iK e.field&&jX ⟨node,seq,e.pos⟩)))) else iH (lV node seq e)
def iD(node seq:Int)(e:gD):Bool:=decide (e.drops.length<=64)&&(qL e.drops&&yT node seq e)
def Ls(node seq:Int)(e:gD):Bool:=e.drops.all fun d=> !(decide (d.node=node)&&(decide (d.seq=seq)&&decide (e.pos<=d.pos)))
def Bg:List gD ->Bool
 |[]=>true
 |[_]=>true
 |a::b::l=>decide (a.pos<b.pos)&&Bg (b::l)
def nN(node seq:Int)(l:List gD):Bool:=l.all (iD node seq)&&(Bg l&&l.all (Ls node seq))
theorem yU:∀ {l:List gD},Bg l=true ->l.Pairwise (fun a b=>a.pos<b.pos)
 |[],_=>List.Pairwise.nil
 |[a],_=>by simp
 |a::b::l,h=>by
  unfold Bg at h;rw [Bool.and_eq_true,decide_eq_true_iff] at h;have ih:=yU h.2;refine List.pairwise_cons.2 ⟨fun x hx=> ?_,ih⟩
  rcases List.mem_cons.1 hx with rfl|hx
  ·exact h.1
  ·have:=(List.pairwise_cons.1 ih).1 x hx
   omega
theorem Q0{node seq:Int}{l:List gD}(h:nN node seq l=true):l.Pairwise (fun a b=>a.pos<b.pos):=by
 unfold nN at h;rw [Bool.and_eq_true,Bool.and_eq_true] at h;exact yU h.2.1
def j4:List gD ->List gB
 |[]=>[]
 |e::l=>j4 l++e.drops
theorem I7:∀ {l:List gD} {d:gB},d∈j4 l↔d∈gN l
 |[],d=>Iff.rfl
 |e::l,d=>by
  rw [j4,List.mem_append,I7];unfold gN;rw [List.flatMap_cons,List.mem_append];exact Or.comm
def mleft(node seq:Int):List gD ->List fK
 |[]=>[]
 |e::l=>mleft node seq l++gH (makes node seq e) (j4 l)
theorem Dy{node seq:Int}:∀ {l:List gD} {t:fK},t∈mleft node seq l↔t∈own node seq l
 |[],t=>Iff.rfl
 |e::l,t=>by
  rw [mleft,yR,List.mem_append,List.mem_append,Dy,iX,iX,I7];exact Or.comm
theorem Yy(node seq:Int)(e:gD):(makes node seq e).length<=1:=by unfold makes;split<;>simp
theorem Dx(node seq:Int):∀ l:List gD,(mleft node seq l).length<=l.length
 |[]=>Nat.le_refl _
 |e::l=>by
  have h1:=Dx node seq l;have h2:=Yy node seq e;have h3:=p9 (makes node seq e) (j4 l);rw [mleft,List.length_append,List.length_cons];omega
theorem Ye{node seq:Int}{e:gD}{l:List gD}(hk:e.kind≠0)(hd:mH (j4 l) ⟨node,seq,e.pos⟩=false):mleft node seq (e::l)=mleft node seq l++[lV node seq e]:=by
 rw [mleft]
 congr 1
 unfold makes gH;rw [if_neg hk,List.filter_cons,if_pos,List.filter_nil]
 show (!mH (j4 l) ⟨node,seq,e.pos⟩)=true
 rw [hd]
 rfl
theorem Qz{node seq:Int}{e:gD}{l:List gD}(h:e.kind=0\/mH (j4 l) ⟨node,seq,e.pos⟩=true):mleft node seq (e::l)=mleft node seq l:=by
 rw [mleft]
 conv=>rhs;rw [<-List.append_nil (mleft node seq l)]
 congr 1
 unfold makes gH
 rcases h with h|h
 ·rw [if_pos h,List.filter_nil]
 ·split
  ·rfl
  ·rw [List.filter_cons,if_neg,List.filter_nil]
   show ¬ (!mH (j4 l) ⟨node,seq,e.pos⟩)=true
   rw [h]
   decide
theorem edo_way{node seq:Int}{s:List fK}{l:List gD}(h:l≠[]):iG (gH s (gN l)++mleft node seq l)=FW node seq s l:=by
 rw [Ea node seq l s h,uO];refine DV fun t=> ?_
 rw [List.mem_append,List.mem_append,Dy]
theorem drop_cons{α:Type}[Inhabited α]{l:List α}{k:Nat}(hk:k<l.length):l.drop k=l.getD k default::l.drop (k+1):=by
 rw [List.drop_eq_getElem_cons hk];simp [List.getD,List.getElem?_eq_getElem hk]
theorem Ip{l:List gD}{k:Nat}(hk:k<l.length):gN (l.take (k+1))=gN (l.take k)++(l.getD k default).drops:=by
 rw [oZ hk];unfold gN;rw [List.flatMap_append];simp
theorem Dz{l:List gD}{m:Nat}(h:∀ e∈l,e.drops.length<=m):(gN l).length<=l.length*m:=by
 unfold gN
 induction l with
 |nil=>simp
 |cons e l ih=>
  have h1:=ih fun x hx=>h x (List.mem_cons_of_mem _ hx)
  have h2:=h e List.mem_cons_self;rw [List.flatMap_cons,List.length_append,List.length_cons,Nat.succ_mul];omega
theorem Il{m:Nat}:∀ {l:List gD},(∀ e∈l,e.drops.length<=m) ->(j4 l).length<=l.length*m
 |[],_=>by simp [j4]
 |e::l,h=>by
  have h1:=Il (l:=l) fun x hx=>h x (List.mem_cons_of_mem _ hx)
  have h2:=h e List.mem_cons_self;rw [j4,List.length_append,List.length_cons,Nat.succ_mul];omega
def WK(a b:gB):List Int:=[Lib.compareInt a.node b.node,Lib.compareInt a.seq b.seq,Lib.compareInt a.pos b.pos]
def Yg(a b:gB):Int:=kF (WK a b)
theorem dcmp_dec(a b:gB):decide (Yg a b<0)=oV a b:=by
 unfold oV Yg WK;exact decide_eq_decide.2 (kM (pG _ _) (kM (pG _ _) (Cw (pG _ _))))
theorem dcmp_ge(a b:gB):decide (0<=Yg a b)= !oV a b:=by
 rw [<-dcmp_dec,Bool.eq_iff_iff,Bool.not_eq_true',decide_eq_true_iff,decide_eq_false_iff_not];omega
theorem Iu:∀ {l:List gB},qL l=true↔∀ j,j<l.length ->jX (l.getD j default)=true/\(0<j ->oV (l.getD (j-1) default) (l.getD j default)=true)
 |[]=>⟨fun _ j hj=>absurd hj (by simp),fun _=>rfl⟩
 |[d]=>by
  rw [qL]
  constructor
  ·intro h j hj
   obtain rfl:j=0:=by simp at hj;exact hj
   exact ⟨h,fun k=>absurd k (by omega)⟩
  ·intro h
   exact (h 0 (by simp)).1
 |d::e::l=>by
  rw [qL,Bool.and_eq_true,Bool.and_eq_true,Iu (l:=e::l)]
  constructor
  ·rintro ⟨h1,h2,h3⟩ j hj
   cases j with
   |zero=>exact ⟨h1,fun k=>absurd k (by omega)⟩
   |succ j=>
    have h4:=h3 j (by simp at hj ⊢;omega);refine ⟨h4.1,fun _=> ?_⟩
    cases j with
    |zero=>exact h2
    |succ j=>exact h4.2 (by omega)
  ·intro h
   refine ⟨(h 0 (by simp)).1,(h 1 (by simp)).2 (by omega),fun j hj=> ?_⟩;have h4:=h (j+1) (by simp at hj ⊢;omega);refine ⟨h4.1,fun hp=> ?_⟩;obtain ⟨i,rfl⟩:∃ i,j=i+1:=⟨j-1,by omega⟩;exact h4.2 (by omega)
theorem I8:∀ {l:List gD},Bg l=true↔∀ j,j<l.length ->0<j ->(l.getD (j-1) default).pos<(l.getD j default).pos
 |[]=>⟨fun _ j hj=>absurd hj (by simp),fun _=>rfl⟩
 |[d]=>by
  rw [Bg];exact ⟨fun _ j hj hp=>by simp at hj;omega,fun _=>rfl⟩
 |d::e::l=>by
  rw [Bg,Bool.and_eq_true,decide_eq_true_iff,I8 (l:=e::l)]
  constructor
  ·rintro ⟨h2,h3⟩ j hj hp
   obtain ⟨i,rfl⟩:∃ i,j=i+1:=⟨j-1,by omega⟩
   cases i with
   |zero=>exact h2
   |succ i=>exact h3 (i+1) (by simp at hj ⊢;omega) (by omega)
  ·intro h
   refine ⟨h 1 (by simp) (by omega),fun j hj hp=> ?_⟩;obtain ⟨i,rfl⟩:∃ i,j=i+1:=⟨j-1,by omega⟩;exact h (i+1+1) (by simp at hj ⊢;omega) (by omega)
theorem rR{l:List gD}{k:Nat}(hk:k<l.length):l.getD k default∈l:=by
 have:l.getD k default=l[k]:=by simp [List.getD,List.getElem?_eq_getElem hk]
 rw [this];exact List.getElem_mem hk
theorem Q5{p:gD ->Bool}{l:List gD}:l.all p=true↔∀ j,j<l.length ->p (l.getD j default)=true:=by
 rw [List.all_eq_true]
 constructor
 ·intro h j hj
  exact h _ (rR hj)
 ·intro h x hx
  obtain ⟨j,hj,rfl⟩:=List.getElem_of_mem hx;have:=h j hj
  rwa [show l.getD j default=l[j] by simp [List.getD,List.getElem?_eq_getElem hj]] at this
theorem UC{node seq:Int}{l:List gD}:nN node seq l=true↔∀ j,j<l.length ->(0<j ->(l.getD (j-1) default).pos<(l.getD j default).pos)/\iD node seq (l.getD j default)=true/\Ls node seq (l.getD j default)=true:=by
 unfold nN;rw [Bool.and_eq_true,Bool.and_eq_true,Q5,Q5,I8];exact ⟨fun ⟨h1,h2,h3⟩ j hj=>⟨h2 j hj,h1 j hj,h3 j hj⟩,fun h=>⟨fun j hj=>(h j hj).2.1,fun j hj=>(h j hj).1,fun j hj=>(h j hj).2.2⟩⟩
def uE(l:List gB):Bool:=decide (l.length<=64)&&qL l
def Yh(node seq:Int)(e:gD):fK:=⟨e.key,e.field,1,e.elem,e.n,⟨node,seq,e.pos⟩⟩
theorem Nk{node seq:Int}{e:gD}(hk:e.kind=0)(he:e.elem.length=0)(hd:0<e.drops.length):iD node seq e=(iH (Yh node seq e)&&uE e.drops):=by
 have h1:e.elem.length<=32:=by omega
 have h2:(Yh node seq e).elem.length<=32:=h1;unfold iD yT iH uE qB;rw [if_pos hk,decide_eq_true hd,decide_eq_true he,decide_eq_true h2]
 show (decide (e.drops.length<=64)&&(qL e.drops&&(true&&(true&&(decide (e.n=0)&&(xY e.key&&(iK e.field&&jX ⟨node,seq,e.pos⟩)))))))=((jX ⟨node,seq,e.pos⟩&&(xY e.key&&(iK e.field&&(true&&(decide ((1:Int)=1\/(1:Int)=2)&&decide (e.n=0)||(decide ((1:Int)=3)&&decide (e.elem.length=0)))))))&&(decide (e.drops.length<=64)&&qL e.drops))
 rw [show decide ((1:Int)=1\/(1:Int)=2)=true by decide,show decide ((1:Int)=3)=false by decide];generalize decide (e.drops.length<=64)=b1;generalize qL e.drops=b2;generalize decide (e.n=0)=b3;generalize xY e.key=b4;generalize iK e.field=b5;generalize jX ⟨node,seq,e.pos⟩=b6
 cases b1<;>cases b2<;>cases b3<;>cases b4<;>cases b5<;>cases b6<;>rfl
theorem Nl{node seq:Int}{e:gD}(hk:e.kind=0)(he:¬ e.elem.length=0):iD node seq e=false:=by
 unfold iD yT;rw [if_pos hk,decide_eq_false he];simp
theorem Nn{node seq:Int}{e:gD}(hk:e.kind=0)(hd:e.drops.length=0):iD node seq e=false:=by
 unfold iD yT;rw [if_pos hk,decide_eq_false (by omega:¬ 0<e.drops.length)];simp
theorem Np{node seq:Int}{e:gD}(hk:¬ e.kind=0):iD node seq e=(iH (lV node seq e)&&uE e.drops):=by
 unfold iD yT uE;rw [if_neg hk];generalize decide (e.drops.length<=64)=b1;generalize qL e.drops=b2;generalize iH (lV node seq e)=b3
 cases b1<;>cases b2<;>cases b3<;>rfl
def lF(node seq pos:Int)(d:gB):Bool:=decide (d.node=node)&&(decide (d.seq=seq)&&decide (pos<=d.pos))
theorem QA(node seq:Int)(e:gD):Ls node seq e= !(e.drops.any (lF node seq e.pos)):=by
 unfold Ls lF;rw [Bool.eq_iff_iff,Bool.not_eq_true',List.all_eq_true,List.any_eq_false]
 constructor
 ·intro h d hd k
  have:=h d hd;rw [k] at this
  cases this
 ·intro h d hd
  have:=h d hd
  cases hb:(decide (d.node=node)&&(decide (d.seq=seq)&&decide (e.pos<=d.pos))) with
  |true=>exact absurd hb this
  |false=>rfl
theorem ask_dot(d:gB):iH ⟨[97],[],1,[],0,d⟩=jX d:=by
 have h1:xY [97]=true:=by decide
 have h2:iK []=true:=by decide
 unfold iH qB
 show (jX d&&(xY [97]&&(iK []&&(decide (([]:iE).length<=32)&&((decide ((1:Int)=1\/(1:Int)=2)&&decide ((0:Int)=0))||(decide ((1:Int)=3)&&decide (([]:iE).length=0)))))))=jX d
 rw [h1,h2];simp
end Go.Proofs.YtfgcodcablpdcaaGreat.Plain