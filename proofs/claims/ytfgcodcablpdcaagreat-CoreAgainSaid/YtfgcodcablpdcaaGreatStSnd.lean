import Derived.Test.YtfgcodcablpdcaaGreatOrLack
set_option linter.unusedVariables false
namespace Go.Proofs.YtfgcodcablpdcaaGreat
open Go.Proofs.Tryz
open Go.RowKit Plain
theorem kY{w:World}{g:Nat}{x y:Value}{t:TypeId}(h:w.heap[g]? =some (.cells #[x,y] t (0,0))):(w.cell? ⟨g,0,none⟩=some x/\w.cell? ⟨g,1,none⟩=some y)/\w.frozen? ⟨g,0,none⟩=false/\w.frozen? ⟨g,1,none⟩=false:=by
 have c0:=cell_of_row _ _ 0 _ _ _ h;have c1:=cell_of_row _ _ 1 _ _ _ h;simp only [fq,eX,dL] at c0 c1
 exact ⟨⟨c0,c1⟩,jG h 0,jG h 1⟩
theorem vH{w:World}{g:Nat}{a b:Value}{t:TypeId}(h:w.heap[g]? =some (.cells #[a,b] t (0,0)))(x y:Value):((w.setCell ⟨g,0,none⟩ x).setCell ⟨g,1,none⟩ y).heap[g]? =some (.cells #[x,y] t (0,0)):=
 aB _ g 1 _ _ y (aB _ g 0 _ _ x h)
def Two(w:World)(R:Nat):Prop:=∃ a n c a' n' c' t,w.heap[R]? =some (.cells #[.slice a n c,.slice a' n' c'] t (0,0))
theorem Two.cell{w:World}{R i:Nat}{u:Value}(h:Two w R)(hc:w.cell? ⟨R,i,none⟩=some u):i<2/\∃ a n c,u= .slice a n c:=by
 obtain ⟨a,n,c,a',n',c',t,hb⟩:=h;have h1:=cell_of_row _ _ i _ _ _ hb;rw [hc] at h1
 match i,h1 with
 |0,h1=>exact ⟨by omega,a,n,c,by simpa using h1⟩
 |1,h1=>exact ⟨by omega,a',n',c',by simpa using h1⟩
 |i+2,h1=>simp at h1
theorem Two.but{w w':World}{R g:Nat}(h:Two w R)(hb:But g w w')(hne:R≠g):Two w' R:=by
 obtain ⟨a,n,c,a',n',c',t,h1⟩:=h;exact ⟨a,n,c,a',n',c',t,(hb.block R (aH.1 h1).1 hne).trans h1⟩
theorem Sq.no2{α:Type}{L:El α}(hk:3<=L.k){P:Nat ->Prop}{w:World}{R:Nat}{v:Value}{xs:List α}(h2:Two w R)(hR:∀ vs x,L.R P w vs x ->L.R (fun b=>P b/\b≠R) w vs x)(h:Sq L P w v xs):Sq L (fun b=>P b/\b≠R) w v xs:=by
 obtain ⟨a,cap,vals,e,h1,h3,h0,hr,h4⟩:=h;refine ⟨a,cap,vals,e,h1,h3,h0,⟨hr.1,fun j x hj=>hR _ _ (hr.2 j x hj)⟩,fun hp=> ?_⟩;obtain ⟨b,off,ea,hb,hc⟩:=h4 hp;refine ⟨b,off,ea,⟨hb,fun e=> ?_⟩,hc⟩;subst e;have hl:2<vals.length:=by
  have:=Nat.mul_le_mul hp hk;rw [hr.1];omega
 have:=h2.cell (hc 2 _ (au hl));omega
theorem Gf{P:Nat ->Prop}{w:World}{R:Nat}{v:Value}{xs:List Int}(h2:Two w R)(h:Sq gL P w v xs):Sq gL (fun b=>P b/\b≠R) w v xs:=by
 obtain ⟨a,cap,vals,e,h1,h3,h0,hr,h4⟩:=h;refine ⟨a,cap,vals,e,h1,h3,h0,⟨hr.1,fun j x hj=>gU (hr.2 j x hj)⟩,fun hp=> ?_⟩;obtain ⟨b,off,ea,hb,hc⟩:=h4 hp;refine ⟨b,off,ea,⟨hb,fun e=> ?_⟩,hc⟩;subst e;have hx:=hr.2 0 _ (au hp);have h5:pt 1 vals 0=[.int .i64 xs[0]]:=hx;have h6:=lH (k:=1) vals 0 0 (by omega);rw [h5] at h6;obtain ⟨-,a',n',c',h7⟩:=h2.cell (hc 0 (.int .i64 xs[0]) (by simpa using h6.symm))
 cases h7
theorem Qh{P:Nat ->Prop}{w:World}{R:Nat}{v:Value}{xs:List fK}(h2:Two w R)(h:Sq gG P w v xs):Sq gG (fun b=>P b/\b≠R) w v xs:=h.no2 (show 3<=8 by omega) h2 fun _ _ h=>h
theorem dot_no2{P:Nat ->Prop}{w:World}{R:Nat}{v:Value}{xs:List gB}(h2:Two w R)(h:Sq jI P w v xs):Sq jI (fun b=>P b/\b≠R) w v xs:=h.no2 (show 3<=3 by omega) h2 fun _ _ h=>h
theorem Xf{P:Nat ->Prop}{w:World}{R:Nat}{v:Value}{xs:List gD}(h2:Two w R)(h:Sq jo P w v xs):Sq jo (fun b=>P b/\b≠R) w v xs:=h.no2 (show 3<=7 by omega) h2 fun _ _ ⟨dv,e,hd⟩=>⟨dv,e,dot_no2 h2 hd⟩
theorem Wv{P:Nat ->Prop}{w:World}{R:Nat}{v:Value}{xs:List fI}(h2:Two w R)(h:Sq gV P w v xs):Sq gV (fun b=>P b/\b≠R) w v xs:=h.no2 (show 3<=4 by omega) h2 fun _ _ ⟨dv,ev,e,hd,he⟩=>⟨dv,ev,e,Gf h2 hd,Xf h2 he⟩
theorem Sq.but{α:Type}{L:El α}{w w':World}{R:Nat}{v:Value}{xs:List α}(hb:But R w w')(h:Sq L (fun b=>b<w.heap.size/\b≠R) w v xs):fM L w' v xs:=
 (h.agree fun b hq=>hb.block b hq.1 hq.2).mono fun b hq=>ay hq.1 hb.size
theorem Sq.nil{α:Type}{L:El α}(P:Nat ->Prop)(w:World):Sq L P w (.slice none 0 0) []:=⟨none,0,[],rfl,aL _,aL _,fun _=>rfl,Rows.nil _ _,fun h=>absurd h (by simp)⟩
theorem Sq.later{α:Type}{L:El α}{N:Nat}{w w':World}{v:Value}{xs:List α}(h:Sq L (fun b=>N<=b/\b<w.heap.size) w v xs)(hb:Below w.heap.size w w'):Sq L (fun b=>N<=b/\b<w'.heap.size) w' v xs:=
 (h.agree fun b hq=>hb.block b hq.2).mono fun b hq=>⟨hq.1,ay hq.2 hb.size⟩
theorem Sq.set2{α:Type}{L:El α}{N R:Nat}{w w':World}{v:Value}{xs:List α}(hb:But R w w')(h:Sq L (fun b=>(N<=b/\b<w.heap.size)/\b≠R) w v xs):Sq L (fun b=>N<=b/\b<w'.heap.size) w' v xs:=
 (h.agree fun b hq=>hb.block b hq.1.2 hq.2).mono fun b hq=>⟨hq.1.1,ay hq.1.2 hb.size⟩
theorem gI.newI{N B:Nat}{w:World}{v:Value}{xs:List Int}(h:gI B w v xs)(hN:N<=B):Sq gL (fun b=>N<=b/\b<w.heap.size) w v xs:=((Xa h).new gU).mono fun b hb=>⟨ak hN hb.1,hb.2⟩
theorem zq{w w':World}{R:Nat}{v:Value}{xs:List Int}(h2:Two w R)(hb:But R w w')(h:fM gL w v xs):fM gL w' v xs:=(Gf h2 h).but hb
theorem Dc{w w':World}{R:Nat}{v:Value}{xs:List fK}(h2:Two w R)(hb:But R w w')(h:fM gG w v xs):fM gG w' v xs:=(Qh h2 h).but hb
theorem Td{w w':World}{R:Nat}{v:Value}{xs:List gD}(h2:Two w R)(hb:But R w w')(h:fM jo w v xs):fM jo w' v xs:=(Xf h2 h).but hb
theorem qY(w:World)(R:Nat)(x y:Value):But R w ((w.setCell ⟨R,0,none⟩ x).setCell ⟨R,1,none⟩ y):=(But.set R w 0 x).trans (But.set R _ 1 y)
theorem wE.but{g R:Nat}{t:fI}{da ea:Option Addr}{dn dc en ec:Nat}{u u':World}(k:wE g t da dn dc ea en ec u)(h2:Two u R)(hb:But R u u')(hne:g≠R):wE g t da dn dc ea en ec u':=by
 have c:∀ {i:Nat} {v:Value},u.cell? ⟨g,i,none⟩=some v ->u'.cell? ⟨g,i,none⟩=some v:=fun {i v} h=>(aQ (a:=⟨g,i,none⟩) (hb.block g (aG u _ h) hne)).trans h
 obtain ⟨h0,h1,h3,h4⟩:=k.c;exact ⟨⟨c h0,c h1,c h3,c h4⟩,zq h2 hb k.d,Td h2 hb k.e⟩
def qV(w:World)(v:Value)(s:iP):Prop:=∃ hv iv,v= .agg #[hv,iv]/\fM gL w hv s.heard/\fM gG w iv s.items
theorem qV.below{w w':World}{v:Value}{s:iP}(h:qV w v s)(hb:Below w.heap.size w w'):qV w' v s:=by
 obtain ⟨hv,iv,rfl,h1,h2⟩:=h;exact ⟨hv,iv,rfl,h1.below hb,h2.below hb⟩
theorem qV.slices{w:World}{v:Value}{s:iP}(h:qV w v s):∃ ha hn hc ia im ic,v= .agg #[.slice ha hn hc,.slice ia im ic]/\fM gL w (.slice ha hn hc) s.heard/\fM gG w (.slice ia im ic) s.items:=by
 obtain ⟨hv,iv,rfl,h1,h2⟩:=h;obtain ⟨a1,c1,rfl,-,-,-,k1⟩:=h1.parts;obtain ⟨a2,c2,rfl,-,-,-,k2⟩:=h2.parts;exact ⟨_,_,_,_,_,_,rfl,k1,k2⟩
section
open Go.ChangeShapes Go.WideShapes Go.Joins
set_option maxRecDepth 100000
end
structure qp(g:Nat)(s:iP)(ha:Option Addr)(hn hc:Nat)(ia:Option Addr)(im ic:Nat)(u:World):Prop where
 b:u.heap[g]? =some (.cells #[.slice ha hn hc,.slice ia im ic] 28 (0,0))
 h:fM gL u (.slice ha hn hc) s.heard
 i:fM gG u (.slice ia im ic) s.items
theorem qp.c{g:Nat}{s:iP}{ha ia:Option Addr}{hn hc im ic:Nat}{u:World}(k:qp g s ha hn hc ia im ic u):u.cell? ⟨g,0,none⟩=some (.slice ha hn hc)/\u.cell? ⟨g,1,none⟩=some (.slice ia im ic):=(kY k.b).1
theorem qp.lt{g:Nat}{s:iP}{ha ia:Option Addr}{hn hc im ic:Nat}{u:World}(k:qp g s ha hn hc ia im ic u):g<u.heap.size:=(aH.1 k.b).1
theorem qp.below{g:Nat}{s:iP}{ha ia:Option Addr}{hn hc im ic:Nat}{u u':World}(k:qp g s ha hn hc ia im ic u)(hb:Below u.heap.size u u'):qp g s ha hn hc ia im ic u':=
 ⟨(hb.block g k.lt).trans k.b,k.h.below hb,k.i.below hb⟩
theorem Dr{w:World}{s:iP}{ha ia:Option Addr}{hn hc im ic:Nat}(h1:fM gL w (.slice ha hn hc) s.heard)(h2:fM gG w (.slice ia im ic) s.items):qp w.heap.size s ha hn hc ia im ic (w.alloc (.cells #[.slice ha hn hc,.slice ia im ic] 28)):=
 have hb:=zB w (.cells #[.slice ha hn hc,.slice ia im ic] 28)
 ⟨aM w _,h1.below hb,h2.below hb⟩
theorem qp.two{g:Nat}{s:iP}{ha ia:Option Addr}{hn hc im ic:Nat}{u:World}(k:qp g s ha hn hc ia im ic u):Two u g:=⟨_,_,_,_,_,_,_,k.b⟩
theorem qp.but{g R:Nat}{s:iP}{ha ia:Option Addr}{hn hc im ic:Nat}{u u':World}(k:qp g s ha hn hc ia im ic u)(h2:Two u R)(hb:But R u u')(hne:g≠R):qp g s ha hn hc ia im ic u':=
 ⟨(hb.block g k.lt hne).trans k.b,zq h2 hb k.h,Dc h2 hb k.i⟩
theorem aag{w:World}{R:Nat}{s:iP}{ha ia:Option Addr}{hn hc im ic:Nat}(h2:Two w R)(h1:fM gL w (.slice ha hn hc) s.heard)(h3:fM gG w (.slice ia im ic) s.items)(ht:∃ x y,w.heap[R]? =some (.cells #[x,y] 28 (0,0))):
  qp R s ha hn hc ia im ic ((w.setCell ⟨R,0,none⟩ (.slice ha hn hc)).setCell ⟨R,1,none⟩ (.slice ia im ic)):=by
 obtain ⟨x,y,ht⟩:=ht;exact ⟨vH ht _ _,zq h2 (qY w R _ _) h1,Dc h2 (qY w R _ _) h3⟩
theorem qp.set{g:Nat}{s0 s:iP}{ha0 ia0 ha ia:Option Addr}{hn0 hc0 im0 ic0 hn hc im ic:Nat}{w:World}(k:qp g s0 ha0 hn0 hc0 ia0 im0 ic0 w)(h1:fM gL w (.slice ha hn hc) s.heard)(h3:fM gG w (.slice ia im ic) s.items):
  qp g s ha hn hc ia im ic ((w.setCell ⟨g,0,none⟩ (.slice ha hn hc)).setCell ⟨g,1,none⟩ (.slice ia im ic)):=aag k.two h1 h3 ⟨_,_,k.b⟩
end Go.Proofs.YtfgcodcablpdcaaGreat
set_option maxRecDepth 100000
set_option maxHeartbeats 64000000
namespace Go.Proofs.YtfgcodcablpdcaaGreat
open Go.Proofs.Tryz
open Go.RowKit Plain
theorem OX(W:World)(d:Int):Calls prog 145 (#[.int .i64 d]++#[]) W (fO W (decide (d>1073741824))):=by
 show Calls prog 145 #[.int .i64 d] W _
 go_enter func145,ntmps145
 go_wp2_with fail
 go_ret
 exact ⟨rfl,aj _ _⟩
theorem Te{v:Value}{xs:List Int}{w:World}(hv:gQ w v xs)(hl:xs.length<=1000000):Calls prog 77 #[v] w (fO w (uE xs)):=by
 obtain ⟨a,cap,rfl,g1,g2,g0,h⟩:=hv.parts;have KT:=zH (rP h hl);have KE:Hid (∀ (W:World) (u:Value),Below w.heap.size w W ->gQ W u (trim xs) ->Calls prog 83 #[.slice a xs.length cap,u] W fun e w'=>e= .returned (.bool (decide (xs=trim xs)))/\∃ n,w'=W.drewN n):=zH (fun W u hb hs=>rQ (h.below hb) hs);have KC:Hid (∀ W,Below w.heap.size w W ->Calls prog 146 #[.slice a xs.length cap,.func (.func 145) #[] #[]] W (fO W (xs.any fun n=>decide (n>1073741824)))):=zH (fun W hb=>uj (h.below hb) hl _ _ #[] (enters_of func145 (by kernel_rfl) rfl) (fun W' d _=>OX W' d));have HR:Hid (uE xs=(decide (xs.length<=8)&&(decide (xs=trim xs)&& !xs.any (fun n=>decide (n>1073741824))))):=zH rfl;clear hv h g0;generalize uE xs=r at*;generalize decide (xs=trim xs)=r1 at*;generalize (xs.any fun n=>decide (n>1073741824))=r2 at*;generalize trim xs=ts at*;generalize xs.length=n at*
 by_cases hn:n<=8
 ·have hni:(n:Int)<=8:=by omega
  rw [aI hn,aS] at HR;clear hn;go_enter func77,ntmps77
  go_wp2_with fail
  refine KT.o.mono ?_;rintro e w1 ⟨v1,rfl,ho,hb⟩;have B1:=zH hb;have KE1:=KE.o w1 v1 hb ho.seq;obtain ⟨a1,c1,rfl,-,-,-,-⟩:=ho.parts;clear ho hb KT KE;generalize ts.length=tn at*;go_wp2_with fail
  refine KE1.mono ?_;rintro e w2 ⟨rfl,q,rfl⟩;have B2:=zH (below_drewN B1.o q);clear KE1;generalize w1.drewN q=w2 at*
  cases r1 with
  |false=>
   obtain rfl:r=false:=HR.o;go_wp2_with fail
   go_ret
   exact ⟨rfl,B2.o⟩
  |true=>
   rw [aS] at HR;have Tv:=KC.o w2 B2.o;clear KC;go_wp2_with fail
   refine Tv.mono ?_;rintro e w3 ⟨rfl,hb⟩;have B3:=zH (B2.o.trans (hb.mono B2.o.size));clear hb Tv;obtain rfl:r= !r2:=HR.o;go_wp2_with fail
   go_ret
   exact ⟨rfl,B3.o⟩
 ·have hni:¬ (n:Int)<=8:=by omega
  rw [aF hn,bU] at HR;obtain rfl:r=false:=HR.o;clear hn HR;go_enter func77,ntmps77
  go_wp2_with fail
  go_ret
  exact ⟨rfl,aj _ _⟩
def sQ(v:Ints)(x:fK):Bool:= !iH x|| !(decide (1<=x.dot.seq)&&decide (x.dot.seq<=iF v x.dot.node))
theorem VT(v:Ints)(x:fK):sQ v x= !zo v x:=by
 unfold sQ zo
 cases h:iH x with
 |false=>rfl
 |true=>
  have h1:1<=x.dot.seq:=by
   unfold iH at h;rw [aD] at h;have:=h.1;unfold jX at this;have:=bR this;omega
  rw [aI h1];simp
theorem Tf(v:Ints)(l:List fK):(!l.any (sQ v))=l.all (zo v):=by
 rw [dB]
 congr 1
 funext x
 rw [VT,Bool.not_not]
theorem aah(s:iP):Dm s=(uE s.heard&&(decide (s.items=iG s.items)&&s.items.all (zo s.heard))):=by
 have e:(!s.heard.any (fun n=>decide (n>1073741824)))=s.heard.all (fun n=>decide (n<=1073741824)):=by
  rw [dB]
  congr 1
  funext n
  by_cases h:n>1073741824
  ·rw [aI h,aF (show ¬ n<=1073741824 by omega)];rfl
  ·rw [aF h,aI (show n<=1073741824 by omega)];rfl
 have e1:decide (s.heard=trim s.heard)=decide (trim s.heard=s.heard):=decide_eq_decide.2 ⟨Eq.symm,Eq.symm⟩;have e2:decide (s.items=iG s.items)=decide (iG s.items=s.items):=decide_eq_decide.2 ⟨Eq.symm,Eq.symm⟩;unfold Dm uE;rw [e,e1,e2];generalize decide (s.heard.length<=8)=b1;generalize decide (trim s.heard=s.heard)=b2;generalize s.heard.all _=b3;generalize s.items.all _=b4;generalize decide (iG s.items=s.items)=b5
 cases b1<;>cases b2<;>cases b3<;>cases b4<;>cases b5<;>rfl
theorem Tg:∀ args w,(callFunc 152 args).run prog w= .ok (.enter 152 args) w:=enters_of func152 (by kernel_rfl) rfl
theorem VU(x:fK){zv:Value}{xs:Ints}(g:Nat)(W:World)(hc:W.cell? ⟨g,0,none⟩=some zv)(hv:gQ W zv xs):
  Calls prog 152 (#[Ym x]++#[.pointer (some ⟨g,0,none⟩)]) W (fO W (sQ xs x)):=by
 show Calls prog 152 #[.agg #[.string (bt x.key),.string (bt x.field),.int .i64 x.kind,.string (bt x.elem),.int .i64 x.n,.int .i64 x.dot.node,.int .i64 x.dot.seq,.int .i64 x.dot.pos],.pointer (some ⟨g,0,none⟩)] W _
 have hb1:=zB W (.cells #[.string (bt x.key),.string (bt x.field),.int .i64 x.kind,.string (bt x.elem),.int .i64 x.n,.int .i64 x.dot.node,.int .i64 x.dot.seq,.int .i64 x.dot.pos] 79);have hlt:=aG W ⟨g,0,none⟩ hc;have HC:=zH (fun u (hb:Below W.heap.size W u)=>(hb.cell (p:=⟨g,0,none⟩) hlt).trans hc);have HV:=zH (fun u (hb:Below W.heap.size W u)=>hv.below hb);have IB:Hid (∀ u,Below (W.alloc (.cells #[.string (bt x.key),.string (bt x.field),.int .i64 x.kind,.string (bt x.elem),.int .i64 x.n,.int .i64 x.dot.node,.int .i64 x.dot.seq,.int .i64 x.dot.pos] 79)).heap.size (W.alloc (.cells #[.string (bt x.key),.string (bt x.field),.int .i64 x.kind,.string (bt x.elem),.int .i64 x.n,.int .i64 x.dot.node,.int .i64 x.dot.seq,.int .i64 x.dot.pos] 79)) u ->jS u W.heap.size 0 x):=zH (fun u hb=>jS.below ⟨by simp,by simp,by simp,by simp,by simp,by simp,by simp,by simp⟩ hb (by simp));have HB:=zH hb1;have KF:=zH (uN x (W.alloc (.cells #[.string (bt x.key),.string (bt x.field),.int .i64 x.kind,.string (bt x.elem),.int .i64 x.n,.int .i64 x.dot.node,.int .i64 x.dot.seq,.int .i64 x.dot.pos] 79)));have HR:Hid (sQ xs x=(!iH x|| !(decide (1<=x.dot.seq)&&decide (x.dot.seq<=iF xs x.dot.node)))):=zH rfl;have KH:=zH (fun u (hb:Below W.heap.size W u)=>tN (HV.o u hb) x.dot.node x.dot.seq x.dot.pos);rw [Nz] at KF;obtain ⟨a,cap,rfl,-⟩:=hv.parts;clear hc hv hb1 hlt;generalize sQ xs x=r at*;generalize iH x=r1 at*;generalize (decide (1<=x.dot.seq)&&decide (x.dot.seq<=iF xs x.dot.node))=r2 at*;generalize xs.length=n at*;go_enter func152,ntmps152
 go_upto_region 1 with fail
 generalize (W.alloc _)=wb at*;have I0:=IB.o wb (aj _ _);obtain ⟨c0,c1,c2,c3,c4,c5,c6,c7⟩:=I0;simp only [aJ] at c1 c2 c3 c4 c5 c6 c7
 go_wp2_with fail
 refine KF.o.mono ?_;rintro e w2 ⟨rfl,hb⟩;have G2:=zH (HB.o.trans (hb.mono HB.o.size));have I2:=IB.o w2 hb;clear hb c0 c1 c2 c3 c4 c5 c6 c7 KF
 cases r1 with
 |false=>
  obtain rfl:r=true:=HR.o;go_wp2_with fail
  go_ret
  exact ⟨rfl,G2.o⟩
 |true=>
  obtain rfl:r= !r2:=HR.o;obtain ⟨c0,c1,c2,c3,c4,c5,c6,c7⟩:=I2;simp only [aJ] at c1 c2 c3 c4 c5 c6 c7
  have cg:=HC.o w2 G2.o;have K2:=KH.o w2 G2.o;go_wp2_with fail
  refine K2.mono ?_;rintro e w3 ⟨rfl,hb⟩;have G3:=zH (G2.o.trans (hb.mono G2.o.size));clear hb c0 c1 c2 c3 c4 c5 c6 c7 K2 cg;go_wp2_with fail
  go_ret
  exact ⟨rfl,G3.o⟩
theorem aai{u v:Value}{xs:Ints}{l:List fK}{w:World}(hu:gQ w u xs)(hv:fM gG w v l)(hn:l.length<=1000000)(r:Bool)(hr:l.all (zo xs)=r):Calls prog 80 #[u,v] w (fO w r):=by
 obtain ⟨ha,hcp,rfl,-⟩:=hu.parts;have HB:=zH (zB w (.cells #[.slice ha xs.length hcp] 25));have KC:=zH (y9 (hv.below HB.o) hn (sQ xs) 152 #[.pointer (some ⟨w.heap.size,0,none⟩)] Tg (fun W d hb=>VU d w.heap.size W ((hb.cell (p:=⟨w.heap.size,0,none⟩) (by simp)).trans (by simp)) (hu.below (HB.o.trans (hb.mono HB.o.size)))));have HR:Hid (r= !l.any (sQ xs)):=zH (by rw [Tf,hr]);obtain ⟨a,cap,rfl,-⟩:=hv.parts;clear hu hv hn hr;generalize l.any (sQ xs)=r2 at*;generalize xs.length=n at*;generalize l.length=m at*;go_enter func80,ntmps80
 go_upto_region 1 with fail
 generalize (w.alloc _)=wb at*;go_wp2_with fail
 refine KC.o.mono ?_;rintro e w2 ⟨rfl,hb⟩;have G2:=zH (HB.o.trans (hb.mono HB.o.size));clear hb KC;obtain rfl:r= !r2:=HR.o;go_wp2_with fail
 go_ret
 exact ⟨rfl,G2.o⟩
theorem Ti{v:Value}{s:iP}{w:World}(h:qV w v s)(hl:s.heard.length<=1000000)(hi:s.items.length<=1000000)(hd:∀ x∈s.items,jf x.dot)(r:Bool)(hr:Dm s=r):Calls prog 29 #[v] w (fO w r):=by
 obtain ⟨ha,hn,hc,ia,im,ic,rfl,h1,h2⟩:=h.slices;have G0:=zH (zB w (.cells #[.slice ha hn hc,.slice ia im ic] 28));have SB:=zH (Dr (s:=s) h1 h2);rw [aah] at hr;subst hr;have KE:Hid (∀ u,Below (w.alloc (.cells #[.slice ha hn hc,.slice ia im ic] 28)).heap.size (w.alloc (.cells #[.slice ha hn hc,.slice ia im ic] 28)) u ->Below (w.alloc (.cells #[.slice ha hn hc,.slice ia im ic] 28)).heap.size (w.alloc (.cells #[.slice ha hn hc,.slice ia im ic] 28)) u/\(u.cell? ⟨w.heap.size,0,none⟩=some (.slice ha hn hc)/\u.cell? ⟨w.heap.size,1,none⟩=some (.slice ia im ic))):=zH (fun u hb=>⟨hb,(SB.o.below hb).c⟩);have KH:=zH (fun u (hb:Below (w.alloc (.cells #[.slice ha hn hc,.slice ia im ic] 28)).heap.size (w.alloc (.cells #[.slice ha hn hc,.slice ia im ic] 28)) u)=>Te (gW (SB.o.below hb).h) hl);have KN:=zH (fun u (hb:Below (w.alloc (.cells #[.slice ha hn hc,.slice ia im ic] 28)).heap.size (w.alloc (.cells #[.slice ha hn hc,.slice ia im ic] 28)) u)=>vS (SB.o.below hb).i hi hd);have KQ:=zH (fun u nv (hb:Below (w.alloc (.cells #[.slice ha hn hc,.slice ia im ic] 28)).heap.size (w.alloc (.cells #[.slice ha hn hc,.slice ia im ic] 28)) u) (hs:fM gG u nv (iG s.items))=>(EW (SB.o.below hb).i hs).mono (fun e w' (k:e= .returned (.bool (decide (s.items=iG s.items)))/\∃ n,w'=u.drewN n)=>(⟨k.1,nI k.2⟩:fO u (decide (s.items=iG s.items)) e w')));have KA:=zH (fun u (hb:Below (w.alloc (.cells #[.slice ha hn hc,.slice ia im ic] 28)).heap.size (w.alloc (.cells #[.slice ha hn hc,.slice ia im ic] 28)) u)=>aai (gW (SB.o.below hb).h) (SB.o.below hb).i hi _ rfl);clear h h1 h2 hl hi hd SB;generalize uE s.heard=r1 at*;generalize decide (s.items=iG s.items)=r2 at*;generalize s.items.all (zo s.heard)=r3 at*;generalize iG s.items=nn at*;go_enter func29,ntmps29
 go_upto_region 1 with fail
 generalize (w.alloc _)=wb at*
 cases r1 with
 |false=>
  refine wp_region_held_drew (S:=fun u'=>Below wb.heap.size wb u'/\(u'.cell? ⟨w.heap.size,0,none⟩=some (.slice ha hn hc)/\u'.cell? ⟨w.heap.size,1,none⟩=some (.slice ia im ic))) (by kernel_rfl) ?_ (fun hH=> ?_)
  ·(exact KE.o _ (aj _ _).drew)
  simp only [zS,aJ,Nat.reduceAdd]
  refine fJ 0 hH ?_;refine fJ 1 hH ?_;refine rd 2 fun K hK=> ?_
  go_simp
  refine (KH.o _ hH.1).mono ?_;rintro e s1 ⟨rfl,hb⟩;refine hK.out _ _ (KE.o _ (iM hH hb)) (fun hH=> ?_);clear hK K hb;refine fJ 3 hH ?_;refine gq 4 hH ?_;refine gq 5 hH ?_;refine gq 6 hH ?_;refine gq 7 hH ?_;refine gq 8 hH ?_;refine gq 9 hH ?_;refine fJ 10 hH ?_;refine fJ 11 hH ?_;refine gq 12 hH ?_;refine gq 13 hH ?_;refine gq 14 hH ?_;refine gq 15 hH ?_;refine gq 16 hH ?_;refine fJ 17 hH ?_;refine fJ 18 hH ?_;refine wpAnyH_done (by kernel_rfl) ?_ _;have GZ:=zH hH.1;clear hH;go_wp2_with fail
  go_ret
  exact ⟨rfl,G0.o.trans (GZ.o.mono G0.o.size)⟩
 |true=>
  cases r2 with
  |false=>
   refine wp_region_held_drew (S:=fun u'=>Below wb.heap.size wb u'/\(u'.cell? ⟨w.heap.size,0,none⟩=some (.slice ha hn hc)/\u'.cell? ⟨w.heap.size,1,none⟩=some (.slice ia im ic))) (by kernel_rfl) ?_ (fun hH=> ?_)
   ·(exact KE.o _ (aj _ _).drew)
   simp only [zS,aJ,Nat.reduceAdd]
   refine fJ 0 hH ?_;refine fJ 1 hH ?_;refine rd 2 fun K hK=> ?_
   go_simp
   refine (KH.o _ hH.1).mono ?_;rintro e s1 ⟨rfl,hb⟩;refine hK.out _ _ (KE.o _ (iM hH hb)) (fun hH=> ?_);clear hK K hb;refine fJ 3 hH ?_;refine fJ 4 hH ?_;refine fJ 5 hH ?_;refine fJ 6 hH ?_;refine fJ 7 hH ?_;refine rd 8 fun K hK=> ?_
   go_simp
   refine (KN.o _ hH.1).mono ?_;rintro e s2 ⟨nv,rfl,ho,hb⟩;have SN:=zH ho.seq;clear ho;refine hK.out _ _ (KE.o _ (iM hH hb)) (fun hH=> ?_);clear hK K hb;refine rd 9 fun K hK=> ?_
   go_simp
   refine (KQ.o _ _ hH.1 SN.o).mono ?_;rintro e s3 ⟨rfl,hb⟩;refine hK.out _ _ (KE.o _ (iM hH hb)) (fun hH=> ?_);clear hK K hb;refine fJ 10 hH ?_;refine fJ 11 hH ?_;refine gq 12 hH ?_;refine gq 13 hH ?_;refine gq 14 hH ?_;refine gq 15 hH ?_;refine gq 16 hH ?_;refine fJ 17 hH ?_;refine fJ 18 hH ?_;refine wpAnyH_done (by kernel_rfl) ?_ _;have GZ:=zH hH.1;clear hH;go_wp2_with fail
   go_ret
   exact ⟨rfl,G0.o.trans (GZ.o.mono G0.o.size)⟩
  |true=>
   rw [aS,aS] at*;refine wp_region_held_drew (S:=fun u'=>Below wb.heap.size wb u'/\(u'.cell? ⟨w.heap.size,0,none⟩=some (.slice ha hn hc)/\u'.cell? ⟨w.heap.size,1,none⟩=some (.slice ia im ic))) (by kernel_rfl) ?_ (fun hH=> ?_)
   ·(exact KE.o _ (aj _ _).drew)
   simp only [zS,aJ,Nat.reduceAdd]
   refine fJ 0 hH ?_;refine fJ 1 hH ?_;refine rd 2 fun K hK=> ?_
   go_simp
   refine (KH.o _ hH.1).mono ?_;rintro e s1 ⟨rfl,hb⟩;refine hK.out _ _ (KE.o _ (iM hH hb)) (fun hH=> ?_);clear hK K hb;refine fJ 3 hH ?_;refine fJ 4 hH ?_;refine fJ 5 hH ?_;refine fJ 6 hH ?_;refine fJ 7 hH ?_;refine rd 8 fun K hK=> ?_
   go_simp
   refine (KN.o _ hH.1).mono ?_;rintro e s2 ⟨nv,rfl,ho,hb⟩;have SN:=zH ho.seq;clear ho;refine hK.out _ _ (KE.o _ (iM hH hb)) (fun hH=> ?_);clear hK K hb;refine rd 9 fun K hK=> ?_
   go_simp
   refine (KQ.o _ _ hH.1 SN.o).mono ?_;rintro e s3 ⟨rfl,hb⟩;refine hK.out _ _ (KE.o _ (iM hH hb)) (fun hH=> ?_);clear hK K hb;refine fJ 10 hH ?_;refine fJ 11 hH ?_;refine fJ 12 hH ?_;refine fJ 13 hH ?_;refine fJ 14 hH ?_;refine fJ 15 hH ?_;refine rd 16 fun K hK=> ?_
   go_simp
   refine (KA.o _ hH.1).mono ?_;rintro e s4 ⟨rfl,hb⟩;refine hK.out _ _ (KE.o _ (iM hH hb)) (fun hH=> ?_);clear hK K hb;refine fJ 17 hH ?_;refine fJ 18 hH ?_;refine wpAnyH_done (by kernel_rfl) ?_ _;have GZ:=zH hH.1;clear hH;go_wp2_with fail
   go_ret
   exact ⟨rfl,G0.o.trans (GZ.o.mono G0.o.size)⟩
end Go.Proofs.YtfgcodcablpdcaaGreat