import Derived.Test.YtfgcodcablpdcaaGreatStBh
import Derived.Test.YtfgcodcablpdcaaGreatMsTxR
set_option linter.unusedVariables false
namespace Go.Proofs.YtfgcodcablpdcaaGreat
open Go.Proofs.Tryz
open Go.RowKit Plain
def pE(w:World)(v:Value)(m:gu):Prop:=∃ vv fv zv nv iv lv,v= .agg #[.int .i64 m.kind,.int .i64 m.ticket,.bool m.whole,vv,fv,zv,nv,iv,lv]/\fM gL w vv m.vec/\fM gL w fv m.from_/\kD w zv m.zone/\kD w nv m.want/\fM gG w iv m.items/\fM gV w lv m.fU
theorem pE.below{w w':World}{v:Value}{m:gu}(h:pE w v m)(hb:Below w.heap.size w w'):pE w' v m:=by
 obtain ⟨vv,fv,zv,nv,iv,lv,rfl,h1,h2,h3,h4,h5,h6⟩:=h;exact ⟨vv,fv,zv,nv,iv,lv,rfl,h1.below hb,h2.below hb,h3.below hb,h4.below hb,h5.below hb,h6.below hb⟩
theorem H8:prog.cellsOf 46=9:=by kernel_rfl
structure Dn where
 va:Option Addr
 vn:Nat
 vc:Nat
 fa:Option Addr
 fn:Nat
 fc:Nat
 za:Option Addr
 zn:Nat
 zc:Nat
 na:Option Addr
 nn:Nat
 nc:Nat
 ia:Option Addr
 im:Nat
 ic:Nat
 la:Option Addr
 ln:Nat
 lc:Nat
structure xX(m:gu)(s:Dn)(w:World):Prop where
 v:fM gL w (.slice s.va s.vn s.vc) m.vec
 f:fM gL w (.slice s.fa s.fn s.fc) m.from_
 z:kD w (.slice s.za s.zn s.zc) m.zone
 n:kD w (.slice s.na s.nn s.nc) m.want
 i:fM gG w (.slice s.ia s.im s.ic) m.items
 l:fM gV w (.slice s.la s.ln s.lc) m.fU
theorem xX.below{m:gu}{s:Dn}{w w':World}(h:xX m s w)(hb:Below w.heap.size w w'):xX m s w':=
 ⟨h.v.below hb,h.f.below hb,h.z.below hb,h.n.below hb,h.i.below hb,h.l.below hb⟩
def lD(m:gu)(s:Dn):Array Value:=#[.int .i64 m.kind,.int .i64 m.ticket,.bool m.whole,.slice s.va s.vn s.vc,.slice s.fa s.fn s.fc,.slice s.za s.zn s.zc,.slice s.na s.nn s.nc,.slice s.ia s.im s.ic,.slice s.la s.ln s.lc]
theorem pE.slices{w:World}{v:Value}{m:gu}(h:pE w v m):∃ va vn vc fa fn fc za zn zc na nn nc ia im ic la ln lc,v= .agg #[.int .i64 m.kind,.int .i64 m.ticket,.bool m.whole,.slice va vn vc,.slice fa fn fc,.slice za zn zc,.slice na nn nc,.slice ia im ic,.slice la ln lc]/\xX m ⟨va,vn,vc,fa,fn,fc,za,zn,zc,na,nn,nc,ia,im,ic,la,ln,lc⟩ w:=by
 obtain ⟨vv,fv,zv,nv,iv,lv,rfl,h1,h2,h3,h4,h5,h6⟩:=h;obtain ⟨a1,c1,rfl,-,-,-,k1⟩:=h1.parts;obtain ⟨a2,c2,rfl,-,-,-,k2⟩:=h2.parts;obtain ⟨a3,c3,rfl,-,-,-,k3⟩:=h3.parts;obtain ⟨a4,c4,rfl,-,-,-,k4⟩:=h4.parts;obtain ⟨a5,c5,rfl,-,-,-,k5⟩:=h5.parts;obtain ⟨a6,c6,rfl,-,-,-,k6⟩:=h6.parts;exact ⟨_,_,_,_,_,_,_,_,_,_,_,_,_,_,_,_,_,_,rfl,k1,k2,k3,k4,k5,k6⟩
theorem xX.is{m:gu}{s:Dn}{w:World}(h:xX m s w):pE w (.agg (lD m s)) m:=⟨_,_,_,_,_,_,rfl,h.v,h.f,h.z,h.n,h.i,h.l⟩
def Au(m:gu):Prop:=mM m.kind/\mM m.ticket/\(∀ n∈m.vec,mM n)/\(∀ n∈m.from_,mM n)/\(∀ x∈m.items,M9 x)/\∀ t∈m.fU,yD t
section
open Go.ChangeShapes Go.WideShapes Go.Joins
set_option maxRecDepth 100000
theorem yF{H:Type}{enc:TypeId×Value ->H}{W:World}{fuel:Nat}{cs:List Value}{y:DataW H×List MemPlace}(hf:DataW.trod enc prog W 0 (fun _=>true) true fuel 44 cs=some y):∃ (v:Value) (xs:List iE),cs=[v]/\kD W v xs:=by
 rcases Go.Deep.open_strs underlying44 underlying9 (by kernel_rfl) hf with ⟨hcs,-⟩|⟨a,len,cap,m,Sx,hcs,-,hl,hm,hmm,-,hi⟩
 ·exact ⟨_,[],hcs,kD.nil W⟩
 ·simp only [↓reduceIte] at hmm
  subst hmm;have hlen:((List.range len).map fun i=>tx (Sx i)).length=len:=by simp
  refine ⟨_,(List.range len).map fun i=>tx (Sx i),hcs,some a,m,by rw [hlen],by rw [hlen];exact hl,hm,(by simp),fun hp=> ?_⟩;rw [hlen] at hp ⊢;have each:∀ j,j<len ->W.cell? (a.add j)=some (tv (((List.range len).map fun i=>tx (Sx i)).getD j [])):=by
   intro j hj;rw [(hi j (by omega)).1];simp [List.getD,hj,tv,bt_tx]
  obtain ⟨b,o,spot⟩:=a;have hspot:spot=none:=by
   simpa [Addr.add] using World.cell?_spot (each 0 hp)
  subst hspot;refine ⟨b,o,rfl,fun j hj=> ?_⟩;have:=each j hj;simp only [add_plain] at this
  exact this
theorem H9{H:Type}{enc:TypeId×Value ->H}{W:World}{n:Nat}{cs:List Value}{y:DataW H×List MemPlace}(ht:DataW.trod enc prog W 0 (fun _=>true) true n 79 cs=some y):∃ x,gG.R (· <W.heap.size) W cs x/\M9 x:=J7 ht
end
theorem jD{u:World}{g:Nat}{x0 x1 x2 x3 x4 x5 x6 x7 x8:Value}{t:TypeId}(h:u.heap[g]? =some (.cells #[x0,x1,x2,x3,x4,x5,x6,x7,x8] t (0,0))):
  u.cell? ⟨g,0,none⟩=some x0/\u.cell? ⟨g,1,none⟩=some x1/\u.cell? ⟨g,2,none⟩=some x2/\u.cell? ⟨g,3,none⟩=some x3/\u.cell? ⟨g,4,none⟩=some x4/\u.cell? ⟨g,5,none⟩=some x5/\u.cell? ⟨g,6,none⟩=some x6/\u.cell? ⟨g,7,none⟩=some x7/\u.cell? ⟨g,8,none⟩=some x8:=by
 refine ⟨?_,?_,?_,?_,?_,?_,?_,?_,?_⟩
 ·simp [World.cell?,h]
 ·simp [World.cell?,h]
 ·simp [World.cell?,h]
 ·simp [World.cell?,h]
 ·simp [World.cell?,h]
 ·simp [World.cell?,h]
 ·simp [World.cell?,h]
 ·simp [World.cell?,h]
 ·simp [World.cell?,h]
theorem ng{u:World}{g:Nat}{x0 x1 x2 x3 x4 x5 x6 x7 x8:Value}{t:TypeId}(h:u.heap[g]? =some (.cells #[x0,x1,x2,x3,x4,x5,x6,x7,x8] t (0,0)))(i:Nat)(hi:i<9):u.frozen? ⟨g,i,none⟩=false:=by
 unfold World.frozen?;rw [h];simp
structure yZ(g:Nat)(m:gu)(s:Dn)(u:World):Prop where
 b:u.heap[g]? =some (.cells (lD m s) 46 (0,0))
 a:xX m s u
theorem yZ.lt{g:Nat}{m:gu}{s:Dn}{u:World}(k:yZ g m s u):g<u.heap.size:=(aH.1 k.b).1
theorem yZ.below{g:Nat}{m:gu}{s:Dn}{u u':World}(k:yZ g m s u)(hb:Below u.heap.size u u'):yZ g m s u':=⟨(hb.block g k.lt).trans k.b,k.a.below hb⟩
theorem mW{m:gu}{va fa za na ia la:Option Addr}{vn vc fn fc zn zc nn nc im ic ln lc:Nat}{w:World}(h:xX m ⟨va,vn,vc,fa,fn,fc,za,zn,zc,na,nn,nc,ia,im,ic,la,ln,lc⟩ w):
  yZ w.heap.size m ⟨va,vn,vc,fa,fn,fc,za,zn,zc,na,nn,nc,ia,im,ic,la,ln,lc⟩ (w.alloc (.cells #[.int .i64 m.kind,.int .i64 m.ticket,.bool m.whole,.slice va vn vc,.slice fa fn fc,.slice za zn zc,.slice na nn nc,.slice ia im ic,.slice la ln lc] 46)):=
 ⟨aM w _,h.below (zB w _)⟩
theorem yZ.c{g:Nat}{m:gu}{va fa za na ia la:Option Addr}{vn vc fn fc zn zc nn nc im ic ln lc:Nat}{u:World}(k:yZ g m ⟨va,vn,vc,fa,fn,fc,za,zn,zc,na,nn,nc,ia,im,ic,la,ln,lc⟩ u):
  u.cell? ⟨g,0,none⟩=some (.int .i64 m.kind)/\u.cell? ⟨g,1,none⟩=some (.int .i64 m.ticket)/\u.cell? ⟨g,2,none⟩=some (.bool m.whole)/\u.cell? ⟨g,3,none⟩=some (.slice va vn vc)/\u.cell? ⟨g,4,none⟩=some (.slice fa fn fc)/\u.cell? ⟨g,5,none⟩=some (.slice za zn zc)/\u.cell? ⟨g,6,none⟩=some (.slice na nn nc)/\u.cell? ⟨g,7,none⟩=some (.slice ia im ic)/\u.cell? ⟨g,8,none⟩=some (.slice la ln lc):=jD k.b
theorem yZ.is{g:Nat}{m:gu}{va fa za na ia la:Option Addr}{vn vc fn fc zn zc nn nc im ic ln lc:Nat}{u:World}(k:yZ g m ⟨va,vn,vc,fa,fn,fc,za,zn,zc,na,nn,nc,ia,im,ic,la,ln,lc⟩ u):pE u (.agg #[.int .i64 m.kind,.int .i64 m.ticket,.bool m.whole,.slice va vn vc,.slice fa fn fc,.slice za zn zc,.slice na nn nc,.slice ia im ic,.slice la ln lc]) m:=k.a.is
theorem infoVe:(prog.info? 25).map (fun i=>(i.zero,i.size,i.bytes))=some (some (.slice none 0 0),1,24):=by kernel_rfl
def RVe(P:Nat ->Prop)(w:World)(vs:List Value)(x:Ints):Prop:=∃ v,vs=[v]/\Sq gL P w v x
theorem lenVe{P:Nat ->Prop}{w:World}{vs:List Value}{x:Ints}(h:RVe P w vs x):vs.length=1:=by
 obtain ⟨v,rfl,-⟩:=h
 rfl
theorem oneVe{P:Nat ->Prop}{w:World}{vs:List Value}{x:Ints}(h:RVe P w vs x):∀ u∈vs,u.oneCell'=true:=by
 obtain ⟨v,rfl,hd⟩:=h;intro u hu;rw [bE.1 hu];exact hd.one
theorem monoVe{P Q:Nat ->Prop}{w:World}{vs:List Value}{x:Ints}(h:RVe P w vs x)(hq:∀ b,P b ->Q b):RVe Q w vs x:=by
 obtain ⟨v,e,hd⟩:=h;exact ⟨v,e,hd.mono hq⟩
theorem agreeVe{P:Nat ->Prop}{w w':World}{vs:List Value}{x:Ints}(h:RVe P w vs x)(hq:∀ b,P b ->w'.heap[b]? =w.heap[b]?):RVe P w' vs x:=by
 obtain ⟨v,e,hd⟩:=h;exact ⟨v,e,hd.agree hq⟩
def oM:El Ints where
 k:=1
 E:=25
 S:=32
 zero:= .slice none 0 0
 bytes:=24
 R:=RVe
 pos:=by decide
 small:=by decide
 len:=lenVe
 one:=oneVe
 mono:=monoVe
 agree:=agreeVe
 und:=underlying32
 info:=infoVe
 tV:=rfl
theorem sS{w:World}{v:Value}{xs:List Ints}{P:Nat ->Prop}(h:Sq oM P w v xs)(hP:∀ b,P b ->b<w.heap.size)(hp:0<xs.length):∃ b o cap,v= .slice (some ⟨b,o,none⟩) xs.length cap/\P b/\
  ∀ j,j<xs.length ->∃ da dn dc,w.cell? ⟨b,o+j,none⟩=some (.slice da dn dc)/\Sq gL P w (.slice da dn dc) (xs.getD j default):=by
 obtain ⟨a,cap,vals,rfl,h1,h2,h0,hr,h3⟩:=h;obtain ⟨b,o,rfl,hb,hc⟩:=h3 hp;refine ⟨b,o,cap,rfl,hb,fun j hj=> ?_⟩;have hx:xs[j]? =some (xs.getD j default):=by simp [List.getD,hj]
 obtain ⟨u,e,hd⟩:=hr.2 j _ hx;have e':pt 1 vals j=[u]:=e;have hg:=lH (k:=1) vals j 0 (by omega);rw [e',eY,fF] at hg;obtain ⟨da,dc,rfl,-⟩:=fM.parts (L:=gL) (hd.mono hP);exact ⟨da,_,dc,hc j _ (by rw [<-hg];rfl),hd⟩
structure pQ where
 ha:Option Addr
 hn:Nat
 hc:Nat
 ia:Option Addr
 im:Nat
 ic:Nat
 fa:Option Addr
 fn:Nat
 fc:Nat
 la:Option Addr
 ln:Nat
 lc:Nat
 ka:Option Addr
 kn:Nat
 kc:Nat
structure nE(P:Nat ->Prop)(c:fT)(s:pQ)(w:World):Prop where
 h:Sq gL P w (.slice s.ha s.hn s.hc) c.store.heard
 i:Sq gG P w (.slice s.ia s.im s.ic) c.store.items
 f:Sq gL P w (.slice s.fa s.fn s.fc) c.past.floor
 l:Sq gV P w (.slice s.la s.ln s.lc) c.past.list
 k:Sq oM P w (.slice s.ka s.kn s.kc) c.known
theorem nE.mono{P Q:Nat ->Prop}{c:fT}{s:pQ}{w:World}(h:nE P c s w)(hq:∀ b,P b ->Q b):nE Q c s w:=⟨h.h.mono hq,h.i.mono hq,h.f.mono hq,h.l.mono hq,h.k.mono hq⟩
theorem nE.agree{P:Nat ->Prop}{c:fT}{s:pQ}{w w':World}(h:nE P c s w)(hq:∀ b,P b ->w'.heap[b]? =w.heap[b]?):nE P c s w':=⟨h.h.agree hq,h.i.agree hq,h.f.agree hq,h.l.agree hq,h.k.agree hq⟩
def fP(c:fT)(s:pQ):Array Value:=#[.int .i64 c.me,.int .i64 c.cores,.slice s.ha s.hn s.hc,.slice s.ia s.im s.ic,.slice s.fa s.fn s.fc,.slice s.la s.ln s.lc,.slice s.ka s.kn s.kc]
def kK(w:World)(v:Value)(c:fT):Prop:=∃ s,v= .agg (fP c s)/\nE (· <w.heap.size) c s w
theorem kK.slices{w:World}{v:Value}{c:fT}(h:kK w v c):∃ ha hn hc ia im ic fa fn fc la ln lc ka kn kc,v= .agg #[.int .i64 c.me,.int .i64 c.cores,.slice ha hn hc,.slice ia im ic,.slice fa fn fc,.slice la ln lc,.slice ka kn kc]/\nE (· <w.heap.size) c ⟨ha,hn,hc,ia,im,ic,fa,fn,fc,la,ln,lc,ka,kn,kc⟩ w:=by
 obtain ⟨⟨ha,hn,hc,ia,im,ic,fa,fn,fc,la,ln,lc,ka,kn,kc⟩,e,h⟩:=h;exact ⟨ha,hn,hc,ia,im,ic,fa,fn,fc,la,ln,lc,ka,kn,kc,e,h⟩
theorem nE.below{c:fT}{s:pQ}{w w':World}(h:nE (· <w.heap.size) c s w)(hb:Below w.heap.size w w'):nE (· <w'.heap.size) c s w':=(h.agree fun b hl=>hb.block b hl).mono fun b hl=>ay hl hb.size
theorem kK.below{w w':World}{v:Value}{c:fT}(h:kK w v c)(hb:Below w.heap.size w w'):kK w' v c:=by
 obtain ⟨s,e,h⟩:=h;exact ⟨s,e,h.below hb⟩
structure nu(g:Nat)(c:fT)(s:pQ)(u:World):Prop where
 b:u.heap[g]? =some (.cells (fP c s) 34 (0,0))
 at_:nE (fun b=>b<u.heap.size/\b≠g) c s u
section
variable {g:Nat} {c:fT} {s:pQ} {u u':World}
theorem nu.lt(k:nu g c s u):g<u.heap.size:=(aH.1 k.b).1
theorem nu.below(k:nu g c s u)(hb:Below u.heap.size u u'):nu g c s u':=
 ⟨(hb.block g k.lt).trans k.b,(k.at_.agree fun b hl=>hb.block b hl.1).mono fun b hl=>⟨ay hl.1 hb.size,hl.2⟩⟩
theorem nu.seq(k:nu g c s u):nE (· <u.heap.size) c s u:=k.at_.mono fun b hb=>hb.1
theorem nu.is(k:nu g c s u):kK u (.agg (fP c s)) c:=⟨s,rfl,k.seq⟩
theorem mX{w:World}(h:nE (· <w.heap.size) c s w):nu w.heap.size c s (w.alloc (.cells (fP c s) 34)):=
 have hb:=zB w (.cells (fP c s) 34)
 ⟨aM w _,(h.agree fun b hl=>hb.block b hl).mono fun b hl=>⟨ay hl hb.size,Nat.ne_of_lt hl⟩⟩
theorem nu.cells(k:nu g c s u):u.cell? ⟨g,0,none⟩=some (.int .i64 c.me)/\u.cell? ⟨g,1,none⟩=some (.int .i64 c.cores)/\u.cell? ⟨g,2,none⟩=some (.slice s.ha s.hn s.hc)/\u.cell? ⟨g,3,none⟩=some (.slice s.ia s.im s.ic)/\u.cell? ⟨g,4,none⟩=some (.slice s.fa s.fn s.fc)/\u.cell? ⟨g,5,none⟩=some (.slice s.la s.ln s.lc)/\u.cell? ⟨g,6,none⟩=some (.slice s.ka s.kn s.kc):=by
 have h:=fun i=>show u.cell? ⟨g,i,none⟩=(fP c s)[i]? from by simp [World.cell?,k.b]
 exact ⟨h 0,h 1,h 2,h 3,h 4,h 5,h 6⟩
theorem nu.cl{ha ia fa la ka:Option Addr}{hn hc im ic fn fc ln lc kn kc:Nat}(k:nu g c ⟨ha,hn,hc,ia,im,ic,fa,fn,fc,la,ln,lc,ka,kn,kc⟩ u):u.cell? ⟨g,0,none⟩=some (.int .i64 c.me)/\u.cell? ⟨g,1,none⟩=some (.int .i64 c.cores)/\u.cell? ⟨g,2,none⟩=some (.slice ha hn hc)/\u.cell? ⟨g,3,none⟩=some (.slice ia im ic)/\u.cell? ⟨g,4,none⟩=some (.slice fa fn fc)/\u.cell? ⟨g,5,none⟩=some (.slice la ln lc)/\u.cell? ⟨g,6,none⟩=some (.slice ka kn kc):=k.cells
theorem nu.free(k:nu g c s u)(i:Nat):u.frozen? ⟨g,i,none⟩=false:=by
 unfold World.frozen?;rw [k.b];simp
end
structure Uc(w:World)(b o:Nat)(n:Int)(m:gu)(s:Dn):Prop where
 c0:w.cell? ⟨b,o,none⟩=some (.int .i64 n)
 ms:∀ i v,(lD m s)[i]? =some v ->w.cell? ⟨b,o+1+i,none⟩=some v
def wU(w:World)(v:Value)(l:List (Int×gu)):Prop:=∃ a cap,v= .slice a l.length cap/\l.length<=cap/\cap<=9223372036854775807/\
 (0<l.length ->∃ b o,a=some ⟨b,o,none⟩/\b<w.heap.size/\∀ j x,l[j]? =some x ->∃ s,Uc w b (o+j*10) x.1 x.2 s/\xX x.2 s w)
theorem Uc.below{N:Nat}{w w':World}{b o:Nat}{n:Int}{m:gu}{s:Dn}(h:Uc w b o n m s)(hb:Below N w w')(hN:b<N):Uc w' b o n m s:=
 ⟨(hb.cell (p:=⟨b,o,none⟩) hN).trans h.c0,fun i v hi=>(hb.cell (p:=⟨b,o+1+i,none⟩) hN).trans (h.ms i v hi)⟩
theorem wU.below{w w':World}{v:Value}{l:List (Int×gu)}(h:wU w v l)(hb:Below w.heap.size w w'):wU w' v l:=by
 obtain ⟨a,cap,e,h1,h2,h3⟩:=h;refine ⟨a,cap,e,h1,h2,fun hp=> ?_⟩;obtain ⟨b,o,ea,hlt,hc⟩:=h3 hp;exact ⟨b,o,ea,ay hlt hb.size,fun j x hj=>by obtain ⟨s,k1,k2⟩:=hc j x hj;exact ⟨s,k1.below hb hlt,k2.below hb⟩⟩
def Hw(w:World)(v:Value)(n:Int)(m:gu):Prop:=∃ s,v= .agg (#[.int .i64 n]++lD m s)/\xX m s w
theorem Hw.below{w w':World}{v:Value}{n:Int}{m:gu}(h:Hw w v n m)(hb:Below w.heap.size w w'):Hw w' v n m:=by
 obtain ⟨s,e,h⟩:=h;exact ⟨s,e,h.below hb⟩
end Go.Proofs.YtfgcodcablpdcaaGreat
set_option maxRecDepth 100000
set_option maxHeartbeats 64000000
namespace Go.Proofs.YtfgcodcablpdcaaGreat
open Go.Proofs.Tryz
open Go.RowKit Plain
def ts9(w:World)(g:Nat)(v0 v1 v2 v3 v4 v5 v6 v7 v8:Value):World:=((((((((w.setCell ⟨g,0,none⟩ v0).setCell ⟨g,1,none⟩ v1).setCell ⟨g,2,none⟩ v2).setCell ⟨g,3,none⟩ v3).setCell ⟨g,4,none⟩ v4).setCell ⟨g,5,none⟩ v5).setCell ⟨g,6,none⟩ v6).setCell ⟨g,7,none⟩ v7).setCell ⟨g,8,none⟩ v8
theorem rz{u:World}{g:Nat}{v0 v1 v2 v3 v4 v5 v6 v7 v8:Value}{t:TypeId}(h:u.heap[g]? =some (.cells #[v0,v1,v2,v3,v4,v5,v6,v7,v8] t (0,0))):(u.cell? ⟨g,0,none⟩=some v0/\u.cell? ⟨g,1,none⟩=some v1/\u.cell? ⟨g,2,none⟩=some v2/\u.cell? ⟨g,3,none⟩=some v3/\u.cell? ⟨g,4,none⟩=some v4/\u.cell? ⟨g,5,none⟩=some v5/\u.cell? ⟨g,6,none⟩=some v6/\u.cell? ⟨g,7,none⟩=some v7/\u.cell? ⟨g,8,none⟩=some v8)/\u.frozen? ⟨g,0,none⟩=false/\u.frozen? ⟨g,1,none⟩=false/\u.frozen? ⟨g,2,none⟩=false/\u.frozen? ⟨g,3,none⟩=false/\u.frozen? ⟨g,4,none⟩=false/\u.frozen? ⟨g,5,none⟩=false/\u.frozen? ⟨g,6,none⟩=false/\u.frozen? ⟨g,7,none⟩=false/\u.frozen? ⟨g,8,none⟩=false:=⟨jD h,ng h 0 (by omega),ng h 1 (by omega),ng h 2 (by omega),ng h 3 (by omega),ng h 4 (by omega),ng h 5 (by omega),ng h 6 (by omega),ng h 7 (by omega),ng h 8 (by omega)⟩
theorem wm{w:World}{g:Nat}{z0 z1 z2 z3 z4 z5 z6 z7 z8 v0 v1 v2 v3 v4 v5 v6 v7 v8:Value}{t:TypeId}(h:w.heap[g]? =some (.cells #[z0,z1,z2,z3,z4,z5,z6,z7,z8] t (0,0))):(ts9 w g v0 v1 v2 v3 v4 v5 v6 v7 v8).heap[g]? =some (.cells #[v0,v1,v2,v3,v4,v5,v6,v7,v8] t (0,0)):=by
 unfold ts9;rw [(aB _ g 8 _ _ _ (aB _ g 7 _ _ _ (aB _ g 6 _ _ _ (aB _ g 5 _ _ _ (aB _ g 4 _ _ _ (aB _ g 3 _ _ _ (aB _ g 2 _ _ _ (aB _ g 1 _ _ _ (aB _ g 0 _ _ _ h)))))))))]
 rfl
theorem ts9_but{w u:World}{g R:Nat}{v0 v1 v2 v3 v4 v5 v6 v7 v8:Value}(h:But g w u)(hw:g<w.heap.size)(hR:w.heap.size<=R):But g w (ts9 u R v0 v1 v2 v3 v4 v5 v6 v7 v8):=(((((((((h.store hw hR).store hw hR).store hw hR).store hw hR).store hw hR).store hw hR).store hw hR).store hw hR).store hw hR)
theorem ts9_box{w:World}{g R:Nat}{s:Rb}{v0 v1 v2 v3 v4 v5 v6 v7 v8:Value}(h:iV w g s)(hR:g<R):iV (ts9 w R v0 v1 v2 v3 v4 v5 v6 v7 v8) g s:=(((((((((h.store hR).store hR).store hR).store hR).store hR).store hR).store hR).store hR).store hR)
theorem Jf(w:World)(R:Nat)(v0 v1 v2 v3 v4 v5 v6 v7 v8:Value):But R w (ts9 w R v0 v1 v2 v3 v4 v5 v6 v7 v8):=(((((((((But.set R w 0 v0).trans (But.set R _ 1 v1)).trans (But.set R _ 2 v2)).trans (But.set R _ 3 v3)).trans (But.set R _ 4 v4)).trans (But.set R _ 5 v5)).trans (But.set R _ 6 v6)).trans (But.set R _ 7 v7)).trans (But.set R _ 8 v8))
theorem Ad{B:Nat}{w u:World}{g:Nat}{v0 v1 v2 v3 v4 v5 v6 v7 v8:Value}(h:Below B w u)(hg:B<=g):Below B w (ts9 u g v0 v1 v2 v3 v4 v5 v6 v7 v8):=(((((((((h.setCell hg _).setCell hg _).setCell hg _).setCell hg _).setCell hg _).setCell hg _).setCell hg _).setCell hg _).setCell hg _)
def vMs(B:Nat)(W:World)(v:Value)(m:gu):Prop:=∃ va vn vc fa fn fc za zn zc na nn nc ia im ic la ln lc,v= .agg #[.int .i64 m.kind,.int .i64 m.ticket,.bool m.whole,.slice va vn vc,.slice fa fn fc,.slice za zn zc,.slice na nn nc,.slice ia im ic,.slice la ln lc]/\gy gL B W (.slice va vn vc) m.vec/\gy gL B W (.slice fa fn fc) m.from_/\gy qP B W (.slice za zn zc) m.zone/\gy qP B W (.slice na nn nc) m.want/\gy gG B W (.slice ia im ic) m.items/\iO (fun b=>B<=b) gV B W (.slice la ln lc) m.fU
theorem mmsg_any{w:World}{g:Nat}{s:Rb}(hx:iV w g s)(hl:s.1.length<=500000000):Calls prog 91 #[.pointer (some ⟨g,0,none⟩)] w (lZ (vMs w.heap.size) w g (yX s)):=by
 have HG:=zH hx.lt;have xA:Hid (w.heap.size≠g):=zH (by have:=hx.lt;omega);have HR:Hid (yX s=(⟨(gF s).1,(gF (gF s).2).1,decide ((ig 1 (gF (gF s).2).2).1=1),(gJ gF 8 (ig 1 (gF (gF s).2).2).2).1,(gJ gF 8 (gJ gF 8 (ig 1 (gF (gF s).2).2).2).2).1,(gJ gK 8 (gJ gF 8 (gJ gF 8 (ig 1 (gF (gF s).2).2).2).2).2).1,(gJ gK 8 (gJ gK 8 (gJ gF 8 (gJ gF 8 (ig 1 (gF (gF s).2).2).2).2).2).2).1,(gJ nA 32768 (gJ gK 8 (gJ gK 8 (gJ gF 8 (gJ gF 8 (ig 1 (gF (gF s).2).2).2).2).2).2).2).1,(gJ uF 4096 (gJ nA 32768 (gJ gK 8 (gJ gK 8 (gJ gF 8 (gJ gF 8 (ig 1 (gF (gF s).2).2).2).2).2).2).2).2).1⟩,(gJ uF 4096 (gJ nA 32768 (gJ gK 8 (gJ gK 8 (gJ gF 8 (gJ gF 8 (ig 1 (gF (gF s).2).2).2).2).2).2).2).2).2)):=zH (by unfold yX mm8 mm7 mm6 mm5 mm4 mm3 mm2 mm1 Jb;with_reducible rfl);have L1:Hid ((gF s).2.1.length<=500000000):=zH (ak (kI s) hl);have L2:Hid ((gF (gF s).2).2.1.length<=500000000):=zH (ak (kI (gF s).2) L1.o);have L3:Hid ((ig 1 (gF (gF s).2).2).2.1.length<=500000000):=zH (ak (o8 1 (gF (gF s).2).2) L2.o);have L4:Hid ((gJ gF 8 (ig 1 (gF (gF s).2).2).2).2.1.length<=500000000):=zH (ak (lX kI 8 (ig 1 (gF (gF s).2).2).2) L3.o);have L5:Hid ((gJ gF 8 (gJ gF 8 (ig 1 (gF (gF s).2).2).2).2).2.1.length<=500000000):=zH (ak (lX kI 8 (gJ gF 8 (ig 1 (gF (gF s).2).2).2).2) L4.o);have L6:Hid ((gJ gK 8 (gJ gF 8 (gJ gF 8 (ig 1 (gF (gF s).2).2).2).2).2).2.1.length<=500000000):=zH (ak (lX lY 8 (gJ gF 8 (gJ gF 8 (ig 1 (gF (gF s).2).2).2).2).2) L5.o);have L7:Hid ((gJ gK 8 (gJ gK 8 (gJ gF 8 (gJ gF 8 (ig 1 (gF (gF s).2).2).2).2).2).2).2.1.length<=500000000):=zH (ak (lX lY 8 (gJ gK 8 (gJ gF 8 (gJ gF 8 (ig 1 (gF (gF s).2).2).2).2).2).2) L6.o);have L8:Hid ((gJ nA 32768 (gJ gK 8 (gJ gK 8 (gJ gF 8 (gJ gF 8 (ig 1 (gF (gF s).2).2).2).2).2).2).2).2.1.length<=500000000):=zH (ak (lX Ed 32768 (gJ gK 8 (gJ gK 8 (gJ gF 8 (gJ gF 8 (ig 1 (gF (gF s).2).2).2).2).2).2).2) L7.o);generalize yX s=res at*;have hba:=zB w (.cells #[.int .i64 0,.int .i64 0,.bool false,.slice none 0 0,.slice none 0 0,.slice none 0 0,.slice none 0 0,.slice none 0 0,.slice none 0 0] 46);have K0:=zH (rY (hx.below hba) hl);have R0:Hid ((w.alloc (.cells #[.int .i64 0,.int .i64 0,.bool false,.slice none 0 0,.slice none 0 0,.slice none 0 0,.slice none 0 0,.slice none 0 0,.slice none 0 0] 46)).heap[w.heap.size]? =some (.cells #[.int .i64 0,.int .i64 0,.bool false,.slice none 0 0,.slice none 0 0,.slice none 0 0,.slice none 0 0,.slice none 0 0,.slice none 0 0] 46 (0,0))):=zH (aM _ _);have Z0:Hid (w.heap.size<(w.alloc (.cells #[.int .i64 0,.int .i64 0,.bool false,.slice none 0 0,.slice none 0 0,.slice none 0 0,.slice none 0 0,.slice none 0 0,.slice none 0 0] 46)).heap.size):=zH (by simp);have G0:Hid (But g w (w.alloc (.cells #[.int .i64 0,.int .i64 0,.bool false,.slice none 0 0,.slice none 0 0,.slice none 0 0,.slice none 0 0,.slice none 0 0,.slice none 0 0] 46))):=zH (But.of hba (aT hx.lt));clear hx hl hba;go_enter func91,ntmps91
 go_upto_region 1 with fail
 generalize (w.alloc _)=w0 at*;generalize gF s=q1 at*;go_wp2_with fail
 refine K0.o.mono ?_;rintro e w1 ⟨v,rfl,hv,hx,hb⟩;obtain rfl:v= .int .i64 q1.1:=hv;have R1:=zH ((hb.block _ Z0.o xA.o).trans R0.o);have Z1:=zH (ay Z0.o hb.size);have G1:=zH (G0.o.trans hb);have K1:=zH (rY hx L1.o);generalize gF q1.2=q2 at*;clear hx hb K0;go_wp2_with fail
 refine K1.o.mono ?_;rintro e w2 ⟨v,rfl,hv,hx,hb⟩;obtain rfl:v= .int .i64 q2.1:=hv;have R2:=zH ((hb.block _ Z1.o xA.o).trans R1.o);have Z2:=zH (ay Z1.o hb.size);have G2:=zH (G1.o.trans hb);have K2:=zH (um hx L2.o 1);generalize ig 1 q2.2=q3 at*;clear hx hb K1;go_wp2_with fail
 refine K2.o.mono ?_;rintro e w3 ⟨v,rfl,hv,hx,hb⟩;obtain rfl:v= .int .i64 q3.1:=hv;have E3:(((q3.1:Nat):Int)==1)=decide (q3.1=1):=by by_cases h:q3.1=1<;>simp [h]<;>omega
 have R3:=zH ((hb.block _ Z2.o xA.o).trans R2.o);have Z3:=zH (ay Z2.o hb.size);have G3:=zH (G2.o.trans hb);have K3:=zH (Rn hx L3.o);generalize gJ gF 8 q3.2=q4 at*;clear hx hb K2;go_wp2_with fail
 refine K3.o.mono ?_;rintro e w4 ⟨v,rfl,hv,hx,hb⟩;have R4:=zH ((hb.block _ Z3.o xA.o).trans R3.o);have Z4:=zH (ay Z3.o hb.size);have G4:=zH (G3.o.trans hb);change gy gL w3.heap.size w4 v q4.1 at hv;obtain ⟨va,vc,rfl,-,-,hv',-⟩:=hv.parts;have Ov:Hid (gy gL (w.heap.size+1) w4 (.slice va q4.1.length vc) q4.1):=zH (hv'.mono (dM Z3.o));obtain ⟨vn,hLv⟩:∃ n,q4.1.length=n:=⟨_,rfl⟩;rw [hLv] at Ov ⊢;clear hv hv' hLv;have K4:=zH (Rn hx L4.o);generalize gJ gF 8 q4.2=q5 at*;clear hx hb K3;go_wp2_with fail
 refine K4.o.mono ?_;rintro e w5 ⟨v,rfl,hv,hx,hb⟩;have R5:=zH ((hb.block _ Z4.o xA.o).trans R4.o);have Z5:=zH (ay Z4.o hb.size);have G5:=zH (G4.o.trans hb);change gy gL w4.heap.size w5 v q5.1 at hv;obtain ⟨fa,fc,rfl,-,-,hv',-⟩:=hv.parts;have Of:Hid (gy gL (w.heap.size+1) w5 (.slice fa q5.1.length fc) q5.1):=zH (hv'.mono (dM Z4.o));obtain ⟨fn,hLf⟩:∃ n,q5.1.length=n:=⟨_,rfl⟩;rw [hLf] at Of ⊢;clear hv hv' hLf;replace Ov:=zH (Ov.o.but gU hb (bG HG.o));have K5:=zH (LV hx L5.o);generalize gJ gK 8 q5.2=q6 at*;clear hx hb K4;go_wp2_with fail
 refine K5.o.mono ?_;rintro e w6 ⟨v,rfl,hv,hx,hb⟩;have R6:=zH ((hb.block _ Z5.o xA.o).trans R5.o);have Z6:=zH (ay Z5.o hb.size);have G6:=zH (G5.o.trans hb);change gy qP w5.heap.size w6 v q6.1 at hv;obtain ⟨za,zc,rfl,-,-,hv',-⟩:=hv.parts;have Oz:Hid (gy qP (w.heap.size+1) w6 (.slice za q6.1.length zc) q6.1):=zH (hv'.mono (dM Z5.o));obtain ⟨zn,hLz⟩:∃ n,q6.1.length=n:=⟨_,rfl⟩;rw [hLz] at Oz ⊢;clear hv hv' hLz;replace Ov:=zH (Ov.o.but gU hb (bG HG.o));replace Of:=zH (Of.o.but gU hb (bG HG.o));have K6:=zH (LV hx L6.o);generalize gJ gK 8 q6.2=q7 at*;clear hx hb K5;go_wp2_with fail
 refine K6.o.mono ?_;rintro e w7 ⟨v,rfl,hv,hx,hb⟩;have R7:=zH ((hb.block _ Z6.o xA.o).trans R6.o);have Z7:=zH (ay Z6.o hb.size);have G7:=zH (G6.o.trans hb);change gy qP w6.heap.size w7 v q7.1 at hv;obtain ⟨na,nc,rfl,-,-,hv',-⟩:=hv.parts;have On:Hid (gy qP (w.heap.size+1) w7 (.slice na q7.1.length nc) q7.1):=zH (hv'.mono (dM Z6.o));obtain ⟨nn,hLn⟩:∃ n,q7.1.length=n:=⟨_,rfl⟩;rw [hLn] at On ⊢;clear hv hv' hLn;replace Ov:=zH (Ov.o.but gU hb (bG HG.o));replace Of:=zH (Of.o.but gU hb (bG HG.o));replace Oz:=zH (Oz.o.but nT hb (bG HG.o));have K7:=zH (Va hx L7.o 32768 (by decide));generalize gJ nA 32768 q7.2=q8 at*;clear hx hb K6;go_wp2_with fail
 refine K7.o.mono ?_;rintro e w8 ⟨v,rfl,hv,hx,hb⟩;have R8:=zH ((hb.block _ Z7.o xA.o).trans R7.o);have Z8:=zH (ay Z7.o hb.size);have G8:=zH (G7.o.trans hb);change gy gG w7.heap.size w8 v q8.1 at hv;obtain ⟨ia,ic,rfl,-,-,hv',-⟩:=hv.parts;have Oi:Hid (gy gG (w.heap.size+1) w8 (.slice ia q8.1.length ic) q8.1):=zH (hv'.mono (dM Z7.o));obtain ⟨im,hLi⟩:∃ n,q8.1.length=n:=⟨_,rfl⟩;rw [hLi] at Oi ⊢;clear hv hv' hLi;replace Ov:=zH (Ov.o.but gU hb (bG HG.o));replace Of:=zH (Of.o.but gU hb (bG HG.o));replace Oz:=zH (Oz.o.but nT hb (bG HG.o));replace On:=zH (On.o.but nT hb (bG HG.o));have K8:=zH (YO hx L8.o 4096 (by decide));generalize gJ uF 4096 q8.2=q9 at*;clear hx hb K7;go_wp2_with fail
 refine K8.o.mono ?_;rintro e w9 ⟨v,rfl,hv,hx,hb⟩;have R9:=zH ((hb.block _ Z8.o xA.o).trans R8.o);have Z9:=zH (ay Z8.o hb.size);have G9:=zH (G8.o.trans hb);change iO (fun b=>w8.heap.size<=b) gV w8.heap.size w9 v q9.1 at hv;obtain ⟨la,lc,rfl,-,-,-,-⟩:=hv.own.parts;have Ol:Hid (iO (fun b=>w.heap.size+1<=b) gV (w.heap.size+1) w9 (.slice la q9.1.length lc) q9.1):=zH ((hv.mono (dM Z8.o)).imp fun b h=>ak (dM Z8.o) h);obtain ⟨ln,hl⟩:∃ n,q9.1.length=n:=⟨_,rfl⟩;rw [hl] at Ol ⊢;clear hv hl;replace Ov:=zH (Ov.o.but gU hb (bG HG.o));replace Of:=zH (Of.o.but gU hb (bG HG.o));replace Oz:=zH (Oz.o.but nT hb (bG HG.o));replace On:=zH (On.o.but nT hb (bG HG.o));replace Oi:=zH (Oi.o.but jR hb (bG HG.o));have X9:=zH hx;clear hx hb K8;obtain ⟨⟨y0,y1,y2,y3,y4,y5,y6,y7,y8⟩,f0,f1,f2,f3,f4,f5,f6,f7,f8⟩:=rz R9.o;have FC:=zH (rz (wm (v0:= .int .i64 q1.1) (v1:= .int .i64 q2.1) (v2:= .bool (decide (q3.1=1))) (v3:= .slice va vn vc) (v4:= .slice fa fn fc) (v5:= .slice za zn zc) (v6:= .slice na nn nc) (v7:= .slice ia im ic) (v8:= .slice la ln lc) R9.o)).1;have FG:=zH (ts9_but (v0:= .int .i64 q1.1) (v1:= .int .i64 q2.1) (v2:= .bool (decide (q3.1=1))) (v3:= .slice va vn vc) (v4:= .slice fa fn fc) (v5:= .slice za zn zc) (v6:= .slice na nn nc) (v7:= .slice ia im ic) (v8:= .slice la ln lc) G9.o HG.o (ah w.heap.size));have FX:=zH (ts9_box (v0:= .int .i64 q1.1) (v1:= .int .i64 q2.1) (v2:= .bool (decide (q3.1=1))) (v3:= .slice va vn vc) (v4:= .slice fa fn fc) (v5:= .slice za zn zc) (v6:= .slice na nn nc) (v7:= .slice ia im ic) (v8:= .slice la ln lc) X9.o HG.o);have KO:Hid (∀ {α:Type} {L:El α} {a:Option Addr} {n c:Nat} {xs:List α},Flat L ->gy L (w.heap.size+1) w9 (.slice a n c) xs ->gy L w.heap.size (ts9 w9 w.heap.size (.int .i64 q1.1) (.int .i64 q2.1) (.bool (decide (q3.1=1))) (.slice va vn vc) (.slice fa fn fc) (.slice za zn zc) (.slice na nn nc) (.slice ia im ic) (.slice la ln lc)) (.slice a n c) xs):=zH (fun hf h=>(h.but hf (Jf w9 w.heap.size (.int .i64 q1.1) (.int .i64 q2.1) (.bool (decide (q3.1=1))) (.slice va vn vc) (.slice fa fn fc) (.slice za zn zc) (.slice na nn nc) (.slice ia im ic) (.slice la ln lc)) (by omega)).mono (by omega));have Fv:=zH (KO.o gU Ov.o);have Ff:=zH (KO.o gU Of.o);have Fz:=zH (KO.o nT Oz.o);have Fn:=zH (KO.o nT On.o);have Fi:=zH (KO.o jR Oi.o);have Fl:Hid (iO (fun b=>w.heap.size<=b) gV w.heap.size (ts9 w9 w.heap.size (.int .i64 q1.1) (.int .i64 q2.1) (.bool (decide (q3.1=1))) (.slice va vn vc) (.slice fa fn fc) (.slice za zn zc) (.slice na nn nc) (.slice ia im ic) (.slice la ln lc)) (.slice la ln lc) q9.1):=zH (((Ol.o.but (Jf w9 w.heap.size (.int .i64 q1.1) (.int .i64 q2.1) (.bool (decide (q3.1=1))) (.slice va vn vc) (.slice fa fn fc) (.slice za zn zc) (.slice na nn nc) (.slice ia im ic) (.slice la ln lc)) (by omega) (fun b hb e=>by omega)).mono (by omega)).imp fun b hb=>by omega);clear KO;unfold ts9 at FC FG FX Fv Ff Fz Fn Fi Fl;go_wp2_with fail
 obtain ⟨g0,g1,g2,g3,g4,g5,g6,g7,g8⟩:=FC.o;refine bodyPost_ret (v:= .agg #[.int .i64 q1.1,.int .i64 q2.1,.bool (decide (q3.1=1)),.slice va vn vc,.slice fa fn fc,.slice za zn zc,.slice na nn nc,.slice ia im ic,.slice la ln lc]) (by simp [results,results91,go_sem,g0,g1,g2,g3,g4,g5,g6,g7,g8]) rfl ?_;rw [HR.o];exact ⟨_,rfl,⟨_,_,_,_,_,_,_,_,_,_,_,_,_,_,_,_,_,_,rfl,Fv.o,Ff.o,Fz.o,Fn.o,Fi.o,Fl.o⟩,FX.o,FG.o⟩
end Go.Proofs.YtfgcodcablpdcaaGreat