import Derived.Test.YtfgcodcablpdcaaGreatMsCov
set_option linter.unusedVariables false
namespace Go.Proofs.YtfgcodcablpdcaaGreat
open Go.Proofs.Tryz
open Go.RowKit Plain
theorem WT:(prog.info? 3).map (fun i=>(i.zero,i.size,i.bytes))=some (some (.int .i64 0),1,8):=by kernel_rfl
theorem oneInt{vs:List Value}{x:Int}(h:vs=[.int .i64 x]):∀ u∈vs,u.oneCell'=true:=by
 subst h;intro u hu;rw [bE.1 hu]
 rfl
def gL:El Int where
 k:=1
 E:=3
 S:=25
 zero:= .int .i64 0
 bytes:=8
 R:=fun _ _ vs x=>vs=[.int .i64 x]
 pos:=by decide
 small:=by decide
 len:=fun h=>by rw [h];rfl
 one:=oneInt
 mono:=fun h _=>h
 agree:=fun h _=>h
 und:=underlying25
 info:=WT
 tV:=rfl
theorem gU:Flat gL:=fun h=>h
theorem gW{w:World}{v:Value}{xs:List Int}(h:fM gL w v xs):gQ w v xs:=by
 obtain ⟨a,cap,rfl,h1,h2,h0,h3⟩:=h.parts;refine ⟨a,cap,rfl,h1,h2,h0,fun hp=> ?_⟩;obtain ⟨b,o,c,hv,-,-,-,hc⟩:=h.spot hp;simp only [aC] at hv
 obtain ⟨rfl,-,rfl⟩:=hv;refine ⟨b,o,rfl,fun j hj=> ?_⟩;have e:xs[j]? =some (xs.getD j 0):=by simp [List.getD,List.getElem?_eq_getElem hj]
 obtain ⟨vs,hr,hx⟩:=hc j _ e;obtain rfl:vs=[.int .i64 (xs.getD j 0)]:=hr;have:=hx 0 _ rfl;rw [show o+(j*gL.k+0)=o+j by show o+(j*1+0)=o+j;omega] at this;exact this
theorem N9{w:World}{v:Value}{xs:List Int}(h:gQ w v xs):fM gL w v xs:=by
 obtain ⟨a,cap,rfl,h1,h2,h0,h3⟩:=h;refine ⟨a,cap,xs.map (.int .i64),rfl,h1,h2,h0,⟨by rw [dH];show _=xs.length*1;omega,fun j x hj=> ?_⟩,fun hp=> ?_⟩
 ·show ((xs.map (Value.int .i64)).drop (j*1)).take 1=[.int .i64 x]
  obtain ⟨hl,rfl⟩:=aP.1 hj;rw [eY,List.take_one];simp [List.getElem?_eq_getElem hl]
 ·obtain ⟨b,off,rfl,g⟩:=h3 hp
  have hb:b<w.heap.size:=aG w ⟨b,off+0,none⟩ (g 0 hp);refine ⟨b,off,rfl,hb,fun i u hi=> ?_⟩;obtain ⟨hl,e⟩:=aP.1 hi;rw [dH] at hl;rw [g i hl];rw [eT] at e;rw [<-e];simp [List.getD,List.getElem?_eq_getElem hl]
def rA(x:fI)(dv ev:Value):List Value:=[.int .i64 x.node,.int .i64 x.seq,dv,ev]
def VW:Value:= .agg #[.int .i64 0,.int .i64 0,.slice none 0 0,.slice none 0 0]
theorem infoTx:(prog.info? 82).map (fun i=>(i.zero,i.size,i.bytes))=some (some VW,4,64):=by kernel_rfl
theorem zsTx:VW.cells.size=4:=rfl
def Kc(P:Nat ->Prop)(w:World)(vs:List Value)(x:fI):Prop:=∃ dv ev,vs=rA x dv ev/\Sq gL P w dv x.deps/\Sq jo P w ev x.effs
theorem lenTx{P:Nat ->Prop}{w:World}{vs:List Value}{x:fI}(h:Kc P w vs x):vs.length=4:=by
 obtain ⟨dv,ev,rfl,-⟩:=h
 rfl
theorem oneTx{P:Nat ->Prop}{w:World}{vs:List Value}{x:fI}(h:Kc P w vs x):∀ u∈vs,u.oneCell'=true:=by
 obtain ⟨dv,ev,rfl,hd,he⟩:=h;intro u hu;simp only [rA,bL,dU,or_false] at hu
 rcases hu with rfl|rfl|rfl|rfl
 ·rfl
 ·rfl
 ·exact hd.one
 ·exact he.one
theorem Br{P Q:Nat ->Prop}{w:World}{vs:List Value}{x:fI}(h:Kc P w vs x)(hq:∀ b,P b ->Q b):Kc Q w vs x:=by
 obtain ⟨dv,ev,e,hd,he⟩:=h;exact ⟨dv,ev,e,hd.mono hq,he.mono hq⟩
theorem Gr{P:Nat ->Prop}{w w':World}{vs:List Value}{x:fI}(h:Kc P w vs x)(hq:∀ b,P b ->w'.heap[b]? =w.heap[b]?):Kc P w' vs x:=by
 obtain ⟨dv,ev,e,hd,he⟩:=h;exact ⟨dv,ev,e,hd.agree hq,he.agree hq⟩
def gV:El fI where
 k:=4
 E:=82
 S:=29
 zero:=VW
 bytes:=64
 R:=Kc
 pos:=by decide
 small:=by decide
 len:=lenTx
 one:=oneTx
 mono:=Br
 agree:=Gr
 und:=underlying29
 info:=infoTx
 tV:=zsTx
def kN(w:World)(v:Value)(t:fI):Prop:=∃ dv ev,v= .agg #[.int .i64 t.node,.int .i64 t.seq,dv,ev]/\fM gL w dv t.deps/\fM jo w ev t.effs
theorem kN.below{w w':World}{v:Value}{t:fI}(h:kN w v t)(hb:Below w.heap.size w w'):kN w' v t:=by
 obtain ⟨dv,ev,rfl,h1,h2⟩:=h;exact ⟨dv,ev,rfl,h1.below hb,h2.below hb⟩
structure xU(w:World)(b o:Nat)(x:fI)(dv ev:Value):Prop where
 c0:w.cell? ⟨b,o,none⟩=some (.int .i64 x.node)
 c1:w.cell? ⟨b,o+1,none⟩=some (.int .i64 x.seq)
 c2:w.cell? ⟨b,o+2,none⟩=some dv
 c3:w.cell? ⟨b,o+3,none⟩=some ev
theorem xU.below{N:Nat}{w w':World}{b o:Nat}{x:fI}{dv ev:Value}(h:xU w b o x dv ev)(hb:Below N w w')(hN:b<N):xU w' b o x dv ev:=
 ⟨(hb.cell (p:=⟨b,o,none⟩) hN).trans h.c0,(hb.cell (p:=⟨b,o+1,none⟩) hN).trans h.c1,(hb.cell (p:=⟨b,o+2,none⟩) hN).trans h.c2,(hb.cell (p:=⟨b,o+3,none⟩) hN).trans h.c3⟩
theorem xU.lt{w:World}{b o:Nat}{x:fI}{dv ev:Value}(h:xU w b o x dv ev):b<w.heap.size:=aG w ⟨b,o,none⟩ h.c0
theorem wh{w:World}{v:Value}{xs:List fI}(h:fM gV w v xs)(hp:0<xs.length):∃ b o cap,v= .slice (some ⟨b,o,none⟩) xs.length cap/\xs.length<=cap/\cap<=9223372036854775807/\fM gV w (.slice (some ⟨b,o,none⟩) xs.length cap) xs/\
  ∀ j,j<xs.length ->∃ dv ev,xU w b (o+j*4) (xs.getD j default) dv ev/\fM gL w dv (xs.getD j default).deps/\fM jo w ev (xs.getD j default).effs:=by
 obtain ⟨b,o,cap,e,h1,h2,h3,hc⟩:=h.spot hp;refine ⟨b,o,cap,e,h1,h2,h3,fun j hj=> ?_⟩;obtain ⟨vs,hr,hv⟩:=hc j _ (getD_at hj);obtain ⟨dv,ev,rfl,hd,he⟩:=hr;have g:=fun i u (hu:(rA (xs.getD j default) dv ev)[i]? =some u)=>hv i u hu
 refine ⟨dv,ev,⟨g 0 _ rfl,?_,?_,?_⟩,hd,he⟩
 ·rw [bP];exact g 1 _ rfl
 ·rw [bP];exact g 2 _ rfl
 ·rw [bP];exact g 3 _ rfl
def mM(n:Int):Prop:=(Lit.int .i64 n).wf=true
def yD(t:fI):Prop:=mM t.node/\mM t.seq/\(∀ n∈t.deps,mM n)/\∀ e∈t.effs,WJ e
theorem qJ:prog.cellsOf 3=1:=by kernel_rfl
theorem Ia:prog.cellsOf 82=4:=by kernel_rfl
section
open Go.ChangeShapes Go.WideShapes Go.Joins
set_option maxRecDepth 100000
theorem wY{H:Type}{enc:TypeId×Value ->H}{W:World}{n:Nat}{cs:List Value}{y:DataW H×List MemPlace}(ht:DataW.trod enc prog W 0 (fun _=>true) true n 3 cs=some y):∃ x,gL.R (· <W.heap.size) W cs x/\mM x:=by
 obtain ⟨a0,g0,-,w0⟩:=bX underlying3 ht;exact ⟨a0,g0,w0⟩
theorem Na{H:Type}{enc:TypeId×Value ->H}{W:World}{n:Nat}{cs:List Value}{y:DataW H×List MemPlace}(ht:DataW.trod enc prog W 0 (fun _=>true) true n 82 cs=some y):∃ x,Kc (· <W.heap.size) W cs x/\yD x:=by
 obtain ⟨ys,n',-,-,hl,hlen,hf⟩:=fu underlying82 ht;rw [Ia] at hl;have e3:prog.cellsOf 25=1:=by kernel_rfl
 have e4:prog.cellsOf 80=1:=by kernel_rfl
 match cs,hl with
 |[x0,x1,x2,x3],_=>
  match ys,hlen with
  |[y0,y1,y2,y3],_=>
   have h0:=hf 0 _ rfl;have h1:=hf 1 _ rfl;have h2:=hf 2 _ rfl;have h3:=hf 3 _ rfl;simp [qJ,e3,e4] at h0 h1 h2 h3
   obtain ⟨a0,g0,-,w0⟩:=bX underlying3 h0;obtain ⟨a1,g1,-,w1⟩:=bX underlying3 h1;obtain ⟨dv,ds,g2,hs,hd⟩:=kT gL mM qJ (fun ht=>wY ht) h2;obtain ⟨ev,es,g3,hs3,hd3⟩:=kT jo WJ Iy (fun ht=>Ns ht) h3;simp at g0 g1 g2 g3
   subst g0 g1 g2 g3;exact ⟨⟨a0,a1,ds,es⟩,⟨_,_,rfl,hs,hs3⟩,w0,w1,hd,hd3⟩
end
end Go.Proofs.YtfgcodcablpdcaaGreat
set_option maxRecDepth 100000
set_option maxHeartbeats 64000000
namespace Go.Proofs.YtfgcodcablpdcaaGreat
open Go.Proofs.Tryz
open Go.RowKit Plain
theorem Tj:∀ args w,(callFunc 224 args).run prog w= .ok (.enter 224 args) w:=enters_of func224 (by kernel_rfl) rfl
theorem heard_is(node seq:Int)(v:List Int)(d:gB):(!sH node seq v d)=((!(decide (1<=d.seq)&&decide (d.seq<=iF v d.node)))&& !EM node seq d):=by
 unfold sH EM
 cases decide (d.node=node)<;>cases decide (d.seq=seq)<;>cases decide (1<=d.seq)<;>cases decide (d.seq<=iF v d.node)<;>rfl
theorem VX(node seq:Int){a:Option Addr}{n c:Nat}{v:List Int}(d:gB)(b1 b2 b3:Nat)(W:World)(hv:gQ W (.slice a n c) v)
  (h1:W.cell? ⟨b1,0,none⟩=some (.slice a n c)) (h2:W.cell? ⟨b2,0,none⟩=some (.int .i64 node)) (h3:W.cell? ⟨b3,0,none⟩=some (.int .i64 seq)):
  Calls prog 224 (#[dv d]++#[.pointer (some ⟨b1,0,none⟩),.pointer (some ⟨b2,0,none⟩),.pointer (some ⟨b3,0,none⟩)]) W (fO W (!sH node seq v d)):=by
 show Calls prog 224 #[.agg #[.int .i64 d.node,.int .i64 d.seq,.int .i64 d.pos],.pointer (some ⟨b1,0,none⟩),.pointer (some ⟨b2,0,none⟩),.pointer (some ⟨b3,0,none⟩)] W _
 have hb:=zB W (.cells #[.int .i64 d.node,.int .i64 d.seq,.int .i64 d.pos] 77);have hc:∀ {b:Nat} {u:Value},W.cell? ⟨b,0,none⟩=some u ->(W.alloc (.cells #[.int .i64 d.node,.int .i64 d.seq,.int .i64 d.pos] 77)).cell? ⟨b,0,none⟩=some u:=fun h=>(hb.cell (aG W _ h)).trans h
 have k1:=hc h1;have k2:=hc h2;have k3:=hc h3;have DB:Hid (pY (W.alloc (.cells #[.int .i64 d.node,.int .i64 d.seq,.int .i64 d.pos] 77)) W.heap.size 0 d):=zH ⟨by simp,by simp,by simp⟩;have KH:=zH (tN (hv.below hb) d.node d.seq d.pos);have G:=zH hb;have K:=zH (fun W=>Le node seq d W);have e1:=heard_is node seq v d;clear hc hb h1 h2 h3 hv;rw [e1];clear e1;generalize (decide (1<=d.seq)&&decide (d.seq<=iF v d.node))=r0 at*;generalize EM node seq d=r1 at*;go_enter func224,ntmps224
 go_upto_region 1 with fail
 generalize (W.alloc _)=w1 at*;obtain ⟨c0,c1,c2⟩:=DB.o;simp only [aJ] at c1 c2
 go_wp2_with fail
 refine KH.o.mono ?_;rintro e w2 ⟨rfl,hb⟩;have m2:=(hb.cell (aG w1 _ k2)).trans k2;have m3:=(hb.cell (aG w1 _ k3)).trans k3;have d0:=(hb.cell (aG w1 _ c0)).trans c0;have d1:=(hb.cell (aG w1 _ c1)).trans c1;have d2:=(hb.cell (aG w1 _ c2)).trans c2;have G2:=zH (G.o.trans (hb.mono G.o.size));clear hb c0 c1 c2 k1 k2 k3 KH
 cases r0 with
 |true=>
  go_wp2_with fail
  go_ret
  exact ⟨rfl,G2.o⟩
 |false=>
  rw [Bool.not_false,aS];go_wp2_with fail
  refine (K.o _).mono ?_;rintro e w3 ⟨rfl,hb⟩;have G3:=zH (G2.o.trans (hb.mono G2.o.size));clear hb;go_wp2_with fail
  go_ret
  exact ⟨rfl,G3.o⟩
theorem aaj{l:List gD}{node seq:Int}{v:List Int}(h:∀ j,j<l.length ->((l.getD j default).drops.any fun d=> !sH node seq v d)=false):vg l node seq v=true:=by
 unfold vg;rw [aR];intro e he;obtain ⟨j,hj,rfl⟩:=bF he;have:=h j hj;rw [show l.getD j default=l[j] by simp [List.getD,List.getElem?_eq_getElem hj],dF] at this;rw [aR];intro d hd
 simpa using this d hd
theorem aak{l:List gD}{node seq:Int}{v:List Int}{j:Nat}(hj:j<l.length)(h:((l.getD j default).drops.any fun d=> !sH node seq v d)=true):vg l node seq v=false:=by
 unfold vg;rw [List.all_eq_false];refine ⟨l[j],aU hj,?_⟩;rw [show l.getD j default=l[j] by simp [List.getD,List.getElem?_eq_getElem hj],cO] at h;obtain ⟨d,hd,hn⟩:=h;rw [aR];intro k;have:=k d hd;rw [this] at hn
 cases hn
theorem VE(node seq:Int){u v:Value}{l:List gD}{xs:List Int}{w:World}(hu:fM jo w u l)(hv:gQ w v xs)(hd:∀ e∈l,e.drops.length<=1000000):
  Calls prog 158 #[u,.int .i64 node,.int .i64 seq,v] w (fO w (vg l node seq xs)):=by
 have Tt:=zH (fun k hk=>hd _ (rR (l:=l) (k:=k) hk));have HA:=zH (fun h=>aaj (l:=l) (node:=node) (seq:=seq) (v:=xs) h);have HN:=zH (fun j (hj:j<l.length) h=>aak (l:=l) (node:=node) (seq:=seq) (v:=xs) hj h);generalize vg l node seq xs=r at*;obtain ⟨a,cap,rfl,g1,g2,g0,h⟩:=hu.parts;obtain ⟨av,cv,rfl,gv1,gv2,gv0,hv'⟩:=hv.parts;generalize xs.length=nv at*;obtain ⟨n,hN⟩:∃ n,l.length=n:=⟨_,rfl⟩;rw [hN] at g1 Tt HA HN h ⊢;have LN:=zH hN;have B1:=((zB w (.cells #[.int .i64 node] 3)).alloc (by simp) (.cells #[.int .i64 seq] 3)).alloc (by simp;omega) (.cells #[.slice av nv cv] 25);have k1:((((w.alloc (.cells #[.int .i64 node] 3)).alloc (.cells #[.int .i64 seq] 3)).alloc (.cells #[.slice av nv cv] 25))).cell? ⟨w.heap.size,0,none⟩=some (.int .i64 node):=(nO w _ _ _ _ _ _ 0).1;have k2:((((w.alloc (.cells #[.int .i64 node] 3)).alloc (.cells #[.int .i64 seq] 3)).alloc (.cells #[.slice av nv cv] 25))).cell? ⟨w.heap.size+1,0,none⟩=some (.int .i64 seq):=(nO w _ _ _ _ _ _ 0).2.1;have k3:((((w.alloc (.cells #[.int .i64 node] 3)).alloc (.cells #[.int .i64 seq] 3)).alloc (.cells #[.slice av nv cv] 25))).cell? ⟨w.heap.size+1+1,0,none⟩=some (.slice av nv cv):=(nO w _ _ _ _ _ _ 0).2.2;have HS:=zH (h.below B1);have HV:=zH (hv'.below B1);have G:=zH B1;clear hu hv h hv' g0 gv0 hN B1 hd;go_enter func158,ntmps158
 go_upto_region 1 with fail
 generalize (((w.alloc _).alloc _).alloc _)=w1 at*;have KC:Hid (∀ W {dv:Value} {ds:List gB},Below w1.heap.size w1 W ->fM jI W dv ds ->ds.length<=1000000 ->Calls prog 226 #[dv,.func (.func 224) #[] #[.pointer (some ⟨w.heap.size+1+1,0,none⟩),.pointer (some ⟨w.heap.size,0,none⟩),.pointer (some ⟨w.heap.size+1,0,none⟩)]] W (fO W (ds.any fun d=> !sH node seq xs d))):=
  zH (fun W dv ds hb hs hn=>Az hs hn _ _ _ Tj (fun W' d hb'=>by
   have b2:=hb.trans (hb'.mono hb.size);exact VX node seq d _ _ _ W' (HV.o.below b2) ((b2.cell (aG w1 _ k3)).trans k3) ((b2.cell (aG w1 _ k1)).trans k1) ((b2.cell (aG w1 _ k2)).trans k2)))
 clear k1 k2 k3;go_wp2_with fail
 go_loopw [11,15] (fun _ i wr=>∃ k:Nat,k<=n/\i= .int .i64 k/\(∀ j,j<k ->((l.getD j default).drops.any fun d=> !sH node seq xs d)=false)/\Below w1.heap.size w1 wr) (fun _ i _=>n-(intOf i).toNat)
 case atStart=>exact ⟨0,aL _,rfl,fun j hj=>absurd hj (by omega),aj _ _⟩
 case round=>
  obtain ⟨k,hk,rfl,hall,hb⟩:=hrel;have qb:=zH hall;have HB:=zH hb;clear hall hb
  by_cases hlt:k<n
  ·obtain ⟨b,o,c,hv,-,-,-,hc⟩:=mZ (HS.o.below HB.o) (by rw [LN.o];omega)
   rw [LN.o] at hv;simp only [aC] at hv
   obtain ⟨rfl,-,rfl⟩:=hv;obtain ⟨dv,EA,SD⟩:=hc k (by rw [LN.o];exact hlt);have hl:=Tt.o k hlt;have HNK:=zH (HN.o k hlt);have HX:Hid (((l.getD k default).drops.any fun d=> !sH node seq xs d)=false ->∀ j,j<k+1 ->((l.getD j default).drops.any fun d=> !sH node seq xs d)=false):=zH (fun h j hj=>by
    by_cases e:j=k
    ·rw [e];exact h
    ·exact qb.o j (by omega))
   clear hc;generalize l.getD k default=x at*;obtain ⟨da,dc,rfl,-⟩:=SD.parts;have hb2:=zB wr (.cells #[.int .i64 x.pos,.string (bt x.key),.string (bt x.field),.int .i64 x.kind,.string (bt x.elem),.int .i64 x.n,.slice da x.drops.length dc] 85);have EX:(wr.alloc (.cells #[.int .i64 x.pos,.string (bt x.key),.string (bt x.field),.int .i64 x.kind,.string (bt x.elem),.int .i64 x.n,.slice da x.drops.length dc] 85)).cell? ⟨wr.heap.size,6,none⟩=some (.slice da x.drops.length dc):=bg wr _ _ 6;have K:=KC.o _ (HB.o.trans (hb2.mono HB.o.size)) (SD.below hb2) hl;have G2:=zH (HB.o.trans (hb2.mono HB.o.size));obtain ⟨c0,c1,c2,c3,c4,c5,c6⟩:=EA;clear SD hb2;generalize x.drops.length=dn at*;go_upto_region 5 with fail
   clear c0 c1 c2 c3 c4 c5 c6;generalize (wr.alloc _)=w2 at*
   cases hq:x.drops.any fun d=> !sH node seq xs d with
   |true=>
    obtain rfl:r=false:=HNK.o hq;rw [hq] at K;clear hq HX HNK;go_wp2_with fail
    refine K.mono ?_;rintro e w3 ⟨rfl,hb⟩;have G3:=zH (G.o.trans ((G2.o.trans (hb.mono G2.o.size)).mono G.o.size));clear hb K;go_wp2_with fail
    go_ret
    exact ⟨rfl,G3.o⟩
   |false=>
    have HU:=zH (HX.o hq);rw [hq] at K;clear hq HX HNK;go_wp2_with fail
    refine K.mono ?_;rintro e w3 ⟨rfl,hb⟩;have G3:=zH (G2.o.trans (hb.mono G2.o.size));clear hb K;go_wp2_with fail
    go_roundw
    case rel=>exact ⟨k+1,by omega,by go_num,HU.o,G3.o⟩
    case measure=>simp [intOf];omega
  ·obtain rfl:k=n:=by omega
   obtain rfl:r=true:=HA.o qb.o;go_wp2_with fail
   go_ret
   exact ⟨rfl,G.o.trans (HB.o.mono G.o.size)⟩
end Go.Proofs.YtfgcodcablpdcaaGreat
set_option maxRecDepth 100000
set_option maxHeartbeats 64000000
namespace Go.Proofs.YtfgcodcablpdcaaGreat
open Go.Proofs.Tryz
open Go.RowKit Plain
theorem Ox{w:World}{node seq:Int}{da ea:Option Addr}{dn dc en ec:Nat}(h1:¬ 0<=node)(g1:en<=9223372036854775807):
  Calls prog 82 #[.agg #[.int .i64 node,.int .i64 seq,.slice da dn dc,.slice ea en ec]] w (fO w false):=by
 have C1:=zH (JX w node seq da dn dc ea en ec);have Z1:Hid (w.heap.size<(w.alloc (.cells #[.int .i64 node,.int .i64 seq,.slice da dn dc,.slice ea en ec] 82)).heap.size):=zH (by simp);have G1:=zH (zB w (.cells #[.int .i64 node,.int .i64 seq,.slice da dn dc,.slice ea en ec] 82));go_enter func82,ntmps82
 go_upto_region 1 with fail
 generalize (w.alloc _)=w1 at*;have KE:=zH (JY C1.o Z1.o);refine wp_region_held_drew (S:=fun u'=>Below w1.heap.size w1 u'/\u'.cell? ⟨w.heap.size,0,none⟩=some (.int .i64 node)/\u'.cell? ⟨w.heap.size,1,none⟩=some (.int .i64 seq)/\u'.cell? ⟨w.heap.size,2,none⟩=some (.slice da dn dc)/\u'.cell? ⟨w.heap.size,3,none⟩=some (.slice ea en ec)) (by kernel_rfl) ?_ (fun hH=> ?_)
 ·(exact KE.o _ (aj _ _).drew)
 simp only [zS,aJ,Nat.reduceAdd]
 refine fJ 0 hH ?_;refine fJ 1 hH ?_;refine fJ 2 hH ?_;refine fJ 3 hH ?_;refine gq 4 hH ?_;refine gq 5 hH ?_;refine gq 6 hH ?_;refine fJ 7 hH ?_;refine fJ 8 hH ?_;refine gq 9 hH ?_;refine gq 10 hH ?_;refine gq 11 hH ?_;refine fJ 12 hH ?_;refine fJ 13 hH ?_;refine gq 14 hH ?_;refine gq 15 hH ?_;refine gq 16 hH ?_;refine fJ 17 hH ?_;refine fJ 18 hH ?_;refine gq 19 hH ?_;refine gq 20 hH ?_;refine gq 21 hH ?_;refine fJ 22 hH ?_;refine fJ 23 hH ?_;refine gq 24 hH ?_;refine gq 25 hH ?_;refine gq 26 hH ?_;refine gq 27 hH ?_;refine gq 29 hH ?_;refine gq 30 hH ?_;refine gq 31 hH ?_;refine gq 28 hH ?_;refine gq 32 hH ?_;refine fJ 33 hH ?_;refine fJ 34 hH ?_;refine gq 35 hH ?_;refine gq 36 hH ?_;refine gq 37 hH ?_;refine gq 38 hH ?_;refine fJ 39 hH ?_;refine fJ 40 hH ?_;refine gq 41 hH ?_;refine gq 42 hH ?_;refine gq 43 hH ?_;refine gq 44 hH ?_;refine gq 45 hH ?_;refine gq 46 hH ?_;refine gq 47 hH ?_;refine fJ 48 hH ?_;refine fJ 49 hH ?_;refine gq 50 hH ?_;refine gq 51 hH ?_;refine gq 52 hH ?_;refine gq 53 hH ?_;refine gq 54 hH ?_;refine gq 55 hH ?_;refine gq 56 hH ?_;refine gq 57 hH ?_;refine gq 58 hH ?_;refine fJ 59 hH ?_;refine fJ 60 hH ?_;refine wpAnyH_done (by kernel_rfl) ?_ _;have GJ:Hid (Below w1.heap.size w1 _):=zH hH.1;clear hH;go_wp2_with fail
 go_ret
 exact ⟨rfl,G1.o.trans (GJ.o.mono G1.o.size)⟩
theorem Oy{w:World}{node seq:Int}{da ea:Option Addr}{dn dc en ec:Nat}(h1:0<=node)(h2:¬ node<8)(g1:en<=9223372036854775807):
  Calls prog 82 #[.agg #[.int .i64 node,.int .i64 seq,.slice da dn dc,.slice ea en ec]] w (fO w false):=by
 have C1:=zH (JX w node seq da dn dc ea en ec);have Z1:Hid (w.heap.size<(w.alloc (.cells #[.int .i64 node,.int .i64 seq,.slice da dn dc,.slice ea en ec] 82)).heap.size):=zH (by simp);have G1:=zH (zB w (.cells #[.int .i64 node,.int .i64 seq,.slice da dn dc,.slice ea en ec] 82));go_enter func82,ntmps82
 go_upto_region 1 with fail
 generalize (w.alloc _)=w1 at*;have KE:=zH (JY C1.o Z1.o);refine wp_region_held_drew (S:=fun u'=>Below w1.heap.size w1 u'/\u'.cell? ⟨w.heap.size,0,none⟩=some (.int .i64 node)/\u'.cell? ⟨w.heap.size,1,none⟩=some (.int .i64 seq)/\u'.cell? ⟨w.heap.size,2,none⟩=some (.slice da dn dc)/\u'.cell? ⟨w.heap.size,3,none⟩=some (.slice ea en ec)) (by kernel_rfl) ?_ (fun hH=> ?_)
 ·(exact KE.o _ (aj _ _).drew)
 simp only [zS,aJ,Nat.reduceAdd]
 refine fJ 0 hH ?_;refine fJ 1 hH ?_;refine fJ 2 hH ?_;refine fJ 3 hH ?_;refine fJ 4 hH ?_;refine fJ 5 hH ?_;refine fJ 6 hH ?_;refine fJ 7 hH ?_;refine fJ 8 hH ?_;refine gq 9 hH ?_;refine gq 10 hH ?_;refine gq 11 hH ?_;refine fJ 12 hH ?_;refine fJ 13 hH ?_;refine gq 14 hH ?_;refine gq 15 hH ?_;refine gq 16 hH ?_;refine fJ 17 hH ?_;refine fJ 18 hH ?_;refine gq 19 hH ?_;refine gq 20 hH ?_;refine gq 21 hH ?_;refine fJ 22 hH ?_;refine fJ 23 hH ?_;refine gq 24 hH ?_;refine gq 25 hH ?_;refine gq 26 hH ?_;refine gq 27 hH ?_;refine gq 29 hH ?_;refine gq 30 hH ?_;refine gq 31 hH ?_;refine gq 28 hH ?_;refine gq 32 hH ?_;refine fJ 33 hH ?_;refine fJ 34 hH ?_;refine gq 35 hH ?_;refine gq 36 hH ?_;refine gq 37 hH ?_;refine gq 38 hH ?_;refine fJ 39 hH ?_;refine fJ 40 hH ?_;refine gq 41 hH ?_;refine gq 42 hH ?_;refine gq 43 hH ?_;refine gq 44 hH ?_;refine gq 45 hH ?_;refine gq 46 hH ?_;refine gq 47 hH ?_;refine fJ 48 hH ?_;refine fJ 49 hH ?_;refine gq 50 hH ?_;refine gq 51 hH ?_;refine gq 52 hH ?_;refine gq 53 hH ?_;refine gq 54 hH ?_;refine gq 55 hH ?_;refine gq 56 hH ?_;refine gq 57 hH ?_;refine gq 58 hH ?_;refine fJ 59 hH ?_;refine fJ 60 hH ?_;refine wpAnyH_done (by kernel_rfl) ?_ _;have GJ:Hid (Below w1.heap.size w1 _):=zH hH.1;clear hH;go_wp2_with fail
 go_ret
 exact ⟨rfl,G1.o.trans (GJ.o.mono G1.o.size)⟩
theorem OG{w:World}{node seq:Int}{da ea:Option Addr}{dn dc en ec:Nat}(h1:0<=node)(h2:node<8)(h3:¬ 1<=seq)(g1:en<=9223372036854775807):
  Calls prog 82 #[.agg #[.int .i64 node,.int .i64 seq,.slice da dn dc,.slice ea en ec]] w (fO w false):=by
 have C1:=zH (JX w node seq da dn dc ea en ec);have Z1:Hid (w.heap.size<(w.alloc (.cells #[.int .i64 node,.int .i64 seq,.slice da dn dc,.slice ea en ec] 82)).heap.size):=zH (by simp);have G1:=zH (zB w (.cells #[.int .i64 node,.int .i64 seq,.slice da dn dc,.slice ea en ec] 82));go_enter func82,ntmps82
 go_upto_region 1 with fail
 generalize (w.alloc _)=w1 at*;have KE:=zH (JY C1.o Z1.o);refine wp_region_held_drew (S:=fun u'=>Below w1.heap.size w1 u'/\u'.cell? ⟨w.heap.size,0,none⟩=some (.int .i64 node)/\u'.cell? ⟨w.heap.size,1,none⟩=some (.int .i64 seq)/\u'.cell? ⟨w.heap.size,2,none⟩=some (.slice da dn dc)/\u'.cell? ⟨w.heap.size,3,none⟩=some (.slice ea en ec)) (by kernel_rfl) ?_ (fun hH=> ?_)
 ·(exact KE.o _ (aj _ _).drew)
 simp only [zS,aJ,Nat.reduceAdd]
 refine fJ 0 hH ?_;refine fJ 1 hH ?_;refine fJ 2 hH ?_;refine fJ 3 hH ?_;refine fJ 4 hH ?_;refine fJ 5 hH ?_;refine fJ 6 hH ?_;refine fJ 7 hH ?_;refine fJ 8 hH ?_;refine fJ 9 hH ?_;refine fJ 10 hH ?_;refine fJ 11 hH ?_;refine fJ 12 hH ?_;refine fJ 13 hH ?_;refine gq 14 hH ?_;refine gq 15 hH ?_;refine gq 16 hH ?_;refine fJ 17 hH ?_;refine fJ 18 hH ?_;refine gq 19 hH ?_;refine gq 20 hH ?_;refine gq 21 hH ?_;refine fJ 22 hH ?_;refine fJ 23 hH ?_;refine gq 24 hH ?_;refine gq 25 hH ?_;refine gq 26 hH ?_;refine gq 27 hH ?_;refine gq 29 hH ?_;refine gq 30 hH ?_;refine gq 31 hH ?_;refine gq 28 hH ?_;refine gq 32 hH ?_;refine fJ 33 hH ?_;refine fJ 34 hH ?_;refine gq 35 hH ?_;refine gq 36 hH ?_;refine gq 37 hH ?_;refine gq 38 hH ?_;refine fJ 39 hH ?_;refine fJ 40 hH ?_;refine gq 41 hH ?_;refine gq 42 hH ?_;refine gq 43 hH ?_;refine gq 44 hH ?_;refine gq 45 hH ?_;refine gq 46 hH ?_;refine gq 47 hH ?_;refine fJ 48 hH ?_;refine fJ 49 hH ?_;refine gq 50 hH ?_;refine gq 51 hH ?_;refine gq 52 hH ?_;refine gq 53 hH ?_;refine gq 54 hH ?_;refine gq 55 hH ?_;refine gq 56 hH ?_;refine gq 57 hH ?_;refine gq 58 hH ?_;refine fJ 59 hH ?_;refine fJ 60 hH ?_;refine wpAnyH_done (by kernel_rfl) ?_ _;have GJ:Hid (Below w1.heap.size w1 _):=zH hH.1;clear hH;go_wp2_with fail
 go_ret
 exact ⟨rfl,G1.o.trans (GJ.o.mono G1.o.size)⟩
theorem OH{w:World}{node seq:Int}{da ea:Option Addr}{dn dc en ec:Nat}(h1:0<=node)(h2:node<8)(h3:1<=seq)(h4:¬ seq<=1073741824)(g1:en<=9223372036854775807):
  Calls prog 82 #[.agg #[.int .i64 node,.int .i64 seq,.slice da dn dc,.slice ea en ec]] w (fO w false):=by
 have C1:=zH (JX w node seq da dn dc ea en ec);have Z1:Hid (w.heap.size<(w.alloc (.cells #[.int .i64 node,.int .i64 seq,.slice da dn dc,.slice ea en ec] 82)).heap.size):=zH (by simp);have G1:=zH (zB w (.cells #[.int .i64 node,.int .i64 seq,.slice da dn dc,.slice ea en ec] 82));go_enter func82,ntmps82
 go_upto_region 1 with fail
 generalize (w.alloc _)=w1 at*;have KE:=zH (JY C1.o Z1.o);refine wp_region_held_drew (S:=fun u'=>Below w1.heap.size w1 u'/\u'.cell? ⟨w.heap.size,0,none⟩=some (.int .i64 node)/\u'.cell? ⟨w.heap.size,1,none⟩=some (.int .i64 seq)/\u'.cell? ⟨w.heap.size,2,none⟩=some (.slice da dn dc)/\u'.cell? ⟨w.heap.size,3,none⟩=some (.slice ea en ec)) (by kernel_rfl) ?_ (fun hH=> ?_)
 ·(exact KE.o _ (aj _ _).drew)
 simp only [zS,aJ,Nat.reduceAdd]
 refine fJ 0 hH ?_;refine fJ 1 hH ?_;refine fJ 2 hH ?_;refine fJ 3 hH ?_;refine fJ 4 hH ?_;refine fJ 5 hH ?_;refine fJ 6 hH ?_;refine fJ 7 hH ?_;refine fJ 8 hH ?_;refine fJ 9 hH ?_;refine fJ 10 hH ?_;refine fJ 11 hH ?_;refine fJ 12 hH ?_;refine fJ 13 hH ?_;refine fJ 14 hH ?_;refine fJ 15 hH ?_;refine fJ 16 hH ?_;refine fJ 17 hH ?_;refine fJ 18 hH ?_;refine gq 19 hH ?_;refine gq 20 hH ?_;refine gq 21 hH ?_;refine fJ 22 hH ?_;refine fJ 23 hH ?_;refine gq 24 hH ?_;refine gq 25 hH ?_;refine gq 26 hH ?_;refine gq 27 hH ?_;refine gq 29 hH ?_;refine gq 30 hH ?_;refine gq 31 hH ?_;refine gq 28 hH ?_;refine gq 32 hH ?_;refine fJ 33 hH ?_;refine fJ 34 hH ?_;refine gq 35 hH ?_;refine gq 36 hH ?_;refine gq 37 hH ?_;refine gq 38 hH ?_;refine fJ 39 hH ?_;refine fJ 40 hH ?_;refine gq 41 hH ?_;refine gq 42 hH ?_;refine gq 43 hH ?_;refine gq 44 hH ?_;refine gq 45 hH ?_;refine gq 46 hH ?_;refine gq 47 hH ?_;refine fJ 48 hH ?_;refine fJ 49 hH ?_;refine gq 50 hH ?_;refine gq 51 hH ?_;refine gq 52 hH ?_;refine gq 53 hH ?_;refine gq 54 hH ?_;refine gq 55 hH ?_;refine gq 56 hH ?_;refine gq 57 hH ?_;refine gq 58 hH ?_;refine fJ 59 hH ?_;refine fJ 60 hH ?_;refine wpAnyH_done (by kernel_rfl) ?_ _;have GJ:Hid (Below w1.heap.size w1 _):=zH hH.1;clear hH;go_wp2_with fail
 go_ret
 exact ⟨rfl,G1.o.trans (GJ.o.mono G1.o.size)⟩
theorem OJ{w:World}{node seq:Int}{da ea:Option Addr}{dn dc en ec:Nat}(h1:0<=node)(h2:node<8)(h3:1<=seq)(h4:seq<=1073741824)
  (KD:∀ W,Below (w.alloc (.cells #[.int .i64 node,.int .i64 seq,.slice da dn dc,.slice ea en ec] 82)).heap.size (w.alloc (.cells #[.int .i64 node,.int .i64 seq,.slice da dn dc,.slice ea en ec] 82)) W ->Calls prog 156 #[.slice da dn dc] W (fO W false)) (g1:en<=9223372036854775807):
  Calls prog 82 #[.agg #[.int .i64 node,.int .i64 seq,.slice da dn dc,.slice ea en ec]] w (fO w false):=by
 have C1:=zH (JX w node seq da dn dc ea en ec);have Z1:Hid (w.heap.size<(w.alloc (.cells #[.int .i64 node,.int .i64 seq,.slice da dn dc,.slice ea en ec] 82)).heap.size):=zH (by simp);have G1:=zH (zB w (.cells #[.int .i64 node,.int .i64 seq,.slice da dn dc,.slice ea en ec] 82));replace KD:=zH KD;go_enter func82,ntmps82
 go_upto_region 1 with fail
 generalize (w.alloc _)=w1 at*;have KE:=zH (JY C1.o Z1.o);refine wp_region_held_drew (S:=fun u'=>Below w1.heap.size w1 u'/\u'.cell? ⟨w.heap.size,0,none⟩=some (.int .i64 node)/\u'.cell? ⟨w.heap.size,1,none⟩=some (.int .i64 seq)/\u'.cell? ⟨w.heap.size,2,none⟩=some (.slice da dn dc)/\u'.cell? ⟨w.heap.size,3,none⟩=some (.slice ea en ec)) (by kernel_rfl) ?_ (fun hH=> ?_)
 ·(exact KE.o _ (aj _ _).drew)
 simp only [zS,aJ,Nat.reduceAdd]
 refine fJ 0 hH ?_;refine fJ 1 hH ?_;refine fJ 2 hH ?_;refine fJ 3 hH ?_;refine fJ 4 hH ?_;refine fJ 5 hH ?_;refine fJ 6 hH ?_;refine fJ 7 hH ?_;refine fJ 8 hH ?_;refine fJ 9 hH ?_;refine fJ 10 hH ?_;refine fJ 11 hH ?_;refine fJ 12 hH ?_;refine fJ 13 hH ?_;refine fJ 14 hH ?_;refine fJ 15 hH ?_;refine fJ 16 hH ?_;refine fJ 17 hH ?_;refine fJ 18 hH ?_;refine fJ 19 hH ?_;refine fJ 20 hH ?_;refine rd 21 fun K hK=> ?_
 go_simp
 refine (KD.o _ hH.1).mono ?_;rintro e s1 ⟨rfl,hb⟩;refine hK.out _ _ (KE.o _ (iM hH hb)) (fun hH=> ?_);clear hK K hb;refine fJ 22 hH ?_;refine fJ 23 hH ?_;refine gq 24 hH ?_;refine gq 25 hH ?_;refine gq 26 hH ?_;refine gq 27 hH ?_;refine gq 29 hH ?_;refine gq 30 hH ?_;refine gq 31 hH ?_;refine gq 28 hH ?_;refine gq 32 hH ?_;refine fJ 33 hH ?_;refine fJ 34 hH ?_;refine gq 35 hH ?_;refine gq 36 hH ?_;refine gq 37 hH ?_;refine gq 38 hH ?_;refine fJ 39 hH ?_;refine fJ 40 hH ?_;refine gq 41 hH ?_;refine gq 42 hH ?_;refine gq 43 hH ?_;refine gq 44 hH ?_;refine gq 45 hH ?_;refine gq 46 hH ?_;refine gq 47 hH ?_;refine fJ 48 hH ?_;refine fJ 49 hH ?_;refine gq 50 hH ?_;refine gq 51 hH ?_;refine gq 52 hH ?_;refine gq 53 hH ?_;refine gq 54 hH ?_;refine gq 55 hH ?_;refine gq 56 hH ?_;refine gq 57 hH ?_;refine gq 58 hH ?_;refine fJ 59 hH ?_;refine fJ 60 hH ?_;refine wpAnyH_done (by kernel_rfl) ?_ _;have GJ:Hid (Below w1.heap.size w1 _):=zH hH.1;clear hH;go_wp2_with fail
 go_ret
 exact ⟨rfl,G1.o.trans (GJ.o.mono G1.o.size)⟩
theorem OM{w:World}{node seq:Int}{da ea:Option Addr}{dn dc en ec:Nat}(h1:0<=node)(h2:node<8)(h3:1<=seq)(h4:seq<=1073741824)
  (KD:∀ W,Below (w.alloc (.cells #[.int .i64 node,.int .i64 seq,.slice da dn dc,.slice ea en ec] 82)).heap.size (w.alloc (.cells #[.int .i64 node,.int .i64 seq,.slice da dn dc,.slice ea en ec] 82)) W ->Calls prog 156 #[.slice da dn dc] W (fO W true))
  (sy m:Int) (h6:IntKind.i64.wrap (seq-1)=m) (h6b:(sy==m)=false) (KA:∀ W,Below (w.alloc (.cells #[.int .i64 node,.int .i64 seq,.slice da dn dc,.slice ea en ec] 82)).heap.size (w.alloc (.cells #[.int .i64 node,.int .i64 seq,.slice da dn dc,.slice ea en ec] 82)) W ->Calls prog 131 #[.slice da dn dc,.int .i64 node] W fun e w'=>e= .returned (.int .i64 sy)/\Below W.heap.size W w') (g1:en<=9223372036854775807):
  Calls prog 82 #[.agg #[.int .i64 node,.int .i64 seq,.slice da dn dc,.slice ea en ec]] w (fO w false):=by
 have C1:=zH (JX w node seq da dn dc ea en ec);have Z1:Hid (w.heap.size<(w.alloc (.cells #[.int .i64 node,.int .i64 seq,.slice da dn dc,.slice ea en ec] 82)).heap.size):=zH (by simp);have G1:=zH (zB w (.cells #[.int .i64 node,.int .i64 seq,.slice da dn dc,.slice ea en ec] 82));replace KD:=zH KD;replace KA:=zH KA;go_enter func82,ntmps82
 go_upto_region 1 with fail
 generalize (w.alloc _)=w1 at*;have KE:=zH (JY C1.o Z1.o);refine wp_region_held_drew (S:=fun u'=>Below w1.heap.size w1 u'/\u'.cell? ⟨w.heap.size,0,none⟩=some (.int .i64 node)/\u'.cell? ⟨w.heap.size,1,none⟩=some (.int .i64 seq)/\u'.cell? ⟨w.heap.size,2,none⟩=some (.slice da dn dc)/\u'.cell? ⟨w.heap.size,3,none⟩=some (.slice ea en ec)) (by kernel_rfl) ?_ (fun hH=> ?_)
 ·(exact KE.o _ (aj _ _).drew)
 simp only [zS,aJ,Nat.reduceAdd]
 refine fJ 0 hH ?_;refine fJ 1 hH ?_;refine fJ 2 hH ?_;refine fJ 3 hH ?_;refine fJ 4 hH ?_;refine fJ 5 hH ?_;refine fJ 6 hH ?_;refine fJ 7 hH ?_;refine fJ 8 hH ?_;refine fJ 9 hH ?_;refine fJ 10 hH ?_;refine fJ 11 hH ?_;refine fJ 12 hH ?_;refine fJ 13 hH ?_;refine fJ 14 hH ?_;refine fJ 15 hH ?_;refine fJ 16 hH ?_;refine fJ 17 hH ?_;refine fJ 18 hH ?_;refine fJ 19 hH ?_;refine fJ 20 hH ?_;refine rd 21 fun K hK=> ?_
 go_simp
 refine (KD.o _ hH.1).mono ?_;rintro e s1 ⟨rfl,hb⟩;refine hK.out _ _ (KE.o _ (iM hH hb)) (fun hH=> ?_);clear hK K hb;refine fJ 22 hH ?_;refine fJ 23 hH ?_;refine fJ 24 hH ?_;refine fJ 25 hH ?_;refine fJ 26 hH ?_;refine fJ 27 hH ?_;refine fJ 29 hH ?_;refine fJ 30 hH ?_;refine fJ 31 hH ?_;refine rd 28 fun K hK=> ?_
 go_simp
 refine (KA.o _ hH.1).mono ?_;rintro e s2 ⟨rfl,hb⟩;refine hK.out _ _ (KE.o _ (iM hH hb)) (fun hH=> ?_);clear hK K hb;refine fJ 32 hH ?_;refine fJ 33 hH ?_;refine fJ 34 hH ?_;refine gq 35 hH ?_;refine gq 36 hH ?_;refine gq 37 hH ?_;refine gq 38 hH ?_;refine fJ 39 hH ?_;refine fJ 40 hH ?_;refine gq 41 hH ?_;refine gq 42 hH ?_;refine gq 43 hH ?_;refine gq 44 hH ?_;refine gq 45 hH ?_;refine gq 46 hH ?_;refine gq 47 hH ?_;refine fJ 48 hH ?_;refine fJ 49 hH ?_;refine gq 50 hH ?_;refine gq 51 hH ?_;refine gq 52 hH ?_;refine gq 53 hH ?_;refine gq 54 hH ?_;refine gq 55 hH ?_;refine gq 56 hH ?_;refine gq 57 hH ?_;refine gq 58 hH ?_;refine fJ 59 hH ?_;refine fJ 60 hH ?_;refine wpAnyH_done (by kernel_rfl) ?_ _;have GJ:Hid (Below w1.heap.size w1 _):=zH hH.1;clear hH;go_wp2_with fail
 go_ret
 exact ⟨rfl,G1.o.trans (GJ.o.mono G1.o.size)⟩
end Go.Proofs.YtfgcodcablpdcaaGreat