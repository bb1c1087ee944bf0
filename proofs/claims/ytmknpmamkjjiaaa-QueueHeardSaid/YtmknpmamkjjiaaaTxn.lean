import Derived.Test.YtmknpmamkjjiaaaEff
import Derived.Test.YtmknpmamkjjiaaaTxMaths
import Derived.Test.YtmknpmamkjjiaaaVWords
set_option linter.unusedVariables false
namespace Go.Proofs.Ytmknpmamkjjiaaa
open Go.Proofs.Try
open Go.RowKit Plain
theorem yw:(prog.info? 3).map (fun i=>(i.zero,i.size,i.bytes))=some (some (.int .i64 0),1,8):=by kernel_rfl
theorem zl{vs:List Value}{x:Int}(h:vs=[.int .i64 x]):∀ u∈vs,u.oneCell'=true:=by
 subst h;intro u hu;rw [bf.1 hu]
 rfl
def fD:El Int where
 k:=1
 E:=3
 S:=31
 zero:= .int .i64 0
 bytes:=8
 R:=fun _ _ vs x=>vs=[.int .i64 x]
 pos:=by decide
 small:=by decide
 len:=fun h=>by rw [h];rfl
 one:=zl
 mono:=fun h _=>h
 agree:=fun h _=>h
 und:=underlying31
 info:=yw
 gZ:=rfl
theorem jA:Flat fD:=fun h=>h
theorem jw{w:World}{v:Value}{xs:List Int}(h:bJ fD w v xs):bX w v xs:=by
 obtain ⟨a,cap,rfl,h1,h2,h0,h3⟩:=h.parts;refine ⟨a,cap,rfl,h1,h2,h0,fun hp=> ?_⟩;obtain ⟨b,o,c,hv,-,-,-,hc⟩:=h.spot hp;simp only [aG] at hv
 obtain ⟨rfl,-,rfl⟩:=hv;refine ⟨b,o,rfl,fun j hj=> ?_⟩;have e:xs[j]? =some (xs.getD j 0):=by simp [List.getD,ah hj]
 obtain ⟨vs,hr,hx⟩:=hc j _ e;obtain rfl:vs=[.int .i64 (xs.getD j 0)]:=hr;have:=hx 0 _ rfl;rw [show o+(j*fD.k+0)=o+j by show o+(j*1+0)=o+j;omega] at this;exact this
theorem yg{w:World}{v:Value}{xs:List Int}(h:bX w v xs):bJ fD w v xs:=by
 obtain ⟨a,cap,rfl,h1,h2,h0,h3⟩:=h;refine ⟨a,cap,xs.map (.int .i64),rfl,h1,h2,h0,⟨by rw [List.length_map];show _=xs.length*1;omega,fun j x hj=> ?_⟩,fun hp=> ?_⟩
 ·show ((xs.map (Value.int .i64)).drop (j*1)).take 1=[.int .i64 x]
  obtain ⟨hl,rfl⟩:=aQ.1 hj;rw [Nat.mul_one,List.take_one];simp [ah hl]
 ·obtain ⟨b,off,rfl,g⟩:=h3 hp
  have hb:b<w.heap.size:=ay w ⟨b,off+0,none⟩ (g 0 hp);refine ⟨b,off,rfl,hb,fun i u hi=> ?_⟩;obtain ⟨hl,e⟩:=aQ.1 hi;rw [List.length_map] at hl;rw [g i hl];rw [List.getElem_map] at e;rw [<-e];simp [List.getD,ah hl]
def gQ(x:bK)(dv ev:Value):List Value:=[.int .i64 x.node,.int .i64 x.seq,dv,ev]
def sJ:Value:= .agg #[.int .i64 0,.int .i64 0,.slice none 0 0,.slice none 0 0]
theorem zm:(prog.info? 34).map (fun i=>(i.zero,i.size,i.bytes))=some (some sJ,4,64):=by kernel_rfl
theorem A9:sJ.cells.size=4:=rfl
def qM(P:Nat ->Prop)(w:World)(vs:List Value)(x:bK):Prop:=∃ dv ev,vs=gQ x dv ev/\Sq fD P w dv x.deps/\Sq d9 P w ev x.dh
theorem Af{P:Nat ->Prop}{w:World}{vs:List Value}{x:bK}(h:qM P w vs x):vs.length=4:=by
 obtain ⟨dv,ev,rfl,-⟩:=h
 rfl
theorem Ag{P:Nat ->Prop}{w:World}{vs:List Value}{x:bK}(h:qM P w vs x):∀ u∈vs,u.oneCell'=true:=by
 obtain ⟨dv,ev,rfl,hd,he⟩:=h;intro u hu;simp only [gQ,List.mem_cons,bD,or_false] at hu
 rcases hu with rfl|rfl|rfl|rfl
 ·rfl
 ·rfl
 ·exact hd.one
 ·exact he.one
theorem zo{P Q:Nat ->Prop}{w:World}{vs:List Value}{x:bK}(h:qM P w vs x)(hq:∀ b,P b ->Q b):qM Q w vs x:=by
 obtain ⟨dv,ev,e,hd,he⟩:=h;exact ⟨dv,ev,e,hd.mono hq,he.mono hq⟩
theorem yx{P:Nat ->Prop}{w w':World}{vs:List Value}{x:bK}(h:qM P w vs x)(hq:∀ b,P b ->w'.heap[b]? =w.heap[b]?):qM P w' vs x:=by
 obtain ⟨dv,ev,e,hd,he⟩:=h;exact ⟨dv,ev,e,hd.agree hq,he.agree hq⟩
def dJ:El bK where
 k:=4
 E:=34
 S:=24
 zero:=sJ
 bytes:=64
 R:=qM
 pos:=by decide
 small:=by decide
 len:=Af
 one:=Ag
 mono:=zo
 agree:=yx
 und:=underlying24
 info:=zm
 gZ:=A9
def dU(w:World)(v:Value)(t:bK):Prop:=∃ dv ev,v= .agg #[.int .i64 t.node,.int .i64 t.seq,dv,ev]/\bJ fD w dv t.deps/\bJ d9 w ev t.dh
theorem dU.below{w w':World}{v:Value}{t:bK}(h:dU w v t)(hb:Below w.heap.size w w'):dU w' v t:=by
 obtain ⟨dv,ev,rfl,h1,h2⟩:=h;exact ⟨dv,ev,rfl,h1.below hb,h2.below hb⟩
structure jl(w:World)(b o:Nat)(x:bK)(dv ev:Value):Prop where
 c0:w.cell? ⟨b,o,none⟩=some (.int .i64 x.node)
 c1:w.cell? ⟨b,o+1,none⟩=some (.int .i64 x.seq)
 c2:w.cell? ⟨b,o+2,none⟩=some dv
 c3:w.cell? ⟨b,o+3,none⟩=some ev
theorem jl.below{N:Nat}{w w':World}{b o:Nat}{x:bK}{dv ev:Value}(h:jl w b o x dv ev)(hb:Below N w w')(hN:b<N):jl w' b o x dv ev:=
 ⟨(hb.cell (p:=⟨b,o,none⟩) hN).trans h.c0,(hb.cell (p:=⟨b,o+1,none⟩) hN).trans h.c1,(hb.cell (p:=⟨b,o+2,none⟩) hN).trans h.c2,(hb.cell (p:=⟨b,o+3,none⟩) hN).trans h.c3⟩
theorem jl.lt{w:World}{b o:Nat}{x:bK}{dv ev:Value}(h:jl w b o x dv ev):b<w.heap.size:=ay w ⟨b,o,none⟩ h.c0
theorem mV{w:World}{v:Value}{xs:List bK}(h:bJ dJ w v xs)(hp:0<xs.length):∃ b o cap,v= .slice (some ⟨b,o,none⟩) xs.length cap/\xs.length<=cap/\cap<=9223372036854775807/\bJ dJ w (.slice (some ⟨b,o,none⟩) xs.length cap) xs/\
  ∀ j,j<xs.length ->∃ dv ev,jl w b (o+j*4) (xs.getD j default) dv ev/\bJ fD w dv (xs.getD j default).deps/\bJ d9 w ev (xs.getD j default).dh:=by
 obtain ⟨b,o,cap,e,h1,h2,h3,hc⟩:=h.spot hp;refine ⟨b,o,cap,e,h1,h2,h3,fun j hj=> ?_⟩;obtain ⟨vs,hr,hv⟩:=hc j _ (getD_at hj);obtain ⟨dv,ev,rfl,hd,he⟩:=hr;have g:=fun i u (hu:(gQ (xs.getD j default) dv ev)[i]? =some u)=>hv i u hu
 refine ⟨dv,ev,⟨g 0 _ rfl,?_,?_,?_⟩,hd,he⟩
 ·rw [aL];exact g 1 _ rfl
 ·rw [aL];exact g 2 _ rfl
 ·rw [aL];exact g 3 _ rfl
def fU(n:Int):Prop:=(Lit.int .i64 n).wf=true
def jU(t:bK):Prop:=fU t.node/\fU t.seq/\(∀ n∈t.deps,fU n)/\∀ e∈t.dh,vD e
theorem gP:prog.cellsOf 3=1:=by kernel_rfl
theorem iW:prog.cellsOf 34=4:=by kernel_rfl
section
open Go.ChangeShapes Go.WideShapes Go.Joins
set_option maxRecDepth 100000
theorem oV{H:Type}{enc:TypeId×Value ->H}{W:World}{n:Nat}{cs:List Value}{y:DataW H×List MemPlace}(ht:DataW.trod enc prog W 0 (fun _=>true) true n 3 cs=some y):∃ x,fD.R (· <W.heap.size) W cs x/\fU x:=by
 obtain ⟨a0,g0,-,w0⟩:=aW underlying3 ht;exact ⟨a0,g0,w0⟩
theorem jq{H:Type}{enc:TypeId×Value ->H}{W:World}{n:Nat}{cs:List Value}{y:DataW H×List MemPlace}(ht:DataW.trod enc prog W 0 (fun _=>true) true n 34 cs=some y):∃ x,qM (· <W.heap.size) W cs x/\jU x:=by
 obtain ⟨ys,n',-,-,hl,hlen,hf⟩:=DataW.trod_struct underlying34 ht;rw [iW] at hl;have e3:prog.cellsOf 31=1:=by kernel_rfl
 have e4:prog.cellsOf 32=1:=by kernel_rfl
 match cs,hl with
 |[x0,x1,x2,x3],_=>
  match ys,hlen with
  |[y0,y1,y2,y3],_=>
   have h0:=hf 0 _ rfl;have h1:=hf 1 _ rfl;have h2:=hf 2 _ rfl;have h3:=hf 3 _ rfl;simp [gP,e3,e4] at h0 h1 h2 h3
   obtain ⟨a0,g0,-,w0⟩:=aW underlying3 h0;obtain ⟨a1,g1,-,w1⟩:=aW underlying3 h1;obtain ⟨dv,ds,g2,hs,hd⟩:=dS fD fU gP (fun ht=>oV ht) h2;obtain ⟨ev,es,g3,hs3,hd3⟩:=dS d9 vD kD (fun ht=>nN ht) h3;simp at g0 g1 g2 g3
   subst g0 g1 g2 g3;exact ⟨⟨a0,a1,ds,es⟩,⟨_,_,rfl,hs,hs3⟩,w0,w1,hd,hd3⟩
end
end Go.Proofs.Ytmknpmamkjjiaaa