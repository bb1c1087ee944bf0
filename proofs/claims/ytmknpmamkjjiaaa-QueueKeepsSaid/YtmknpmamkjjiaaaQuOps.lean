import Derived.Test.YtmknpmamkjjiaaaQuUse
set_option linter.unusedVariables false
namespace Go.Proofs.Ytmknpmamkjjiaaa
open Go.Proofs.Try
open Go.RowKit Plain
structure jF where
 hears:Bool
 n:Int
 t:bK
instance:Inhabited jF:=⟨⟨false,0,default⟩⟩
def kV(x:jF)(dv ev:Value):List Value:=[.bool x.hears,.int .i64 x.n,.int .i64 x.t.node,.int .i64 x.t.seq,dv,ev]
def nZ:Value:= .agg #[.bool false,.int .i64 0,.int .i64 0,.int .i64 0,.slice none 0 0,.slice none 0 0]
theorem xV:(prog.info? 36).map (fun i=>(i.zero,i.size,i.bytes))=some (some nZ,6,80):=by kernel_rfl
theorem zX:nZ.cells.size=6:=rfl
def qp(P:Nat ->Prop)(w:World)(vs:List Value)(x:jF):Prop:=∃ dv ev,vs=kV x dv ev/\Sq fD P w dv x.t.deps/\Sq d9 P w ev x.t.dh
theorem yZ{P:Nat ->Prop}{w:World}{vs:List Value}{x:jF}(h:qp P w vs x):vs.length=6:=by
 obtain ⟨dv,ev,rfl,-⟩:=h
 rfl
theorem y7{P:Nat ->Prop}{w:World}{vs:List Value}{x:jF}(h:qp P w vs x):∀ u∈vs,u.oneCell'=true:=by
 obtain ⟨dv,ev,rfl,hd,he⟩:=h;intro u hu;simp only [kV,List.mem_cons,bD,or_false] at hu
 rcases hu with rfl|rfl|rfl|rfl|rfl|rfl
 ·rfl
 ·rfl
 ·rfl
 ·rfl
 ·exact hd.one
 ·exact he.one
theorem xW{P Q:Nat ->Prop}{w:World}{vs:List Value}{x:jF}(h:qp P w vs x)(hq:∀ b,P b ->Q b):qp Q w vs x:=by
 obtain ⟨dv,ev,e,hd,he⟩:=h;exact ⟨dv,ev,e,hd.mono hq,he.mono hq⟩
theorem wm{P:Nat ->Prop}{w w':World}{vs:List Value}{x:jF}(h:qp P w vs x)(hq:∀ b,P b ->w'.heap[b]? =w.heap[b]?):qp P w' vs x:=by
 obtain ⟨dv,ev,e,hd,he⟩:=h;exact ⟨dv,ev,e,hd.agree hq,he.agree hq⟩
def y8:El jF where
 k:=6
 E:=36
 S:=22
 zero:=nZ
 bytes:=80
 R:=qp
 pos:=by decide
 small:=by decide
 len:=yZ
 one:=y7
 mono:=xW
 agree:=wm
 und:=underlying22
 info:=xV
 gZ:=zX
def tu(x:jF):Prop:=fU x.n/\jU x.t
theorem kW:prog.cellsOf 36=6:=by kernel_rfl
def sj(w:World)(v:Value):Prop:=∃ xs:List jF,bJ y8 w v xs/\∀ x∈xs,tu x
section
open Go.ChangeShapes Go.WideShapes Go.Joins
set_option maxRecDepth 100000
theorem og{H:Type}{enc:TypeId×Value ->H}{W:World}{n:Nat}{cs:List Value}{y:DataW H×List MemPlace}(ht:DataW.trod enc prog W 0 (fun _=>true) true n 36 cs=some y):∃ x,qp (· <W.heap.size) W cs x/\tu x:=by
 obtain ⟨ys,n',-,-,hl,hlen,hf⟩:=DataW.trod_struct underlying36 ht;rw [kW] at hl;have e1:prog.cellsOf 4=1:=by kernel_rfl
 match cs,hl with
 |[x0,x1,x2,x3,x4,x5],_=>
  match ys,hlen with
  |[y0,y1,y2],_=>
   have h0:=hf 0 _ rfl;have h1:=hf 1 _ rfl;have h2:=hf 2 _ rfl;simp [e1,gP,iW] at h0 h1 h2
   obtain ⟨o,g0,-⟩:=DataW.trod_bool underlying4 h0;obtain ⟨a1,g1,-,w1⟩:=aW underlying3 h1;obtain ⟨x,⟨dv,ev,g2,hd,he⟩,hx⟩:=jq h2;simp [gQ] at g0 g1 g2
   obtain ⟨rfl,rfl,rfl,rfl⟩:=g2;subst g0 g1;exact ⟨⟨o,a1,x⟩,⟨_,_,rfl,hd,he⟩,w1,hx⟩
theorem oh{H:Type}{enc:TypeId×Value ->H}{W:World}{r:Reach}{b:Nat}{v:Value}{d:DataW H}{p:List MemPlace}(hv:Value.okWide prog W r b 22 v)(h:DataW.Trod enc prog W 0 (fun _=>true) true 22 v d p):sj W v:=by
 obtain ⟨a0,n0,c0,rfl⟩:=okWide_slice underlying22 hv;obtain ⟨fuel,hf⟩:=h;obtain ⟨u,xs,e,hs,hx⟩:=dS y8 tu kW (fun ht=>og ht) hf;simp [Value.cells] at e
 rw [e];exact ⟨xs,hs,hx⟩
end
def om(xs:List jF)(k:Nat):jF:=xs.getD k default
theorem xX{w:World}{la:Option Addr}{n lc:Nat}{xs:List jF}(h:bJ y8 w (.slice la n lc) xs)(hp:0<n):∃ lb lo,la=some ⟨lb,lo,none⟩/\∀ k,k<n ->∃ da dn dc ea en ec,∀ u,Below w.heap.size w u ->
  (u.cell? ⟨lb,lo+k*6,none⟩=some (.bool (om xs k).hears)/\u.cell? ⟨lb,lo+k*6+1,none⟩=some (.int .i64 (om xs k).n)/\u.cell? ⟨lb,lo+k*6+2,none⟩=some (.int .i64 (om xs k).t.node)/\u.cell? ⟨lb,lo+k*6+3,none⟩=some (.int .i64 (om xs k).t.seq)/\u.cell? ⟨lb,lo+k*6+4,none⟩=some (.slice da dn dc)/\u.cell? ⟨lb,lo+k*6+5,none⟩=some (.slice ea en ec))/\dU u (.agg #[.int .i64 (om xs k).t.node,.int .i64 (om xs k).t.seq,.slice da dn dc,.slice ea en ec]) (om xs k).t:=by
 have hn:n=xs.length:=by
  obtain ⟨a,c,e,-⟩:=h.parts;simp only [aG] at e
  exact e.2.1
 subst hn;obtain ⟨b,o,c,e,-,-,-,hc⟩:=h.spot hp;simp only [aG] at e
 refine ⟨b,o,e.1,fun k hk=> ?_⟩;have hx:xs[k]? =some (om xs k):=by unfold om;simp [List.getD,ah hk]
 obtain ⟨vs,hr,hv⟩:=hc k _ hx;obtain ⟨dv,ev,rfl,hd,he⟩:=hr;obtain ⟨da,dc,rfl,-,-,-,-⟩:=bJ.parts (L:=fD) hd;obtain ⟨ea,ec,rfl,-,-,-,-⟩:=bJ.parts (L:=d9) he;refine ⟨da,(om xs k).t.deps.length,dc,ea,(om xs k).t.dh.length,ec,fun u hu=> ?_⟩;have f:∀ i v,(kV (om xs k) (.slice da (om xs k).t.deps.length dc) (.slice ea (om xs k).t.dh.length ec))[i]? =some v ->u.cell? ⟨b,o+k*6+i,none⟩=some v:=fun i v h=>by
  have h2:w.cell? ⟨b,o+(k*6+i),none⟩=some v:=hv i v h;rw [aL];exact (hu.cell (p:=⟨b,o+(k*6+i),none⟩) (ay w ⟨b,o+(k*6+i),none⟩ h2)).trans h2
 exact ⟨⟨f 0 _ rfl,f 1 _ rfl,f 2 _ rfl,f 3 _ rfl,f 4 _ rfl,f 5 _ rfl⟩,_,_,rfl,bJ.below (L:=fD) hd hu,bJ.below (L:=d9) he hu⟩
structure j3(w:World)(g:Nat)(mo:Int)(q:bM)(a:Option Addr)(n c:Nat)(u:World):Prop where
 v:iN g q a n c u
 low:Below w.heap.size w u
 gl:w.heap.size<=g
 ch:fu q.list
 most:q.most=mo
 le:(q.list.length:Int)<=mo
 fit:∀ t∈q.list,iy t
theorem j3.below{w:World}{g:Nat}{mo:Int}{q:bM}{a:Option Addr}{n c:Nat}{u u':World}(h:j3 w g mo q a n c u)(hb:Below u.heap.size u u'):j3 w g mo q a n c u':=
 ⟨h.v.below hb,h.low.trans (hb.mono h.low.size),h.gl,h.ch,h.most,h.le,h.fit⟩
theorem j3.gy{w:World}{g:Nat}{mo:Int}{q:bM}{a:Option Addr}{n c:Nat}{u:World}(h:j3 w g mo q a n c u):q.list.length=n/\n<=c/\c<=9223372036854775807:=
 bJ.gy (L:=dJ) (show bJ dJ u (.slice a n c) q.list from h.v.sq.mono fun b k=>k.1)
theorem iG{w:World}{g:Nat}{z0 z1 z2 z3 z4 z5:Value}{t:TypeId}(h:w.heap[g]? =some (.cells #[z0,z1,z2,z3,z4,z5] t (0,0))):
  w.cell? ⟨g,0,none⟩=some z0/\w.cell? ⟨g,1,none⟩=some z1/\w.cell? ⟨g,2,none⟩=some z2/\w.cell? ⟨g,3,none⟩=some z3/\w.cell? ⟨g,4,none⟩=some z4/\w.cell? ⟨g,5,none⟩=some z5:=by
 refine ⟨?_,?_,?_,?_,?_,?_⟩<;>simp [World.cell?,h]
theorem wu{w:World}{t:bK}{da ea:Option Addr}{dn dc en ec:Nat}(h:dU w (.agg #[.int .i64 t.node,.int .i64 t.seq,.slice da dn dc,.slice ea en ec]) t):bJ dJ (w.alloc (.cells #[.int .i64 t.node,.int .i64 t.seq,.slice da dn dc,.slice ea en ec] 34)) (.slice (some ⟨w.heap.size,0,none⟩) 1 1) [t]:=
 xY (bV.deps h.all) (bV.dh h.all)
theorem zY(nd:Nat)(s:Int)(hs:0<=s):cO ((List.replicate (nd+1) (0:Int)).set nd s) (nd:Int)=s:=by
 unfold cO says;rw [if_pos (by omega)];simp
 omega
theorem uK{q:bM}{t:bK}(h:fT q t=0):bN t=true/\eT q.list t=true/\¬ q.most<=(q.list.length:Int):=by
 unfold fT at h
 split at h
 ·cases h
 ·split at h
  ·cases h
  ·split at h
   ·cases h
   ·rename_i h1 h2 h3
    exact ⟨by simpa using h1,by simpa using h2,h3⟩
end Go.Proofs.Ytmknpmamkjjiaaa