import Derived.Test.YtmknpmamkjjiaaaQuMath
import Derived.Test.YtmknpmamkjjiaaaOrChns
set_option linter.unusedVariables false
namespace Go.Proofs.Ytmknpmamkjjiaaa
open Go.Proofs.Try
open Go.RowKit Plain
def eH(Q:Nat ->Prop)(w:World)(v:Value)(q:bM):Prop:=∃ la n lc,v= .agg #[.int .i64 q.most,.slice la n lc]/\n=q.list.length/\Sq dJ Q w (.slice la n lc) q.list
def dw(w:World)(v:Value)(q:bM):Prop:=eH (· <w.heap.size) w v q
theorem eH.mono{P Q:Nat ->Prop}{w:World}{v:Value}{q:bM}(h:eH P w v q)(hq:∀ b,P b ->Q b):eH Q w v q:=by
 obtain ⟨la,n,lc,rfl,hn,h1⟩:=h;exact ⟨la,n,lc,rfl,hn,h1.mono hq⟩
theorem eH.agree{Q:Nat ->Prop}{w w':World}{v:Value}{q:bM}(h:eH Q w v q)(hq:∀ b,Q b ->w'.heap[b]? =w.heap[b]?):eH Q w' v q:=by
 obtain ⟨la,n,lc,rfl,hn,h1⟩:=h;exact ⟨la,n,lc,rfl,hn,h1.agree hq⟩
theorem eH.below{Q:Nat ->Prop}{w w':World}{v:Value}{q:bM}(h:eH Q w v q)(hb:Below w.heap.size w w')(hQ:∀ b,Q b ->b<w.heap.size):eH Q w' v q:=h.agree fun b hq=>hb.block b (hQ b hq)
theorem dw.below{w w':World}{v:Value}{q:bM}(h:dw w v q)(hb:Below w.heap.size w w'):dw w' v q:=(eH.below h hb fun b hq=>hq).mono fun b hq=>aK hq hb.size
theorem tF{Q:Nat ->Prop}{w:World}{m:Int}{lv:Value}{l:List bK}(h:Sq dJ Q w lv l):eH Q w (.agg #[.int .i64 m,lv]) ⟨m,l⟩:=by
 obtain ⟨a,cap,vals,rfl,r⟩:=h;exact ⟨a,l.length,cap,rfl,rfl,a,cap,vals,rfl,r⟩
theorem zZ{α:Type}{L:El α}(Q:Nat ->Prop)(w:World):Sq L Q w (.slice none 0 0) []:=⟨none,0,[],rfl,aJ _,aJ _,fun _=>rfl,Rows.nil _ _,fun h=>absurd h (by simp)⟩
theorem eH.nil{Q:Nat ->Prop}(w:World)(m:Int):eH Q w (.agg #[.int .i64 m,.slice none 0 0]) ⟨m,[]⟩:=tF (zZ _ _)
theorem oz:prog.cellsOf 26=2:=by kernel_rfl
def kZ(w:World)(v:Value):Prop:=∃ q,dw w v q/\∀ t∈q.list,jU t
section
open Go.ChangeShapes Go.WideShapes Go.Joins
set_option maxRecDepth 100000
theorem lZ{H:Type}{enc:TypeId×Value ->H}{W:World}{r:Reach}{b:Nat}{v:Value}{d:DataW H}{p:List MemPlace}(hv:Value.okWide prog W r b 26 v)(h:DataW.Trod enc prog W 0 (fun _=>true) true 26 v d p):kZ W v:=by
 obtain ⟨cs,rfl,-⟩:=okWide_struct underlying26 hv;obtain ⟨fuel,hf⟩:=h;simp only [Value.cells] at hf
 obtain ⟨ys,n',-,-,hl,hlen,hf⟩:=DataW.trod_struct underlying26 hf;rw [oz] at hl;have e4:prog.cellsOf 24=1:=by kernel_rfl
 obtain ⟨cs⟩:=cs
 match cs,hl with
 |[x0,x1],_=>
  match ys,hlen with
  |[y0,y1],_=>
   have h0:=hf 0 _ rfl;have h1:=hf 1 _ rfl;simp [gP,e4] at h0 h1
   obtain ⟨a0,g0,-,w0⟩:=aW underlying3 h0;obtain ⟨iv,is,g3,hs3,hd3⟩:=dS dJ jU iW (fun ht=>jq ht) h1;simp at g0 g3
   subst g0 g3;exact ⟨⟨a0,is⟩,tF hs3,hd3⟩
end
structure dA(g:Nat)(m:Int)(la:Option Addr)(ln lc:Nat)(u:World):Prop where
 b:u.heap[g]? =some (.cells #[.int .i64 m,.slice la ln lc] 26 (0,0))
section
variable {g:Nat} {m:Int} {la:Option Addr} {ln lc:Nat} {u u':World}
theorem dA.lt(k:dA g m la ln lc u):g<u.heap.size:=(au.1 k.b).1
theorem dA.c(k:dA g m la ln lc u):(u.cell? ⟨g,0,none⟩=some (.int .i64 m)/\u.cell? ⟨g,1,none⟩=some (.slice la ln lc))/\u.frozen? ⟨g,0,none⟩=false/\u.frozen? ⟨g,1,none⟩=false:=by
 have h:=k.b;refine ⟨⟨?_,?_⟩,?_,?_⟩
 ·simp [World.cell?,h]
 ·simp [World.cell?,h]
 ·unfold World.frozen?;rw [h];simp
 ·unfold World.frozen?;rw [h];simp
theorem dA.eq(k:dA g m la ln lc u)(h:u'.heap[g]? =u.heap[g]?):dA g m la ln lc u':=⟨h.trans k.b⟩
theorem dA.below(k:dA g m la ln lc u)(hb:Below u.heap.size u u'):dA g m la ln lc u':=k.eq (hb.block g k.lt)
theorem dD(w:World)(m:Int)(la:Option Addr)(ln lc:Nat):dA w.heap.size m la ln lc (w.alloc (.cells #[.int .i64 m,.slice la ln lc] 26)):=⟨aR w _⟩
theorem dA.put(k:dA g m la ln lc u)(m':Int)(a:Option Addr)(n c:Nat):dA g m' a n c ((u.setCell ⟨g,0,none⟩ (.int .i64 m')).setCell ⟨g,1,none⟩ (.slice a n c)):=
 ⟨by rw [aU _ g 1 _ _ _ (aU _ g 0 _ _ _ k.b)];rfl⟩
theorem dA.uD(k:dA g m la ln lc u)(a:Option Addr)(n c:Nat):dA g m a n c (u.setCell ⟨g,1,none⟩ (.slice a n c)):=
 ⟨by rw [aU _ g 1 _ _ _ k.b];rfl⟩
end
theorem gD{J N:Nat ->Prop}{W:World}{x:bK}{dv ev ov:Value}(hd:Sq fD N W dv x.deps)(he:Sq d9 N W ev x.dh)(hN:∀ b,N b ->b<W.heap.size)(hJ:∀ b,N b ->J b)(hJ2:J W.heap.size)(hov:∀ k,ov.ownBlock=some k ->¬ N k/\k<W.heap.size):
  Sq dJ (fun b=>J b/\b<(W.alloc (.cells #[.int .i64 x.node,.int .i64 x.seq,dv,ev] 34)).heap.size/\ov.ownBlock≠some b) (W.alloc (.cells #[.int .i64 x.node,.int .i64 x.seq,dv,ev] 34)) (.slice (some ⟨W.heap.size,0,none⟩) 1 1) [x]:=by
 have hS:(W.alloc (.cells #[.int .i64 x.node,.int .i64 x.seq,dv,ev] 34)).heap.size=W.heap.size+1:=by simp
 rw [hS];have hB:Below W.heap.size W (W.alloc (.cells #[.int .i64 x.node,.int .i64 x.seq,dv,ev] 34)):=(ak _ _).alloc (aj _) _;have hw:∀ b,N b ->J b/\b<W.heap.size+1/\ov.ownBlock≠some b:=fun b hb=>⟨hJ b hb,by have:=hN b hb;omega,fun e=>(hov b e).1 hb⟩
 refine ⟨_,1,gQ x dv ev,rfl,aj _,by unfold maxLen;simp,(by simp),Rows.nG ⟨_,_,rfl,(hd.agree fun b hb=>hB.block b (hN b hb)).mono hw,(he.agree fun b hb=>hB.block b (hN b hb)).mono hw⟩,fun _=>⟨_,0,rfl,⟨hJ2,by omega,fun e=>by have:=(hov _ e).2;omega⟩,fun i u' hu=> ?_⟩⟩;rw [aC];have:=aM W #[.int .i64 x.node,.int .i64 x.seq,dv,ev] 34 i;rw [this,<-bC];exact hu
theorem jm{N:Nat ->Prop}{w:World}{la:Option Addr}{n lc:Nat}{l:List bK}(hN:∀ b,N b ->b<w.heap.size)(h:Sq dJ N w (.slice la n lc) l)(hp:0<n):∃ lb lo,la=some ⟨lb,lo,none⟩/\lb<w.heap.size/\∀ k,k<n ->∃ da dn dc ea en ec,(∀ W,Below w.heap.size w W ->
  (W.cell? ⟨lb,lo+k*4,none⟩=some (.int .i64 (dW l k).node)/\W.cell? ⟨lb,lo+k*4+1,none⟩=some (.int .i64 (dW l k).seq)/\W.cell? ⟨lb,lo+k*4+2,none⟩=some (.slice da dn dc)/\W.cell? ⟨lb,lo+k*4+3,none⟩=some (.slice ea en ec))/\
   bV N W (.agg #[.int .i64 (dW l k).node,.int .i64 (dW l k).seq,.slice da dn dc,.slice ea en ec]) (dW l k)):=by
 obtain ⟨a,cap,vals,e,h1,h2,h0,hr,h3⟩:=h;simp only [aG] at e
 obtain ⟨rfl,rfl,rfl⟩:=e;obtain ⟨b,off,rfl,hb,hc⟩:=h3 hp;refine ⟨b,off,rfl,hN b hb,fun k hk=> ?_⟩;obtain ⟨dv,ev,ev1,hd,he⟩:=hr.2 k (dW l k) (by unfold dW;simp [List.getD,ah hk]);obtain ⟨a1,c1,v1,rfl,r1⟩:=hd;obtain ⟨a2,c2,v2,rfl,r2⟩:=he;have g:∀ i u,(gQ (dW l k) (.slice a1 _ c1) (.slice a2 _ c2))[i]? =some u ->w.cell? ⟨b,off+k*4+i,none⟩=some u:=fun i u hi=>by
  rw [<-ev1] at hi;have:=hc (k*4+i) u (by
   have h4:(pt 4 vals k)[i]? =some u:=hi;have hi4:i<4:=by
    have:=(aQ.1 hi).1;rw [ev1] at this;exact this
   rw [iO vals k i (by omega)] at h4;exact h4)
  rw [aL];exact this
 refine ⟨a1,_,c1,a2,_,c2,fun W hW=>⟨⟨?_,?_,?_,?_⟩,_,_,rfl,Sq.agree ⟨a1,c1,v1,rfl,r1⟩ fun x hx=>hW.block x (hN x hx),Sq.agree ⟨a2,c2,v2,rfl,r2⟩ fun x hx=>hW.block x (hN x hx)⟩⟩
 ·exact (hW.cell (p:=⟨b,off+k*4,none⟩) (hN b hb)).trans (g 0 _ rfl)
 ·exact (hW.cell (p:=⟨b,off+k*4+1,none⟩) (hN b hb)).trans (g 1 _ rfl)
 ·exact (hW.cell (p:=⟨b,off+k*4+2,none⟩) (hN b hb)).trans (g 2 _ rfl)
 ·exact (hW.cell (p:=⟨b,off+k*4+3,none⟩) (hN b hb)).trans (g 3 _ rfl)
end Go.Proofs.Ytmknpmamkjjiaaa