import Derived.Test.YtmknpmamkjjiaaaTWords
import Derived.Lib.SmallJoins
set_option linter.unusedVariables false
namespace Go.Proofs.Ytmknpmamkjjiaaa
open Go.Proofs.Try
open Go.RowKit Plain
def gN(d:bW):List Value:=[.int .i64 d.node,.int .i64 d.seq,.int .i64 d.pos]
def dv(d:bW):Value:= .agg #[.int .i64 d.node,.int .i64 d.seq,.int .i64 d.pos]
def fA(x:bI):List Value:=[tv x.key,tv x.field,.int .i64 x.kind,tv x.elem,.int .i64 x.n,.int .i64 x.dot.node,.int .i64 x.dot.seq,.int .i64 x.dot.pos]
def zy(x:bI):Value:= .agg #[tv x.key,tv x.field,.int .i64 x.kind,tv x.elem,.int .i64 x.n,.int .i64 x.dot.node,.int .i64 x.dot.seq,.int .i64 x.dot.pos]
def rR:Value:= .agg #[.int .i64 0,.int .i64 0,.int .i64 0]
def rT:Value:= .agg #[.string ByteArray.empty,.string ByteArray.empty,.int .i64 0,.string ByteArray.empty,.int .i64 0,.int .i64 0,.int .i64 0,.int .i64 0]
theorem yU:(prog.info? 47).map (fun i=>(i.zero,i.size,i.bytes))=some (some rR,3,24):=by kernel_rfl
theorem yV:(prog.info? 77).map (fun i=>(i.zero,i.size,i.bytes))=some (some rT,8,88):=by kernel_rfl
theorem zP{vs:List Value}{d:bW}(h:vs=gN d):∀ u∈vs,u.oneCell'=true:=by
 subst h;intro u hu;simp only [gN,List.mem_cons,bD,or_false] at hu
 rcases hu with rfl|rfl|rfl<;>rfl
theorem zQ{vs:List Value}{x:bI}(h:vs=fA x):∀ u∈vs,u.oneCell'=true:=by
 subst h;intro u hu;simp only [fA,List.mem_cons,bD,or_false] at hu
 rcases hu with rfl|rfl|rfl|rfl|rfl|rfl|rfl|rfl<;>rfl
theorem zR{vs:List Value}{d:bW}(h:vs=gN d):vs.length=3:=by subst h;rfl
theorem zT{vs:List Value}{x:bI}(h:vs=fA x):vs.length=8:=by subst h;rfl
theorem AA:rR.cells.size=3:=rfl
theorem AB:rT.cells.size=8:=rfl
def eP:El bW where
 k:=3
 E:=47
 S:=56
 zero:=rR
 bytes:=24
 R:=fun _ _ vs d=>vs=gN d
 pos:=by decide
 small:=by decide
 len:=zR
 one:=zP
 mono:=fun h _=>h
 agree:=fun h _=>h
 und:=underlying56
 info:=yU
 gZ:=AA
def dQ:El bI where
 k:=8
 E:=77
 S:=75
 zero:=rT
 bytes:=88
 R:=fun _ _ vs x=>vs=fA x
 pos:=by decide
 small:=by decide
 len:=zT
 one:=zQ
 mono:=fun h _=>h
 agree:=fun h _=>h
 und:=underlying75
 info:=yV
 gZ:=AB
theorem vB:Flat eP:=fun h=>h
theorem mK:Flat dQ:=fun h=>h
structure dK(w:World)(b o:Nat)(x:bI):Prop where
 c0:w.cell? ⟨b,o,none⟩=some (.string (bt x.key))
 c1:w.cell? ⟨b,o+1,none⟩=some (.string (bt x.field))
 c2:w.cell? ⟨b,o+2,none⟩=some (.int .i64 x.kind)
 c3:w.cell? ⟨b,o+3,none⟩=some (.string (bt x.elem))
 c4:w.cell? ⟨b,o+4,none⟩=some (.int .i64 x.n)
 c5:w.cell? ⟨b,o+5,none⟩=some (.int .i64 x.dot.node)
 c6:w.cell? ⟨b,o+6,none⟩=some (.int .i64 x.dot.seq)
 c7:w.cell? ⟨b,o+7,none⟩=some (.int .i64 x.dot.pos)
structure gq(w:World)(b o:Nat)(d:bW):Prop where
 c0:w.cell? ⟨b,o,none⟩=some (.int .i64 d.node)
 c1:w.cell? ⟨b,o+1,none⟩=some (.int .i64 d.seq)
 c2:w.cell? ⟨b,o+2,none⟩=some (.int .i64 d.pos)
theorem dK.below{N:Nat}{w w':World}{b o:Nat}{x:bI}(h:dK w b o x)(hb:Below N w w')(hN:b<N):dK w' b o x:=
 ⟨(hb.cell (p:=⟨b,o,none⟩) hN).trans h.c0,(hb.cell (p:=⟨b,o+1,none⟩) hN).trans h.c1,(hb.cell (p:=⟨b,o+2,none⟩) hN).trans h.c2,(hb.cell (p:=⟨b,o+3,none⟩) hN).trans h.c3,
  (hb.cell (p:=⟨b,o+4,none⟩) hN).trans h.c4,(hb.cell (p:=⟨b,o+5,none⟩) hN).trans h.c5,(hb.cell (p:=⟨b,o+6,none⟩) hN).trans h.c6,(hb.cell (p:=⟨b,o+7,none⟩) hN).trans h.c7⟩
theorem dK.lt{w:World}{b o:Nat}{x:bI}(h:dK w b o x):b<w.heap.size:=ay w ⟨b,o,none⟩ h.c0
theorem gq.below{N:Nat}{w w':World}{b o:Nat}{x:bW}(h:gq w b o x)(hb:Below N w w')(hN:b<N):gq w' b o x:=
 ⟨(hb.cell (p:=⟨b,o,none⟩) hN).trans h.c0,(hb.cell (p:=⟨b,o+1,none⟩) hN).trans h.c1,(hb.cell (p:=⟨b,o+2,none⟩) hN).trans h.c2⟩
theorem gq.lt{w:World}{b o:Nat}{x:bW}(h:gq w b o x):b<w.heap.size:=ay w ⟨b,o,none⟩ h.c0
theorem getD_at{α:Type}[Inhabited α]{xs:List α}{j:Nat}(hj:j<xs.length):xs[j]? =some (xs.getD j default):=by
 simp [List.getD,ah hj]
theorem iQ{w:World}{v:Value}{xs:List bI}(h:bJ dQ w v xs)(hp:0<xs.length):∃ b o cap,v= .slice (some ⟨b,o,none⟩) xs.length cap/\xs.length<=cap/\cap<=9223372036854775807/\bJ dQ w (.slice (some ⟨b,o,none⟩) xs.length cap) xs/\∀ j,j<xs.length ->dK w b (o+j*8) (xs.getD j default):=by
 obtain ⟨b,o,cap,e,h1,h2,h3,hc⟩:=h.spot hp;refine ⟨b,o,cap,e,h1,h2,h3,fun j hj=> ?_⟩;obtain ⟨vs,hr,hv⟩:=hc j _ (getD_at hj);obtain rfl:vs=fA (xs.getD j default):=hr;have g:=fun i u (hu:(fA (xs.getD j default))[i]? =some u)=>hv i u hu
 refine ⟨g 0 _ rfl,?_,?_,?_,?_,?_,?_,?_⟩
 ·rw [aL];exact g 1 _ rfl
 ·rw [aL];exact g 2 _ rfl
 ·rw [aL];exact g 3 _ rfl
 ·rw [aL];exact g 4 _ rfl
 ·rw [aL];exact g 5 _ rfl
 ·rw [aL];exact g 6 _ rfl
 ·rw [aL];exact g 7 _ rfl
theorem iE{w:World}{v:Value}{xs:List bW}(h:bJ eP w v xs)(hp:0<xs.length):∃ b o cap,v= .slice (some ⟨b,o,none⟩) xs.length cap/\xs.length<=cap/\cap<=9223372036854775807/\bJ eP w (.slice (some ⟨b,o,none⟩) xs.length cap) xs/\∀ j,j<xs.length ->gq w b (o+j*3) (xs.getD j default):=by
 obtain ⟨b,o,cap,e,h1,h2,h3,hc⟩:=h.spot hp;refine ⟨b,o,cap,e,h1,h2,h3,fun j hj=> ?_⟩;obtain ⟨vs,hr,hv⟩:=hc j _ (getD_at hj);obtain rfl:vs=gN (xs.getD j default):=hr;have g:=fun i u (hu:(gN (xs.getD j default))[i]? =some u)=>hv i u hu
 refine ⟨g 0 _ rfl,?_,?_⟩
 ·rw [aL];exact g 1 _ rfl
 ·rw [aL];exact g 2 _ rfl
theorem vN(w:World)(x:bI):bJ dQ (w.alloc (.cells #[.string (bt x.key),.string (bt x.field),.int .i64 x.kind,.string (bt x.elem),.int .i64 x.n,.int .i64 x.dot.node,.int .i64 x.dot.seq,.int .i64 x.dot.pos] 77)) (.slice (some ⟨w.heap.size,0,none⟩) 1 1) [x]:=by
 have h:=bJ.one (L:=dQ) (w:=w) (vs:=fA x) (x:=x) rfl (fA x).toArray (by simp);exact h
theorem vE{s:ByteArray}(h:s.size<=maxLen):(tx s).length<=9223372036854775807:=by
 have e:(tx s).length=s.size:=by unfold tx ByteArray.size;exact Array.length_toList
 rw [e];exact h
def sP(d:bW):Prop:=(Lit.int .i64 d.node).wf=true/\(Lit.int .i64 d.seq).wf=true/\(Lit.int .i64 d.pos).wf=true
theorem kE:prog.cellsOf 47=3:=by kernel_rfl
section
open Go.ChangeShapes Go.WideShapes Go.Joins
set_option maxRecDepth 100000
theorem pI{H:Type}{enc:TypeId×Value ->H}{W:World}{n:Nat}{cs:List Value}{y:DataW H×List MemPlace}(ht:DataW.trod enc prog W 0 (fun _=>true) true n 47 cs=some y):∃ d,cs=gN d/\sP d:=by
 obtain ⟨y0,y1,y2,n',-,hl,h0,h1,h2⟩:=Go.Deep.trod_struct3 underlying47 ht;rw [kE] at hl;have e1:prog.cellsOf 3=1:=by kernel_rfl
 match cs,hl with
 |[x0,x1,x2],_=>
  simp [e1] at h0 h1 h2
  obtain ⟨a,g0,-,w0⟩:=aW underlying3 h0;obtain ⟨b,g1,-,w1⟩:=aW underlying3 h1;obtain ⟨c,g2,-,w2⟩:=aW underlying3 h2;simp at g0 g1 g2
  subst g0 g1 g2;exact ⟨⟨a,b,c⟩,rfl,w0,w1,w2⟩
end
end Go.Proofs.Ytmknpmamkjjiaaa