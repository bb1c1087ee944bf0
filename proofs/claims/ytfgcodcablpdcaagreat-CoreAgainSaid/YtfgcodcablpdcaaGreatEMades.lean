import Derived.Test.YtfgcodcablpdcaaGreatICompare
set_option linter.unusedVariables false
namespace Go.Proofs.YtfgcodcablpdcaaGreat
open Go.Proofs.Tryz
open Go.RowKit Plain
def Cn(x:gD)(dv:Value):List Value:=[.int .i64 x.pos,tv x.key,tv x.field,.int .i64 x.kind,tv x.elem,.int .i64 x.n,dv]
def UD:Value:= .agg #[.int .i64 0,.string ByteArray.empty,.string ByteArray.empty,.int .i64 0,.string ByteArray.empty,.int .i64 0,.slice none 0 0]
theorem infoEf:(prog.info? 85).map (fun i=>(i.zero,i.size,i.bytes))=some (some UD,7,96):=by kernel_rfl
theorem zsEf:UD.cells.size=7:=rfl
def Nq(P:Nat ->Prop)(w:World)(vs:List Value)(x:gD):Prop:=∃ dv,vs=Cn x dv/\Sq jI P w dv x.drops
theorem lenEf{P:Nat ->Prop}{w:World}{vs:List Value}{x:gD}(h:Nq P w vs x):vs.length=7:=by
 obtain ⟨dv,rfl,-⟩:=h
 rfl
theorem Sq.one{α:Type}{L:El α}{P:Nat ->Prop}{w:World}{v:Value}{xs:List α}(h:Sq L P w v xs):v.oneCell'=true:=by
 obtain ⟨a,cap,vals,rfl,-⟩:=h
 rfl
theorem oneEf{P:Nat ->Prop}{w:World}{vs:List Value}{x:gD}(h:Nq P w vs x):∀ u∈vs,u.oneCell'=true:=by
 obtain ⟨dv,rfl,hs⟩:=h;intro u hu;simp only [Cn,bL,dU,or_false] at hu
 rcases hu with rfl|rfl|rfl|rfl|rfl|rfl|rfl
 iterate 6 rfl
 exact hs.one
theorem Iw{P Q:Nat ->Prop}{w:World}{vs:List Value}{x:gD}(h:Nq P w vs x)(hq:∀ b,P b ->Q b):Nq Q w vs x:=by
 obtain ⟨dv,e,hs⟩:=h;exact ⟨dv,e,hs.mono hq⟩
theorem Nr{P:Nat ->Prop}{w w':World}{vs:List Value}{x:gD}(h:Nq P w vs x)(hq:∀ b,P b ->w'.heap[b]? =w.heap[b]?):Nq P w' vs x:=by
 obtain ⟨dv,e,hs⟩:=h;exact ⟨dv,e,hs.agree hq⟩
def jo:El gD where
 k:=7
 E:=85
 S:=80
 zero:=UD
 bytes:=96
 R:=Nq
 pos:=by decide
 small:=by decide
 len:=lenEf
 one:=oneEf
 mono:=Iw
 agree:=Nr
 und:=underlying80
 info:=infoEf
 tV:=zsEf
structure pF(w:World)(b o:Nat)(x:gD)(dv:Value):Prop where
 c0:w.cell? ⟨b,o,none⟩=some (.int .i64 x.pos)
 c1:w.cell? ⟨b,o+1,none⟩=some (.string (bt x.key))
 c2:w.cell? ⟨b,o+2,none⟩=some (.string (bt x.field))
 c3:w.cell? ⟨b,o+3,none⟩=some (.int .i64 x.kind)
 c4:w.cell? ⟨b,o+4,none⟩=some (.string (bt x.elem))
 c5:w.cell? ⟨b,o+5,none⟩=some (.int .i64 x.n)
 c6:w.cell? ⟨b,o+6,none⟩=some dv
theorem pF.below{N:Nat}{w w':World}{b o:Nat}{x:gD}{dv:Value}(h:pF w b o x dv)(hb:Below N w w')(hN:b<N):pF w' b o x dv:=
 ⟨(hb.cell (p:=⟨b,o,none⟩) hN).trans h.c0,(hb.cell (p:=⟨b,o+1,none⟩) hN).trans h.c1,(hb.cell (p:=⟨b,o+2,none⟩) hN).trans h.c2,(hb.cell (p:=⟨b,o+3,none⟩) hN).trans h.c3,
  (hb.cell (p:=⟨b,o+4,none⟩) hN).trans h.c4,(hb.cell (p:=⟨b,o+5,none⟩) hN).trans h.c5,(hb.cell (p:=⟨b,o+6,none⟩) hN).trans h.c6⟩
theorem pF.lt{w:World}{b o:Nat}{x:gD}{dv:Value}(h:pF w b o x dv):b<w.heap.size:=aG w ⟨b,o,none⟩ h.c0
theorem mZ{w:World}{v:Value}{xs:List gD}(h:fM jo w v xs)(hp:0<xs.length):∃ b o cap,v= .slice (some ⟨b,o,none⟩) xs.length cap/\xs.length<=cap/\cap<=9223372036854775807/\fM jo w (.slice (some ⟨b,o,none⟩) xs.length cap) xs/\
  ∀ j,j<xs.length ->∃ dv,pF w b (o+j*7) (xs.getD j default) dv/\fM jI w dv (xs.getD j default).drops:=by
 obtain ⟨b,o,cap,e,h1,h2,h3,hc⟩:=h.spot hp;refine ⟨b,o,cap,e,h1,h2,h3,fun j hj=> ?_⟩;obtain ⟨vs,hr,hv⟩:=hc j _ (getD_at hj);obtain ⟨dv,rfl,hs⟩:=hr;have g:=fun i u (hu:(Cn (xs.getD j default) dv)[i]? =some u)=>hv i u hu
 refine ⟨dv,⟨g 0 _ rfl,?_,?_,?_,?_,?_,?_⟩,hs⟩
 ·rw [bP];exact g 1 _ rfl
 ·rw [bP];exact g 2 _ rfl
 ·rw [bP];exact g 3 _ rfl
 ·rw [bP];exact g 4 _ rfl
 ·rw [bP];exact g 5 _ rfl
 ·rw [bP];exact g 6 _ rfl
def WJ(x:gD):Prop:=(Lit.int .i64 x.pos).wf=true/\(Lit.int .i64 x.kind).wf=true/\(Lit.int .i64 x.n).wf=true/\(∀ d∈x.drops,jf d)/\x.key.length<=9223372036854775807/\x.field.length<=9223372036854775807/\x.elem.length<=9223372036854775807
theorem Iy:prog.cellsOf 85=7:=by kernel_rfl
theorem kT{α:Type}[Inhabited α](L:El α)(ok:α ->Prop)(hk:prog.cellsOf L.E=L.k)
  {H:Type} {enc:TypeId×Value ->H} {W:World}
  (hel:∀ {n:Nat} {cs:List Value} {y:DataW H×List MemPlace},DataW.trod enc prog W 0 (fun _=>true) true n L.E cs=some y ->∃ x,L.R (· <W.heap.size) W cs x/\ok x)
  {fuel:Nat} {cs:List Value} {y:DataW H×List MemPlace} (hf:DataW.trod enc prog W 0 (fun _=>true) true fuel L.S cs=some y):∃ (v:Value) (xs:List α),cs=[v]/\fM L W v xs/\∀ x∈xs,ok x:=by
 rcases Go.Deep.open_slice L.und hf with ⟨hcs,-⟩|⟨a,len,cap,m,n,D,Pl,hcs,-,hl,hm,hmm,-,hi⟩
 ·exact ⟨_,[],hcs,fM.nil W,fun x hx=>absurd hx (by simp)⟩
 ·simp only [↓reduceIte] at hmm
  subst hmm;refine (?_:∃ (xs:List α),fM L W (.slice (some a) len m) xs/\∀ x∈xs,ok x).elim fun xs h=>⟨_,xs,hcs,h⟩
  have each:∀ j,j<len ->∃ vs x,L.R (· <W.heap.size) W vs x/\ok x/\∀ i u,vs[i]? =some u ->W.cell? (a.add (j*L.k+i))=some u:=by
   intro j hj;obtain ⟨cs,hc,ht⟩:=hi j (by omega);rw [hk] at hc;obtain ⟨-,hcl,hat⟩:=World.cells?_some hc;obtain ⟨x,hR,hx⟩:=hel ht;refine ⟨cs,x,hR,hx,fun i u hu=> ?_⟩;have hil:i<L.k:=by rw [<-L.len hR];exact (aP.1 hu).1
   have:=hat i hil;rw [Go.Deep.add_add] at this;rw [this,hu]
  by_cases hp:0<len
  ·have hspot:a.spot=none:=by
    obtain ⟨vs,x,hR,-,hc⟩:=each 0 hp;have hl0:0<vs.length:=by rw [L.len hR];exact L.pos
    have:=World.cell?_spot (hc 0 _ (au hl0))
    simpa [Addr.add] using this
   obtain ⟨b0,o,spot⟩:=a;simp only at hspot
   subst hspot;have hblt:b0<W.heap.size:=by
    obtain ⟨vs,x,hR,-,hc⟩:=each 0 hp;have hl0:0<vs.length:=by rw [L.len hR];exact L.pos
    have:=aG W _ (hc 0 _ (au hl0))
    simpa [Addr.add] using this
   have build:∀ m,m<=len ->∃ (vals:List Value) (xs:List α),xs.length=m/\Rows L (· <W.heap.size) W vals xs/\(∀ x∈xs,ok x)/\∀ i u,vals[i]? =some u ->W.cell? ⟨b0,o+i,none⟩=some u:=by
    intro m
    induction m with
    |zero=>intro _;exact ⟨[],[],rfl,Rows.nil _ _,fun x hx=>absurd hx (by simp),fun i u hu=>by simp at hu⟩
    |succ m ih=>
     intro hm2;obtain ⟨vals,xs,hl,hr,hok,hc⟩:=ih (by omega);obtain ⟨vs,x,hR,hx,hcx⟩:=each m (by omega);refine ⟨vals++vs,xs++[x],by rw [aA,hl];rfl,hr.append (Rows.Bc hR),fun y hy=> ?_,fun i u hu=> ?_⟩
     ·rcases bA.1 hy with hy|hy
      ·exact hok y hy
      ·rw [bE.1 hy];exact hx
     ·by_cases hlt:i<vals.length
      ·rw [dI hlt] at hu
       exact hc i u hu
      ·rw [fC (by omega)] at hu
       have:=hcx _ u hu;rw [Go.WideShapes.add_plain] at this;rw [hr.1,hl] at this hlt;rw [show o+i=o+(m*L.k+(i-m*L.k)) by omega];exact this
   obtain ⟨vals,xs,hlx,hr,hok,hc⟩:=build len (ah _);exact ⟨xs,⟨_,m,vals,by rw [hlx],by omega,hm,(by simp),hr,fun _=>⟨b0,o,rfl,hblt,hc⟩⟩,hok⟩
  ·obtain rfl:len=0:=by omega
   exact ⟨[],fM.empty W a m (by omega),fun x hx=>absurd hx (by simp)⟩
section
open Go.ChangeShapes Go.WideShapes Go.Joins
set_option maxRecDepth 100000
theorem Ns{H:Type}{enc:TypeId×Value ->H}{W:World}{n:Nat}{cs:List Value}{y:DataW H×List MemPlace}(ht:DataW.trod enc prog W 0 (fun _=>true) true n 85 cs=some y):∃ x,Nq (· <W.heap.size) W cs x/\WJ x:=by
 obtain ⟨ys,n',-,-,hl,hlen,hf⟩:=fu underlying85 ht;rw [Iy] at hl;have e1:prog.cellsOf 3=1:=by kernel_rfl
 have e2:prog.cellsOf 9=1:=by kernel_rfl
 have e3:prog.cellsOf 2=1:=by kernel_rfl
 have e4:prog.cellsOf 83=1:=by kernel_rfl
 match cs,hl with
 |[x0,x1,x2,x3,x4,x5,x6],_=>
  match ys,hlen with
  |[y0,y1,y2,y3,y4,y5,y6],_=>
   have h0:=hf 0 _ rfl;have h1:=hf 1 _ rfl;have h2:=hf 2 _ rfl;have h3:=hf 3 _ rfl;have h4:=hf 4 _ rfl;have h5:=hf 5 _ rfl;have h6:=hf 6 _ rfl;simp [e1,e2,e3,e4] at h0 h1 h2 h3 h4 h5 h6
   obtain ⟨a0,g0,-,w0⟩:=bX underlying3 h0;obtain ⟨s1,g1,-,l1⟩:=eu underlying9 h1;obtain ⟨s2,g2,-,l2⟩:=eu underlying9 h2;obtain ⟨a3,g3,-,w3⟩:=bX underlying3 h3;obtain ⟨s4,g4,-,l4⟩:=eu underlying9 h4;obtain ⟨a5,g5,-,w5⟩:=bX underlying2 h5;obtain ⟨dv,ds,g6,hs,hd⟩:=kT jI jf tX (fun ht=>EK ht) h6;simp at g0 g1 g2 g3 g4 g5 g6
   subst g0 g1 g2 g3 g4 g5 g6;exact ⟨⟨a0,tx s1,tx s2,a3,tx s4,a5,ds⟩,⟨_,rfl,hs⟩,w0,w3,w5,hd,Ld l1,Ld l2,Ld l4⟩
end
end Go.Proofs.YtfgcodcablpdcaaGreat
set_option maxRecDepth 100000
set_option maxHeartbeats 64000000
namespace Go.Proofs.YtfgcodcablpdcaaGreat
open Go.Proofs.Tryz
open Go.RowKit Plain
def qZ(x:gD):Bool:=decide (x.key.length<=300)&&(decide (x.field.length<=300)&&(decide (x.elem.length<=300)&&decide (x.drops.length<=70)))
def sF(xs:List gD):Bool:=decide (xs.length<=20)&&xs.all qZ
theorem nK{x:gD}:qZ x=true↔x.key.length<=300/\x.field.length<=300/\x.elem.length<=300/\x.drops.length<=70:=by
 unfold qZ;rw [aD,aD,aD,decide_eq_true_iff,decide_eq_true_iff,decide_eq_true_iff,decide_eq_true_iff]
theorem qH{xs:List gD}:sF xs=true↔xs.length<=20/\∀ x∈xs,qZ x=true:=by
 unfold sF;rw [aD,decide_eq_true_iff,aR]
theorem Yi{xs:List gD}{k:Nat}(hk:k<xs.length)(h:qZ (xs.getD k default)=false):sF xs=false:=by
 cases e:sF xs with
 |false=>rfl
 |true=>
  have:=(qH.1 e).2 _ (mem_def hk);rw [h] at this;exact absurd this (by decide)
theorem UF{xs:List gD}(hl:xs.length<=20)(h:∀ j,j<xs.length ->qZ (xs.getD j default)=true):sF xs=true:=qH.2 ⟨hl,fun x hx=>by
 obtain ⟨j,hj,rfl⟩:=bF hx;have:=h j hj
 rwa [show xs.getD j default=xs[j] by simp [List.getD,List.getElem?_eq_getElem hj]] at this⟩
theorem QB{xs:List gD}(hl:¬ xs.length<=20):sF xs=false:=by
 cases e:sF xs with
 |false=>rfl
 |true=>exact absurd (qH.1 e).1 hl
theorem QC{v:Value}{xs:List gD}{w:World}(hv:fM jo w v xs):
  Calls prog 118 #[v] w fun e w'=>e= .returned (.bool (sF xs))/\w=w':=by
 have HY:=zH (UF (xs:=xs));have HN:=zH (fun k hk h=>Yi (xs:=xs) (k:=k) hk h);have HL:=zH (QB (xs:=xs));obtain ⟨a,cap,rfl,g1,g2,g0,h⟩:=hv.parts;have HS:=zH h;clear hv h g0;generalize sF xs=r at*
 by_cases hl:xs.length<=20
 ·have hd:¬ (20:Int)<((xs.length:Nat):Int):=by omega
  go_enter func118,ntmps118
  go_wp2_with fail
  go_loop [3] (fun i=>∃ k:Nat,k<=xs.length/\i= .int .i64 k/\∀ j,j<k ->qZ (xs.getD j default)=true) (fun i=>xs.length-(intOf i).toNat)
  case atStart=>exact ⟨0,aL _,rfl,fun j hj=>absurd hj (by omega)⟩
  case round=>
   obtain ⟨k,hk,rfl,hall⟩:=hrel;have HA:=zH hall;clear hall
   by_cases hlt:k<xs.length
   ·obtain ⟨b,o,c,hv,-,-,-,hc⟩:=mZ HS.o (by omega)
    simp only [aC] at hv
    obtain ⟨rfl,-,rfl⟩:=hv;obtain ⟨dv,⟨c0,c1,c2,c3,c4,c5,c6⟩,hsd⟩:=hc k hlt;have HNK:=zH (HN.o k hlt);have HYK:Hid (qZ (xs.getD k default)=true ->∀ j,j<k+1 ->qZ (xs.getD j default)=true):=zH (fun h j hj=>by
     by_cases e:j=k
     ·rw [e];exact h
     ·exact HA.o j (by omega))
    have HB:=zH (nK (x:=xs.getD k default));clear hc;generalize xs.getD k default=x at*;obtain ⟨da,dc,rfl,-⟩:=hsd.parts;have z1:=nZ x.key;have z2:=nZ x.field;have z3:=nZ x.elem;clear hsd;generalize bt x.key=K at*;generalize bt x.field=F at*;generalize bt x.elem=El at*;generalize x.key.length=m1 at*;generalize x.field.length=m2 at*;generalize x.elem.length=m3 at*;generalize x.drops.length=m4 at*
    by_cases h1:m1<=300
    rotate_left
    ·have b1:(300:Int)<(m1:Int):=by omega
     obtain rfl:r=false:=HNK.o (by rw [bH];intro e;exact h1 (HB.o.1 e).1);clear h1;go_wp2_with fail
     go_ret
     exact ⟨rfl,rfl⟩
    have b1:¬ (300:Int)<(m1:Int):=by omega
    by_cases h2:m2<=300
    rotate_left
    ·have b2:(300:Int)<(m2:Int):=by omega
     obtain rfl:r=false:=HNK.o (by rw [bH];intro e;exact h2 (HB.o.1 e).2.1);clear h1 h2;go_wp2_with fail
     go_ret
     exact ⟨rfl,rfl⟩
    have b2:¬ (300:Int)<(m2:Int):=by omega
    by_cases h3:m3<=300
    rotate_left
    ·have b3:(300:Int)<(m3:Int):=by omega
     obtain rfl:r=false:=HNK.o (by rw [bH];intro e;exact h3 (HB.o.1 e).2.2.1);clear h1 h2 h3;go_wp2_with fail
     go_ret
     exact ⟨rfl,rfl⟩
    have b3:¬ (300:Int)<(m3:Int):=by omega
    by_cases h4:m4<=70
    rotate_left
    ·have b4:(70:Int)<(m4:Int):=by omega
     obtain rfl:r=false:=HNK.o (by rw [bH];intro e;exact h4 (HB.o.1 e).2.2.2);clear h1 h2 h3 h4;go_wp2_with fail
     go_ret
     exact ⟨rfl,rfl⟩
    have b4:¬ (70:Int)<(m4:Int):=by omega
    have HX:=zH (HYK.o (HB.o.2 ⟨h1,h2,h3,h4⟩));clear h1 h2 h3 h4;go_wp2_with fail
    go_round
    case rel=>exact ⟨k+1,by omega,by go_num,HX.o⟩
    case measure=>simp [intOf];omega
   ·obtain rfl:k=xs.length:=by omega
    obtain rfl:r=true:=HY.o hl HA.o;go_wp2_with fail
    go_ret
    exact ⟨rfl,rfl⟩
 ·obtain rfl:r=false:=HL.o hl
  have hd:(20:Int)<((xs.length:Nat):Int):=by omega
  go_enter func118,ntmps118
  go_wp2_with fail
  go_ret
  exact ⟨rfl,rfl⟩
end Go.Proofs.YtfgcodcablpdcaaGreat
set_option maxRecDepth 100000
set_option maxHeartbeats 64000000
namespace Go.Proofs.YtfgcodcablpdcaaGreat
open Go.Proofs.Tryz
open Go.RowKit Plain
theorem Lc(node seq:Int)(x:gD)(a:Option Addr)(n c:Nat)(w:World):
  Calls prog 277 #[.int .i64 node,.int .i64 seq,.agg #[.int .i64 x.pos,.string (bt x.key),.string (bt x.field),.int .i64 x.kind,.string (bt x.elem),.int .i64 x.n,.slice a n c]] w fun e w'=>e= .returned (.agg #[.string (bt x.key),.string (bt x.field),.int .i64 x.kind,.string (bt x.elem),.int .i64 x.n,.int .i64 node,.int .i64 seq,.int .i64 x.pos])/\Below w.heap.size w w':=by
 show Calls prog 277 _ w fun e w'=>e= .returned (.agg #[.string (bt x.key),.string (bt x.field),.int .i64 x.kind,.string (bt x.elem),.int .i64 x.n,.int .i64 node,.int .i64 seq,.int .i64 x.pos])/\Below w.heap.size w w'
 go_enter func277,ntmps277
 go_wp2_with fail
 refine bodyPost_ret (v:= .agg #[.string (bt x.key),.string (bt x.field),.int .i64 x.kind,.string (bt x.elem),.int .i64 x.n,.int .i64 node,.int .i64 seq,.int .i64 x.pos]) (by simp [results,results277,go_sem]) rfl ⟨rfl,?_⟩;exact (((aj _ _).alloc (ah _) _).alloc (by simp) _).alloc (by simp;omega) _
def EM(node seq:Int)(d:gB):Bool:=decide (d.node=node)&&decide (d.seq=seq)
theorem Le(node seq:Int)(d:gB)(w:World):
  Calls prog 225 #[.int .i64 node,.int .i64 seq,.agg #[.int .i64 d.node,.int .i64 d.seq,.int .i64 d.pos]] w (fO w (EM node seq d)):=by
 have G:=zH (zB w (.cells #[.int .i64 d.node,.int .i64 d.seq,.int .i64 d.pos] 77));unfold EM;generalize d.node=dn at*;generalize d.seq=ds at*
 by_cases h1:dn=node
 ·by_cases h2:ds=seq
  ·rw [aI h1,aI h2]
   have e1:(dn==node)=true:=by simp [h1]
   have e2:(ds==seq)=true:=by simp [h2]
   clear h1 h2;go_enter func225,ntmps225
   go_wp2_with fail
   go_ret
   exact ⟨rfl,G.o⟩
  ·rw [aI h1,aF h2]
   have e1:(dn==node)=true:=by simp [h1]
   have e2:(ds==seq)=false:=by simp [h2]
   clear h1 h2;go_enter func225,ntmps225
   go_wp2_with fail
   go_ret
   exact ⟨rfl,G.o⟩
 ·rw [aF h1]
  have e1:(dn==node)=false:=by simp [h1]
  clear h1;go_enter func225,ntmps225
  go_wp2_with fail
  go_ret
  exact ⟨rfl,G.o⟩
theorem dv_eq3(d:gB):dv d= .agg #[.int .i64 d.node,.int .i64 d.seq,.int .i64 d.pos]:=rfl
theorem UG{v:Value}{ds:List gB}{w:World}(hv:fM jI w v ds)(hn:ds.length<=1000000)(p:gB ->Bool)(g:Nat)(lb:Array Value)
  (eg:∀ args w,(callFunc g args).run prog w= .ok (.enter g args) w)
  (hp:∀ W d,Below w.heap.size w W ->Calls prog g (#[dv d]++lb) W (fO W (p d))):
  Calls prog 280 #[v,.func (.func g) #[] lb] w fun e w'=>∃ r:Int,e= .returned (.int .i64 r)/\decide (0<=r)=ds.any p/\Below w.heap.size w w':=by
 obtain ⟨a,cap,rfl,g1,g2,g0,h⟩:=hv.parts;have HS:=zH h;have HP:=zH hp;have HY:Hid (∀ k,k<ds.length ->p (ds.getD k default)=true ->ds.any p=true):=zH (fun k hk h=>by
  rw [cO];exact ⟨_,by rw [show ds.getD k default=ds[k] by simp [List.getD,List.getElem?_eq_getElem hk]];exact aU hk,h⟩)
 have HN:Hid ((∀ j,j<ds.length ->p (ds.getD j default)=false) ->ds.any p=false):=zH (fun h=>by
  rw [dF];intro d hd;obtain ⟨j,hj,rfl⟩:=bF hd;have:=h j hj;rw [show ds.getD j default=ds[j] by simp [List.getD,List.getElem?_eq_getElem hj]] at this;rw [this]
  decide)
 clear hp hv h g0;obtain ⟨n,hN⟩:∃ n,ds.length=n:=⟨_,rfl⟩;rw [hN] at hn g1 HS HY HN ⊢;have LN:=zH hN;clear hN;generalize ds.any p=r at*;go_enter func280,ntmps280
 go_wp2_with fail
 go_loopw [8] (fun i wr=>∃ k:Nat,k<=n/\i= .int .i64 k/\(∀ j,j<k ->p (ds.getD j default)=false)/\Below w.heap.size w wr) (fun i _=>n-(intOf i).toNat)
 case atStart=>exact ⟨0,aL _,rfl,fun j hj=>absurd hj (by omega),aj _ _⟩
 case round=>
  obtain ⟨k,hk,rfl,hall,hb⟩:=hrel;have HA:=zH hall;have HB:=zH hb;clear hall hb
  by_cases hlt:k<n
  ·obtain ⟨b,o,c,hv,-,-,-,hc⟩:=nY (HS.o.below HB.o) (by rw [LN.o];omega)
   rw [LN.o] at hv;simp only [aC] at hv
   obtain ⟨rfl,-,rfl⟩:=hv;obtain ⟨c0,c1,c2⟩:=hc k (by rw [LN.o];exact hlt);have HYK:=zH (HY.o k hlt);have JV:Hid (p (ds.getD k default)=false ->∀ j,j<k+1 ->p (ds.getD j default)=false):=zH (fun h j hj=>by
    by_cases e:j=k
    ·rw [e];exact h
    ·exact HA.o j (by omega))
   have K:=HP.o wr (ds.getD k default) HB.o;clear hc;rw [dv_eq3] at K;generalize ds.getD k default=d at*
   cases zO:p d with
   |true=>
    rw [zO] at K;obtain rfl:r=true:=HYK.o zO;clear zO;go_wp2_with (go_at_fn g;refine K.mono ?_;rintro e w1 ⟨rfl,hb⟩)
    have G:=zH (HB.o.trans (hb.mono HB.o.size));clear hb c0 c1 c2 K;go_wp2_with fail
    go_ret
    exact ⟨k,rfl,by simp,G.o⟩
   |false=>
    rw [zO] at K;have HX:=zH (JV.o zO);clear zO;go_wp2_with (go_at_fn g;refine K.mono ?_;rintro e w1 ⟨rfl,hb⟩)
    have G:=zH (HB.o.trans (hb.mono HB.o.size));clear hb c0 c1 c2 K;go_wp2_with fail
    go_roundw
    case rel=>exact ⟨k+1,by omega,by go_num,HX.o,G.o⟩
    case measure=>simp [intOf];omega
  ·obtain rfl:k=n:=by omega
   obtain rfl:r=false:=HN.o HA.o;go_wp2_with fail
   go_ret
   exact ⟨-1,rfl,by decide,HB.o⟩
theorem Az{v:Value}{ds:List gB}{w:World}(hv:fM jI w v ds)(hn:ds.length<=1000000)(p:gB ->Bool)(g:Nat)(lb:Array Value)
  (eg:∀ args w,(callFunc g args).run prog w= .ok (.enter g args) w)
  (hp:∀ W d,Below w.heap.size w W ->Calls prog g (#[dv d]++lb) W (fO W (p d))):
  Calls prog 226 #[v,.func (.func g) #[] lb] w (fO w (ds.any p)):=by
 have K:=UG hv hn p g lb eg hp;obtain ⟨a,cap,rfl,-⟩:=hv.parts;generalize ds.any p=r at*;generalize ds.length=n at*;clear hv hp;go_enter func226,ntmps226
 go_wp2_with fail
 refine K.mono ?_;rintro e w1 ⟨q,rfl,hq,hb⟩;have G:=zH hb;clear hb K;subst hq;go_wp2_with fail
 go_ret
 exact ⟨rfl,G.o⟩
theorem nO(w:World)(X Y Z:Array Value)(t u s:TypeId)(i:Nat):
  (((w.alloc (.cells X t)).alloc (.cells Y u)).alloc (.cells Z s)).cell? ⟨w.heap.size,i,none⟩=X[i]? /\
  (((w.alloc (.cells X t)).alloc (.cells Y u)).alloc (.cells Z s)).cell? ⟨w.heap.size+1,i,none⟩=Y[i]? /\
  (((w.alloc (.cells X t)).alloc (.cells Y u)).alloc (.cells Z s)).cell? ⟨w.heap.size+1+1,i,none⟩=Z[i]? :=by
 have s1:(w.alloc (.cells X t)).heap.size=w.heap.size+1:=by simp
 have s2:((w.alloc (.cells X t)).alloc (.cells Y u)).heap.size=w.heap.size+1+1:=by simp
 have h1:=bg w X t i;have h2:=bg (w.alloc (.cells X t)) Y u i;have h3:=bg ((w.alloc (.cells X t)).alloc (.cells Y u)) Z s i;rw [s1] at h2;rw [s2] at h3;have b2:=(aj (w.heap.size+1) (w.alloc (.cells X t))).alloc (by rw [s1];exact ah _) (.cells Y u);have b3:=(aj (w.heap.size+1+1) ((w.alloc (.cells X t)).alloc (.cells Y u))).alloc (by rw [s2];exact ah _) (.cells Z s);exact ⟨(b3.cell (p:=⟨w.heap.size,i,none⟩) (show w.heap.size<w.heap.size+1+1 by omega)).trans ((b2.cell (p:=⟨w.heap.size,i,none⟩) (show w.heap.size<w.heap.size+1 by omega)).trans h1),(b3.cell (p:=⟨w.heap.size+1,i,none⟩) (show w.heap.size+1<w.heap.size+1+1 by omega)).trans h2,h3⟩
theorem Nt:∀ args w,(callFunc 279 args).run prog w= .ok (.enter 279 args) w:=enters_of func279 (by kernel_rfl) rfl
theorem Yj(node seq pos:Int)(d:gB):lF node seq pos d=(EM node seq d&&decide (pos<=d.pos)):=by
 unfold lF EM;rw [Bool.and_assoc]
theorem QD(node seq pos:Int)(d:gB)(b1 b2 b3:Nat)(W:World)(h1:W.cell? ⟨b1,0,none⟩=some (.int .i64 node))(h2:W.cell? ⟨b2,0,none⟩=some (.int .i64 seq))(h3:W.cell? ⟨b3,0,none⟩=some (.int .i64 pos)):
  Calls prog 279 (#[dv d]++#[.pointer (some ⟨b1,0,none⟩),.pointer (some ⟨b2,0,none⟩),.pointer (some ⟨b3,0,none⟩)]) W (fO W (lF node seq pos d)):=by
 show Calls prog 279 #[.agg #[.int .i64 d.node,.int .i64 d.seq,.int .i64 d.pos],.pointer (some ⟨b1,0,none⟩),.pointer (some ⟨b2,0,none⟩),.pointer (some ⟨b3,0,none⟩)] W _
 have hb:=zB W (.cells #[.int .i64 d.node,.int .i64 d.seq,.int .i64 d.pos] 77);have hc:∀ {b:Nat} {u:Value},W.cell? ⟨b,0,none⟩=some u ->(W.alloc (.cells #[.int .i64 d.node,.int .i64 d.seq,.int .i64 d.pos] 77)).cell? ⟨b,0,none⟩=some u:=fun h=>(hb.cell (aG W _ h)).trans h
 have k1:=hc h1;have k2:=hc h2;have k3:=hc h3;have DB:Hid (pY (W.alloc (.cells #[.int .i64 d.node,.int .i64 d.seq,.int .i64 d.pos] 77)) W.heap.size 0 d):=zH ⟨by simp,by simp,by simp⟩;have G:=zH hb;have K:=zH (fun W=>Le node seq d W);have e1:=Yj node seq pos d;clear hc hb h1 h2 h3;rw [e1];clear e1;generalize EM node seq d=r1 at*;go_enter func279,ntmps279
 go_upto_region 1 with fail
 generalize (W.alloc _)=w1 at*;obtain ⟨c0,c1,c2⟩:=DB.o;simp only [aJ] at c1 c2
 go_wp2_with fail
 refine (K.o _).mono ?_;rintro e w2 ⟨rfl,hb⟩;have m3:=(hb.cell (aG w1 _ k3)).trans k3;have d2:=(hb.cell (aG w1 _ c2)).trans c2;have G2:=zH (G.o.trans (hb.mono G.o.size));clear hb c0 c1 c2 k1 k2 k3
 cases r1 with
 |false=>
  rw [bU];go_wp2_with fail
  go_ret
  exact ⟨rfl,G2.o⟩
 |true=>
  rw [aS];go_wp2_with fail
  go_ret
  exact ⟨rfl,G2.o⟩
theorem EJ(node seq:Int)(x:gD){a:Option Addr}{n c:Nat}{w:World}(hs:fM jI w (.slice a n c) x.drops)(hn:x.drops.length<=1000000):
  Calls prog 223 #[.int .i64 node,.int .i64 seq,.agg #[.int .i64 x.pos,.string (bt x.key),.string (bt x.field),.int .i64 x.kind,.string (bt x.elem),.int .i64 x.n,.slice a n c]] w (fO w (x.drops.any (lF node seq x.pos))):=by
 have B1:=((zB w (.cells #[.int .i64 node] 3)).alloc (by simp) (.cells #[.int .i64 seq] 3)).alloc (by simp;omega) (.cells #[.int .i64 x.pos,.string (bt x.key),.string (bt x.field),.int .i64 x.kind,.string (bt x.elem),.int .i64 x.n,.slice a n c] 85);have X:Hid (∀ W,Below w.heap.size w W ->W.cell? ⟨w.heap.size,0,none⟩=some (.int .i64 node) ->W.cell? ⟨w.heap.size+1,0,none⟩=some (.int .i64 seq) ->W.cell? ⟨w.heap.size+1+1,0,none⟩=some (.int .i64 x.pos) ->
   Calls prog 226 #[.slice a n c,.func (.func 279) #[] #[.pointer (some ⟨w.heap.size,0,none⟩),.pointer (some ⟨w.heap.size+1,0,none⟩),.pointer (some ⟨w.heap.size+1+1,0,none⟩)]] W (fO W (x.drops.any (lF node seq x.pos)))):=
  zH (fun W hb k1 k2 k3=>Az (hs.below hb) hn _ _ _ Nt (fun W' d hb'=>QD node seq x.pos d _ _ _ W' ((hb'.cell (aG W _ k1)).trans k1) ((hb'.cell (aG W _ k2)).trans k2) ((hb'.cell (aG W _ k3)).trans k3)))
 have G:=zH B1;have k1:((((w.alloc (.cells #[.int .i64 node] 3)).alloc (.cells #[.int .i64 seq] 3)).alloc (.cells #[.int .i64 x.pos,.string (bt x.key),.string (bt x.field),.int .i64 x.kind,.string (bt x.elem),.int .i64 x.n,.slice a n c] 85))).cell? ⟨w.heap.size,0,none⟩=some (.int .i64 node):=(nO w _ _ _ _ _ _ 0).1;have k2:((((w.alloc (.cells #[.int .i64 node] 3)).alloc (.cells #[.int .i64 seq] 3)).alloc (.cells #[.int .i64 x.pos,.string (bt x.key),.string (bt x.field),.int .i64 x.kind,.string (bt x.elem),.int .i64 x.n,.slice a n c] 85))).cell? ⟨w.heap.size+1,0,none⟩=some (.int .i64 seq):=(nO w _ _ _ _ _ _ 0).2.1;have k3:((((w.alloc (.cells #[.int .i64 node] 3)).alloc (.cells #[.int .i64 seq] 3)).alloc (.cells #[.int .i64 x.pos,.string (bt x.key),.string (bt x.field),.int .i64 x.kind,.string (bt x.elem),.int .i64 x.n,.slice a n c] 85))).cell? ⟨w.heap.size+1+1,0,none⟩=some (.int .i64 x.pos):=(nO w _ _ _ _ _ _ 0).2.2;have k4:((((w.alloc (.cells #[.int .i64 node] 3)).alloc (.cells #[.int .i64 seq] 3)).alloc (.cells #[.int .i64 x.pos,.string (bt x.key),.string (bt x.field),.int .i64 x.kind,.string (bt x.elem),.int .i64 x.n,.slice a n c] 85))).cell? ⟨w.heap.size+1+1,6,none⟩=some (.slice a n c):=(nO w _ _ _ _ _ _ 6).2.2;clear hs hn B1;generalize x.drops.any (lF node seq x.pos)=r at*;go_enter func223,ntmps223
 go_upto_region 1 with fail
 generalize (((w.alloc _).alloc _).alloc _)=w1 at*;have K:=X.o w1 G.o k1 k2 k3;go_wp2_with fail
 refine K.mono ?_;rintro e w2 ⟨rfl,hb⟩;have G2:=zH (G.o.trans (hb.mono G.o.size));clear hb K k1 k2 k3 k4;go_wp2_with fail
 go_ret
 exact ⟨rfl,G2.o⟩
end Go.Proofs.YtfgcodcablpdcaaGreat