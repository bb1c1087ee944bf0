import Derived.Test.YtmknpmamkjjiaaaTxn
import Derived.Test.YtmknpmamkjjiaaaRefE
import Derived.Test.YtmknpmamkjjiaaaRefEs
import Derived.Test.YtmknpmamkjjiaaaVcAll
import Derived.Lib.AppendZeros
import Derived.WalkSpells
set_option linter.unusedVariables false
set_option maxRecDepth 100000
set_option maxHeartbeats 64000000
namespace Go.Proofs.Ytmknpmamkjjiaaa
open Go.Proofs.Try
open Go.RowKit Plain
def dZ(t:bK):Bool:=decide (t.deps.length<=60)&&fE t.dh
def gu(l:List bK):Bool:=decide (l.length<=24)&&l.all dZ
theorem mg{α:Type}[Inhabited α]{p:α ->Bool}{l:List α}(h:∀ j,j<l.length ->p (l.getD j default)=true):l.all p=true:=by
 rw [aZ];intro x hx;obtain ⟨j,hj,rfl⟩:=aX hx;have:=h j hj
 simpa [List.getD,ah hj] using this
theorem lC{α:Type}[Inhabited α]{p:α ->Bool}{l:List α}{j:Nat}(hj:j<l.length)(h:p (l.getD j default)=false):l.all p=false:=by
 rw [List.all_eq_false];refine ⟨l[j],aS hj,?_⟩;have e:l.getD j default=l[j]:=by simp [List.getD,ah hj]
 rw [e] at h;rw [h]
 decide
theorem jy{v:Value}{l:List bK}{w:World}(hv:bJ dJ w v l)(r:Bool)(hr:gu l=r):Calls prog 7 #[v] w (bH w r):=by
 have HF:=zH (fun j (hj:j<l.length) h=>lC (p:=dZ) hj h);have HT:=zH (fun h=>mg (p:=dZ) (l:=l) h);have RR:Hid ((decide (l.length<=24)&&l.all dZ)=r):=zH hr;obtain ⟨a,cap,rfl,g1,g2,g0,h⟩:=hv.parts;have HS:=zH h;obtain ⟨n,hN⟩:∃ n,l.length=n:=⟨_,rfl⟩;rw [hN] at HS g1 HF HT RR ⊢;have LN:=zH hN;clear hv h g0 hN hr;go_enter func7,ntmps7
 by_cases h24:n<=24
 rotate_left
 ·have hb:(24:Int)<(n:Int):=by omega
  obtain rfl:r=false:=by rw [<-RR.o,aA h24];rfl
  clear RR h24;go_wp2_with fail
  go_ret
  exact ⟨rfl,ak _ _⟩
 rw [aB h24,aN] at RR;have hb:¬ (24:Int)<(n:Int):=by omega
 go_wp2_with fail
 go_loopw [3] (fun i wr=>∃ k:Nat,k<=n/\i= .int .i64 k/\(∀ j,j<k ->dZ (l.getD j default)=true)/\Below w.heap.size w wr) (fun i _=>n-(intOf i).toNat)
 case atStart=>exact ⟨0,aJ _,rfl,fun j hj=>absurd hj (by omega),ak _ _⟩
 case round=>
  obtain ⟨k,hk,rfl,hall,hb2⟩:=hrel;have HA:=zH hall;have HB:=zH hb2;clear hall hb2
  by_cases hlt:k<n
  ·obtain ⟨b,o,c,hv,-,-,-,hc⟩:=mV (HS.o.below HB.o) (by rw [LN.o];omega)
   rw [LN.o] at hv;simp only [aG] at hv
   obtain ⟨rfl,-,rfl⟩:=hv;obtain ⟨dv,ev,TA,SD,SE⟩:=hc k (by rw [LN.o];exact hlt);have j4:=zH (HF.o k hlt);have HX:Hid (dZ (l.getD k default)=true ->∀ j,j<k+1 ->dZ (l.getD j default)=true):=zH (fun h j hj=>by
    by_cases e:j=k
    ·rw [e];exact h
    ·exact HA.o j (by omega))
   have HD:Hid (dZ (l.getD k default)=(decide ((l.getD k default).deps.length<=60)&&fE (l.getD k default).dh)):=zH rfl;clear hc;generalize dZ (l.getD k default)=st at*;generalize l.getD k default=x at*;obtain ⟨da,dc,rfl,gd1,gd2,-,-⟩:=SD.parts;obtain ⟨ea,ec,rfl,-,-,-,-⟩:=SE.parts;have K:=qA SE;obtain ⟨c0,c1,c2,c3⟩:=TA;clear SD SE;generalize x.deps.length=dn at*;generalize x.dh.length=en at*
   by_cases h60:dn<=60
   rotate_left
   ·have hg:(60:Int)<(dn:Int):=by omega
    have HU:=j4.o (by rw [HD.o,aA h60];rfl);obtain rfl:r=false:=by rw [<-RR.o];exact HU
    clear HU RR j4 HX HD K h60;go_wp2_with fail
    go_ret
    exact ⟨rfl,HB.o⟩
   have hg:¬ (60:Int)<(dn:Int):=by omega
   rw [aB h60,aN] at HD
   cases hE:fE x.dh with
   |false=>
    have HU:=j4.o (by rw [HD.o,hE]);obtain rfl:r=false:=by rw [<-RR.o];exact HU
    rw [hE] at K;clear HU RR j4 HX HD hE;go_wp2_with fail
    refine K.mono ?_;rintro e w2 ⟨rfl,hw⟩;subst hw;go_wp2_with fail
    go_ret
    exact ⟨rfl,HB.o⟩
   |true=>
    have HU:=zH (HX.o (by rw [HD.o,hE]));rw [hE] at K;clear RR j4 HX HD hE;go_wp2_with fail
    refine K.mono ?_;rintro e w2 ⟨rfl,hw⟩;subst hw;go_wp2_with fail
    go_roundw
    case rel=>exact ⟨k+1,by omega,by go_num,HU.o,HB.o⟩
    case measure=>simp [intOf];omega
  ·obtain rfl:k=n:=by omega
   obtain rfl:r=true:=by rw [<-RR.o];exact HT.o HA.o
   clear RR HF HT;go_wp2_with fail
   go_ret
   exact ⟨rfl,HB.o⟩
theorem wS(p q:bK):decide (p=q)=(decide (p.node=q.node)&&(decide (p.seq=q.seq)&&(decide (p.deps=q.deps)&&decide (p.dh=q.dh)))):=by
 rw [Bool.eq_iff_iff];simp only [aO,decide_eq_true_iff]
 exact ⟨fun h=>by subst h;exact ⟨rfl,rfl,rfl,rfl⟩,fun ⟨h1,h2,h3,h4⟩=>qK h1 h2 h3 h4⟩
theorem qL(w:World)(X Y:Array Value)(t u:TypeId)(i:Nat):
  ((w.alloc (.cells X t)).alloc (.cells Y u)).cell? ⟨w.heap.size,i,none⟩=X[i]? /\((w.alloc (.cells X t)).alloc (.cells Y u)).cell? ⟨w.heap.size+1,i,none⟩=Y[i]? :=by
 have s1:(w.alloc (.cells X t)).heap.size=w.heap.size+1:=by simp
 have h1:=aM w X t i;have h2:=aM (w.alloc (.cells X t)) Y u i;rw [s1] at h2;have b2:=(ak (w.heap.size+1) (w.alloc (.cells X t))).alloc (by rw [s1];exact aj _) (.cells Y u);exact ⟨(b2.cell (p:=⟨w.heap.size,i,none⟩) (show w.heap.size<w.heap.size+1 by omega)).trans h1,h2⟩
theorem xR{u v:Value}{p q:bK}{w:World}(hu:dU w u p)(hv:dU w v q)(r:Bool)(hr:decide (p=q)=r):Calls prog 26 #[u,v] w (bH w r):=by
 have HD:=zH (hr.symm.trans (wS p q));obtain ⟨dv,ev,rfl,sd,se⟩:=hu;obtain ⟨BA,ev',rfl,AY,AZ⟩:=hv;obtain ⟨da,dn,dc,rfl⟩:∃ a n c,dv= .slice a n c:=by obtain ⟨a,c,h,-⟩:=sd.parts;exact ⟨a,_,c,h⟩
 obtain ⟨ea,en,ec,rfl⟩:∃ a n c,ev= .slice a n c:=by obtain ⟨a,c,h,-⟩:=se.parts;exact ⟨a,_,c,h⟩
 obtain ⟨fa,fn,fc,rfl⟩:∃ a n c,BA= .slice a n c:=by obtain ⟨a,c,h,-⟩:=AY.parts;exact ⟨a,_,c,h⟩
 obtain ⟨ga,gn,gc,rfl⟩:∃ a n c,ev'= .slice a n c:=by obtain ⟨a,c,h,-⟩:=AZ.parts;exact ⟨a,_,c,h⟩
 have hb:=(zB w (.cells #[.int .i64 p.node,.int .i64 p.seq,.slice da dn dc,.slice ea en ec] 34)).alloc (by simp) (.cells #[.int .i64 q.node,.int .i64 q.seq,.slice fa fn fc,.slice ga gn gc] 34);have PC:=fun i=>qL w #[.int .i64 p.node,.int .i64 p.seq,.slice da dn dc,.slice ea en ec] #[.int .i64 q.node,.int .i64 q.seq,.slice fa fn fc,.slice ga gn gc] 34 34 i
 have XB:Hid (jl ((w.alloc (.cells #[.int .i64 p.node,.int .i64 p.seq,.slice da dn dc,.slice ea en ec] 34)).alloc (.cells #[.int .i64 q.node,.int .i64 q.seq,.slice fa fn fc,.slice ga gn gc] 34)) w.heap.size 0 p (.slice da dn dc) (.slice ea en ec)):=zH ⟨(PC 0).1,(PC 1).1,(PC 2).1,(PC 3).1⟩;have YB:Hid (jl ((w.alloc (.cells #[.int .i64 p.node,.int .i64 p.seq,.slice da dn dc,.slice ea en ec] 34)).alloc (.cells #[.int .i64 q.node,.int .i64 q.seq,.slice fa fn fc,.slice ga gn gc] 34)) (w.heap.size+1) 0 q (.slice fa fn fc) (.slice ga gn gc)):=zH ⟨(PC 0).2,(PC 1).2,(PC 2).2,(PC 3).2⟩;have G:=zH hb;have SD:=zH (jw (sd.below hb));have Da:=zH (jw (AY.below hb));have SE:=zH (se.below hb);have Db:=zH (AZ.below hb);clear sd se AY AZ PC hb hr;go_enter func26,ntmps26
 go_upto_region 1 with fail
 generalize ((w.alloc _).alloc _)=w1 at*;obtain ⟨x0,x1,x2,x3⟩:=XB.o;obtain ⟨y0,y1,y2,y3⟩:=YB.o;simp only [aC] at x1 x2 x3 y1 y2 y3
 by_cases h1:p.node=q.node
 rotate_left
 ·have b1:(p.node==q.node)=false:=beq_false_of_ne h1
  obtain rfl:r=false:=by rw [HD.o,aA h1];rfl
  clear HD h1;go_wp2_with fail
  go_ret
  exact ⟨rfl,G.o⟩
 have b1:(p.node==q.node)=true:=beq_iff_eq.2 h1;rw [aB h1,aN] at HD
 by_cases h2:p.seq=q.seq
 rotate_left
 ·have b2:(p.seq==q.seq)=false:=beq_false_of_ne h2
  obtain rfl:r=false:=by rw [HD.o,aA h2];rfl
  clear HD h1 h2;go_wp2_with fail
  go_ret
  exact ⟨rfl,G.o⟩
 have b2:(p.seq==q.seq)=true:=beq_iff_eq.2 h2;rw [aB h2,aN] at HD;have K:=mh SD.o Da.o;clear h1 h2
 cases h3:decide (p.deps=q.deps) with
 |false=>
  rw [h3] at K;obtain rfl:r=false:=by rw [HD.o,h3];rfl
  clear HD h3;go_wp2_with fail
  refine K.mono ?_;rintro e w2 ⟨rfl,nq,rfl⟩;go_wp2_with fail
  go_ret
  exact ⟨rfl,below_drewN G.o _⟩
 |true=>
  rw [h3] at K;rw [h3,aN] at HD;clear h3;go_wp2_with fail
  refine K.mono ?_;rintro e w2 ⟨rfl,hdr⟩;have hb:=iw hdr;have z3:=(hb.cell (ay w1 _ x3)).trans x3;have u3:=(hb.cell (ay w1 _ y3)).trans y3;have K2:=yt (SE.o.below hb) (Db.o.below hb) HD.o.symm;have G2:=zH (G.o.trans (hb.mono G.o.size));clear hdr hb K x0 x1 x2 x3 y0 y1 y2 y3 HD;go_wp2_with fail
  refine K2.mono ?_;rintro e w3 ⟨rfl,hb⟩;have G3:=zH (G2.o.trans (hb.mono G2.o.size));clear hb K2;go_wp2_with fail
  go_ret
  exact ⟨rfl,G3.o⟩
def bV(Q:Nat ->Prop)(w:World)(v:Value)(t:bK):Prop:=∃ dv ev,v= .agg #[.int .i64 t.node,.int .i64 t.seq,dv,ev]/\Sq fD Q w dv t.deps/\Sq d9 Q w ev t.dh
theorem dU.all{w:World}{v:Value}{t:bK}(h:dU w v t):bV (· <w.heap.size) w v t:=h
theorem bV.mono{P Q:Nat ->Prop}{w:World}{v:Value}{t:bK}(h:bV P w v t)(hq:∀ b,P b ->Q b):bV Q w v t:=by
 obtain ⟨dv,ev,rfl,h1,h2⟩:=h;exact ⟨dv,ev,rfl,h1.mono hq,h2.mono hq⟩
theorem bV.is{Q:Nat ->Prop}{w:World}{v:Value}{t:bK}(h:bV Q w v t)(hq:∀ b,Q b ->b<w.heap.size):dU w v t:=h.mono hq
theorem bV.agree{Q:Nat ->Prop}{w w':World}{v:Value}{t:bK}(h:bV Q w v t)(hq:∀ b,Q b ->w'.heap[b]? =w.heap[b]?):bV Q w' v t:=by
 obtain ⟨dv,ev,rfl,h1,h2⟩:=h;exact ⟨dv,ev,rfl,h1.agree hq,h2.agree hq⟩
def st4(w:World)(g:Nat)(v0 v1 v2 v3:Value):World:=(((w.setCell ⟨g,0,none⟩ v0).setCell ⟨g,1,none⟩ v1).setCell ⟨g,2,none⟩ v2).setCell ⟨g,3,none⟩ v3
theorem uz(w:World)(g:Nat)(v0 v1 v2 v3:Value)(b:Nat)(h:b≠g):(st4 w g v0 v1 v2 v3).heap[b]? =w.heap[b]? :=by
 unfold st4;rw [aH _ _ _ _ h,aH _ _ _ _ h,aH _ _ _ _ h,aH _ _ _ _ h]
theorem vV(w:World)(g:Nat)(v0 v1 v2 v3:Value):(st4 w g v0 v1 v2 v3).heap.size=w.heap.size:=by
 unfold st4;simp [World.setCell]
theorem mX{B:Nat}{w u:World}{g:Nat}{v0 v1 v2 v3:Value}(h:Below B w u)(hg:B<=g):Below B w (st4 u g v0 v1 v2 v3):=(((h.setCell hg _).setCell hg _).setCell hg _).setCell hg _
theorem mW{w:World}{g:Nat}{z0 z1 z2 z3 v0 v1 v2 v3:Value}{t:TypeId}(h:w.heap[g]? =some (.cells #[z0,z1,z2,z3] t (0,0))):(st4 w g v0 v1 v2 v3).heap[g]? =some (.cells #[v0,v1,v2,v3] t (0,0)):=by
 unfold st4;rw [aU _ g 3 _ _ _ (aU _ g 2 _ _ _ (aU _ g 1 _ _ _ (aU _ g 0 _ _ _ h)))]
 rfl
theorem bY{w:World}{g:Nat}{z0 z1 z2 z3:Value}{t:TypeId}(h:w.heap[g]? =some (.cells #[z0,z1,z2,z3] t (0,0))):
  (w.cell? ⟨g,0,none⟩=some z0/\w.cell? ⟨g,1,none⟩=some z1/\w.cell? ⟨g,2,none⟩=some z2/\w.cell? ⟨g,3,none⟩=some z3)/\
  w.frozen? ⟨g,0,none⟩=false/\w.frozen? ⟨g,1,none⟩=false/\w.frozen? ⟨g,2,none⟩=false/\w.frozen? ⟨g,3,none⟩=false:=by
 refine ⟨⟨?_,?_,?_,?_⟩,?_,?_,?_,?_⟩
 ·simp [World.cell?,h]
 ·simp [World.cell?,h]
 ·simp [World.cell?,h]
 ·simp [World.cell?,h]
 ·unfold World.frozen?;rw [h];simp
 ·unfold World.frozen?;rw [h];simp
 ·unfold World.frozen?;rw [h];simp
 ·unfold World.frozen?;rw [h];simp
theorem bV.parts{Q:Nat ->Prop}{w:World}{v:Value}{t:bK}(h:bV Q w v t):∃ da dn dc ea en ec,v= .agg #[.int .i64 t.node,.int .i64 t.seq,.slice da dn dc,.slice ea en ec]/\bV Q w (.agg #[.int .i64 t.node,.int .i64 t.seq,.slice da dn dc,.slice ea en ec]) t:=by
 obtain ⟨dv,ev,rfl,h1,h2⟩:=h;obtain ⟨a1,c1,v1,rfl,r1⟩:=h1;obtain ⟨a2,c2,v2,rfl,r2⟩:=h2;exact ⟨_,_,_,_,_,_,rfl,_,_,rfl,⟨a1,c1,v1,rfl,r1⟩,⟨a2,c2,v2,rfl,r2⟩⟩
section
open Go.ChangeShapes Go.WideShapes Go.Joins
set_option maxRecDepth 100000
end
end Go.Proofs.Ytmknpmamkjjiaaa