import Derived.Test.YtfgcodcablpdcaaGreatVcAll
import Derived.Test.YtfgcodcablpdcaaGreatStMaths
import Derived.Test.YtfgcodcablpdcaaGreatEForms
set_option linter.unusedVariables false
set_option maxRecDepth 100000
set_option maxHeartbeats 64000000
namespace Go.Proofs.YtfgcodcablpdcaaGreat
open Go.Proofs.Tryz
open Go.RowKit Plain
theorem Rf{u v:Value}{xs:Ints}{w:World}(hs:gQ w u xs)(ht:gQ w v xs):
  Calls prog 83 #[u,v] w fun e w'=>e= .returned (.bool true)/\∃ n,w'=w.drewN n:=by
 by_cases hp:0<xs.length
 ·obtain ⟨b1,o1,c1,rfl,g1,m1,-,k1⟩:=hs.spot hp
  obtain ⟨b2,o2,c2,rfl,g2,m2,-,k2⟩:=ht.spot hp;have HU:=zH k1;have HV:=zH k2;have hm:maxLen=9223372036854775807:=rfl;rw [hm] at m1 m2;clear hs ht k1 k2 hm;go_enter func83,ntmps83
  go_wp2_with fail
  go_loopw [13] (fun i wr=>∃ k:Nat,k<=xs.length/\i= .int .i64 k/\∃ n,wr=w.drewN n) (fun i _=>xs.length-(intOf i).toNat)
  case atStart=>exact ⟨0,aL _,rfl,0,rfl⟩
  case round=>
   obtain ⟨k,hk,rfl,n,rfl⟩:=hrel
   by_cases hlt:k<xs.length
   ·have c1':=HU.o k hlt
    have c2':=HV.o k hlt;generalize xs.getD k 0=x at*;go_wp2_with fail
    go_quiet (fail)
    go_wp2_with fail
    go_roundw
    case rel=>exact ⟨k+1,by omega,by go_num,_,rfl⟩
    case measure=>simp [intOf];omega
   ·obtain rfl:k=xs.length:=by omega
    go_wp2_with fail
    go_ret
    exact ⟨rfl,_,rfl⟩
 ·obtain rfl:xs=[]:=aK (by omega)
  obtain ⟨a1,c1,rfl,-⟩:=hs;obtain ⟨a2,c2,rfl,-⟩:=ht;simp only [bf]
  go_enter func83,ntmps83
  go_wp2_with fail
  go_loop [13] (fun i=>i= .int .i64 0) (fun _=>0)
  case atStart=>rfl
  case round=>
   obtain rfl:=hrel;go_wp2_with fail
   go_ret
   exact ⟨rfl,0,rfl⟩
theorem U4{u v:Value}{xs ys:Ints}{w:World}(hs:gQ w u xs)(ht:gQ w v ys)(hne:¬ xs=ys):
  Calls prog 83 #[u,v] w fun e w'=>e= .returned (.bool false)/\∃ n,w'=w.drewN n:=by
 by_cases hl:xs.length=ys.length
 ·have hp:0<xs.length:=by
   by_cases h:0<xs.length
   ·exact h
   ·exfalso
    apply hne
    rw [aK (show xs.length=0 by omega),aK (show ys.length=0 by omega)]
  have hex:∃ j,j<xs.length/\xs.getD j 0≠ys.getD j 0:=by
   refine dW fun hno=>hne ?_
   apply bT hl
   intro j h1 h2;have hj:xs.getD j 0=ys.getD j 0:=dW fun h=>hno ⟨j,h1,h⟩
   simpa [List.getD,List.getElem?_eq_getElem h1,List.getElem?_eq_getElem h2] using hj
  obtain ⟨b1,o1,c1,rfl,g1,m1,-,k1⟩:=hs.spot hp;obtain ⟨b2,o2,c2,rfl,g2,m2,-,k2⟩:=ht.spot (by omega);rw [<-hl] at k2 g2 ⊢;have HU:=zH k1;have HV:=zH k2;have HEX:=zH hex;have hm:maxLen=9223372036854775807:=rfl;rw [hm] at m1 m2;clear hs ht k1 k2 hm hl hex hne;go_enter func83,ntmps83
  go_wp2_with fail
  go_loopw [13] (fun i wr=>∃ k:Nat,k<=xs.length/\i= .int .i64 k/\(∀ j,j<k ->xs.getD j 0=ys.getD j 0)/\∃ n,wr=w.drewN n) (fun i _=>xs.length-(intOf i).toNat)
  case atStart=>exact ⟨0,aL _,rfl,(fun j hj=>absurd hj (by omega)),0,rfl⟩
  case round=>
   obtain ⟨k,hk,rfl,hall,n,rfl⟩:=hrel;have qb:=zH hall;clear hall
   by_cases hlt:k<xs.length
   ·have c1':=HU.o k hlt
    have c2':=HV.o k hlt
    by_cases he:xs.getD k 0=ys.getD k 0
    ·have HE:=zH he
     rw [he] at c1';clear he;have Rh:Hid (∀ j,j<k+1 ->xs.getD j 0=ys.getD j 0):=zH (fun j hj=>by
      by_cases h:j<k
      ·exact qb.o j h
      ·obtain rfl:j=k:=by omega
       exact HE.o)
     generalize ys.getD k 0=x at*;go_wp2_with fail
     go_quiet (fail)
     go_wp2_with fail
     go_roundw
     case rel=>exact ⟨k+1,by omega,by go_num,Rh.o,_,rfl⟩
     case measure=>simp [intOf];omega
    ·generalize xs.getD k 0=x at*
     generalize ys.getD k 0=y at*;have hb2:(x !=y)=true:=bne_iff_ne.2 he;clear he;go_wp2_with fail
     go_quiet (fail)
     go_wp2_with fail
     go_ret
     exact ⟨rfl,_,fA _ _ _⟩
   ·exfalso
    obtain ⟨j,hj,hne⟩:=HEX.o;exact hne (qb.o j (by omega))
 ·obtain ⟨a1,c1,rfl,-⟩:=hs
  obtain ⟨a2,c2,rfl,-⟩:=ht;generalize xs.length=la at*;generalize ys.length=lb at*;have h1:¬ ((la:Int)=(lb:Int)):=by omega
  have h2:((la:Int) !=(lb:Int))=true:=bne_iff_ne.2 h1;clear hl h1 hne;go_enter func83,ntmps83
  go_wp2_with fail
  go_ret
  exact ⟨rfl,0,rfl⟩
theorem rQ{u v:Value}{xs ys:Ints}{w:World}(hs:gQ w u xs)(ht:gQ w v ys):
  Calls prog 83 #[u,v] w fun e w'=>e= .returned (.bool (decide (xs=ys)))/\∃ n,w'=w.drewN n:=by
 by_cases h:xs=ys
 ·subst h
  rw [aI rfl];exact Rf hs ht
 ·rw [aF h]
  exact U4 hs ht h
theorem Ri{v:Value}{ds:List Int}{w:World}(hv:gQ w v ds)(hn:ds.length<=1000000)(p:Int ->Bool)(g:Nat)(lb:Array Value)
  (eg:∀ args w,(callFunc g args).run prog w= .ok (.enter g args) w)
  (hp:∀ W d,Below w.heap.size w W ->Calls prog g (#[.int .i64 d]++lb) W (fO W (p d))):
  Calls prog 209 #[v,.func (.func g) #[] lb] w fun e w'=>∃ r:Int,e= .returned (.int .i64 r)/\decide (0<=r)=ds.any p/\Below w.heap.size w w':=by
 obtain ⟨a,cap,rfl,g1,g2,g0,h⟩:=hv.parts;have HS:=zH h;have HP:=zH hp;have HY:Hid (∀ k,k<ds.length ->p (ds.getD k 0)=true ->ds.any p=true):=zH (fun k hk h=>by
  rw [cO];exact ⟨_,by rw [show ds.getD k 0=ds[k] by simp [List.getD,List.getElem?_eq_getElem hk]];exact aU hk,h⟩)
 have HN:Hid ((∀ j,j<ds.length ->p (ds.getD j 0)=false) ->ds.any p=false):=zH (fun h=>by
  rw [dF];intro d hd;obtain ⟨j,hj,rfl⟩:=bF hd;have:=h j hj;rw [show ds.getD j 0=ds[j] by simp [List.getD,List.getElem?_eq_getElem hj]] at this;rw [this]
  decide)
 clear hp hv h g0;have hm:maxLen=9223372036854775807:=rfl;rw [hm] at g2;obtain ⟨n,hN⟩:∃ n,ds.length=n:=⟨_,rfl⟩;rw [hN] at hn g1 HS HY HN ⊢;have LN:=zH hN;clear hN hm;generalize ds.any p=r at*;go_enter func209,ntmps209
 go_wp2_with fail
 go_loopw [8] (fun i wr=>∃ k:Nat,k<=n/\i= .int .i64 k/\(∀ j,j<k ->p (ds.getD j 0)=false)/\Below w.heap.size w wr) (fun i _=>n-(intOf i).toNat)
 case atStart=>exact ⟨0,aL _,rfl,fun j hj=>absurd hj (by omega),aj _ _⟩
 case round=>
  obtain ⟨k,hk,rfl,hall,hb⟩:=hrel;have HA:=zH hall;have HB:=zH hb;clear hall hb
  by_cases hlt:k<n
  ·obtain ⟨b,o,c,hv,-,-,-,hc⟩:=(HS.o.below HB.o).spot (by rw [LN.o];omega)
   rw [LN.o] at hv;simp only [aC] at hv
   obtain ⟨rfl,-,rfl⟩:=hv;have c0:=hc k (by rw [LN.o];exact hlt);have HYK:=zH (HY.o k hlt);have JV:Hid (p (ds.getD k 0)=false ->∀ j,j<k+1 ->p (ds.getD j 0)=false):=zH (fun h j hj=>by
    by_cases e:j=k
    ·rw [e];exact h
    ·exact HA.o j (by omega))
   have K:=HP.o wr (ds.getD k 0) HB.o;clear hc;generalize ds.getD k 0=d at*
   cases zO:p d with
   |true=>
    rw [zO] at K;obtain rfl:r=true:=HYK.o zO;clear zO;go_wp2_with (go_at_fn g;refine K.mono ?_;rintro e w1 ⟨rfl,hb⟩)
    have G:=zH (HB.o.trans (hb.mono HB.o.size));clear hb c0 K;go_wp2_with fail
    go_ret
    exact ⟨k,rfl,by simp,G.o⟩
   |false=>
    rw [zO] at K;have HX:=zH (JV.o zO);clear zO;go_wp2_with (go_at_fn g;refine K.mono ?_;rintro e w1 ⟨rfl,hb⟩)
    have G:=zH (HB.o.trans (hb.mono HB.o.size));clear hb c0 K;go_wp2_with fail
    go_roundw
    case rel=>exact ⟨k+1,by omega,by go_num,HX.o,G.o⟩
    case measure=>simp [intOf];omega
  ·obtain rfl:k=n:=by omega
   obtain rfl:r=false:=HN.o HA.o;go_wp2_with fail
   go_ret
   exact ⟨-1,rfl,by decide,HB.o⟩
theorem uj{v:Value}{ds:List Int}{w:World}(hv:gQ w v ds)(hn:ds.length<=1000000)(p:Int ->Bool)(g:Nat)(lb:Array Value)
  (eg:∀ args w,(callFunc g args).run prog w= .ok (.enter g args) w)
  (hp:∀ W d,Below w.heap.size w W ->Calls prog g (#[.int .i64 d]++lb) W (fO W (p d))):
  Calls prog 146 #[v,.func (.func g) #[] lb] w (fO w (ds.any p)):=by
 have K:=Ri hv hn p g lb eg hp;obtain ⟨a,cap,rfl,-⟩:=hv.parts;generalize ds.any p=r at*;generalize ds.length=n at*;clear hv hp;go_enter func146,ntmps146
 go_wp2_with fail
 refine K.mono ?_;rintro e w1 ⟨q,rfl,hq,hb⟩;have G:=zH hb;clear hb K;subst hq;go_wp2_with fail
 go_ret
 exact ⟨rfl,G.o⟩
def uE(v:List Int):Bool:=decide (v.length<=8)&&(decide (v=trim v)&& !v.any (fun n=>decide (n>1073741824)))
theorem depsB_is(t:fI):Hg t=(uE t.deps&&decide (iF t.deps t.node=t.seq-1)):=by
 have e:(!t.deps.any (fun n=>decide (n>1073741824)))=t.deps.all (fun n=>decide (n<=1073741824)):=by
  rw [dB]
  congr 1
  funext n
  by_cases h:n>1073741824
  ·rw [aI h,aF (show ¬ n<=1073741824 by omega)];rfl
  ·rw [aF h,aI (show n<=1073741824 by omega)];rfl
 unfold Hg uE;rw [e,Bool.and_assoc,Bool.and_assoc]
 congr 2
 ·exact decide_eq_decide.2 ⟨fun h=>h.symm,fun h=>h.symm⟩
 ·congr 1
  exact decide_eq_decide.2 (by omega)
theorem U5(W:World)(d:Int):Calls prog 221 (#[.int .i64 d]++#[]) W (fO W (decide (d>1073741824))):=by
 show Calls prog 221 #[.int .i64 d] W _
 go_enter func221,ntmps221
 go_wp2_with fail
 go_ret
 exact ⟨rfl,aj _ _⟩
theorem Rj{v:Value}{xs:List Int}{w:World}(hv:gQ w v xs)(hl:xs.length<=1000000):Calls prog 156 #[v] w (fO w (uE xs)):=by
 obtain ⟨a,cap,rfl,g1,g2,g0,h⟩:=hv.parts;have KT:=zH (rP h hl);have KE:Hid (∀ (W:World) (u:Value),Below w.heap.size w W ->gQ W u (trim xs) ->Calls prog 83 #[.slice a xs.length cap,u] W fun e w'=>e= .returned (.bool (decide (xs=trim xs)))/\∃ n,w'=W.drewN n):=zH (fun W u hb hs=>rQ (h.below hb) hs);have KC:Hid (∀ W,Below w.heap.size w W ->Calls prog 146 #[.slice a xs.length cap,.func (.func 221) #[] #[]] W (fO W (xs.any fun n=>decide (n>1073741824)))):=zH (fun W hb=>uj (h.below hb) hl _ _ #[] (enters_of func221 (by kernel_rfl) rfl) (fun W' d _=>U5 W' d));have HR:Hid (uE xs=(decide (xs.length<=8)&&(decide (xs=trim xs)&& !xs.any (fun n=>decide (n>1073741824))))):=zH rfl;clear hv h g0;generalize uE xs=r at*;generalize decide (xs=trim xs)=r1 at*;generalize (xs.any fun n=>decide (n>1073741824))=r2 at*;generalize trim xs=ts at*;generalize xs.length=n at*
 by_cases hn:n<=8
 ·have hni:(n:Int)<=8:=by omega
  rw [aI hn,aS] at HR;clear hn;go_enter func156,ntmps156
  go_wp2_with fail
  refine KT.o.mono ?_;rintro e w1 ⟨v1,rfl,ho,hb⟩;have B1:=zH hb;have KE1:=KE.o w1 v1 hb ho.seq;obtain ⟨a1,c1,rfl,-,-,-,-⟩:=ho.parts;clear ho hb KT KE;generalize ts.length=tn at*;go_wp2_with fail
  refine KE1.mono ?_;rintro e w2 ⟨rfl,q,rfl⟩;have B2:=zH (below_drewN B1.o q);clear KE1;generalize w1.drewN q=w2 at*
  cases r1 with
  |false=>
   obtain rfl:r=false:=HR.o;go_wp2_with fail
   go_ret
   exact ⟨rfl,B2.o⟩
  |true=>
   rw [aS] at HR;have Tv:=KC.o w2 B2.o;clear KC;go_wp2_with fail
   refine Tv.mono ?_;rintro e w3 ⟨rfl,hb⟩;have B3:=zH (B2.o.trans (hb.mono B2.o.size));clear hb Tv;obtain rfl:r= !r2:=HR.o;go_wp2_with fail
   go_ret
   exact ⟨rfl,B3.o⟩
 ·have hni:¬ (n:Int)<=8:=by omega
  rw [aF hn,bU] at HR;obtain rfl:r=false:=HR.o;clear hn HR;go_enter func156,ntmps156
  go_wp2_with fail
  go_ret
  exact ⟨rfl,aj _ _⟩
end Go.Proofs.YtfgcodcablpdcaaGreat
set_option maxRecDepth 100000
set_option maxHeartbeats 64000000
namespace Go.Proofs.YtfgcodcablpdcaaGreat
open Go.Proofs.Tryz
open Go.RowKit Plain
theorem ES{v:Value}{xs:List iE}{w:World}(hv:kD w v xs)(hx:xs.length<=1000000)(s:iE):
  Calls prog 196 #[v,.string (bt s)] w (fO w (covers xs s)):=by
 have hb:=zB w (.cells #[.string (bt s)] 9);have hc:(w.alloc (.cells #[.string (bt s)] 9)).cell? ⟨w.heap.size,0,none⟩=some (.string (bt s)):=by simp
 have hlt:w.heap.size<(w.alloc (.cells #[.string (bt s)] 9)).heap.size:=by simp
 have K1:=IC (hv.below hb) hx (fun x=>Gi s x) 251 #[.pointer (some ⟨w.heap.size,0,none⟩)] enters41 (fun W x hW=>gives41 x s w.heap.size W ((hW.cell (p:=⟨w.heap.size,0,none⟩) hlt).trans hc));rw [show (xs.any fun x=>Gi s x)=covers xs s from rfl] at K1;have G:=zH hb;obtain ⟨a,cap,rfl,-⟩:=hv.parts;clear hv hb hc hlt;generalize covers xs s=r at*;generalize bt s=S at*;go_enter func196,ntmps196
 go_wp2_with fail
 refine K1.mono ?_;rintro e w' ⟨rfl,q,rfl⟩;have G2:=zH (below_drewN G.o q);go_wp2_with fail
 go_ret
 exact ⟨rfl,G2.o⟩
def U6(v:Value)(x:gD):Prop:=∃ dv,v= .agg #[.int .i64 x.pos,.string (bt x.key),.string (bt x.field),.int .i64 x.kind,.string (bt x.elem),.int .i64 x.n,dv]
def U7(p:gD ->Bool)(ds:List gD)(r:Int):Prop:=(r= -1/\∀ j,j<ds.length ->p (ds.getD j default)=false)\/∃ k:Nat,r=(k:Int)/\k<ds.length/\p (ds.getD k default)=true/\∀ j,j<k ->p (ds.getD j default)=false
theorem U7.any{p:gD ->Bool}{ds:List gD}{r:Int}(h:U7 p ds r):decide (0<=r)=ds.any p:=by
 rcases h with ⟨rfl,h⟩|⟨k,rfl,hk,h,-⟩
 ·rw [Eq.comm]
  show ds.any p=false
  rw [dF];intro d hd;obtain ⟨j,hj,rfl⟩:=bF hd;have:=h j hj;rw [show ds.getD j default=ds[j] by simp [List.getD,List.getElem?_eq_getElem hj]] at this;rw [this]
  decide
 ·rw [aI (by omega),Eq.comm,cO]
  exact ⟨_,bD (getD_at hk),h⟩
theorem Rk{v:Value}{ds:List gD}{w:World}(hv:fM jo w v ds)(hn:ds.length<=1000000)(p:gD ->Bool)(g:Nat)(lb:Array Value)
  (eg:∀ args w,(callFunc g args).run prog w= .ok (.enter g args) w)
  (hp:∀ W d tv,d∈ds ->Below w.heap.size w W ->U6 tv d ->Calls prog g (#[tv]++lb) W (fO W (p d))):
  Calls prog 253 #[v,.func (.func g) #[] lb] w fun e w'=>∃ r:Int,e= .returned (.int .i64 r)/\U7 p ds r/\Below w.heap.size w w':=by
 obtain ⟨a,cap,rfl,g1,g2,g0,h⟩:=hv.parts;have HS:=zH h;have HP:=zH hp;have HM:=zH (fun k (hk:k<ds.length)=>(bD (getD_at hk):ds.getD k default∈ds));clear hp hv h g0;obtain ⟨n,hN⟩:∃ n,ds.length=n:=⟨_,rfl⟩;rw [hN] at hn g1 HS HM ⊢;have LN:=zH hN;clear hN;go_enter func253,ntmps253
 go_wp2_with fail
 go_loopw [8] (fun i wr=>∃ k:Nat,k<=n/\i= .int .i64 k/\(∀ j,j<k ->p (ds.getD j default)=false)/\Below w.heap.size w wr) (fun i _=>n-(intOf i).toNat)
 case atStart=>exact ⟨0,aL _,rfl,fun j hj=>absurd hj (by omega),aj _ _⟩
 case round=>
  obtain ⟨k,hk,rfl,hall,hb⟩:=hrel;have HA:=zH hall;have HB:=zH hb;clear hall hb
  by_cases hlt:k<n
  ·obtain ⟨b,o,c,hv,-,-,-,hc⟩:=mZ (HS.o.below HB.o) (by rw [LN.o];omega)
   rw [LN.o] at hv;simp only [aC] at hv
   obtain ⟨rfl,-,rfl⟩:=hv;obtain ⟨dv,⟨c0,c1,c2,c3,c4,c5,c6⟩,hdv⟩:=hc k (by rw [LN.o];exact hlt);have JV:Hid (p (ds.getD k default)=false ->∀ j,j<k+1 ->p (ds.getD j default)=false):=zH (fun h j hj=>by
    by_cases e:j=k
    ·rw [e];exact h
    ·exact HA.o j (by omega))
   have K:=HP.o wr (ds.getD k default) _ (HM.o k hlt) HB.o ⟨dv,rfl⟩;obtain ⟨da,dc,rfl,-⟩:=hdv.parts;obtain ⟨d,hd⟩:∃ d,d=ds.getD k default:=⟨_,rfl⟩;have HD:=zH hd;rw [<-hd] at K c0 c1 c2 c3 c4 c5 c6 JV;clear hc hd hdv
   cases zO:p d with
   |true=>
    rw [zO] at K;have HPD:=zH zO;clear zO;go_wp2_with (go_at_fn g;refine K.mono ?_;rintro e w1 ⟨rfl,hb⟩)
    have G:=zH (HB.o.trans (hb.mono HB.o.size));clear hb c0 c1 c2 c3 c4 c5 c6 K;go_wp2_with fail
    go_ret
    exact ⟨k,rfl,.inr ⟨k,rfl,by rw [LN.o];exact hlt,by rw [<-HD.o];exact HPD.o,HA.o⟩,G.o⟩
   |false=>
    rw [zO] at K;have HX:=zH (JV.o zO);clear zO;go_wp2_with (go_at_fn g;refine K.mono ?_;rintro e w1 ⟨rfl,hb⟩)
    have G:=zH (HB.o.trans (hb.mono HB.o.size));clear hb c0 c1 c2 c3 c4 c5 c6 K;go_wp2_with fail
    go_roundw
    case rel=>exact ⟨k+1,by omega,by go_num,HX.o,G.o⟩
    case measure=>simp [intOf];omega
  ·obtain rfl:k=n:=by omega
   go_wp2_with fail
   go_ret
   exact ⟨-1,rfl,.inl ⟨rfl,by rw [LN.o];exact HA.o⟩,HB.o⟩
theorem Jd{v:Value}{ds:List gD}{w:World}(hv:fM jo w v ds)(hn:ds.length<=1000000)(p:gD ->Bool)(g:Nat)(lb:Array Value)
  (eg:∀ args w,(callFunc g args).run prog w= .ok (.enter g args) w)
  (hp:∀ W d tv,d∈ds ->Below w.heap.size w W ->U6 tv d ->Calls prog g (#[tv]++lb) W (fO W (p d))):
  Calls prog 199 #[v,.func (.func g) #[] lb] w (fO w (ds.any p)):=by
 have K:=Rk hv hn p g lb eg hp;obtain ⟨a,cap,rfl,-⟩:=hv.parts;generalize ds.length=n at*;clear hv hp;go_enter func199,ntmps199
 go_wp2_with fail
 refine K.mono ?_;rintro e w1 ⟨q,rfl,hq,hb⟩;have G:=zH hb;have hq:=hq.any;generalize ds.any p=r at*;subst hq;clear hb K;go_wp2_with fail
 go_ret
 exact ⟨rfl,G.o⟩
end Go.Proofs.YtfgcodcablpdcaaGreat