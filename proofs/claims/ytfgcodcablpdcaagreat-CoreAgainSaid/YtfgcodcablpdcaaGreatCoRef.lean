import Derived.Deep.CutBlock
import Derived.Test.YtfgcodcablpdcaaGreatMsForm
set_option linter.unusedVariables false
set_option maxRecDepth 100000
set_option maxHeartbeats 64000000
namespace Go.Proofs.YtfgcodcablpdcaaGreat
open Go.Proofs.Tryz
open Go.RowKit Plain
theorem equalR{u v:Value}{xs ys:List Int}{w:World}{r:Bool}(hu:fM gL w u xs)(hv:fM gL w v ys)(e:decide (xs=ys)=r):Calls prog 31 #[u,v] w (fO w r):=by
 rw [<-e];exact (qX (gW hu) (gW hv)).mono fun _ _ ⟨h,hw⟩=>⟨h,nI hw⟩
def wT(m:gu):Bool:=decide (m.vec.length<=60)&&(decide (m.from_.length<=60)&&(nJ m.zone&&(nJ m.want&&(qG m.items&&ny m.fU))))
theorem BU{m:gu}(h:wT m=true):m.vec.length<=60/\m.from_.length<=60/\nJ m.zone=true/\nJ m.want=true/\qG m.items=true/\ny m.fU=true:=by
 unfold wT at h;simp only [aD,decide_eq_true_iff] at h
 exact h
theorem mshortR{u:Value}{m:gu}{w:World}(hu:pE w u m)(r:Bool)(hr:wT m=r):Calls prog 18 #[u] w (fO w r):=by
 obtain ⟨va,vn,vc,fa,fn,fc,za,zn,zc,na,nn,nc,ia,im,ic,la,ln,lc,rfl,H⟩:=hu.slices;have G0:=zH (zB w (.cells #[.int .i64 m.kind,.int .i64 m.ticket,.bool m.whole,.slice va vn vc,.slice fa fn fc,.slice za zn zc,.slice na nn nc,.slice ia im ic,.slice la ln lc] 46));have X:=zH (mW H);unfold wT at hr;rw [H.v.iY.1,H.f.iY.1] at hr;clear hu H;go_enter func18,ntmps18
 go_upto_region 1 with fail
 generalize (w.alloc _)=w0 at*;have HC:=zH (fun u (hb:Below w0.heap.size w0 u)=>(X.o.below hb).c);have B0:=zH (aj w0.heap.size w0);have KZ:=zH (fun u (hb:Below w0.heap.size w0 u)=>Qc (X.o.below hb).a.z rfl);have KN:=zH (fun u (hb:Below w0.heap.size w0 u)=>Qc (X.o.below hb).a.n rfl);have KI:=zH (fun u (hb:Below w0.heap.size w0 u)=>rshortR (X.o.below hb).a.i rfl);have KL:=zH (fun u (hb:Below w0.heap.size w0 u)=>MR (X.o.below hb).a.l _ rfl);generalize nJ m.zone=bz at*;generalize nJ m.want=bn at*;generalize qG m.items=bi at*;generalize ny m.fU=bl at*;obtain ⟨c0,c1,c2,c3,c4,c5,c6,c7,c8⟩:=HC.o w0 B0.o
 by_cases h1:vn<=60
 rotate_left
 ·have ih1:¬ (vn:Int)<=60:=by omega
  rw [aF h1] at hr;obtain rfl:r=false:=by rw [<-hr];rfl
  clear h1;go_wp2_with fail
  go_ret
  exact ⟨rfl,G0.o.trans (B0.o.mono G0.o.size)⟩
 have ih1:(vn:Int)<=60:=by omega
 rw [aI h1,aS] at hr;clear h1
 by_cases h2:fn<=60
 rotate_left
 ·have ih2:¬ (fn:Int)<=60:=by omega
  rw [aF h2] at hr;obtain rfl:r=false:=by rw [<-hr];rfl
  clear h2;go_wp2_with fail
  go_ret
  exact ⟨rfl,G0.o.trans (B0.o.mono G0.o.size)⟩
 have ih2:(fn:Int)<=60:=by omega
 rw [aI h2,aS] at hr;clear h2
 cases bz with
 |false=>
  obtain rfl:r=false:=by rw [<-hr];rfl
  go_wp2_with fail
  refine (KZ.o _ B0.o).mono ?_;rintro e w1 ⟨rfl,hb⟩;have B1:=zH (B0.o.trans (hb.mono B0.o.size));clear hb c0 c1 c2 c3 c4 c5 c6 c7 c8 KZ;obtain ⟨c0,c1,c2,c3,c4,c5,c6,c7,c8⟩:=HC.o _ B1.o;go_wp2_with fail
  go_ret
  exact ⟨rfl,G0.o.trans (B1.o.mono G0.o.size)⟩
 |true=>
  rw [aS] at hr;go_wp2_with fail
  refine (KZ.o _ B0.o).mono ?_;rintro e w1 ⟨rfl,hb⟩;have B1:=zH (B0.o.trans (hb.mono B0.o.size));clear hb c0 c1 c2 c3 c4 c5 c6 c7 c8 KZ;obtain ⟨c0,c1,c2,c3,c4,c5,c6,c7,c8⟩:=HC.o _ B1.o
  cases bn with
  |false=>
   obtain rfl:r=false:=by rw [<-hr];rfl
   go_wp2_with fail
   refine (KN.o _ B1.o).mono ?_;rintro e w2 ⟨rfl,hb⟩;have B2:=zH (B1.o.trans (hb.mono B1.o.size));clear hb c0 c1 c2 c3 c4 c5 c6 c7 c8 KN;obtain ⟨c0,c1,c2,c3,c4,c5,c6,c7,c8⟩:=HC.o _ B2.o;go_wp2_with fail
   go_ret
   exact ⟨rfl,G0.o.trans (B2.o.mono G0.o.size)⟩
  |true=>
   rw [aS] at hr;go_wp2_with fail
   refine (KN.o _ B1.o).mono ?_;rintro e w2 ⟨rfl,hb⟩;have B2:=zH (B1.o.trans (hb.mono B1.o.size));clear hb c0 c1 c2 c3 c4 c5 c6 c7 c8 KN;obtain ⟨c0,c1,c2,c3,c4,c5,c6,c7,c8⟩:=HC.o _ B2.o
   cases bi with
   |false=>
    obtain rfl:r=false:=by rw [<-hr];rfl
    go_wp2_with fail
    refine (KI.o _ B2.o).mono ?_;rintro e w3 ⟨rfl,hb⟩;have B3:=zH (B2.o.trans (hb.mono B2.o.size));clear hb c0 c1 c2 c3 c4 c5 c6 c7 c8 KI;obtain ⟨c0,c1,c2,c3,c4,c5,c6,c7,c8⟩:=HC.o _ B3.o;go_wp2_with fail
    go_ret
    exact ⟨rfl,G0.o.trans (B3.o.mono G0.o.size)⟩
   |true=>
    rw [aS] at hr;go_wp2_with fail
    refine (KI.o _ B2.o).mono ?_;rintro e w3 ⟨rfl,hb⟩;have B3:=zH (B2.o.trans (hb.mono B2.o.size));clear hb c0 c1 c2 c3 c4 c5 c6 c7 c8 KI;obtain ⟨c0,c1,c2,c3,c4,c5,c6,c7,c8⟩:=HC.o _ B3.o;subst hr;go_wp2_with fail
    refine (KL.o _ B3.o).mono ?_;rintro e w4 ⟨rfl,hb⟩;have B4:=zH (B3.o.trans (hb.mono B3.o.size));clear hb c0 c1 c2 c3 c4 c5 c6 c7 c8 KL;obtain ⟨c0,c1,c2,c3,c4,c5,c6,c7,c8⟩:=HC.o _ B4.o;go_wp2_with fail
    go_ret
    exact ⟨rfl,G0.o.trans (B4.o.mono G0.o.size)⟩
end Go.Proofs.YtfgcodcablpdcaaGreat
set_option maxRecDepth 100000
set_option maxHeartbeats 64000000
namespace Go.Proofs.YtfgcodcablpdcaaGreat
open Go.Proofs.Tryz
open Go.RowKit Plain
def pV(x:Int×gu):Bool:=wT x.2
def AU(l:List (Int×gu)):Bool:=decide (l.length<=12)&&l.all pV
theorem Ub{α:Type}{p:α ->Bool}{l:List α}(h:∀ j x,j<l.length ->l[j]? =some x ->p x=true):l.all p=true:=by
 rw [aR];intro x hx;obtain ⟨j,hj,e⟩:=dJ.1 hx;exact h j x hj (by rw [au hj,e])
theorem Qd{α:Type}{p:α ->Bool}{l:List α}{j:Nat}{x:α}(hj:l[j]? =some x)(h:p x=false):l.all p=false:=by
 cases hb:l.all p with
 |false=>rfl
 |true=>
  have:=(aR.1 hb) x (bD hj);rw [h] at this
  cases this
theorem Uc.msg{w:World}{b o:Nat}{n:Int}{m:gu}{va fa za na ia la:Option Addr}{vn vc fn fc zn zc nn nc im ic ln lc:Nat}(h:Uc w b o n m ⟨va,vn,vc,fa,fn,fc,za,zn,zc,na,nn,nc,ia,im,ic,la,ln,lc⟩):
  w.cell? ⟨b,o+1,none⟩=some (.int .i64 m.kind)/\w.cell? ⟨b,o+2,none⟩=some (.int .i64 m.ticket)/\w.cell? ⟨b,o+3,none⟩=some (.bool m.whole)/\w.cell? ⟨b,o+4,none⟩=some (.slice va vn vc)/\w.cell? ⟨b,o+5,none⟩=some (.slice fa fn fc)/\w.cell? ⟨b,o+6,none⟩=some (.slice za zn zc)/\w.cell? ⟨b,o+7,none⟩=some (.slice na nn nc)/\w.cell? ⟨b,o+8,none⟩=some (.slice ia im ic)/\w.cell? ⟨b,o+9,none⟩=some (.slice la ln lc):=
 ⟨h.ms 0 _ rfl,h.ms 1 _ rfl,h.ms 2 _ rfl,h.ms 3 _ rfl,h.ms 4 _ rfl,h.ms 5 _ rfl,h.ms 6 _ rfl,h.ms 7 _ rfl,h.ms 8 _ rfl⟩
theorem Qe{v:Value}{l:List (Int×gu)}{w:World}(hv:wU w v l)(r:Bool)(hr:AU l=r):Calls prog 13 #[v] w (fO w r):=by
 obtain ⟨a,cap,rfl,g1,g2,h⟩:=hv;have HF:=zH (fun j x (hj:l[j]? =some x) h=>Qd (p:=pV) hj h);have HT:=zH (fun h=>Ub (p:=pV) (l:=l) h);have RR:Hid ((decide (l.length<=12)&&l.all pV)=r):=zH hr;have HX:Hid (∀ j,j<l.length ->∃ x,l[j]? =some x):=zH (fun j hj=>⟨_,au hj⟩);obtain ⟨n,hN⟩:∃ n,l.length=n:=⟨_,rfl⟩;rw [hN] at h g1 HT RR HX ⊢;have HC:=zH h;clear h hN hr;have k2:(n:Int)<=cap:=by omega
 have k3:(cap:Int)<=9223372036854775807:=by omega
 go_enter func13,ntmps13
 by_cases h12:n<=12
 rotate_left
 ·have hg:(12:Int)<(n:Int):=by omega
  obtain rfl:r=false:=by rw [<-RR.o,aF h12];rfl
  clear RR h12;go_wp2_with fail
  go_ret
  exact ⟨rfl,aj _ _⟩
 rw [aI h12,aS] at RR;have hg:¬ (12:Int)<(n:Int):=by omega
 go_wp2_with fail
 go_loopw [3] (fun i wr=>∃ k:Nat,k<=n/\i= .int .i64 k/\(∀ j x,j<k ->l[j]? =some x ->pV x=true)/\Below w.heap.size w wr) (fun i _=>n-(intOf i).toNat)
 case atStart=>exact ⟨0,aL _,rfl,fun j x hj=>absurd hj (by omega),aj _ _⟩
 case round=>
  obtain ⟨k,hk,rfl,hall,hb⟩:=hrel;have HA:=zH hall;have GB:=zH hb;clear hall hb
  by_cases hlt:k<n
  ·obtain ⟨b,o,rfl,hblt,hc⟩:=HC.o (by omega)
   obtain ⟨x,hx⟩:=HX.o k hlt;obtain ⟨s,hr,hm⟩:=hc k x hx;obtain ⟨va,vn,vc,fa,fn,fc,za,zn,zc,na,nn,nc,ia,im,ic,la,ln,lc⟩:=s;obtain ⟨t1,t2,t3,t4,t5,t6,t7,t8,t9⟩:=(hr.below GB.o hblt).msg;have hm':=hm.below GB.o;have KS:=zH (fun r hr=>mshortR (u:= .agg #[.int .i64 x.2.kind,.int .i64 x.2.ticket,.bool x.2.whole,.slice va vn vc,.slice fa fn fc,.slice za zn zc,.slice na nn nc,.slice ia im ic,.slice la ln lc]) (m:=x.2) (w:=wr) ⟨_,_,_,_,_,_,rfl,hm'.v,hm'.f,hm'.z,hm'.n,hm'.i,hm'.l⟩ r hr);have xP:=zH (HF.o k x hx);have HU:Hid (pV x=true ->∀ j y,j<k+1 ->l[j]? =some y ->pV y=true):=zH (fun h j y hj hy=>by
    by_cases e:j=k
    ·rw [e,hx] at hy
     rw [<-dN hy];exact h
    ·exact HA.o j y (by omega) hy)
   have k1:(k:Int)<n:=by omega
   clear hc hr hm hm' hblt hx;obtain ⟨rs,hrs⟩:∃ r,pV x=r:=⟨_,rfl⟩;have K:=zH (KS.o rs hrs);rw [hrs] at xP HU;clear KS hrs;go_wp2_with fail
   refine K.o.mono ?_;rintro e w2 ⟨rfl,hb2⟩;have G2:=zH (GB.o.trans (hb2.mono GB.o.size));clear hb2 K t1 t2 t3 t4 t5 t6 t7 t8 t9
   cases rs
   ·have hf:=xP.o rfl
    obtain rfl:r=false:=by rw [<-RR.o];exact hf
    clear hf RR xP HU;go_wp2_with fail
    go_ret
    exact ⟨rfl,G2.o⟩
   ·have HV:=zH (HU.o rfl)
    clear xP HU;go_wp2_with fail
    go_roundw
    case rel=>exact ⟨k+1,by omega,by go_num,HV.o,G2.o⟩
    case measure=>simp [intOf];omega
  ·obtain rfl:k=n:=by omega
   obtain rfl:r=true:=by rw [<-RR.o];exact HT.o HA.o
   clear RR HF HT;go_wp2_with fail
   go_ret
   exact ⟨rfl,GB.o⟩
structure FitX(t:fI):Prop where
 deps:t.deps.length<=1000000
 effs:t.effs.length<=1000000
 seq:t.seq<=9223372036854775807
 drops:∀ e∈t.effs,e.drops.length<=1000000
 key:∀ e∈t.effs,e.key.length<=1000000
 field:∀ e∈t.effs,e.field.length<=9223372036854775807
structure MsFit(m:gu):Prop where
 v:m.vec.length<=1000000
 f:m.from_.length<=1000000
 z:FitT m.zone
 zl:m.zone.length<=1000000
 n:FitT m.want
 nl:m.want.length<=1000000
 il:m.items.length<=1000000
 i:∀ x∈m.items,x.key.length<=1000000/\x.field.length<=9223372036854775807
 tl:m.fU.length<=1000000
 t:∀ t∈m.fU,FitX t
theorem mfits_of{m:gu}(h:Au m):yt m:=
 ⟨fun x hx=>i64_in (h.2.2.2.2.1 x hx).2.1,fun t ht=>Kr (h.2.2.2.2.2 t ht)⟩
theorem Qf{l:List fI}(h:ny l=true):l.length<=24/\∀ t∈l,ny [t]=true:=by
 unfold ny at h;rw [aD,decide_eq_true_iff] at h;refine ⟨h.1,fun t ht=> ?_⟩;have:=aR.1 h.2 t ht;unfold ny;simp [this]
theorem Ht{xs:List iE}(h:nJ xs=true):FitT xs/\xs.length<=60:=by
 obtain ⟨h1,h2⟩:=zK.1 h;exact ⟨fun t ht=>by have:=h2 t ht;omega,h1⟩
structure MsSm(m:gu):Prop where
 p:yB m
 r:MsFit m
 n:yt m
 i:m.items.length<=60
 t:m.fU.length<=24
theorem Wu{m:gu}(h:wT m=true)(hok:Au m):MsSm m:=by
 obtain ⟨h1,h2,h3,h4,h5,h6⟩:=BU h;obtain ⟨k1,k2,k3,k4,k5,k6⟩:=hok;obtain ⟨z1,z2⟩:=Ht h3;obtain ⟨n1,n2⟩:=Ht h4;obtain ⟨i1,i2⟩:=wV.1 h5;obtain ⟨t1,t2⟩:=Qf h6;have ht:∀ t∈m.fU,lJ t:=fun t ht=>fitTx_of (t2 t ht) (k6 t ht)
 refine ⟨⟨by omega,by omega,by omega,by omega,by omega,fun x hx=>(k5 x hx).2.2.1,by omega,ht⟩,⟨by omega,by omega,z1,by omega,n1,by omega,by omega,fun x hx=> ?_,by omega,fun t htm=> ?_⟩,mfits_of ⟨k1,k2,k3,k4,k5,k6⟩,i1,t1⟩
 ·have:=AV.1 (i2 x hx)
  omega
 ·have hf:=ht t htm
  have hs:=t2 t htm;unfold ny mK at hs;simp only [List.all_cons,List.all_nil,Bool.and_true,aD,decide_eq_true_iff] at hs
  obtain ⟨-,-,hs⟩:=hs;obtain ⟨e1,e2⟩:=qH.1 hs;exact ⟨by have:=hf.deps;omega,by have:=hf.effs;omega,(i64_in (k6 t htm).2.1).2,fun e he=>by have:=hf.drops e he;omega,fun e he=>by have:=(nK.1 (e2 e he)).1;omega,fun e he=>by have:=(nK.1 (e2 e he)).2.1;omega⟩
theorem Qg{m:gu}(hf:fV m=true)(hi:m.items.length<=60)(ht:m.fU.length<=24):(rJ m).length<=200000:=by
 rw [yC];have:=Ud hf;omega
theorem Hu{m:gu}(hf:fV m=true)(hn:yt m):xO (rJ m)=some m:=by
 rw [yC];exact Xr hf hn
theorem Kk{b:Bytes}{m:gu}(h:xO b=some m):fV m=true/\b=rJ m/\0<b.length:=by
 obtain ⟨h1,h2,h3⟩:=mread_is h;refine ⟨h1,by rw [yC];exact h2.symm,?_⟩;rw [<-h2]
 show 0<(form m.kind.toNat++_).length
 rw [aA];have:=Ph m.kind.toNat;omega
theorem Ca(n:Int):fZ [n]=form n.toNat:=by simp [fZ]
structure xQ(g:Nat)(n:Int)(m:gu)(s:Dn)(u:World):Prop where
 b:u.heap[g]? =some (.cells (#[.int .i64 n]++lD m s) 48 (0,0))
 at_:xX m s u
section
variable {g:Nat} {n:Int} {m:gu} {s:Dn} {u u':World}
theorem xQ.lt(k:xQ g n m s u):g<u.heap.size:=(aH.1 k.b).1
theorem xQ.below(k:xQ g n m s u)(hb:Below u.heap.size u u'):xQ g n m s u':=⟨(hb.block g k.lt).trans k.b,k.at_.below hb⟩
theorem Kt{w:World}(h:xX m s w):xQ w.heap.size n m s (w.alloc (.cells (#[.int .i64 n]++lD m s) 48)):=
 ⟨aM w _,h.below (zB w _)⟩
theorem xQ.cl{va fa za na ia la:Option Addr}{vn vc fn fc zn zc nn nc im ic ln lc:Nat}(k:xQ g n m ⟨va,vn,vc,fa,fn,fc,za,zn,zc,na,nn,nc,ia,im,ic,la,ln,lc⟩ u):
  u.cell? ⟨g,0,none⟩=some (.int .i64 n)/\u.cell? ⟨g,1,none⟩=some (.int .i64 m.kind)/\u.cell? ⟨g,2,none⟩=some (.int .i64 m.ticket)/\u.cell? ⟨g,3,none⟩=some (.bool m.whole)/\u.cell? ⟨g,4,none⟩=some (.slice va vn vc)/\u.cell? ⟨g,5,none⟩=some (.slice fa fn fc)/\u.cell? ⟨g,6,none⟩=some (.slice za zn zc)/\u.cell? ⟨g,7,none⟩=some (.slice na nn nc)/\u.cell? ⟨g,8,none⟩=some (.slice ia im ic)/\u.cell? ⟨g,9,none⟩=some (.slice la ln lc):=by
 have h:=fun i=>show u.cell? ⟨g,i,none⟩=(#[Value.int .i64 n]++lD m ⟨va,vn,vc,fa,fn,fc,za,zn,zc,na,nn,nc,ia,im,ic,la,ln,lc⟩)[i]? from by simp [World.cell?,k.b]
 exact ⟨h 0,h 1,h 2,h 3,h 4,h 5,h 6,h 7,h 8,h 9⟩
theorem xQ.is{va fa za na ia la:Option Addr}{vn vc fn fc zn zc nn nc im ic ln lc:Nat}(k:xQ g n m ⟨va,vn,vc,fa,fn,fc,za,zn,zc,na,nn,nc,ia,im,ic,la,ln,lc⟩ u):pE u (.agg #[.int .i64 m.kind,.int .i64 m.ticket,.bool m.whole,.slice va vn vc,.slice fa fn fc,.slice za zn zc,.slice na nn nc,.slice ia im ic,.slice la ln lc]) m:=
 ⟨_,_,_,_,_,_,rfl,k.at_.v,k.at_.f,k.at_.z,k.at_.n,k.at_.i,k.at_.l⟩
end
theorem Hw.slices{w:World}{v:Value}{n:Int}{m:gu}(h:Hw w v n m):∃ va vn vc fa fn fc za zn zc na nn nc ia im ic la ln lc,v= .agg #[.int .i64 n,.int .i64 m.kind,.int .i64 m.ticket,.bool m.whole,.slice va vn vc,.slice fa fn fc,.slice za zn zc,.slice na nn nc,.slice ia im ic,.slice la ln lc]/\xX m ⟨va,vn,vc,fa,fn,fc,za,zn,zc,na,nn,nc,ia,im,ic,la,ln,lc⟩ w:=by
 obtain ⟨⟨va,vn,vc,fa,fn,fc,za,zn,zc,na,nn,nc,ia,im,ic,la,ln,lc⟩,e,h⟩:=h;exact ⟨va,vn,vc,fa,fn,fc,za,zn,zc,na,nn,nc,ia,im,ic,la,ln,lc,e,h⟩
def prec(n:Int)(m:gu):Bytes:=fZ [n]++rJ m
end Go.Proofs.YtfgcodcablpdcaaGreat
set_option maxRecDepth 100000
set_option maxHeartbeats 64000000
namespace Go.Proofs.YtfgcodcablpdcaaGreat
open Go.Proofs.Tryz
open Go.RowKit Plain
structure wW(w:World)(ha:Option Addr)(hn hc:Nat)(ia:Option Addr)(im ic:Nat)(u:World):Prop where
 low:Below w.heap.size w u
 sb:u.heap[w.heap.size]? =some (.cells #[.slice ha hn hc,.slice ia im ic] 28 (0,0))
 rb:∃ a n c a' n' c',u.heap[w.heap.size+1]? =some (.cells #[.slice a n c,.slice a' n' c'] 28 (0,0))
section
variable {w u u':World} {ha:Option Addr} {hn hc:Nat} {ia:Option Addr} {im ic:Nat}
theorem wW.below(k:wW w ha hn hc ia im ic u)(hb:Below u.heap.size u u'):wW w ha hn hc ia im ic u':=by
 have lt:∀ {i:Nat} {o:Obj},u.heap[i]? =some o ->u'.heap[i]? =some o:=fun {i o} h=>(hb.block i (aH.1 h).1).trans h
 obtain ⟨a,n,c,a',n',c',hr⟩:=k.rb;exact ⟨k.low.trans (hb.mono k.low.size),lt k.sb,a,n,c,a',n',c',lt hr⟩
theorem wW.two(k:wW w ha hn hc ia im ic u):Two u (w.heap.size+1):=by
 obtain ⟨a,n,c,a',n',c',hr⟩:=k.rb;exact ⟨a,n,c,a',n',c',_,hr⟩
theorem wW.set(k:wW w ha hn hc ia im ic u)(a:Option Addr)(n c:Nat)(a':Option Addr)(n' c':Nat):wW w ha hn hc ia im ic ((u.setCell ⟨w.heap.size+1,0,none⟩ (.slice a n c)).setCell ⟨w.heap.size+1,1,none⟩ (.slice a' n' c')):=by
 have hb:=qY u (w.heap.size+1) (.slice a n c) (.slice a' n' c');obtain ⟨b,m,d,b',m',d',hr⟩:=k.rb;exact ⟨(k.low.setCell (by show w.heap.size<=w.heap.size+1;omega) _).setCell (by show w.heap.size<=w.heap.size+1;omega) _,(hb.block _ (aH.1 k.sb).1 (by omega)).trans k.sb,a,n,c,a',n',c',vH hr _ _⟩
theorem wW.res(k:wW w ha hn hc ia im ic u):∃ a n c a' n' c',u.cell? ⟨w.heap.size+1,0,none⟩=some (.slice a n c)/\u.cell? ⟨w.heap.size+1,1,none⟩=some (.slice a' n' c')/\u.frozen? ⟨w.heap.size+1,0,none⟩=false/\u.frozen? ⟨w.heap.size+1,1,none⟩=false:=by
 obtain ⟨a,n,c,a',n',c',hr⟩:=k.rb;obtain ⟨⟨h0,h1⟩,h2,h3⟩:=kY hr;exact ⟨a,n,c,a',n',c',h0,h1,h2,h3⟩
theorem wW.done(k:wW w ha hn hc ia im ic u)(x y:Value):((u.setCell ⟨w.heap.size+1,0,none⟩ x).setCell ⟨w.heap.size+1,1,none⟩ y).cell? ⟨w.heap.size+1,0,none⟩=some x/\((u.setCell ⟨w.heap.size+1,0,none⟩ x).setCell ⟨w.heap.size+1,1,none⟩ y).cell? ⟨w.heap.size+1,1,none⟩=some y:=by
 obtain ⟨a,n,c,a',n',c',hr⟩:=k.rb;exact (kY (vH hr x y)).1
theorem unat_new(w:World)(ha:Option Addr)(hn hc:Nat)(ia:Option Addr)(im ic:Nat):wW w ha hn hc ia im ic ((w.alloc (.cells #[.slice ha hn hc,.slice ia im ic] 28)).alloc (.cells #[.slice none 0 0,.slice none 0 0] 28)):=by
 have z1:(w.alloc (.cells #[.slice ha hn hc,.slice ia im ic] 28)).heap.size=w.heap.size+1:=by simp
 have b1:Below (w.heap.size+1) (w.alloc (.cells #[.slice ha hn hc,.slice ia im ic] 28)) ((w.alloc (.cells #[.slice ha hn hc,.slice ia im ic] 28)).alloc (.cells #[.slice none 0 0,.slice none 0 0] 28)):=(aj _ _).alloc (by simp) _;have h1:=aM w (.cells #[.slice ha hn hc,.slice ia im ic] 28);have h2:=aM (w.alloc (.cells #[.slice ha hn hc,.slice ia im ic] 28)) (.cells #[.slice none 0 0,.slice none 0 0] 28);rw [z1] at h2;exact ⟨((aj _ _).alloc (ah _) _).alloc (by simp) _,(b1.block _ (by omega)).trans h1,_,_,_,_,_,_,h2⟩
end
def XI(w:World)(s:iP)(a:List fI)(e:Ending)(w':World):Prop:=∃ ha hn hc ia im ic ta tn tc,e= .returned (.tuple #[.agg #[.slice ha hn hc,.slice ia im ic],.slice ta tn tc])/\Sq gL (fun b=>w.heap.size<=b/\b<w'.heap.size) w' (.slice ha hn hc) s.heard/\Sq gG (fun b=>w.heap.size<=b/\b<w'.heap.size) w' (.slice ia im ic) s.items/\Sq gV (fun b=>w.heap.size<=b/\b<w'.heap.size) w' (.slice ta tn tc) a/\Below w.heap.size w w'
theorem Ue{v lv:Value}{s:iP}{l:List fI}{w:World}(hs:qV w v s)(hlv:fM gV w lv l)(hl:s.heard.length<=1000000)(hi:s.items.length<=90000)(hd:∀ x∈s.items,jf x.dot)(hn:l.length<=300)(hf:∀ t∈l,FK t):Calls prog 99 #[v,lv] w (XI w (qE s l) (kV s.heard l)):=by
 obtain ⟨ha,hm,hc,ia,im,ic,rfl,h1,h2⟩:=hs.slices;have DA:=zH (unat_new w ha hm hc ia im ic);have KE:Hid (∀ u,wW w ha hm hc ia im ic u ->wW w ha hm hc ia im ic u/\u.cell? ⟨w.heap.size,0,none⟩=some (.slice ha hm hc)/\u.cell? ⟨w.heap.size,1,none⟩=some (.slice ia im ic)):=zH (fun u k=>⟨k,(kY k.sb).1⟩);have HR:Hid (qE s l=⟨jd s.heard (kV s.heard l),nW s.items (kV s.heard l)⟩):=zH (AX (Ho s l) (Uf s l));have KF:=zH (fun u (k:wW w ha hm hc ia im ic u)=>MU (hlv.below k.low) (by omega) (fun t ht=>(hf t ht).tx));have HFW:Hid (∀ t∈oG l,Dp t):=zH (fun t ht=>by have h:=(hf t (zL.1 ht).1).tx;exact ⟨by have:=h.deps;omega,by have:=h.effs;omega,fun e he=>by have:=h.drops e he;omega,h.ok⟩);have HFL:Hid ((oG l).length<=1000000):=zH (by have:=Ku l;omega);have KT:=zH (fun u fv (k:wW w ha hm hc ia im ic u) (hs:fM gV u fv (oG l))=>Kv (gW (h1.below k.low)) hs HFL.o HFW.o hl);have KB:=zH (fun u av (k:wW w ha hm hc ia im ic u) (hs:fM gV u av (kV s.heard l))=>MV (h2.below k.low) hs (by omega) (by have:=Dq s.heard l;omega) (fun t ht=>hf t (Hy ht)) hd);have HTK:Hid (kH s.heard (oG l)=kV s.heard l):=zH rfl;rw [HTK.o] at KT;obtain ⟨la,lc,rfl,-,-,-,-⟩:=hlv.parts;rw [HR.o];clear hs hlv hl hi hd hf hn h1 h2 HR HTK HFW HFL;generalize nW s.items (kV s.heard l)=bi at*;generalize jd s.heard (kV s.heard l)=eh at*;generalize kV s.heard l=tk at*;generalize oG l=fl at*;generalize l.length=ln at*;go_enter func99,ntmps99
 go_upto_region 1 with fail
 generalize ((w.alloc _).alloc _)=w0 at*;refine wp_region_held_drew (S:=fun u'=>wW w ha hm hc ia im ic u'/\u'.cell? ⟨w.heap.size,0,none⟩=some (.slice ha hm hc)/\u'.cell? ⟨w.heap.size,1,none⟩=some (.slice ia im ic)) (by kernel_rfl) ?_ (fun hH=> ?_)
 ·(exact KE.o _ (DA.o.below (aj _ _).drew))
 simp only [zS,aJ,Nat.reduceAdd]
 refine fJ 0 hH ?_;refine fJ 1 hH ?_;refine fJ 2 hH ?_;refine rd 3 fun K hK=> ?_
 go_simp
 refine (KF.o _ hH.1).mono ?_;rintro e s1 ⟨va,rfl,ho,hb⟩;have F1:=zH ho.seq;obtain ⟨na,nc,rfl,-⟩:=ho.parts;clear ho;refine hK.out _ _ (KE.o _ (hH.1.below hb)) (fun hH=> ?_);clear hK K hb;refine rd 4 fun K hK=> ?_
 go_simp
 refine (KT.o _ _ hH.1 F1.o).mono ?_;rintro e s2 ⟨av,xv,rfl,ha2,hx2,hb⟩;have HW1:=zH hH.1.low.size;have A2:=zH (ha2.mono fun b h=>(⟨ak HW1.o h.1,h.2⟩:w.heap.size<=b/\b<s2.heap.size));have X2:=zH (hx2.mono fun b h=>(⟨ak HW1.o h.1,h.2⟩:w.heap.size<=b/\b<s2.heap.size));obtain ⟨aa,ac,rfl,-,-,-,-⟩:=ha2.seq.parts;obtain ⟨xa,xc,rfl,-,-,-,-⟩:=hx2.seq.parts;clear HW1;clear ha2 hx2 F1;refine hK.out _ _ (KE.o _ (hH.1.below hb)) (fun hH=> ?_);clear hK K hb;refine fJ 5 hH ?_;refine fJ 6 hH ?_;refine fJ 7 hH ?_;refine fJ 8 hH ?_;refine fJ 9 hH ?_;refine wpAnyH_done (by kernel_rfl) ?_ _;have D2:=zH hH.1;clear hH DA;obtain ⟨c0,c1⟩:=(kY D2.o.sb).1;have K2:=KB.o _ _ D2.o A2.o.seq;go_wp2_with fail
 refine K2.mono ?_;rintro e s3 ⟨vb,rfl,ho,hb⟩;have D3:=zH (D2.o.below hb);have A3:=zH (A2.o.later hb);have X3:=zH (X2.o.later hb);have I3:=zH ((ho.new jR).mono fun b h=>(⟨ak D2.o.low.size h.1,h.2⟩:w.heap.size<=b/\b<s3.heap.size));obtain ⟨ba,bc,rfl,-⟩:=ho.parts;clear ho hb K2 c0 c1 D2 A2 X2;obtain ⟨ra,rn,rc,ra',rn',rc',q0,q1,f0,f1⟩:=D3.o.res;have DZ:=zH (D3.o.done (.slice xa eh.length xc) (.slice ba bi.length bc));have TW:=zH D3.o.two;have N5:=zH (Sq.set2 (qY _ _ (.slice xa eh.length xc) (.slice ba bi.length bc)) (Gf TW.o X3.o));have I5:=zH (Sq.set2 (qY _ _ (.slice xa eh.length xc) (.slice ba bi.length bc)) (Qh TW.o I3.o));have A5:=zH (Sq.set2 (qY _ _ (.slice xa eh.length xc) (.slice ba bi.length bc)) (Wv TW.o A3.o));have LZ:=zH (D3.o.set xa eh.length xc ba bi.length bc).low;go_wp2_with fail
 obtain ⟨z0,z1⟩:=DZ.o;refine bodyPost_ret (v:= .tuple #[.agg #[.slice xa eh.length xc,.slice ba bi.length bc],.slice aa tk.length ac]) (by simp [results,results99,go_sem,z0,z1]) rfl ?_;exact ⟨_,_,_,_,_,_,_,_,_,rfl,N5.o,I5.o,A5.o,LZ.o⟩
end Go.Proofs.YtfgcodcablpdcaaGreat
set_option maxRecDepth 100000
set_option maxHeartbeats 64000000
namespace Go.Proofs.YtfgcodcablpdcaaGreat
open Go.Proofs.Tryz
open Go.RowKit Plain
theorem Ug(a b:iP):decide (a=b)=(decide (a.heard=b.heard)&&decide (a.items=b.items)):=by
 rw [dO,aD,decide_eq_true_iff,decide_eq_true_iff,decide_eq_true_iff];exact ⟨fun h=>by subst h;exact ⟨rfl,rfl⟩,fun ⟨h1,h2⟩=>AX h1 h2⟩
theorem stSameR{u v:Value}{a b:iP}{w:World}(hu:qV w u a)(hv:qV w v b)(r:Bool)(hr:decide (a=b)=r):Calls prog 39 #[u,v] w (fO w r):=by
 obtain ⟨ha,hn,hc,ia,im,ic,rfl,h1,h2⟩:=hu.slices;obtain ⟨ka,kn,kc,ja,jm,jc,rfl,k1,k2⟩:=hv.slices;rw [Ug] at hr;have b1:=zB w (.cells #[.slice ha hn hc,.slice ia im ic] 28);have b2:=(aj (w.alloc (.cells #[.slice ha hn hc,.slice ia im ic] 28)).heap.size (w.alloc (.cells #[.slice ha hn hc,.slice ia im ic] 28))).alloc (ah _) (.cells #[.slice ka kn kc,.slice ja jm jc] 28);have G0:=zH (b1.trans (b2.mono b1.size));have X:=zH ((Dr (s:=a) h1 h2).below b2);have Y:Hid (qp (w.heap.size+1) b ka kn kc ja jm jc ((w.alloc (.cells #[.slice ha hn hc,.slice ia im ic] 28)).alloc (.cells #[.slice ka kn kc,.slice ja jm jc] 28))):=zH (by have:=Dr (s:=b) (w:=w.alloc (.cells #[.slice ha hn hc,.slice ia im ic] 28)) (k1.below b1) (k2.below b1);rwa [show (w.alloc (.cells #[.slice ha hn hc,.slice ia im ic] 28)).heap.size=w.heap.size+1 by simp] at this);clear hu hv h1 h2 k1 k2 b1 b2;go_enter func39,ntmps39
 go_upto_region 1 with fail
 generalize ((w.alloc _).alloc _)=wb at*;obtain ⟨c0,c1⟩:=X.o.c;obtain ⟨d0,d1⟩:=Y.o.c;have KE:=qX (gW X.o.h) (gW Y.o.h)
 cases hq:decide (a.heard=b.heard) with
 |false=>
  rw [hq] at KE hr;obtain rfl:r=false:=by rw [<-hr];rfl
  go_wp2_with fail
  refine KE.mono ?_;rintro e w2 ⟨rfl,q,rfl⟩;have G2:=zH (below_drewN G0.o q);clear KE c0 c1 d0 d1;go_wp2_with fail
  go_ret
  exact ⟨rfl,G2.o⟩
 |true=>
  rw [hq] at KE hr;rw [aS] at hr;have KS:=zH (fun u (hb:Below wb.heap.size wb u)=>rsameIR (X.o.below hb).i (Y.o.below hb).i hr);have HC:=zH (fun u (hb:Below wb.heap.size wb u)=>cK (X.o.below hb).c (Y.o.below hb).c);go_wp2_with fail
  refine KE.mono ?_;rintro e w2 ⟨rfl,q,hw⟩;have hb:Below wb.heap.size wb w2:=by rw [hw];exact below_drewN (aj _ _) q
  have G2:=zH (G0.o.trans (hb.mono G0.o.size));have K2:=KS.o w2 hb;clear KE c0 c1 d0 d1 hw;obtain ⟨⟨c0,c1⟩,d0,d1⟩:=HC.o w2 hb;clear hb;go_wp2_with fail
  refine K2.mono ?_;rintro e w3 ⟨rfl,hb⟩;have G3:=zH (G2.o.trans (hb.mono G2.o.size));clear hb K2 c0 c1 d0 d1;go_wp2_with fail
  go_ret
  exact ⟨rfl,G3.o⟩
theorem Ww{l:List fI}(h:ny l=true)(hok:∀ t∈l,yD t):l.length<=24/\(∀ t∈l,FK t)/\∀ t∈l,∀ e∈t.effs,e.key.length<=300/\e.field.length<=300:=by
 unfold ny at h;rw [aD,decide_eq_true_iff] at h;have key:∀ t∈l,t.deps.length<=60/\t.effs.length<=20/\∀ e∈t.effs,qZ e=true:=fun t ht=>by
  have h1:=aR.1 h.2 t ht;unfold mK at h1;rw [aD,decide_eq_true_iff] at h1;exact ⟨h1.1,qH.1 h1.2⟩
 refine ⟨h.1,fun t ht=> ?_,fun t ht e he=> ?_⟩
 ·obtain ⟨h1,h2,h3⟩:=key t ht
  refine ⟨⟨by omega,by omega,fun e he=> ?_,hok t ht⟩,h2,fun e he=> ?_⟩
  ·have:=(nK.1 (h3 e he)).2.2.2;omega
  ·have:=(nK.1 (h3 e he)).2.2.2;omega
 ·obtain ⟨h1,h2,h3⟩:=key t ht
  have:=nK.1 (h3 e he);exact ⟨this.1,this.2.1⟩
end Go.Proofs.YtfgcodcablpdcaaGreat
set_option maxRecDepth 100000
set_option maxHeartbeats 64000000
namespace Go.Proofs.YtfgcodcablpdcaaGreat
open Go.Proofs.Tryz
open Go.RowKit Plain
theorem Kw{a b:fT}:(a.me=b.me/\a.cores=b.cores/\a.store=b.store/\a.past=b.past/\a.known=b.known)↔a=b:=⟨fun ⟨h1,h2,h3,h4,h5⟩=>zJ h1 h2 h3 h4 h5,fun e=>by subst e;exact ⟨rfl,rfl,rfl,rfl,rfl⟩⟩
instance:DecidableEq fT:=fun a b=>decidable_of_iff _ Kw
theorem Uh(a b:fT):decide (a=b)=(decide (a.me=b.me)&&(decide (a.cores=b.cores)&&(decide (a.store=b.store)&&(decide (a.past=b.past)&&decide (a.known=b.known))))):=by
 rw [dO];simp only [aD,decide_eq_true_iff]
 exact Kw.symm
theorem XJ{w:World}{a b:fT}{x:pQ}{y:pQ}(h1:nE (· <w.heap.size) a x w)(h2:nE (· <w.heap.size) b y w):
  Below w.heap.size w ((w.alloc (.cells (fP a x) 34)).alloc (.cells (fP b y) 34))/\nu w.heap.size a x ((w.alloc (.cells (fP a x) 34)).alloc (.cells (fP b y) 34))/\nu (w.heap.size+1) b y ((w.alloc (.cells (fP a x) 34)).alloc (.cells (fP b y) 34)):=by
 have b1:=zB w (.cells (fP a x) 34);have b2:=(aj (w.alloc (.cells (fP a x) 34)).heap.size (w.alloc (.cells (fP a x) 34))).alloc (ah _) (.cells (fP b y) 34);refine ⟨b1.trans (b2.mono b1.size),(mX h1).below b2,?_⟩;have:=mX (c:=b) (s:=y) (w:=w.alloc (.cells (fP a x) 34)) (h2.below b1)
 rwa [show (w.alloc (.cells (fP a x) 34)).heap.size=w.heap.size+1 by simp] at this
theorem vecs_eq{xs ys:List Ints}(h:xs.length=ys.length)(e:∀ j,j<xs.length ->xs.getD j default=ys.getD j default):xs=ys:=by
 apply bT h
 intro i h1 h2;have:=e i h1
 simpa [List.getD,List.getElem?_eq_getElem h1,List.getElem?_eq_getElem h2] using this
theorem Wx{u v:Value}{a b:fT}{w:World}(hu:kK w u a)(hv:kK w v b)(hal:a.past.list.length<=1000000)(hkl:a.known.length<=1000000)(r:Bool)(hr:decide (a=b)=r):Calls prog 11 #[u,v] w (fO w r):=by
 obtain ⟨ha,hn,hc,ia,im,ic,fa,fn,fc,la,ln,lc,ka,kn,kc,rfl,h1⟩:=hu.slices;obtain ⟨qha,qhn,qhc,qia,qim,qic,qfa,qfn,qfc,qla,qln,qlc,qka,qkn,qkc,rfl,h2⟩:=hv.slices;rw [Uh] at hr;have HR:=zH hr;obtain ⟨g0,x0,y0⟩:=XJ h1 h2;have k1:=fM.iY (L:=oM) (show fM oM w (.slice ka kn kc) a.known from h1.k);have k2:=fM.iY (L:=oM) (show fM oM w (.slice qka qkn qkc) b.known from h2.k);have G:=zH g0;have X:=zH x0;have Y:=zH y0;have LA:=zH k1.1;have LB:=zH k2.1;have i1:(kn:Int)<=kc:=by omega
 have i2:(kc:Int)<=9223372036854775807:=by omega
 have i3:(qkn:Int)<=qkc:=by omega
 have i4:(qkc:Int)<=9223372036854775807:=by omega
 have i5:(kn:Int)<=1000000:=by omega
 unfold fP at G X Y;clear hu hv h1 h2 hr g0 x0 y0 k1 k2;go_enter func11,ntmps11
 go_upto_region 1 with fail
 generalize ((w.alloc _).alloc _)=wb at*;obtain ⟨c0,c1,c2,c3,c4,c5,c6⟩:=X.o.cl;obtain ⟨d0,d1,d2,d3,d4,d5,d6⟩:=Y.o.cl
 by_cases e1:a.me=b.me
 rotate_left
 ·have f1:(a.me !=b.me)=true:=bne_iff_ne.2 e1
  obtain rfl:r=false:=by rw [<-HR.o,aF e1];rfl
  clear HR e1;go_wp2_with fail
  go_ret
  exact ⟨rfl,G.o⟩
 have f1:(a.me !=b.me)=false:=by rw [bne_eq_false_iff_eq];exact e1
 rw [aI e1,aS] at HR;clear e1
 by_cases e2:a.cores=b.cores
 rotate_left
 ·have f2:(a.cores !=b.cores)=true:=bne_iff_ne.2 e2
  obtain rfl:r=false:=by rw [<-HR.o,aF e2];rfl
  clear HR e2;go_wp2_with fail
  go_ret
  exact ⟨rfl,G.o⟩
 have f2:(a.cores !=b.cores)=false:=by rw [bne_eq_false_iff_eq];exact e2
 rw [aI e2,aS] at HR;clear e2;obtain ⟨rs,hrs⟩:∃ r,decide (a.store=b.store)=r:=⟨_,rfl⟩;obtain ⟨rp,hrp⟩:∃ r,decide (a.past=b.past)=r:=⟨_,rfl⟩;rw [hrs,hrp] at HR;have KS:=zH (stSameR (a:=a.store) (b:=b.store) ⟨_,_,rfl,X.o.seq.h,X.o.seq.i⟩ ⟨_,_,rfl,Y.o.seq.h,Y.o.seq.i⟩ rs hrs);have KP:=zH (fun u (hb:Below wb.heap.size wb u)=>paSameR (a:=a.past) (b:=b.past) ⟨_,_,rfl,(X.o.below hb).seq.f,(X.o.below hb).seq.l⟩ ⟨_,_,rfl,(Y.o.below hb).seq.f,(Y.o.below hb).seq.l⟩ hal rp hrp);clear hrs hrp;go_wp2_with fail
 refine KS.o.mono ?_;rintro e w2 ⟨rfl,hb⟩;have K2:=zH (KP.o w2 hb);replace X:=zH (X.o.below hb);replace Y:=zH (Y.o.below hb);replace G:=zH (G.o.trans (hb.mono G.o.size));clear KS KP hb c0 c1 c2 c3 c4 c5 c6 d0 d1 d2 d3 d4 d5 d6;obtain ⟨c0,c1,c2,c3,c4,c5,c6⟩:=X.o.cl;obtain ⟨d0,d1,d2,d3,d4,d5,d6⟩:=Y.o.cl
 cases rs with
 |false=>
  obtain rfl:r=false:=by rw [<-HR.o];rfl
  clear HR K2;go_wp2_with fail
  go_ret
  exact ⟨rfl,G.o⟩
 |true=>
 rw [aS] at HR;go_wp2_with fail
 refine K2.o.mono ?_;rintro e w3 ⟨rfl,hb⟩;replace X:=zH (X.o.below hb);replace Y:=zH (Y.o.below hb);replace G:=zH (G.o.trans (hb.mono G.o.size));clear K2 hb c0 c1 c2 c3 c4 c5 c6 d0 d1 d2 d3 d4 d5 d6;obtain ⟨c0,c1,c2,c3,c4,c5,c6⟩:=X.o.cl;obtain ⟨d0,d1,d2,d3,d4,d5,d6⟩:=Y.o.cl
 cases rp with
 |false=>
  obtain rfl:r=false:=by rw [<-HR.o];rfl
  clear HR;go_wp2_with fail
  go_ret
  exact ⟨rfl,G.o⟩
 |true=>
 rw [aS] at HR
 by_cases e3:kn=qkn
 rotate_left
 ·have f3:((kn:Int) !=(qkn:Int))=true:=bne_iff_ne.2 (by omega)
  obtain rfl:r=false:=by rw [<-HR.o];exact aF fun h=>e3 (by rw [<-LA.o,<-LB.o,h])
  clear HR e3;go_wp2_with fail
  go_ret
  exact ⟨rfl,G.o⟩
 subst e3;have f3:((kn:Int) !=(kn:Int))=false:=by simp
 go_wp2_with fail
 clear c0 c1 c2 c3 c4 c5 c6 d0 d1 d2 d3 d4 d5 d6
 go_loopw [5] (fun i wr=>∃ k:Nat,k<=kn/\i= .int .i64 k/\(∀ j,j<k ->a.known.getD j default=b.known.getD j default)/\Below w3.heap.size w3 wr) (fun i _=>kn-(intOf i).toNat)
 case atStart=>exact ⟨0,aL _,rfl,fun j hj=>absurd hj (Nat.not_lt_zero _),aj _ _⟩
 case round=>
  obtain ⟨k,hk,rfl,h1,h2⟩:=hrel;have A1:=zH h1;have GB:=zH h2;have XR:=zH (X.o.below h2);have YR:=zH (Y.o.below h2);have GR:=zH (G.o.trans (h2.mono G.o.size));clear h1 h2;obtain ⟨c0,c1,c2,c3,c4,c5,c6⟩:=XR.o.cl;obtain ⟨d0,d1,d2,d3,d4,d5,d6⟩:=YR.o.cl
  by_cases hlt:k<kn
  ·obtain ⟨xb,xo,xc,e4,-,hx⟩:=sS XR.o.seq.k (fun b hb=>hb) (by rw [LA.o];omega)
   obtain ⟨yb,yo,yc,e5,-,hy⟩:=sS YR.o.seq.k (fun b hb=>hb) (by rw [LB.o];omega);simp only [aC] at e4 e5
   obtain ⟨rfl,-,rfl⟩:=e4;obtain ⟨rfl,-,rfl⟩:=e5;obtain ⟨da,dn,dc,hd,sd⟩:=hx k (by rw [LA.o];exact hlt);obtain ⟨ea,en,ec,he,se⟩:=hy k (by rw [LB.o];exact hlt);have xlt:=aG wr ⟨xb,xo+k,none⟩ hd;have ylt:=aG wr ⟨yb,yo+k,none⟩ he;have SD:=zH sd;have SE:=zH se;have CX:=zH hd;have CY:=zH he;have XL:=zH xlt;have YL:=zH ylt;have AN:Hid (a.known.getD k default=b.known.getD k default ->∀ j,j<k+1 ->a.known.getD j default=b.known.getD j default):=zH (fun e j hj=>by
    by_cases c:j=k
    ·rw [c];exact e
    ·exact A1.o j (by omega))
   have AF:Hid (¬ a.known.getD k default=b.known.getD k default ->decide (a.known=b.known)=false):=zH (fun e=>aF fun h=>e (by rw [h]));clear hx hy hd he sd se xlt ylt;have KE:Hid (∀ u,Below wr.heap.size wr u ->Below wr.heap.size wr u/\u.cell? ⟨w.heap.size,6,none⟩=some (.slice (some ⟨xb,xo,none⟩) kn kc)/\u.cell? ⟨w.heap.size+1,6,none⟩=some (.slice (some ⟨yb,yo,none⟩) kn qkc)/\u.cell? ⟨xb,xo+k,none⟩=some (.slice da dn dc)/\u.cell? ⟨yb,yo+k,none⟩=some (.slice ea en ec)):=zH (fun u hb=>⟨hb,(XR.o.below hb).cl.2.2.2.2.2.2,(YR.o.below hb).cl.2.2.2.2.2.2,(hb.cell (p:=⟨xb,xo+k,none⟩) XL.o).trans CX.o,(hb.cell (p:=⟨yb,yo+k,none⟩) YL.o).trans CY.o⟩);obtain ⟨rq,hrq⟩:∃ r,decide (a.known.getD k default=b.known.getD k default)=r:=⟨_,rfl⟩;have KQ:=zH (fun u (hb:Below wr.heap.size wr u)=>equalR (fM.below (L:=gL) SD.o hb) (fM.below (L:=gL) SE.o hb) hrq);have RQ:=zH hrq;have k1:(k:Int)<kn:=by omega
   clear hrq;go_upto_region 6 with fail
   clear c0 c1 c2 c3 c4 c5 c6 d0 d1 d2 d3 d4 d5 d6;refine wp_region_held_drew (S:=fun u'=>Below wr.heap.size wr u'/\u'.cell? ⟨w.heap.size,6,none⟩=some (.slice (some ⟨xb,xo,none⟩) kn kc)/\u'.cell? ⟨w.heap.size+1,6,none⟩=some (.slice (some ⟨yb,yo,none⟩) kn qkc)/\u'.cell? ⟨xb,xo+k,none⟩=some (.slice da dn dc)/\u'.cell? ⟨yb,yo+k,none⟩=some (.slice ea en ec)) (by kernel_rfl) ?_ (fun hH=> ?_)
   ·(exact KE.o _ (aj _ _).drew)
   simp only [zS,aJ,Nat.reduceAdd]
   refine fJ 0 hH ?_;refine fJ 1 hH ?_;refine fJ 2 hH ?_;refine fJ 3 hH ?_;refine fJ 4 hH ?_;refine fJ 5 hH ?_;refine fJ 6 hH ?_;refine fJ 7 hH ?_;refine fJ 8 hH ?_;refine fJ 9 hH ?_;refine rd 10 fun K hK=> ?_
   go_simp
   refine (KQ.o _ hH.1).mono ?_;rintro e s1 ⟨rfl,hb⟩;refine hK.out _ _ (KE.o _ (iM hH hb)) (fun hH=> ?_);clear hK K hb;refine fJ 11 hH ?_;refine wpAnyH_done (by kernel_rfl) ?_ _;have hb:Below wr.heap.size wr s1:=hH.1;have GZ:=zH (GB.o.trans (hb.mono GB.o.size));have GF:=zH (GR.o.trans (hb.mono GR.o.size));clear hH hb KE KQ
   cases rq
   ·have HF:=zH (AF.o (of_decide_eq_false RQ.o))
    obtain rfl:r=false:=by rw [<-HR.o,HF.o]
    clear HR HF;go_wp2_with fail
    go_ret
    exact ⟨rfl,GF.o⟩
   ·have HA:=zH (AN.o (bR RQ.o))
    go_wp2_with fail
    go_roundw
    case rel=>exact ⟨k+1,by omega,by go_num,HA.o,GZ.o⟩
    case measure=>simp [intOf];omega
  ·obtain rfl:k=kn:=by omega
   obtain rfl:r=true:=by rw [<-HR.o];exact aI (vecs_eq (LA.o.trans LB.o.symm) fun j hj=>A1.o j (by rw [<-LA.o];exact hj))
   clear HR;go_wp2_with fail
   go_ret
   exact ⟨rfl,GR.o⟩
end Go.Proofs.YtfgcodcablpdcaaGreat