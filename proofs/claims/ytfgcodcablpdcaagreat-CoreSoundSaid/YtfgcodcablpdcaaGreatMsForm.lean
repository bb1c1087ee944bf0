import Derived.Test.YtfgcodcablpdcaaGreatMsPutP
import Derived.Test.YtfgcodcablpdcaaGreatMsReadP
set_option linter.unusedVariables false
set_option maxRecDepth 100000
set_option maxHeartbeats 64000000
namespace Go.Proofs.YtfgcodcablpdcaaGreat
open Go.Proofs.Tryz
open Go.RowKit Plain
theorem flag_in(b:Bool):0<=rX b/\rX b<=1:=by cases b<;>simp [rX]
theorem LU{ns:List iE}(h:∀ n∈ns,n.length<=16):(iT ns).length<=24*ns.length:=j6 _ 24 ns fun n hn=>by have:=h n hn;rw [aA,oI];have:=gP n.length (by omega);omega
theorem Ac{α:Type}[Inhabited α](f:α ->Bytes)(c:Nat)(l:List α)(h:∀ x∈l,(f x).length<=c)(k:Nat):((l.take k).flatMap f).length<=c*l.length:=
 ak (j6 f c (l.take k) fun x hx=>h x (bO hx)) (eO _ (by rw [aO];omega))
theorem YK{v:Value}{m:gu}{w:World}(hv:pE w v m)(hf:fV m=true)(hn:yt m)(hil:m.items.length<=32768)(htl:m.fU.length<=4096)(hft:∀ t∈m.fU,lJ t):
  Calls prog 55 #[v] w (jM w.heap.size w (.slice none 0 0) (rJ m)):=by
 obtain ⟨va,vn,vc,fa,fn,fc,za,zn,zc,na,nn,nc,ia,im,ic,la,ln,lc,rfl,H⟩:=hv.slices;have F:=kJ.1 hf;have RK:=zH (yg F.uses);have RT:=zH (show 0<=m.ticket/\m.ticket<=1073741824 from ⟨F.t0,F.t1⟩);have RF:=zH (flag_in m.whole);have hba:=zB w (.cells #[.int .i64 m.kind,.int .i64 m.ticket,.bool m.whole,.slice va vn vc,.slice fa fn fc,.slice za zn zc,.slice na nn nc,.slice ia im ic,.slice la ln lc] 46);have X:=zH (mW H);have ZB:Hid (w.heap.size<=(w.alloc (.cells #[.int .i64 m.kind,.int .i64 m.ticket,.bool m.whole,.slice va vn vc,.slice fa fn fc,.slice za zn zc,.slice na nn nc,.slice ia im ic,.slice la ln lc] 46)).heap.size):=zH hba.size;have ZS:Hid (w.heap.size<(w.alloc (.cells #[.int .i64 m.kind,.int .i64 m.ticket,.bool m.whole,.slice va vn vc,.slice fa fn fc,.slice za zn zc,.slice na nn nc,.slice ia im ic,.slice la ln lc] 46)).heap.size):=zH (by simp);have GW:Hid (Grow w.heap.size w (.slice none 0 0) (w.alloc (.cells #[.int .i64 m.kind,.int .i64 m.ticket,.bool m.whole,.slice va vn vc,.slice fa fn fc,.slice za zn zc,.slice na nn nc,.slice ia im ic,.slice la ln lc] 46)) (.slice none 0 0)):=zH ((Grow.refl _ w _).keep hba (ah _));have HBW:Hid (∀ W u,Grow w.heap.size (w.alloc (.cells #[.int .i64 m.kind,.int .i64 m.ticket,.bool m.whole,.slice va vn vc,.slice fa fn fc,.slice za zn zc,.slice na nn nc,.slice ia im ic,.slice la ln lc] 46)) (.slice none 0 0) W u ->Below w.heap.size w W):=zH (fun W u h=>hba.trans h.below);have VV:=zH (qA F.vec);have VF:=zH (qA F.from_);have VZ:=zH (rH F.zone);have VN:=zH (rH F.want);have HI:=zH (fun x (hx:x∈m.items)=>putI_of (tK (F.items x hx)).1 (hn.1 x hx));have HIL:=zH (fun x (hx:x∈m.items)=>(show (pI x).length<=144 from by rw [LJ];exact GV (tK (F.items x hx)).1));have HT:=zH F.fU;have HTL:=zH (fun t (ht:t∈m.fU)=>Eb (F.fU t ht));have HFT:=zH hft;have D1:Hid (m.vec.length=vn):=zH H.v.iY.1;have D2:Hid (m.from_.length=fn):=zH H.f.iY.1;have D3:Hid (m.zone.length=zn):=zH H.z.iY.1;have D4:Hid (m.want.length=nn):=zH H.n.iY.1;have D5:Hid (m.items.length=im):=zH H.i.iY.1;have D6:Hid (m.fU.length=ln):=zH H.l.iY.1;have B5:Hid (im<=ic/\ic<=9223372036854775807):=zH H.i.iY.2;have B6:Hid (ln<=lc/\lc<=9223372036854775807):=zH H.l.iY.2;have SV:Hid (fM gL w (.slice va vn vc) m.vec):=zH H.v;have SF:Hid (fM gL w (.slice fa fn fc) m.from_):=zH H.f;have SZ:Hid (fM qP w (.slice za zn zc) m.zone):=zH (WR H.z);have SN:Hid (fM qP w (.slice na nn nc) m.want):=zH (WR H.n);have SI:Hid (fM gG w (.slice ia im ic) m.items):=zH H.i;have ST:Hid (fM gV w (.slice la ln lc) m.fU):=zH H.l;have HPM:Hid (rJ m=fZ [m.kind,m.ticket,rX m.whole]++[m.vec,m.from_].flatMap Bn++[m.zone,m.want].flatMap uh++fZ [(m.items.length:Int)]++m.items.flatMap pI++fZ [(m.fU.length:Int)]++m.fU.flatMap kC.put):=zH (by simp [rJ,List.append_assoc]);clear hv H F hf hn hba hft;replace hil:=zH hil;replace htl:=zH htl;go_enter func55,ntmps55
 go_upto_region 1 with fail
 generalize (w.alloc _)=u0 at*;have C0:=zH X.o.c;have CT:Hid (∀ U u,Grow w.heap.size u0 (.slice none 0 0) U u ->U.cell? ⟨w.heap.size,0,none⟩=some (.int .i64 m.kind)/\U.cell? ⟨w.heap.size,1,none⟩=some (.int .i64 m.ticket)/\U.cell? ⟨w.heap.size,2,none⟩=some (.bool m.whole)/\U.cell? ⟨w.heap.size,3,none⟩=some (.slice va vn vc)/\U.cell? ⟨w.heap.size,4,none⟩=some (.slice fa fn fc)/\U.cell? ⟨w.heap.size,5,none⟩=some (.slice za zn zc)/\U.cell? ⟨w.heap.size,6,none⟩=some (.slice na nn nc)/\U.cell? ⟨w.heap.size,7,none⟩=some (.slice ia im ic)/\U.cell? ⟨w.heap.size,8,none⟩=some (.slice la ln lc)):=zH (fun U u h=>by
  have hb:=h.kept w.heap.size ZS.o (by simp [Value.ownBlock]);obtain ⟨c0,c1,c2,c3,c4,c5,c6,c7,c8⟩:=C0.o;exact ⟨(aQ (a:=⟨w.heap.size,0,none⟩) hb).trans c0,(aQ (a:=⟨w.heap.size,1,none⟩) hb).trans c1,(aQ (a:=⟨w.heap.size,2,none⟩) hb).trans c2,(aQ (a:=⟨w.heap.size,3,none⟩) hb).trans c3,(aQ (a:=⟨w.heap.size,4,none⟩) hb).trans c4,(aQ (a:=⟨w.heap.size,5,none⟩) hb).trans c5,(aQ (a:=⟨w.heap.size,6,none⟩) hb).trans c6,(aQ (a:=⟨w.heap.size,7,none⟩) hb).trans c7,(aQ (a:=⟨w.heap.size,8,none⟩) hb).trans c8⟩)
 have G0:=zH (Grow.refl w.heap.size u0 (.slice none 0 0));have GD:Hid (Grow w.heap.size u0 (.slice none 0 0) u0.drew (.slice none 0 0)):=zH (G0.o.keep (aj _ _).drew ZB.o);have GA:Hid (Grow w.heap.size u0 (.slice none 0 0) ((u0.alloc (.cells #[.int .i64 m.kind,.int .i64 m.ticket,.int .i64 (rX m.whole)] 3)).drew) (.slice none 0 0)):=zH (G0.o.keep ((aj _ _).alloc (ah _) _).drew ZB.o);have C3:Hid (∀ U u,Grow w.heap.size u0 (.slice none 0 0) U u ->U.cell? ⟨w.heap.size,0,none⟩=some (.int .i64 m.kind)/\U.cell? ⟨w.heap.size,1,none⟩=some (.int .i64 m.ticket)/\U.cell? ⟨w.heap.size,2,none⟩=some (.bool m.whole)):=zH (fun U u h=>⟨(CT.o U u h).1,(CT.o U u h).2.1,(CT.o U u h).2.2.1⟩);have LL1:=iU (ns:=[m.kind,m.ticket,rX m.whole]) (by intro n hn;simp at hn;have:=RK.o;have:=RT.o;have:=RF.o;omega);simp only [aZ,bf] at LL1
 have K1:Hid (Calls prog 125 #[.slice none 0 0,.slice (some ⟨u0.heap.size,0,none⟩) 3 3] ((u0.alloc (.cells #[.int .i64 m.kind,.int .i64 m.ticket,.int .i64 (rX m.whole)] 3)).drew) (jM w.heap.size ((u0.alloc (.cells #[.int .i64 m.kind,.int .i64 m.ticket,.int .i64 (rX m.whole)] 3)).drew) (.slice none 0 0) ([]++fZ [m.kind,m.ticket,rX m.whole]))):=zH (nS (By.jv.nil _ _) (by have:=ZB.o;simp;omega) (Sq.agree (l9 u0 #[.int .i64 m.kind,.int .i64 m.ticket,.int .i64 (rX m.whole)] [m.kind,m.ticket,rX m.whole] (.slice none 0 0) rfl (by simp) (by simp [Value.ownBlock])) (fun b _=>rfl)) (fun b hb=>hb) (by intro n hn;simp at hn;have:=RK.o;have:=RT.o;have:=RF.o;omega) (by simp));rw [bJ] at K1;refine wp_region_held_drew (S:=fun u'=>u'.cell? ⟨w.heap.size,0,none⟩=some (.int .i64 m.kind)/\u'.cell? ⟨w.heap.size,1,none⟩=some (.int .i64 m.ticket)/\u'.cell? ⟨w.heap.size,2,none⟩=some (.bool m.whole)) (by kernel_rfl) ?_ (fun hH=> ?_)
 ·(exact C3.o _ _ GD.o)
 simp only [zS,aJ,Nat.reduceAdd]
 refine fJ 0 hH ?_;refine fJ 1 hH ?_;refine fJ 2 hH ?_;refine fJ 3 hH ?_;refine fJ 4 hH ?_;refine fJ 5 hH ?_;refine rd 6 fun K hK=> ?_
 go_simp
 refine (YM _ _).mono ?_;rintro e s1 ⟨rfl,rfl⟩;refine hK.out _ _ hH (fun hH=> ?_);clear hK K;refine rd 7 fun K hK=> ?_
 go_simp
 refine hK.out _ _ (C3.o _ _ GA.o) (fun hH=> ?_);clear hK K;refine rd 8 fun K hK=> ?_
 go_simp
 refine K1.o.mono ?_;rintro e u1 ⟨v',rfl,ho,hg⟩;have G1:=zH (GA.o.trans hg);refine hK.out _ _ (C3.o _ _ G1.o) (fun hH=> ?_);clear hK K;obtain ⟨a1,c1,rfl,-,-,-,-⟩:=ho.parts;have O1:=zH ho;have YL:(fZ [m.kind,m.ticket,rX m.whole]).length<=24:=by omega
 clear ho hg K1 LL1;generalize hn:(fZ [m.kind,m.ticket,rX m.whole]).length=n1 at*;generalize hY:fZ [m.kind,m.ticket,rX m.whole]=Y1 at*;have N1:Hid (Y1.length<=24):=zH (by rw [hn];exact YL);have E1:=zH hY.symm;clear hn hY YL;refine fJ 9 hH ?_;refine wpAnyH_done (by kernel_rfl) ?_ _;clear hH;obtain ⟨e0,e1,e2,e3,e4,e5,e6,e7,e8⟩:=CT.o _ _ G1.o;have GR1:Hid (Grow w.heap.size u1 (.slice a1 n1 c1) (u1.alloc (.cells #[.slice va vn vc,.slice fa fn fc] 25)) (.slice a1 n1 c1)):=zH ((Grow.refl _ u1 _).keep ((aj _ _).alloc (ah _) _) (by have:=G1.o.size;have:=ZB.o;omega));have OR1:=zH (O1.o.alloc (.cells #[.slice va vn vc,.slice fa fn fc] 25));have ZR1:Hid (u1.heap.size<(u1.alloc (.cells #[.slice va vn vc,.slice fa fn fc] 25)).heap.size):=zH (by simp);have NR1:Hid ((Value.slice a1 n1 c1).ownBlock≠some u1.heap.size):=zH (fun e=>by have:=(O1.o.lt _ e).2;omega);have CR0:Hid ((u1.alloc (.cells #[.slice va vn vc,.slice fa fn fc] 25)).cell? ⟨u1.heap.size,0,none⟩=some (.slice va vn vc)/\(u1.alloc (.cells #[.slice va vn vc,.slice fa fn fc] 25)).cell? ⟨u1.heap.size,1,none⟩=some (.slice fa fn fc)):=zH ⟨by simp,by simp⟩;go_upto_region 3 with fail
 clear e0 e1 e2 e3 e4 e5 e6 e7 e8;generalize (u1.alloc _)=r1 at*;generalize hrb:u1.heap.size=rb1 at*;clear hrb;have CR1:Hid (∀ U u,Grow w.heap.size r1 (.slice a1 n1 c1) U u ->U.cell? ⟨rb1,0,none⟩=some (.slice va vn vc)/\U.cell? ⟨rb1,1,none⟩=some (.slice fa fn fc)):=zH (fun U u h=>by
  have hb:=h.kept rb1 ZR1.o NR1.o;exact ⟨(aQ (a:=⟨rb1,0,none⟩) hb).trans CR0.o.1,(aQ (a:=⟨rb1,1,none⟩) hb).trans CR0.o.2⟩)
 clear CR0;have GT1:=zH (fun U u (h:Grow w.heap.size r1 (.slice a1 n1 c1) U u)=>(G1.o.trans GR1.o).trans h);have CB:=zH (fun k (hk:k<[m.vec,m.from_].length)=>jW Bn [m.vec,m.from_] (k:=k) hk);obtain ⟨P,hP⟩:∃ P:Nat ->Bytes,P=fun k=>([m.vec,m.from_].take k).flatMap Bn:=⟨_,rfl⟩
 have PS:Hid (∀ k,k<2 ->P (k+1)=P k++Bn ([m.vec,m.from_].getD k default)):=zH (fun k hk=>by rw [hP];exact CB.o k hk);have P0:Hid (P 0=[]):=zH (by rw [hP];rfl);have PN:Hid (P 2=[m.vec,m.from_].flatMap Bn):=zH (by rw [hP];rfl);have PL:Hid (∀ k,(P k).length<=144):=zH (fun k=>by
  rw [hP];refine ak (Ac Bn 72 [m.vec,m.from_] (fun x hx=> ?_) k) (by simp);simp only [bL,dU,or_false] at hx
  unfold Bn;rw [aA]
  rcases hx with rfl|rfl
  ·have h1:=iU (ns:=[((m.vec).length:Int)]) (by intro n hn;simp at hn;have:=VV.o.1;omega)
   have h2:=iU (ns:=m.vec) (fun n h=>by have:=VV.o.2.2 n h;omega);have:=VV.o.1;simp only [aZ,bf] at h1
   omega
  ·have h1:=iU (ns:=[((m.from_).length:Int)]) (by intro n hn;simp at hn;have:=VF.o.1;omega)
   have h2:=iU (ns:=m.from_) (fun n h=>by have:=VF.o.2.2 n h;omega);have:=VF.o.1;simp only [aZ,bf] at h1
   omega)
 clear hP CB
 go_loopw [3,29] (fun z i wr=>∃ k:Nat,k<=2/\i= .int .i64 k/\By.jv w.heap.size wr z (Y1++P k)/\Grow w.heap.size r1 (.slice a1 n1 c1) wr z) (fun _ i _=>2-(intOf i).toNat)
 case atStart=>exact ⟨0,aL _,rfl,by rw [P0.o,aV];exact OR1.o,Grow.refl _ _ _⟩
 case round=>
  obtain ⟨k,hk,rfl,ho,hg⟩:=hrel;have HO:=zH ho;have HG:=zH hg;clear ho hg
  by_cases hlt:k<2
  ·have PK:=zH (PS.o k hlt)
   have LK:=zH (PL.o k);have ZW:Hid (w.heap.size<=wr.heap.size):=zH (by have:=(GT1.o _ _ HG.o).size;have:=ZB.o;omega);obtain ⟨xa,xn,xc,xs,hcell,hseq,hxs,hx8,hxn,hxr⟩:∃ (xa:Option Addr) (xn xc:Nat) (xs:Ints),wr.cell? ⟨rb1,k,none⟩=some (.slice xa xn xc)/\Sq gL (· <w.heap.size) w (.slice xa xn xc) xs/\P (k+1)=P k++Bn xs/\xs.length<=8/\xs.length=xn/\(∀ n∈xs,0<=n/\n<=1073741824):=by
    have hc:=CR1.o _ _ HG.o;have hq:k=0\/k=1:=by omega
    rcases hq with rfl|rfl
    ·exact ⟨_,_,_,_,hc.1,SV.o,PK.o,VV.o.1,D1.o,VV.o.2.2⟩
    ·exact ⟨_,_,_,_,hc.2,SF.o,PK.o,VF.o.1,D2.o,VF.o.2.2⟩
   have XS:=zH hseq;have XP:=zH hxs;have X8:Hid (xn<=8):=zH (by omega);have XR:=zH hxr;have XN:=zH hxn;clear hseq hxs hx8 hxr hxn PK;obtain ⟨za',zc',rfl,-,-,-,-⟩:=HO.o.parts;generalize hzl:(Y1++P k).length=zl at*;have ZL:Hid (zl<=24+144):=zH (by rw [<-hzl,aA];have:=N1.o;have:=LK.o;omega);generalize hYQ:Y1++P k=YQ at*;have EQ:=zH hYQ.symm;have LQ:Hid (YQ.length=zl):=zH hzl;clear hzl hYQ LK;have K5:Hid (Calls prog 125 #[.slice za' zl zc',.slice (some ⟨wr.heap.size,0,none⟩) 1 1] (wr.alloc (.cells #[.int .i64 (xn:Int)] 3)) (jM w.heap.size (wr.alloc (.cells #[.int .i64 (xn:Int)] 3)) (.slice za' zl zc') (YQ++fZ [(xn:Int)]))):=zH (nS (HO.o.alloc _) (by have:=ZW.o;simp;omega) (l9 wr #[.int .i64 (xn:Int)] [(xn:Int)] (.slice za' zl zc') rfl (by simp) (fun k hk=>(HO.o.lt k hk).2)) (fun b hb=>hb) (by intro n hn;simp at hn;have:=X8.o;omega) (by have:=ZL.o;have:=LQ.o;simp;omega));have LL5:=iU (ns:=[(xn:Int)]) (by intro n hn;simp at hn;have:=X8.o;omega);simp only [aZ,bf] at LL5
   have k1:(k:Int)<2:=by omega
   go_wp2_with fail
   refine K5.o.mono ?_;rintro e u5 ⟨v',rfl,ho,hg⟩;have G5:=zH ((HG.o.keep ((aj _ _).alloc (ah _) _) (by have:=(GR1.o.size);have:=G1.o.size;have:=ZB.o;omega)).trans hg);obtain ⟨a5,c5,rfl,-,-,-,-⟩:=ho.parts;have O5:=zH ho;clear ho hg K5 hcell;have YL:(YQ++fZ [(xn:Int)]).length<=24+144+8:=by rw [aA];have:=ZL.o;have:=LQ.o;omega
   clear LL5;generalize hn5:(YQ++fZ [(xn:Int)]).length=n5 at*;generalize hY5:YQ++fZ [(xn:Int)]=Y5 at*;have E5:=zH hY5.symm;have N5:Hid (Y5.length<=24+144+8):=zH (by rw [hn5];exact YL);clear hn5 hY5 YL;have Z5:Hid (w.heap.size<=u5.heap.size):=zH (by have:=(GT1.o _ _ G5.o).size;have:=ZB.o;omega);have K6:Hid (Calls prog 125 #[.slice a5 n5 c5,.slice xa xn xc] u5 (jM w.heap.size u5 (.slice a5 n5 c5) (Y5++fZ xs))):=zH (nS O5.o Z5.o (Q:=(· <w.heap.size)) (XS.o.agree fun b hb=>(HBW.o _ _ (GT1.o _ _ G5.o)).block b hb) (fun b hb=>⟨by have:=Z5.o;omega,fun e=>by have:=(O5.o.lt _ e).1;omega⟩) (fun n h=>by have:=XR.o n h;omega) (by have:=N5.o;have:=X8.o;have:=XN.o;omega));go_wp2_with fail
   refine K6.o.mono ?_;rintro e u6 ⟨v',rfl,ho,hg⟩;have G6:=zH (G5.o.trans hg);obtain ⟨a6,c6,rfl,-,-,-,-⟩:=ho.parts;have O6:=zH ho;have EF:Hid (Y5++fZ xs=Y1++P (k+1)):=zH (by rw [E5.o,EQ.o,XP.o];unfold Bn;rw [XN.o];simp only [aY]);clear ho hg K6;generalize hn6:(Y5++fZ xs).length=n6 at*;clear hn6;go_wp2_with fail
   go_roundw
   case rel=>exact ⟨k+1,by omega,by go_num,by rw [<-EF.o];exact O6.o,G6.o⟩
   case measure=>simp [intOf]<;>omega
  ·obtain rfl:k=2:=by omega
   have k1:¬ ((2:Nat):Int)<2:=by omega
   have O2:=HO;have G2:=zH (GT1.o _ _ HG.o);obtain ⟨a2,c2,rfl,-,-,-,-⟩:=HO.o.parts;have YL:(Y1++P 2).length<=168:=by rw [aA];have:=N1.o;have:=PL.o 2;omega
   rw [PN.o] at O2 G2 YL ⊢;generalize hn:(Y1++[m.vec,m.from_].flatMap Bn).length=n2 at*;generalize hY:Y1++[m.vec,m.from_].flatMap Bn=Y2 at*;have E2:=zH hY.symm;have N2:Hid (Y2.length<=168):=zH (by rw [hn];exact YL);clear hn hY YL HO HG PS P0 PN PL;generalize wr=u2 at*;obtain ⟨e0,e1,e2,e3,e4,e5,e6,e7,e8⟩:=CT.o _ _ G2.o;have GR2:Hid (Grow w.heap.size u2 (.slice a2 n2 c2) (u2.alloc (.cells #[.slice za zn zc,.slice na nn nc] 44)) (.slice a2 n2 c2)):=zH ((Grow.refl _ u2 _).keep ((aj _ _).alloc (ah _) _) (by have:=G2.o.size;have:=ZB.o;omega));have OR2:=zH (O2.o.alloc (.cells #[.slice za zn zc,.slice na nn nc] 44));have ZR2:Hid (u2.heap.size<(u2.alloc (.cells #[.slice za zn zc,.slice na nn nc] 44)).heap.size):=zH (by simp);have NR2:Hid ((Value.slice a2 n2 c2).ownBlock≠some u2.heap.size):=zH (fun e=>by have:=(O2.o.lt _ e).2;omega);have CR0:Hid ((u2.alloc (.cells #[.slice za zn zc,.slice na nn nc] 44)).cell? ⟨u2.heap.size,0,none⟩=some (.slice za zn zc)/\(u2.alloc (.cells #[.slice za zn zc,.slice na nn nc] 44)).cell? ⟨u2.heap.size,1,none⟩=some (.slice na nn nc)):=zH ⟨by simp,by simp⟩;go_upto_region 9 with fail
   clear e0 e1 e2 e3 e4 e5 e6 e7 e8;generalize (u2.alloc _)=r2 at*;generalize hrb:u2.heap.size=rb2 at*;clear hrb;have CR2:Hid (∀ U u,Grow w.heap.size r2 (.slice a2 n2 c2) U u ->U.cell? ⟨rb2,0,none⟩=some (.slice za zn zc)/\U.cell? ⟨rb2,1,none⟩=some (.slice na nn nc)):=zH (fun U u h=>by
    have hb:=h.kept rb2 ZR2.o NR2.o;exact ⟨(aQ (a:=⟨rb2,0,none⟩) hb).trans CR0.o.1,(aQ (a:=⟨rb2,1,none⟩) hb).trans CR0.o.2⟩)
   clear CR0;have GT2:=zH (fun U u (h:Grow w.heap.size r2 (.slice a2 n2 c2) U u)=>(G2.o.trans GR2.o).trans h);have CB:=zH (fun k (hk:k<[m.zone,m.want].length)=>jW uh [m.zone,m.want] (k:=k) hk);obtain ⟨P,hP⟩:∃ P:Nat ->Bytes,P=fun k=>([m.zone,m.want].take k).flatMap uh:=⟨_,rfl⟩
   have PS:Hid (∀ k,k<2 ->P (k+1)=P k++uh ([m.zone,m.want].getD k default)):=zH (fun k hk=>by rw [hP];exact CB.o k hk);have P0:Hid (P 0=[]):=zH (by rw [hP];rfl);have PN:Hid (P 2=[m.zone,m.want].flatMap uh):=zH (by rw [hP];rfl);have PL:Hid (∀ k,(P k).length<=400):=zH (fun k=>by
    rw [hP];refine ak (Ac uh 200 [m.zone,m.want] (fun x hx=> ?_) k) (by simp);simp only [bL,dU,or_false] at hx
    unfold uh;rw [aA]
    rcases hx with rfl|rfl
    ·have h1:=iU (ns:=[((m.zone).length:Int)]) (by intro n hn;simp at hn;have:=VZ.o.1;omega)
     have h2:=LU (ns:=m.zone) (fun n h=>by have:=VZ.o.2 n h;omega);have:=VZ.o.1;simp only [aZ,bf] at h1
     omega
    ·have h1:=iU (ns:=[((m.want).length:Int)]) (by intro n hn;simp at hn;have:=VN.o.1;omega)
     have h2:=LU (ns:=m.want) (fun n h=>by have:=VN.o.2 n h;omega);have:=VN.o.1;simp only [aZ,bf] at h1
     omega)
   clear hP CB
   go_loopw [3,48] (fun z i wr=>∃ k:Nat,k<=2/\i= .int .i64 k/\By.jv w.heap.size wr z (Y2++P k)/\Grow w.heap.size r2 (.slice a2 n2 c2) wr z) (fun _ i _=>2-(intOf i).toNat)
   case atStart=>exact ⟨0,aL _,rfl,by rw [P0.o,aV];exact OR2.o,Grow.refl _ _ _⟩
   case round=>
    obtain ⟨k,hk,rfl,ho,hg⟩:=hrel;have HO:=zH ho;have HG:=zH hg;clear ho hg
    by_cases hlt:k<2
    ·have PK:=zH (PS.o k hlt)
     have LK:=zH (PL.o k);have ZW:Hid (w.heap.size<=wr.heap.size):=zH (by have:=(GT2.o _ _ HG.o).size;have:=ZB.o;omega);obtain ⟨xa,xn,xc,xs,hcell,hseq,hxs,hx8,hxn,hxr⟩:∃ (xa:Option Addr) (xn xc:Nat) (xs:List iE),wr.cell? ⟨rb2,k,none⟩=some (.slice xa xn xc)/\Sq qP (· <w.heap.size) w (.slice xa xn xc) xs/\P (k+1)=P k++uh xs/\xs.length<=8/\xs.length=xn/\(∀ n∈xs,n.length<=16):=by
      have hc:=CR2.o _ _ HG.o;have hq:k=0\/k=1:=by omega
      rcases hq with rfl|rfl
      ·exact ⟨_,_,_,_,hc.1,SZ.o,PK.o,VZ.o.1,D3.o,VZ.o.2⟩
      ·exact ⟨_,_,_,_,hc.2,SN.o,PK.o,VN.o.1,D4.o,VN.o.2⟩
     have XS:=zH hseq;have XP:=zH hxs;have X8:Hid (xn<=8):=zH (by omega);have XR:=zH hxr;have XN:=zH hxn;clear hseq hxs hx8 hxr hxn PK;obtain ⟨za',zc',rfl,-,-,-,-⟩:=HO.o.parts;generalize hzl:(Y2++P k).length=zl at*;have ZL:Hid (zl<=168+400):=zH (by rw [<-hzl,aA];have:=N2.o;have:=LK.o;omega);generalize hYQ:Y2++P k=YQ at*;have EQ:=zH hYQ.symm;have LQ:Hid (YQ.length=zl):=zH hzl;clear hzl hYQ LK;have K5:Hid (Calls prog 125 #[.slice za' zl zc',.slice (some ⟨wr.heap.size,0,none⟩) 1 1] (wr.alloc (.cells #[.int .i64 (xn:Int)] 3)) (jM w.heap.size (wr.alloc (.cells #[.int .i64 (xn:Int)] 3)) (.slice za' zl zc') (YQ++fZ [(xn:Int)]))):=zH (nS (HO.o.alloc _) (by have:=ZW.o;simp;omega) (l9 wr #[.int .i64 (xn:Int)] [(xn:Int)] (.slice za' zl zc') rfl (by simp) (fun k hk=>(HO.o.lt k hk).2)) (fun b hb=>hb) (by intro n hn;simp at hn;have:=X8.o;omega) (by have:=ZL.o;have:=LQ.o;simp;omega));have LL5:=iU (ns:=[(xn:Int)]) (by intro n hn;simp at hn;have:=X8.o;omega);simp only [aZ,bf] at LL5
     have k1:(k:Int)<2:=by omega
     go_wp2_with fail
     refine K5.o.mono ?_;rintro e u5 ⟨v',rfl,ho,hg⟩;have G5:=zH ((HG.o.keep ((aj _ _).alloc (ah _) _) (by have:=(GR2.o.size);have:=G2.o.size;have:=ZB.o;omega)).trans hg);obtain ⟨a5,c5,rfl,-,-,-,-⟩:=ho.parts;have O5:=zH ho;clear ho hg K5 hcell;have YL:(YQ++fZ [(xn:Int)]).length<=168+400+8:=by rw [aA];have:=ZL.o;have:=LQ.o;omega
     clear LL5;generalize hn5:(YQ++fZ [(xn:Int)]).length=n5 at*;generalize hY5:YQ++fZ [(xn:Int)]=Y5 at*;have E5:=zH hY5.symm;have N5:Hid (Y5.length<=168+400+8):=zH (by rw [hn5];exact YL);clear hn5 hY5 YL;have Z5:Hid (w.heap.size<=u5.heap.size):=zH (by have:=(GT2.o _ _ G5.o).size;have:=ZB.o;omega);have K6:Hid (Calls prog 127 #[.slice a5 n5 c5,.slice xa xn xc] u5 (jM w.heap.size u5 (.slice a5 n5 c5) (Y5++iT xs))):=zH (yY O5.o Z5.o (Q:=(· <w.heap.size)) (XS.o.agree fun b hb=>(HBW.o _ _ (GT2.o _ _ G5.o)).block b hb) (fun b hb=>⟨by have:=Z5.o;omega,fun e=>by have:=(O5.o.lt _ e).1;omega⟩) (fun n h=>by have:=XR.o n h;omega) (by have:=N5.o;have:=X8.o;have:=XN.o;omega));go_wp2_with fail
     refine K6.o.mono ?_;rintro e u6 ⟨v',rfl,ho,hg⟩;have G6:=zH (G5.o.trans hg);obtain ⟨a6,c6,rfl,-,-,-,-⟩:=ho.parts;have O6:=zH ho;have EF:Hid (Y5++iT xs=Y2++P (k+1)):=zH (by rw [E5.o,EQ.o,XP.o];unfold uh;rw [XN.o];simp only [aY]);clear ho hg K6;generalize hn6:(Y5++iT xs).length=n6 at*;clear hn6;go_wp2_with fail
     go_roundw
     case rel=>exact ⟨k+1,by omega,by go_num,by rw [<-EF.o];exact O6.o,G6.o⟩
     case measure=>simp [intOf]<;>omega
    ·obtain rfl:k=2:=by omega
     have k1:¬ ((2:Nat):Int)<2:=by omega
     have O3:=HO;have G3:=zH (GT2.o _ _ HG.o);obtain ⟨a3,c3,rfl,-,-,-,-⟩:=HO.o.parts;have YL:(Y2++P 2).length<=568:=by rw [aA];have:=N2.o;have:=PL.o 2;omega
     rw [PN.o] at O3 G3 YL ⊢;generalize hn:(Y2++[m.zone,m.want].flatMap uh).length=n3 at*;generalize hY:Y2++[m.zone,m.want].flatMap uh=Y3 at*;have E3:=zH hY.symm;have N3:Hid (Y3.length<=568):=zH (by rw [hn];exact YL);clear hn hY YL HO HG PS P0 PN PL;generalize wr=u3 at*;obtain ⟨e0,e1,e2,e3,e4,e5,e6,e7,e8⟩:=CT.o _ _ G3.o;have K4:Hid (Calls prog 125 #[.slice a3 n3 c3,.slice (some ⟨u3.heap.size,0,none⟩) 1 1] (u3.alloc (.cells #[.int .i64 (im:Int)] 3)) (jM w.heap.size (u3.alloc (.cells #[.int .i64 (im:Int)] 3)) (.slice a3 n3 c3) (Y3++fZ [(im:Int)]))):=zH (nS (O3.o.alloc _) (by have:=G3.o.size;have:=ZB.o;simp;omega) (l9 u3 #[.int .i64 (im:Int)] [(im:Int)] (.slice a3 n3 c3) rfl (by simp) (fun k hk=>(O3.o.lt k hk).2)) (fun b hb=>hb) (by intro n hn;simp at hn;have:=hil.o;have:=D5.o;omega) (by have:=N3.o;simp;omega));have LL4:=iU (ns:=[(im:Int)]) (by intro n hn;simp at hn;have:=hil.o;have:=D5.o;omega);simp only [aZ,bf] at LL4
     go_wp2_with fail
     refine K4.o.mono ?_;rintro e u4 ⟨v',rfl,ho,hg⟩;have G4:=zH ((G3.o.keep ((aj _ _).alloc (ah _) _) ZB.o).trans hg);obtain ⟨a4,c4,rfl,-,-,-,-⟩:=ho.parts;have O4:=zH ho;clear ho hg K4 e0 e1 e2 e3 e4 e5 e6 e7 e8;have YL:(Y3++fZ [(im:Int)]).length<=576:=by rw [aA];have:=N3.o;omega
     clear LL4;generalize hn:(Y3++fZ [(im:Int)]).length=n4 at*;generalize hY:Y3++fZ [(im:Int)]=Y4 at*;have E4:=zH hY.symm;have N4:Hid (Y4.length<=576):=zH (by rw [hn];exact YL);clear hn hY YL;obtain ⟨e0,e1,e2,e3,e4,e5,e6,e7,e8⟩:=CT.o _ _ G4.o;go_wp2_with fail
     clear e0 e1 e2 e3 e4 e5 e6 e7 e8
     have CB:=zH (fun k (hk:k<m.items.length)=>jW pI m.items (k:=k) hk);obtain ⟨P,hP⟩:∃ P:Nat ->Bytes,P=fun k=>(m.items.take k).flatMap pI:=⟨_,rfl⟩
     have PS:Hid (∀ k,k<im ->P (k+1)=P k++pI (m.items.getD k default)):=zH (fun k hk=>by rw [hP];exact CB.o k (by rw [D5.o];exact hk));have P0:Hid (P 0=[]):=zH (by rw [hP];rfl);have PN:Hid (P im=m.items.flatMap pI):=zH (by rw [hP,<-D5.o];show (m.items.take m.items.length).flatMap pI=_;rw [bq]);have PL:Hid (∀ k,(P k).length<=4718592):=zH (fun k=>by
      rw [hP]
      show ((m.items.take k).flatMap pI).length<=4718592
      have h1:=Ac pI 144 m.items HIL.o k;have h2:=hil.o;omega)
     clear hP CB
     go_loopw [3,70] (fun z i wr=>∃ k:Nat,k<=im/\i= .int .i64 k/\By.jv w.heap.size wr z (Y4++P k)/\Grow w.heap.size u0 (.slice none 0 0) wr z) (fun _ i _=>im-(intOf i).toNat)
     case atStart=>exact ⟨0,aL _,rfl,by rw [P0.o,aV];exact O4.o,G4.o⟩
     case round=>
      obtain ⟨k,hk,rfl,ho,hg⟩:=hrel;have HO:=zH ho;have HG:=zH hg;clear ho hg;have kb:(im:Int)<=32768:=by have:=D5.o;have:=hil.o;omega
      by_cases hlt:k<im
      ·have PK:=zH (PS.o k hlt)
       have LK:=zH (PL.o k);have BW:=zH (HBW.o _ _ HG.o);have ZW:Hid (w.heap.size<=wr.heap.size):=zH (by have:=HG.o.size;have:=ZB.o;omega);have k1:(k:Int)<im:=by omega
       obtain ⟨za',zc',rfl,-,-,-,-⟩:=HO.o.parts;generalize hzl:(Y4++P k).length=zl at*;have ZL:Hid (zl<=576+4718592):=zH (by rw [<-hzl,aA];have:=N4.o;have:=LK.o;omega);generalize hYQ:Y4++P k=YQ at*;have EQ:=zH hYQ.symm;have LQ:Hid (YQ.length=zl):=zH hzl;clear hzl hYQ LK;obtain ⟨b,o,c,hv,-,-,-,hc⟩:=nP (SI.o.below BW.o) (by rw [D5.o];omega);rw [D5.o] at hv;simp only [aC] at hv
       obtain ⟨rfl,-,rfl⟩:=hv;obtain ⟨i0,i1,i2,i3,i4,i5,i6,i7⟩:=hc k (by rw [D5.o];exact hlt);have PX:=zH (HI.o _ (pJ (l:=m.items) (k:=k) (by rw [D5.o];exact hlt)));clear hc;generalize m.items.getD k default=x at*;have EB:=zH (tO wr x);have OB:=zH (HO.o.alloc (.cells #[.string (bt x.key),.string (bt x.field),.int .i64 x.kind,.string (bt x.elem),.int .i64 x.n,.int .i64 x.dot.node,.int .i64 x.dot.seq,.int .i64 x.dot.pos] 79));have GB:=zH (HG.o.keep ((aj _ _).alloc (ah _) (.cells #[.string (bt x.key),.string (bt x.field),.int .i64 x.kind,.string (bt x.elem),.int .i64 x.n,.int .i64 x.dot.node,.int .i64 x.dot.seq,.int .i64 x.dot.pos] 79)) ZB.o);go_upto_region 18 with fail
       clear i0 i1 i2 i3 i4 i5 i6 i7;generalize (wr.alloc _)=wd at*;obtain ⟨i0,i1,i2,i3,i4,i5,i6,i7⟩:=EB.o.zero;have K7:=zH (U9 OB.o (by have:=GB.o.size;have:=ZB.o;omega) PX.o (by have:=ZL.o;have:=LQ.o;omega));go_wp2_with fail
       refine K7.o.mono ?_;rintro e u7 ⟨v',rfl,ho,hg⟩;have G7:=zH (GB.o.trans hg);have O7:=zH ho;obtain ⟨a7,c7,rfl,-,-,-,-⟩:=ho.parts;have EF:Hid (YQ++pI x=Y4++P (k+1)):=zH (by rw [EQ.o,PK.o,aY]);clear ho hg K7 i0 i1 i2 i3 i4 i5 i6 i7;generalize hnn:(YQ++pI x).length=n7 at*;clear hnn;go_wp2_with fail
       go_roundw
       case rel=>exact ⟨k+1,by omega,by go_num,by rw [<-EF.o];exact O7.o,G7.o⟩
       case measure=>simp [intOf]<;>omega
      ·obtain rfl:im=k:=by omega
       have O5:=HO;have G5:=HG;obtain ⟨a5,c5,rfl,-,-,-,-⟩:=HO.o.parts;have YL:(Y4++P im).length<=4719168:=by rw [aA];have:=N4.o;have:=PL.o im;omega
       rw [PN.o] at O5 G5 YL ⊢;generalize hn:(Y4++m.items.flatMap pI).length=n5 at*;generalize hY:Y4++m.items.flatMap pI=Y5 at*;have E5:=zH hY.symm;have N5:Hid (Y5.length<=4719168):=zH (by rw [hn];exact YL);clear hn hY YL HO HG PS P0 PN PL;generalize wr=u5 at*;obtain ⟨e0,e1,e2,e3,e4,e5,e6,e7,e8⟩:=CT.o _ _ G5.o;have K6:Hid (Calls prog 125 #[.slice a5 n5 c5,.slice (some ⟨u5.heap.size,0,none⟩) 1 1] (u5.alloc (.cells #[.int .i64 (ln:Int)] 3)) (jM w.heap.size (u5.alloc (.cells #[.int .i64 (ln:Int)] 3)) (.slice a5 n5 c5) (Y5++fZ [(ln:Int)]))):=zH (nS (O5.o.alloc _) (by have:=G5.o.size;have:=ZB.o;simp;omega) (l9 u5 #[.int .i64 (ln:Int)] [(ln:Int)] (.slice a5 n5 c5) rfl (by simp) (fun k hk=>(O5.o.lt k hk).2)) (fun b hb=>hb) (by intro n hn;simp at hn;have:=htl.o;have:=D6.o;omega) (by have:=N5.o;simp;omega));have LL6:=iU (ns:=[(ln:Int)]) (by intro n hn;simp at hn;have:=htl.o;have:=D6.o;omega);simp only [aZ,bf] at LL6
       go_wp2_with fail
       refine K6.o.mono ?_;rintro e u6 ⟨v',rfl,ho,hg⟩;have G6:=zH ((G5.o.keep ((aj _ _).alloc (ah _) _) ZB.o).trans hg);obtain ⟨a6,c6,rfl,-,-,-,-⟩:=ho.parts;have O6:=zH ho;clear ho hg K6 e0 e1 e2 e3 e4 e5 e6 e7 e8;have YL:(Y5++fZ [(ln:Int)]).length<=4719176:=by rw [aA];have:=N5.o;omega
       clear LL6;generalize hn:(Y5++fZ [(ln:Int)]).length=n6 at*;generalize hY:Y5++fZ [(ln:Int)]=Y6 at*;have E6:=zH hY.symm;have N6:Hid (Y6.length<=4719176):=zH (by rw [hn];exact YL);clear hn hY YL;obtain ⟨e0,e1,e2,e3,e4,e5,e6,e7,e8⟩:=CT.o _ _ G6.o;go_wp2_with fail
       clear e0 e1 e2 e3 e4 e5 e6 e7 e8
       have CB:=zH (fun k (hk:k<m.fU.length)=>jW kC.put m.fU (k:=k) hk);obtain ⟨P,hP⟩:∃ P:Nat ->Bytes,P=fun k=>(m.fU.take k).flatMap kC.put:=⟨_,rfl⟩
       have PS:Hid (∀ k,k<ln ->P (k+1)=P k++kC.put (m.fU.getD k default)):=zH (fun k hk=>by rw [hP];exact CB.o k (by rw [D6.o];exact hk));have P0:Hid (P 0=[]):=zH (by rw [hP];rfl);have PN:Hid (P ln=m.fU.flatMap kC.put):=zH (by rw [hP,<-D6.o];show (m.fU.take m.fU.length).flatMap kC.put=_;rw [bq]);have PL:Hid (∀ k,(P k).length<=30000000):=zH (fun k=>by
        rw [hP]
        show ((m.fU.take k).flatMap kC.put).length<=30000000
        have h1:=Ac kC.put 6300 m.fU HTL.o k;have h2:=htl.o;omega)
       clear hP CB
       go_loopw [3,87] (fun z i wr=>∃ k:Nat,k<=ln/\i= .int .i64 k/\By.jv w.heap.size wr z (Y6++P k)/\Grow w.heap.size u0 (.slice none 0 0) wr z) (fun _ i _=>ln-(intOf i).toNat)
       case atStart=>exact ⟨0,aL _,rfl,by rw [P0.o,aV];exact O6.o,G6.o⟩
       case round=>
        obtain ⟨k,hk,rfl,ho,hg⟩:=hrel;have HO:=zH ho;have HG:=zH hg;clear ho hg;have kb:(ln:Int)<=4096:=by have:=D6.o;have:=htl.o;omega
        by_cases hlt:k<ln
        ·have PK:=zH (PS.o k hlt)
         have LK:=zH (PL.o k);have BW:=zH (HBW.o _ _ HG.o);have ZW:Hid (w.heap.size<=wr.heap.size):=zH (by have:=HG.o.size;have:=ZB.o;omega);have k1:(k:Int)<ln:=by omega
         obtain ⟨za',zc',rfl,-,-,-,-⟩:=HO.o.parts;generalize hzl:(Y6++P k).length=zl at*;have ZL:Hid (zl<=4719176+30000000):=zH (by rw [<-hzl,aA];have:=N6.o;have:=LK.o;omega);generalize hYQ:Y6++P k=YQ at*;have EQ:=zH hYQ.symm;have LQ:Hid (YQ.length=zl):=zH hzl;clear hzl hYQ LK;obtain ⟨b,o,c,hv,-,-,-,hc⟩:=wh (ST.o.below BW.o) (by rw [D6.o];omega);rw [D6.o] at hv;simp only [aC] at hv
         obtain ⟨rfl,-,rfl⟩:=hv;obtain ⟨dv,ev,⟨t0,t1,t2,t3⟩,hdv,hev⟩:=hc k (by rw [D6.o];exact hlt);have MT:=zH (pJ (l:=m.fU) (k:=k) (by rw [D6.o];exact hlt));have TF:=zH (HT.o _ MT.o);have TX:=zH (HFT.o _ MT.o);have TL:=zH (HTL.o _ MT.o);clear hc MT;generalize m.fU.getD k default=t at*;obtain ⟨da,dc,hq1,-,-,-,hd2⟩:=hdv.parts;obtain ⟨ea,ec,hq2,-,-,-,he2⟩:=hev.parts;subst hq1 hq2;generalize t.deps.length=dn at*;generalize t.effs.length=en at*;have hba:=zB wr (.cells #[.int .i64 t.node,.int .i64 t.seq,.slice da dn dc,.slice ea en ec] 82);have TB:=zH (kZ hd2 he2);have OB:=zH (HO.o.alloc (.cells #[.int .i64 t.node,.int .i64 t.seq,.slice da dn dc,.slice ea en ec] 82));have GB:=zH (HG.o.keep hba ZB.o);clear hdv hev hd2 he2 hba;go_upto_region 24 with fail
         clear t0 t1 t2 t3;generalize wr.heap.size=tb at*;generalize (wr.alloc _)=wd at*;obtain ⟨y0,y1,y2,y3⟩:=TB.o.c;have K7:=zH (txputP (By.Seq.nil wd) (by simp) TB.o.is TX.o);have GZ:=zH GB.o.size;go_upto_region 25 with (refine K7.o.mono ?_;intro e u7 hg;obtain ⟨v2,rfl,ho2⟩:=hg.1 TF.o;have hb2:=hg.2.2;obtain ⟨a2,c2',rfl,-,-,-,-⟩:=ho2.parts)
         rw [bJ] at ho2;have O7:=zH (OB.o.below hb2 (ah _));have G7:=zH (GB.o.keep hb2 ZB.o);have S7:=zH ho2.seq;have EF:Hid (YQ++kC.put t=Y6++P (k+1)):=zH (by rw [EQ.o,PK.o,aY]);clear hg ho2 hb2 K7 y0 y1 y2 y3;generalize hfe:(kC.put t).length=fl at*;have FE:=zH hfe;clear hfe;go_wp2_with (at_builtin;refine By.iq rfl (.tmp 96) (.tmp 97) rfl w.heap.size rfl O7.o rfl S7.o (by rw [LQ.o,FE.o];have:=ZL.o;have:=TL.o;omega) (by have:=G7.o.size;have:=ZB.o;omega) ?_)
         intro v5 w5 ho5 hgr hat;have O8:=zH ho5;have G8:=zH (G7.o.app hgr hat (fun k hk=>(O7.o.lt k hk).1) ZB.o);clear ho5 hgr hat;go_wp2_with fail
         go_roundw
         case rel=>exact ⟨k+1,by omega,by go_num,by rw [<-EF.o];exact O8.o,G8.o⟩
         case measure=>simp [intOf]<;>omega
        ·obtain rfl:ln=k:=by omega
         have O7:=HO;have G7:=HG;obtain ⟨a7,c7,rfl,-,-,-,-⟩:=HO.o.parts;have YL:(Y6++P ln).length<=34719176:=by rw [aA];have:=N6.o;have:=PL.o ln;omega
         rw [PN.o] at O7 G7 YL ⊢;generalize hn:(Y6++m.fU.flatMap kC.put).length=n7 at*;generalize hY:Y6++m.fU.flatMap kC.put=Y7 at*;have E7:=zH hY.symm;have N7:Hid (Y7.length<=34719176):=zH (by rw [hn];exact YL);clear hn hY YL HO HG PS P0 PN PL;generalize wr=u7 at*;have OE:Hid (By.jv w.heap.size u7 _ (rJ m)):=zH (by
          have h:=O7.o;rw [E7.o,E6.o,E5.o,E4.o,E3.o,E2.o,E1.o] at h;rw [HPM.o,D5.o,D6.o,E3.o,E2.o,E1.o];exact h)
         go_wp2_with fail
         go_ret
         exact ⟨_,rfl,OE.o,GW.o.trans G7.o⟩
def YN(w:World)(m:gu)(e:Ending)(w':World):Prop:=
 (fV m=true ->∃ v,e= .returned (.tuple #[v,.int .i64 0])/\By.jv w.heap.size w' v (rJ m))/\(fV m=false ->e= .returned (.tuple #[.slice none 0 0,.int .i64 2]))/\Below w.heap.size w w'
theorem mputP{v:Value}{m:gu}{w:World}(hv:pE w v m)(hm:yB m)(hn:yt m)(hil:m.items.length<=32768)(htl:m.fU.length<=4096):Calls prog 19 #[v] w (YN w m):=by
 obtain ⟨va,vn,vc,fa,fn,fc,za,zn,zc,na,nn,nc,ia,im,ic,la,ln,lc,rfl,H⟩:=hv.slices;have hba:=zB w (.cells #[.int .i64 m.kind,.int .i64 m.ticket,.bool m.whole,.slice va vn vc,.slice fa fn fc,.slice za zn zc,.slice na nn nc,.slice ia im ic,.slice la ln lc] 46);have X:=zH (mW H);have G0:=zH hba;clear hv H hba;go_enter func19,ntmps19
 go_upto_region 1 with fail
 generalize (w.alloc _)=w0 at*;obtain ⟨c0,c1,c2,c3,c4,c5,c6,c7,c8⟩:=X.o.c;have KF:=zH (Rm X.o.is hm _ rfl);have KP:=zH (fun u (h:Below w0.heap.size w0 u) (hf:fV m=true)=>YK (X.o.below h).is hf hn hil htl hm.t);have HC:=zH (fun u (h:Below w0.heap.size w0 u)=>(X.o.below h).c)
 cases hr:fV m with
 |false=>
  have HRR:=zH hr;rw [hr] at KF;clear hr;go_wp2_with fail
  refine KF.o.mono ?_;rintro e w1 ⟨rfl,hb⟩;have G1:=zH (G0.o.trans (hb.mono G0.o.size));clear hb KF KP c0 c1 c2 c3 c4 c5 c6 c7 c8;go_wp2_with fail
  go_ret2
  exact ⟨fun h=>absurd (HRR.o.symm.trans h) (by decide),fun _=>rfl,G1.o⟩
 |true=>
  have HRR:=zH hr;rw [hr] at KF;clear hr;go_wp2_with fail
  refine KF.o.mono ?_;rintro e w1 ⟨rfl,hb⟩;have B1:=zH hb;have K1:=zH (KP.o w1 hb HRR.o);clear hb KF KP c0 c1 c2 c3 c4 c5 c6 c7 c8;obtain ⟨c0,c1,c2,c3,c4,c5,c6,c7,c8⟩:=HC.o w1 B1.o;generalize hbs:rJ m=bs at*;have HBS:=zH hbs;clear hbs;go_wp2_with fail
  refine K1.o.mono ?_;rintro e w2 ⟨v2,rfl,ho,hg⟩;have B2:=zH (B1.o.trans (hg.below.mono B1.o.size));have O2:Hid (By.jv w.heap.size w2 v2 bs):=zH (ho.mono (ak G0.o.size B1.o.size));have G2:=zH (G0.o.trans (B2.o.mono G0.o.size));obtain ⟨a2,n2,rfl,-,-,-,-⟩:=ho.parts;clear ho hg K1 c0 c1 c2 c3 c4 c5 c6 c7 c8;go_wp2_with fail
  go_ret2
  exact ⟨fun _=>⟨_,rfl,by rw [HBS.o];exact O2.o⟩,fun h=>absurd (HRR.o.symm.trans h) (by decide),G2.o⟩
end Go.Proofs.YtfgcodcablpdcaaGreat