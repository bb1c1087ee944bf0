import Derived.Test.YtfgcodcablpdcaaGreatCpChg
set_option linter.unusedVariables false
set_option maxRecDepth 100000
set_option maxHeartbeats 64000000
namespace Go.Proofs.YtfgcodcablpdcaaGreat
open Go.Proofs.Tryz
open Go.RowKit Plain
theorem Ui{me cores:Int}{w:World}(h:cores<1\/3<cores\/me<0\/cores<=me):Calls prog 10 #[.int .i64 me,.int .i64 cores] w (xZ w oQ 1):=by
 have B0:=zH (zB w (.cells #[.int .i64 0,.int .i64 0,.slice none 0 0,.slice none 0 0,.slice none 0 0,.slice none 0 0,.slice none 0 0] 34));have Z0:=aM w (.cells #[.int .i64 0,.int .i64 0,.slice none 0 0,.slice none 0 0,.slice none 0 0,.slice none 0 0,.slice none 0 0] 34);have hzb:=Z0;unfold ji at hzb;have FR:=zH (fun i=>iI hzb i);obtain ⟨z0,z1,z2,z3,z4,z5,z6⟩:=gM hzb;obtain ⟨f0,f1,f2,f3,f4,f5,f6⟩:=(⟨FR.o 0,FR.o 1,FR.o 2,FR.o 3,FR.o 4,FR.o 5,FR.o 6⟩:_/\_/\_/\_/\_/\_/\_);have OUT:=zH (fun x0 x1 x2 x3 x4 x5 x6=>vo hzb x0 x1 x2 x3 x4 x5 x6);clear hzb;clear Z0;go_enter func10,ntmps10
 go_upto_region 1 with fail
 generalize (w.alloc _)=w1 at*
 by_cases h1:cores<1
 rotate_left
 ·by_cases h2:3<cores
  rotate_left
  ·by_cases h3:me<0
   rotate_left
   ·have h4:cores<=me:=by omega
    clear h;go_wp2_with fail
    obtain ⟨⟨y0,y1,y2,y3,y4,y5,y6⟩,hz,ho,hbl⟩:=OUT.o (.int .i64 0) (.int .i64 0) (.slice none 0 0) (.slice none 0 0) (.slice none 0 0) (.slice none 0 0) (.slice none 0 0);unfold kQ at y0 y1 y2 y3 y4 y5 y6 hz ho hbl;refine bodyPost_ret (v:= .tuple #[.agg #[.int .i64 0,.int .i64 0,.slice none 0 0,.slice none 0 0,.slice none 0 0,.slice none 0 0,.slice none 0 0],.int .i64 1]) (by simp [results,results10,go_sem,y0,y1,y2,y3,y4,y5,y6]) rfl ?_;exact ⟨⟨none,0,0,none,0,0,none,0,0,none,0,0,none,0,0⟩,rfl,⟨iC _ _ _,iC _ _ _,iC _ _ _,iC _ _ _,iC _ _ _⟩,B0.o.trans (hbl _ (ah _))⟩
   ·clear h
    go_wp2_with fail
    obtain ⟨⟨y0,y1,y2,y3,y4,y5,y6⟩,hz,ho,hbl⟩:=OUT.o (.int .i64 0) (.int .i64 0) (.slice none 0 0) (.slice none 0 0) (.slice none 0 0) (.slice none 0 0) (.slice none 0 0);unfold kQ at y0 y1 y2 y3 y4 y5 y6 hz ho hbl;refine bodyPost_ret (v:= .tuple #[.agg #[.int .i64 0,.int .i64 0,.slice none 0 0,.slice none 0 0,.slice none 0 0,.slice none 0 0,.slice none 0 0],.int .i64 1]) (by simp [results,results10,go_sem,y0,y1,y2,y3,y4,y5,y6]) rfl ?_;exact ⟨⟨none,0,0,none,0,0,none,0,0,none,0,0,none,0,0⟩,rfl,⟨iC _ _ _,iC _ _ _,iC _ _ _,iC _ _ _,iC _ _ _⟩,B0.o.trans (hbl _ (ah _))⟩
  ·clear h
   go_wp2_with fail
   obtain ⟨⟨y0,y1,y2,y3,y4,y5,y6⟩,hz,ho,hbl⟩:=OUT.o (.int .i64 0) (.int .i64 0) (.slice none 0 0) (.slice none 0 0) (.slice none 0 0) (.slice none 0 0) (.slice none 0 0);unfold kQ at y0 y1 y2 y3 y4 y5 y6 hz ho hbl;refine bodyPost_ret (v:= .tuple #[.agg #[.int .i64 0,.int .i64 0,.slice none 0 0,.slice none 0 0,.slice none 0 0,.slice none 0 0,.slice none 0 0],.int .i64 1]) (by simp [results,results10,go_sem,y0,y1,y2,y3,y4,y5,y6]) rfl ?_;exact ⟨⟨none,0,0,none,0,0,none,0,0,none,0,0,none,0,0⟩,rfl,⟨iC _ _ _,iC _ _ _,iC _ _ _,iC _ _ _,iC _ _ _⟩,B0.o.trans (hbl _ (ah _))⟩
 ·clear h
  go_wp2_with fail
  obtain ⟨⟨y0,y1,y2,y3,y4,y5,y6⟩,hz,ho,hbl⟩:=OUT.o (.int .i64 0) (.int .i64 0) (.slice none 0 0) (.slice none 0 0) (.slice none 0 0) (.slice none 0 0) (.slice none 0 0);unfold kQ at y0 y1 y2 y3 y4 y5 y6 hz ho hbl;refine bodyPost_ret (v:= .tuple #[.agg #[.int .i64 0,.int .i64 0,.slice none 0 0,.slice none 0 0,.slice none 0 0,.slice none 0 0,.slice none 0 0],.int .i64 1]) (by simp [results,results10,go_sem,y0,y1,y2,y3,y4,y5,y6]) rfl ?_;exact ⟨⟨none,0,0,none,0,0,none,0,0,none,0,0,none,0,0⟩,rfl,⟨iC _ _ _,iC _ _ _,iC _ _ _,iC _ _ _,iC _ _ _⟩,B0.o.trans (hbl _ (ah _))⟩
theorem Ky{me:Int}{n:Nat}{w:World}(h0:0<=me)(h1:me<n)(h3:n<=3):Calls prog 10 #[.int .i64 me,.int .i64 (n:Int)] w (xZ w (cNew me n) 0):=by
 have B0:=zH (zB w (.cells #[.int .i64 0,.int .i64 0,.slice none 0 0,.slice none 0 0,.slice none 0 0,.slice none 0 0,.slice none 0 0] 34));have Z0:=zH (aM w (.cells #[.int .i64 0,.int .i64 0,.slice none 0 0,.slice none 0 0,.slice none 0 0,.slice none 0 0,.slice none 0 0] 34));have S0:Hid (w.heap.size<(w.alloc (.cells #[.int .i64 0,.int .i64 0,.slice none 0 0,.slice none 0 0,.slice none 0 0,.slice none 0 0,.slice none 0 0] 34)).heap.size):=zH (by simp);have k1:¬ (n:Int)<1:=by omega
 have k2:¬ (3:Int)<(n:Int):=by omega
 have k3:¬ me<0:=by omega
 have k4:¬ (n:Int)<=me:=by omega
 go_enter func10,ntmps10
 go_upto_region 1 with fail
 generalize (w.alloc _)=w1 at*;go_wp2_with (at_make;refine yE oM [] Pq rfl (.tmp 24) rfl n rfl (by omega) ?_)
 intro w2 ho2 hb2 hz2;have KO:=zH ho2;have B2:=zH (B0.o.trans (hb2.mono B0.o.size));have S1:=zH (show w.heap.size<w2.heap.size from ay S0.o hb2.size);have Z2:=zH ((hb2.block _ S0.o).trans Z0.o);clear ho2 hb2 hz2;have hzb:=Z2.o;unfold ji at hzb;have FR:=zH (fun i=>iI hzb i);obtain ⟨z0,z1,z2,z3,z4,z5,z6⟩:=gM hzb;obtain ⟨f0,f1,f2,f3,f4,f5,f6⟩:=(⟨FR.o 0,FR.o 1,FR.o 2,FR.o 3,FR.o 4,FR.o 5,FR.o 6⟩:_/\_/\_/\_/\_/\_/\_);have OUT:=zH (fun x0 x1 x2 x3 x4 x5 x6=>vo hzb x0 x1 x2 x3 x4 x5 x6);clear hzb;go_wp2_with fail
 obtain ⟨⟨y0,y1,y2,y3,y4,y5,y6⟩,hz,ho,hbl⟩:=OUT.o (.int .i64 me) (.int .i64 (n:Int)) (.slice none 0 0) (.slice none 0 0) (.slice none 0 0) (.slice none 0 0) (.slice (some ⟨w1.heap.size,0,none⟩) n n);unfold kQ at y0 y1 y2 y3 y4 y5 y6 hz ho hbl;refine bodyPost_ret (v:= .tuple #[.agg #[.int .i64 me,.int .i64 (n:Int),.slice none 0 0,.slice none 0 0,.slice none 0 0,.slice none 0 0,.slice (some ⟨w1.heap.size,0,none⟩) n n],.int .i64 0]) (by simp [results,results10,go_sem,y0,y1,y2,y3,y4,y5,y6]) rfl ?_;refine ⟨⟨none,0,0,none,0,0,none,0,0,none,0,0,some ⟨w1.heap.size,0,none⟩,n,n⟩,rfl,⟨iC _ _ _,iC _ _ _,iC _ _ _,iC _ _ _,?_⟩,B2.o.trans (hbl _ (ah _))⟩;have h1:=(KO.o.nilJ (J:=fun b=>w1.heap.size<=b)).sq fun b h _=>h
 exact (h1.agree fun b hb=>ho b (by have:=S0.o;omega)).mono fun b hb=>⟨by have:=S0.o;omega,by rw [hz];exact hb.2⟩
theorem XK{v bv:Value}{c:fT}{w:World}(hv:kK w v c)(hb:By.Seq w bv []):Calls prog 14 #[v,bv] w (xZ w oQ 2):=by
 obtain ⟨ha,hn,hc,ia,im,ic,fa,fn,fc,la,ln,lc,ka,kn,kc,rfl,h⟩:=hv.slices;obtain ⟨ba,bn,bc,rfl,hbn,-,-,hbs⟩:=uL hb;have FM:=vB (w:=w) c ⟨ha,hn,hc,ia,im,ic,fa,fn,fc,la,ln,lc,ka,kn,kc⟩;unfold fP ji at FM;have DA:=zH FM;have HU:=zH (fun u (hb:Below w.heap.size w u)=>h.below hb);have BS:=zH (hbs.below FM.low);have KN:=zH (By.uM BS.o (by simp));rw [show iZ.get []= .err 3 from rfl] at KN;have KM:=zH (fun u=>Uj (w:=u) (b:= .slice none 0 0) (bs:=[]) (By.Seq.nil u) (by simp) none (by decide));clear hv hb h FM hbs hbn;go_enter func14,ntmps14
 go_upto_region 1 with fail
 generalize ((w.alloc _).alloc _)=w0 at*;go_wp2_with fail
 refine KN.o.mono ?_;rintro e w1 ⟨rfl,rfl⟩;have KM0:=zH (KM.o w0);clear KN KM;go_upto_region 3 with (go_at_call 33;refine KM0.o.mono ?_;rintro e w2 ⟨rfl,hb⟩;have D2:=zH (DA.o.below hb);clear hb KM0)
 have D:=zH (D2.o.below (zB w2 (.cells #[.int .i64 0,.int .i64 0,.bool false,.slice none 0 0,.slice none 0 0,.slice none 0 0,.slice none 0 0,.slice none 0 0,.slice none 0 0] 46)));clear D2 DA;generalize (w2.alloc _)=w3 at*;have hzb:=D.o.zb;unfold ji at hzb;have FR:=zH (fun i=>iI hzb i);obtain ⟨z0,z1,z2,z3,z4,z5,z6⟩:=gM hzb;obtain ⟨f0,f1,f2,f3,f4,f5,f6⟩:=(⟨FR.o 0,FR.o 1,FR.o 2,FR.o 3,FR.o 4,FR.o 5,FR.o 6⟩:_/\_/\_/\_/\_/\_/\_);have OUT:=zH (fun x0 x1 x2 x3 x4 x5 x6=>vo hzb x0 x1 x2 x3 x4 x5 x6);clear hzb;go_wp2_with fail
 obtain ⟨⟨y0,y1,y2,y3,y4,y5,y6⟩,hz,ho,hbl⟩:=OUT.o (.int .i64 0) (.int .i64 0) (.slice none 0 0) (.slice none 0 0) (.slice none 0 0) (.slice none 0 0) (.slice none 0 0);unfold kQ at y0 y1 y2 y3 y4 y5 y6 hz ho hbl;refine bodyPost_ret (v:= .tuple #[.agg #[.int .i64 0,.int .i64 0,.slice none 0 0,.slice none 0 0,.slice none 0 0,.slice none 0 0,.slice none 0 0],.int .i64 2]) (by simp [results,results14,go_sem,y0,y1,y2,y3,y4,y5,y6]) rfl ?_;exact ⟨⟨none,0,0,none,0,0,none,0,0,none,0,0,none,0,0⟩,rfl,⟨iC _ _ _,iC _ _ _,iC _ _ _,iC _ _ _,iC _ _ _⟩,D.o.low.trans (hbl _ (by omega))⟩
theorem Kz{k j:Nat}{v bv:Value}{c:fT}{n:Int}{m:gu}{w:World}(hv:kK w v c)(hb:By.Seq w bv (prec n m))(hcf:nX k c)(uD:k<=24)(hm:Qi j m)(hj:j<=12)(hf:fV m=true)(hnn:0<=n/\n<72057594037927936)(hz:(prec n m).length<=100000000):
  Calls prog 14 #[v,bv] w (xZ w (rM c n m).1 (rM c n m).2):=by
 obtain ⟨ha,hn,hc,ia,im,ic,fa,fn,fc,la,ln,lc,ka,kn,kc,rfl,h⟩:=hv.slices;obtain ⟨ba,bn,bc,rfl,hbn,-,-,hbs⟩:=uL hb;have FM:=vB (w:=w) c ⟨ha,hn,hc,ia,im,ic,fa,fn,fc,la,ln,lc,ka,kn,kc⟩;unfold fP ji at FM;have DA:=zH FM;have HU:=zH (fun u (hb:Below w.heap.size w u)=>h.below hb);have BS:=zH (hbs.below FM.low);have EN:((n.toNat:Nat):Int)=n:=by omega
 have hkn:=By.uM BS.o (ak hz (by decide));rw [num_prec hnn] at hkn;have hkn2:Calls prog 41 _ _ (By.Gw (.int .i64 ((n.toNat:Nat):Int)) _ (rJ m)):=hkn;rw [EN] at hkn2;have KN:=zH hkn2;clear hkn hkn2 EN;have KM:=zH (fun u bv (h:By.Seq u bv (rJ m))=>Uj h (by have:=hz;unfold prec at this;rw [aA] at this;omega) (some m) (Hu hf hm.n));have HC:=zH hcf;have HK:=zH uD;have HM:=zH hm;have HJ:=zH hj;have HF:=zH hf;have VL:Hid (m.vec.length<=1000000):=zH (by have:=hm.vec;omega);have n0:(0:Int)<=n:=hnn.1;have n1:n<(72057594037927936:Int):=hnn.2;clear hcf uD hm hj hf hnn hz;clear hv hb h FM hbs hbn;go_enter func14,ntmps14
 go_upto_region 1 with fail
 generalize ((w.alloc _).alloc _)=w0 at*;go_wp2_with fail
 refine KN.o.mono ?_;rintro e w1 ⟨v1,rfl,ho,hb⟩;have D1:=zH (DA.o.below hb);have KM1:=zH (KM.o w1 _ ho.seq);obtain ⟨xa,xn,rfl,-,-,-,-⟩:=ho.parts;clear ho hb KN KM DA;go_upto_region 3 with (go_at_call 33;refine KM1.o.mono ?_;rintro e w2 ⟨v2,rfl,hm2,hb⟩;have D2:=zH (D1.o.below hb);have M2:=zH hm2;clear hb KM1 D1;obtain ⟨va,vn,vc,ga,gn,gc,za,zn,zc,na,nn,nc,ja,jm,jc,ta,tn,tc,rfl,HA⟩:=hm2.slices;have A2:=zH HA;clear HA hm2)
 have hb3:=zB w2 (.cells #[.int .i64 m.kind,.int .i64 m.ticket,.bool m.whole,.slice va vn vc,.slice ga gn gc,.slice za zn zc,.slice na nn nc,.slice ja jm jc,.slice ta tn tc] 46);have D:=zH (D2.o.below hb3);have Y:=zH (mW A2.o);clear hb3 D2 M2 A2;generalize (w2.alloc _)=w3 at*;generalize w2.heap.size=gm at*;have KR:=zH (MZ (w:=w3) (n:=n) (v:= .agg #[.int .i64 c.me,.int .i64 c.cores,.slice ha hn hc,.slice ia im ic,.slice fa fn fc,.slice la ln lc,.slice ka kn kc]) (mv:= .agg #[.int .i64 m.kind,.int .i64 m.ticket,.bool m.whole,.slice va vn vc,.slice ga gn gc,.slice za zn zc,.slice na nn nc,.slice ja jm jc,.slice ta tn tc]) ⟨⟨ha,hn,hc,ia,im,ic,fa,fn,fc,la,ln,lc,ka,kn,kc⟩,rfl,HU.o w3 D.o.low⟩ Y.o.is HC.o.c3 ⟨n0,by omega⟩);have ZL:=zH D.o.lt;obtain ⟨c0,c1,c2,c3,c4,c5,c6⟩:=D.o.cl;obtain ⟨m0,m1,m2,m3,m4,m5,m6,m7,m8⟩:=Y.o.c;obtain ⟨r,hr⟩:∃ r,qI c n m=r:=⟨_,rfl⟩;rw [hr] at KR;have HR:=zH hr;clear hr;have C7:Hid (c.cores<=7):=zH (by have:=HC.o.c3;omega)
 cases r
 ·have HD:=zH (wX (cDo_no HR.o C7.o))
  go_upto_region 4 with (go_at_call 42;refine KR.o.mono ?_;rintro e w4 ⟨rfl,hb⟩;have D4:=zH (D.o.below hb);clear hb KR c0 c1 c2 c3 c4 c5 c6 m0 m1 m2 m3 m4 m5 m6 m7 m8)
  clear D;have D:=D4;have hzb:=D.o.zb;unfold ji at hzb;have FR:=zH (fun i=>iI hzb i);obtain ⟨z0,z1,z2,z3,z4,z5,z6⟩:=gM hzb;obtain ⟨f0,f1,f2,f3,f4,f5,f6⟩:=(⟨FR.o 0,FR.o 1,FR.o 2,FR.o 3,FR.o 4,FR.o 5,FR.o 6⟩:_/\_/\_/\_/\_/\_/\_);have OUT:=zH (fun x0 x1 x2 x3 x4 x5 x6=>vo hzb x0 x1 x2 x3 x4 x5 x6);clear hzb;go_wp2_with fail
  obtain ⟨⟨y0,y1,y2,y3,y4,y5,y6⟩,hz,ho,hbl⟩:=OUT.o (.int .i64 0) (.int .i64 0) (.slice none 0 0) (.slice none 0 0) (.slice none 0 0) (.slice none 0 0) (.slice none 0 0);unfold kQ at y0 y1 y2 y3 y4 y5 y6 hz ho hbl;refine bodyPost_ret (v:= .tuple #[.agg #[.int .i64 0,.int .i64 0,.slice none 0 0,.slice none 0 0,.slice none 0 0,.slice none 0 0,.slice none 0 0],.int .i64 2]) (by simp [results,results14,go_sem,y0,y1,y2,y3,y4,y5,y6]) rfl ?_;rw [HD.o];exact ⟨⟨none,0,0,none,0,0,none,0,0,none,0,0,none,0,0⟩,rfl,⟨iC _ _ _,iC _ _ _,iC _ _ _,iC _ _ _,iC _ _ _⟩,D.o.low.trans (hbl _ (by omega))⟩
 ·have hd:=cDo_rec HF.o HR.o C7.o
  by_cases h0:n=0
  ·have b0:(n==0)=true:=beq_iff_eq.2 h0
   rw [if_pos h0] at hd;have HD:=zH (oU hd);have KL:=zH (fun u (hb:Below w3.heap.size w3 u)=>Uk (v:= .agg #[.int .i64 c.me,.int .i64 c.cores,.slice ha hn hc,.slice ia im ic,.slice fa fn fc,.slice la ln lc,.slice ka kn kc]) ⟨⟨ha,hn,hc,ia,im,ic,fa,fn,fc,la,ln,lc,ka,kn,kc⟩,rfl,HU.o u (D.o.low.trans (hb.mono D.o.low.size))⟩ ((Y.o.below hb).a.l) HC.o HK.o (by have:=HM.o.t;have:=HJ.o;omega) (kJ.1 HF.o).fU HM.o.tf);clear hd h0;go_upto_region 5 with (go_at_call 42;refine KR.o.mono ?_;rintro e w4 ⟨rfl,hb⟩;have D4:=zH (D.o.below hb);have K4:=zH (KL.o w4 hb);have Y4:=zH (Y.o.below hb);clear hb KR KL Y c0 c1 c2 c3 c4 c5 c6 m0 m1 m2 m3 m4 m5 m6 m7 m8;obtain ⟨c0,c1,c2,c3,c4,c5,c6⟩:=D4.o.cl;obtain ⟨m0,m1,m2,m3,m4,m5,m6,m7,m8⟩:=Y4.o.c)
   have ZL4:=zH D4.o.lt;go_wp2_with (go_at_call 43;refine K4.o.mono ?_;rintro e w5 ⟨⟨pha,phn,phc,pia,pim,pic,pfa,pfn,pfc,pla,pln,plc,pka,pkn,pkc⟩,rfl,hA,hb⟩;have D5:=zH (D4.o.below hb);have A5:=zH (hA.mono fun b h=>(⟨by have:=ZL4.o;omega,h.2⟩:w.heap.size+2<=b/\b<w5.heap.size));clear hA hb K4 c0 c1 c2 c3 c4 c5 c6 m0 m1 m2 m3 m4 m5 m6 m7 m8 D4 Y4;unfold fP;have hzb:=D5.o.zb;unfold ji at hzb;have FR:=zH (fun i=>iI hzb i);obtain ⟨z0,z1,z2,z3,z4,z5,z6⟩:=gM hzb;obtain ⟨f0,f1,f2,f3,f4,f5,f6⟩:=(⟨FR.o 0,FR.o 1,FR.o 2,FR.o 3,FR.o 4,FR.o 5,FR.o 6⟩:_/\_/\_/\_/\_/\_/\_);have OUT:=zH (fun x0 x1 x2 x3 x4 x5 x6=>vo hzb x0 x1 x2 x3 x4 x5 x6);clear hzb)
   obtain ⟨⟨y0,y1,y2,y3,y4,y5,y6⟩,hz,ho,hbl⟩:=OUT.o (.int .i64 (nH c m.fU).me) (.int .i64 (nH c m.fU).cores) (.slice pha phn phc) (.slice pia pim pic) (.slice pfa pfn pfc) (.slice pla pln plc) (.slice pka pkn pkc);unfold kQ at y0 y1 y2 y3 y4 y5 y6 hz ho hbl;refine bodyPost_ret (v:= .tuple #[.agg #[.int .i64 (nH c m.fU).me,.int .i64 (nH c m.fU).cores,.slice pha phn phc,.slice pia pim pic,.slice pfa pfn pfc,.slice pla pln plc,.slice pka pkn pkc],.int .i64 0]) (by simp [results,results14,go_sem,y0,y1,y2,y3,y4,y5,y6]) rfl ?_;rw [HD.o];exact ⟨⟨pha,phn,phc,pia,pim,pic,pfa,pfn,pfc,pla,pln,plc,pka,pkn,pkc⟩,rfl,(A5.o.agree fun b h=>ho b (by omega)).mono fun b h=>⟨by omega,by rw [hz];exact h.2⟩,D5.o.low.trans (hbl _ (by omega))⟩
  ·have b0:(n==0)=false:=beq_false_of_ne h0
   rw [if_neg h0] at hd
   by_cases h9:n=9
   ·have b9:(n==9)=true:=beq_iff_eq.2 h9
    rw [if_pos h9] at hd;have HD:=zH (oU hd);have KL:=zH (fun u (hb:Below w3.heap.size w3 u)=>Ul (v:= .agg #[.int .i64 c.me,.int .i64 c.cores,.slice ha hn hc,.slice ia im ic,.slice fa fn fc,.slice la ln lc,.slice ka kn kc]) ⟨⟨ha,hn,hc,ia,im,ic,fa,fn,fc,la,ln,lc,ka,kn,kc⟩,rfl,HU.o u (D.o.low.trans (hb.mono D.o.low.size))⟩ HC.o HK.o);clear hd h0 h9;go_upto_region 5 with (go_at_call 42;refine KR.o.mono ?_;rintro e w4 ⟨rfl,hb⟩;have D4:=zH (D.o.below hb);have K4:=zH (KL.o w4 hb);have Y4:=zH (Y.o.below hb);clear hb KR KL Y c0 c1 c2 c3 c4 c5 c6 m0 m1 m2 m3 m4 m5 m6 m7 m8;obtain ⟨c0,c1,c2,c3,c4,c5,c6⟩:=D4.o.cl;obtain ⟨m0,m1,m2,m3,m4,m5,m6,m7,m8⟩:=Y4.o.c)
    have ZL4:=zH D4.o.lt;go_wp2_with (go_at_call 44;refine K4.o.mono ?_;rintro e w5 ⟨⟨pha,phn,phc,pia,pim,pic,pfa,pfn,pfc,pla,pln,plc,pka,pkn,pkc⟩,rfl,hA,hb⟩;have D5:=zH (D4.o.below hb);have A5:=zH (hA.mono fun b h=>(⟨by have:=ZL4.o;omega,h.2⟩:w.heap.size+2<=b/\b<w5.heap.size));clear hA hb K4 c0 c1 c2 c3 c4 c5 c6 m0 m1 m2 m3 m4 m5 m6 m7 m8 D4 Y4;unfold fP;have hzb:=D5.o.zb;unfold ji at hzb;have FR:=zH (fun i=>iI hzb i);obtain ⟨z0,z1,z2,z3,z4,z5,z6⟩:=gM hzb;obtain ⟨f0,f1,f2,f3,f4,f5,f6⟩:=(⟨FR.o 0,FR.o 1,FR.o 2,FR.o 3,FR.o 4,FR.o 5,FR.o 6⟩:_/\_/\_/\_/\_/\_/\_);have OUT:=zH (fun x0 x1 x2 x3 x4 x5 x6=>vo hzb x0 x1 x2 x3 x4 x5 x6);clear hzb)
    obtain ⟨⟨y0,y1,y2,y3,y4,y5,y6⟩,hz,ho,hbl⟩:=OUT.o (.int .i64 (qF c).me) (.int .i64 (qF c).cores) (.slice pha phn phc) (.slice pia pim pic) (.slice pfa pfn pfc) (.slice pla pln plc) (.slice pka pkn pkc);unfold kQ at y0 y1 y2 y3 y4 y5 y6 hz ho hbl;refine bodyPost_ret (v:= .tuple #[.agg #[.int .i64 (qF c).me,.int .i64 (qF c).cores,.slice pha phn phc,.slice pia pim pic,.slice pfa pfn pfc,.slice pla pln plc,.slice pka pkn pkc],.int .i64 0]) (by simp [results,results14,go_sem,y0,y1,y2,y3,y4,y5,y6]) rfl ?_;rw [HD.o];exact ⟨⟨pha,phn,phc,pia,pim,pic,pfa,pfn,pfc,pla,pln,plc,pka,pkn,pkc⟩,rfl,(A5.o.agree fun b h=>ho b (by omega)).mono fun b h=>⟨by omega,by rw [hz];exact h.2⟩,D5.o.low.trans (hbl _ (by omega))⟩
   ·have b9:(n==9)=false:=beq_false_of_ne h9
    rw [if_neg h9] at hd;have HD:=zH (oU hd);have hr:=HR.o;unfold qI at hr;rw [if_neg h0,if_neg h9,aD,aD,decide_eq_true_iff,decide_eq_true_iff,decide_eq_true_iff] at hr;obtain ⟨j0,hj0⟩:∃ j:Nat,(n-1:Int)=j:=⟨(n-1).toNat,by omega⟩;have e9:(n-1).toNat=j0:=by omega
    rw [e9] at HD;have hjl:j0<c.known.length:=by have:=HC.o.cores;omega
    have HJL:=zH hjl;have KL:=zH (fun u (hb:Below w3.heap.size w3 u)=>XM (j:=j0) (x:=m.vec) (v:= .agg #[.int .i64 c.me,.int .i64 c.cores,.slice ha hn hc,.slice ia im ic,.slice fa fn fc,.slice la ln lc,.slice ka kn kc]) ⟨⟨ha,hn,hc,ia,im,ic,fa,fn,fc,la,ln,lc,ka,kn,kc⟩,rfl,HU.o u (D.o.low.trans (hb.mono D.o.low.size))⟩ (gW (Y.o.below hb).a.v) HC.o HK.o HJL.o VL.o);rw [<-hj0] at KL;clear hd h0 h9 hr e9 hjl hj0;go_upto_region 5 with (go_at_call 42;refine KR.o.mono ?_;rintro e w4 ⟨rfl,hb⟩;have D4:=zH (D.o.below hb);have K4:=zH (KL.o w4 hb);have Y4:=zH (Y.o.below hb);clear hb KR KL Y c0 c1 c2 c3 c4 c5 c6 m0 m1 m2 m3 m4 m5 m6 m7 m8;obtain ⟨c0,c1,c2,c3,c4,c5,c6⟩:=D4.o.cl;obtain ⟨m0,m1,m2,m3,m4,m5,m6,m7,m8⟩:=Y4.o.c)
    have ZL4:=zH D4.o.lt;go_wp2_with (go_at_call 45;refine K4.o.mono ?_;rintro e w5 ⟨⟨pha,phn,phc,pia,pim,pic,pfa,pfn,pfc,pla,pln,plc,pka,pkn,pkc⟩,rfl,hA,hb⟩;have D5:=zH (D4.o.below hb);have A5:=zH (hA.mono fun b h=>(⟨by have:=ZL4.o;omega,h.2⟩:w.heap.size+2<=b/\b<w5.heap.size));clear hA hb K4 c0 c1 c2 c3 c4 c5 c6 m0 m1 m2 m3 m4 m5 m6 m7 m8 D4 Y4;unfold fP;have hzb:=D5.o.zb;unfold ji at hzb;have FR:=zH (fun i=>iI hzb i);obtain ⟨z0,z1,z2,z3,z4,z5,z6⟩:=gM hzb;obtain ⟨f0,f1,f2,f3,f4,f5,f6⟩:=(⟨FR.o 0,FR.o 1,FR.o 2,FR.o 3,FR.o 4,FR.o 5,FR.o 6⟩:_/\_/\_/\_/\_/\_/\_);have OUT:=zH (fun x0 x1 x2 x3 x4 x5 x6=>vo hzb x0 x1 x2 x3 x4 x5 x6);clear hzb)
    obtain ⟨⟨y0,y1,y2,y3,y4,y5,y6⟩,hz,ho,hbl⟩:=OUT.o (.int .i64 (vG c j0 m.vec).me) (.int .i64 (vG c j0 m.vec).cores) (.slice pha phn phc) (.slice pia pim pic) (.slice pfa pfn pfc) (.slice pla pln plc) (.slice pka pkn pkc);unfold kQ at y0 y1 y2 y3 y4 y5 y6 hz ho hbl;refine bodyPost_ret (v:= .tuple #[.agg #[.int .i64 (vG c j0 m.vec).me,.int .i64 (vG c j0 m.vec).cores,.slice pha phn phc,.slice pia pim pic,.slice pfa pfn pfc,.slice pla pln plc,.slice pka pkn pkc],.int .i64 0]) (by simp [results,results14,go_sem,y0,y1,y2,y3,y4,y5,y6]) rfl ?_;rw [HD.o];exact ⟨⟨pha,phn,phc,pia,pim,pic,pfa,pfn,pfc,pla,pln,plc,pka,pkn,pkc⟩,rfl,(A5.o.agree fun b h=>ho b (by omega)).mono fun b h=>⟨by omega,by rw [hz];exact h.2⟩,D5.o.low.trans (hbl _ (by omega))⟩
def Cb(r:Int×gu):Prop:=mM r.1/\Au r.2
def Cc(w:World)(v:Value):Prop:=∃ l,wU w v l/\∀ r∈l,Cb r
def Um(w:World)(v:Value):Prop:=∃ n m,Hw w v n m/\mM n/\Au m
theorem Hz:prog.cellsOf 48=10:=by kernel_rfl
section
open Go.ChangeShapes Go.WideShapes Go.Joins
set_option maxRecDepth 100000
theorem M8{H:Type}{enc:TypeId×Value ->H}{W:World}{n:Nat}{cs:List Value}{y:DataW H×List MemPlace}(ht:DataW.trod enc prog W 0 (fun _=>true) true n 46 cs=some y):∃ m s,cs=(lD m s).toList/\xX m s W/\Au m:=by
 have hf:=ht;obtain ⟨ys,n',-,-,hl,hlen,hf⟩:=fu underlying46 hf;rw [H8] at hl;have e3:prog.cellsOf 25=1:=by kernel_rfl
 have e4:prog.cellsOf 29=1:=by kernel_rfl
 have e5:prog.cellsOf 26=1:=by kernel_rfl
 have e6:prog.cellsOf 44=1:=by kernel_rfl
 have e7:prog.cellsOf 4=1:=by kernel_rfl
 match cs,hl with
 |[x0,x1,x2,x3,x4,x5,x6,x7,x8],_=>
  match ys,hlen with
  |[y0,y1,y2,y3,y4,y5,y6,y7,y8],_=>
   have h0:=hf 0 _ rfl;have h1:=hf 1 _ rfl;have h2:=hf 2 _ rfl;have h3:=hf 3 _ rfl;have h4:=hf 4 _ rfl;have h5:=hf 5 _ rfl;have h6:=hf 6 _ rfl;have h7:=hf 7 _ rfl;have h8:=hf 8 _ rfl;simp [qJ,e3,e4,e5,e6,e7] at h0 h1 h2 h3 h4 h5 h6 h7 h8
   obtain ⟨a0,g0,-,w0⟩:=bX underlying3 h0;obtain ⟨a1,g1,-,w1⟩:=bX underlying3 h1;obtain ⟨a2,g2,-⟩:=DataW.trod_bool underlying4 h2;obtain ⟨v3,l3,g3,s3,d3⟩:=kT gL mM qJ (fun ht=>wY ht) h3;obtain ⟨v4,l4,g4,s4,d4⟩:=kT gL mM qJ (fun ht=>wY ht) h4;obtain ⟨v5,l5,g5,s5⟩:=yF h5;obtain ⟨v6,l6,g6,s6⟩:=yF h6;obtain ⟨v7,l7,g7,s7,d7⟩:=kT gG M9 EC (fun ht=>H9 ht) h7;obtain ⟨v8,l8,g8,s8,d8⟩:=kT gV yD Ia (fun ht=>Na ht) h8;simp at g0 g1 g2 g3 g4 g5 g6 g7 g8
   subst g0 g1 g2 g3 g4 g5 g6 g7 g8;obtain ⟨b1,c1,rfl,-,-,-,k1⟩:=s3.parts;obtain ⟨b2,c2,rfl,-,-,-,k2⟩:=s4.parts;obtain ⟨b3,c3,rfl,-,-,-,k3⟩:=s5.parts;obtain ⟨b4,c4,rfl,-,-,-,k4⟩:=s6.parts;obtain ⟨b5,c5,rfl,-,-,-,k5⟩:=s7.parts;obtain ⟨b6,c6,rfl,-,-,-,k6⟩:=s8.parts;exact ⟨⟨a0,a1,a2,l3,l4,l5,l6,l7,l8⟩,⟨_,_,_,_,_,_,_,_,_,_,_,_,_,_,_,_,_,_⟩,rfl,⟨k1,k2,k3,k4,k5,k6⟩,w0,w1,d3,d4,d7,d8⟩
theorem Ce{H:Type}{enc:TypeId×Value ->H}{W:World}{n:Nat}{cs:List Value}{y:DataW H×List MemPlace}(ht:DataW.trod enc prog W 0 (fun _=>true) true n 48 cs=some y):∃ k m s,cs= .int .i64 k::(lD m s).toList/\xX m s W/\mM k/\Au m:=by
 obtain ⟨ys,n',-,-,hl,hlen,hf⟩:=fu underlying48 ht;rw [Hz] at hl
 match cs,hl with
 |[x0,x1,x2,x3,x4,x5,x6,x7,x8,x9],_=>
  match ys,hlen with
  |[y0,y1],_=>
   have h0:=hf 0 _ rfl;have h1:=hf 1 _ rfl;simp [qJ,H8] at h0 h1
   obtain ⟨a0,g0,-,w0⟩:=bX underlying3 h0;obtain ⟨m,s,g1,hm,ok⟩:=M8 h1;simp at g0
   subst g0;exact ⟨a0,m,s,by rw [<-g1],hm,w0,ok⟩
theorem Qj{H:Type}{enc:TypeId×Value ->H}{W:World}{r:Reach}{b:Nat}{v:Value}{d:DataW H}{p:List MemPlace}(hv:Value.okWide prog W r b 48 v)(h:DataW.Trod enc prog W 0 (fun _=>true) true 48 v d p):Um W v:=by
 obtain ⟨cs,rfl,-⟩:=okWide_struct underlying48 hv;obtain ⟨fuel,hf⟩:=h;simp only [Value.cells] at hf
 obtain ⟨k,m,s,e,hm,ok,okm⟩:=Ce hf;obtain ⟨cs⟩:=cs;simp only at e
 subst e;exact ⟨k,m,⟨s,by simp,hm⟩,ok,okm⟩
theorem JR{H:Type}{enc:TypeId×Value ->H}{W:World}{fuel:Nat}{cs:List Value}{y:DataW H×List MemPlace}(hf:DataW.trod enc prog W 0 (fun _=>true) true fuel 22 cs=some y):∃ (v:Value) (l:List (Int×gu)),cs=[v]/\wU W v l/\∀ x∈l,Cb x:=by
 rcases Go.Deep.open_slice underlying22 hf with ⟨hcs,-⟩|⟨a,len,cap,m,n,D,Pl,hcs,-,hl,hm,hmm,-,hi⟩
 ·exact ⟨_,[],hcs,⟨none,0,rfl,ah _,by decide,fun h=>absurd h (by simp)⟩,fun x hx=>absurd hx (by simp)⟩
 ·simp only [↓reduceIte] at hmm
  subst hmm;refine (?_:∃ (xs:List (Int×gu)),wU W (.slice (some a) len m) xs/\∀ x∈xs,Cb x).elim fun xs h=>⟨_,xs,hcs,h⟩
  have each:∀ j,j<len ->∃ k ms s,xX ms s W/\mM k/\Au ms/\∀ i u,(Value.int .i64 k::(lD ms s).toList)[i]? =some u ->W.cell? (a.add (j*10+i))=some u:=by
   intro j hj;obtain ⟨cs,hc,ht⟩:=hi j (by omega);rw [Hz] at hc;obtain ⟨-,hcl,hat⟩:=World.cells?_some hc;obtain ⟨k,ms,s,rfl,hR,h1,h2⟩:=Ce ht;refine ⟨k,ms,s,hR,h1,h2,fun i u hu=> ?_⟩;have hil:i<10:=(aP.1 hu).1;have:=hat i hil;rw [Go.Deep.add_add] at this;rw [this,hu]
  by_cases hp:0<len
  ·have hspot:a.spot=none:=by
    obtain ⟨k,ms,s,-,-,-,hc⟩:=each 0 hp;have:=World.cell?_spot (hc 0 _ rfl)
    simpa [Addr.add] using this
   obtain ⟨b0,o,spot⟩:=a;simp only at hspot
   subst hspot;have hblt:b0<W.heap.size:=by
    obtain ⟨k,ms,s,-,-,-,hc⟩:=each 0 hp;have:=aG W _ (hc 0 _ rfl)
    simpa [Addr.add] using this
   have build:∀ m,m<=len ->∃ (xs:List (Int×gu)),xs.length=m/\(∀ x∈xs,Cb x)/\∀ j x,xs[j]? =some x ->∃ s,Uc W b0 (o+j*10) x.1 x.2 s/\xX x.2 s W:=by
    intro m
    induction m with
    |zero=>intro _;exact ⟨[],rfl,fun x hx=>absurd hx (by simp),fun j x hj=>by simp at hj⟩
    |succ m ih=>
     intro hm2;obtain ⟨xs,hl,hok,hc⟩:=ih (by omega);obtain ⟨k,ms,s,hR,h1,h2,hcx⟩:=each m (by omega);refine ⟨xs++[(k,ms)],by rw [aA,hl];rfl,fun y hy=> ?_,fun j x hj=> ?_⟩
     ·rcases bA.1 hy with hy|hy
      ·exact hok y hy
      ·rw [bE.1 hy];exact ⟨h1,h2⟩
     ·by_cases hlt:j<xs.length
      ·rw [dI hlt] at hj
       exact hc j x hj
      ·have ej:j=m:=by
        have:=(aP.1 hj).1;rw [aA,hl] at this;simp at this
        omega
       subst ej;rw [fC (by omega),hl,cu] at hj;simp at hj
       subst hj;refine ⟨s,⟨?_,fun i v hv=> ?_⟩,hR⟩
       ·have:=hcx 0 _ rfl
        rw [Go.WideShapes.add_plain] at this;exact this
       ·have:=hcx (i+1) v (by rw [dL,<-hv];simp)
        rw [Go.WideShapes.add_plain] at this;rw [show o+j*10+1+i=o+(j*10+(i+1)) by omega];exact this
   obtain ⟨xs,hlx,hok,hc⟩:=build len (ah _);exact ⟨xs,⟨_,m,by rw [hlx],by omega,hm,fun _=>⟨b0,o,rfl,hblt,hc⟩⟩,hok⟩
  ·obtain rfl:len=0:=by omega
   exact ⟨[],⟨_,m,rfl,by simp,hm,fun h=>absurd h (by simp)⟩,fun x hx=>absurd hx (by simp)⟩
theorem Cg{H:Type}{enc:TypeId×Value ->H}{W:World}{r:Reach}{b:Nat}{v:Value}{d:DataW H}{p:List MemPlace}(hv:Value.okWide prog W r b 22 v)(h:DataW.Trod enc prog W 0 (fun _=>true) true 22 v d p):Cc W v:=by
 obtain ⟨a0,n0,c0,rfl⟩:=okWide_slice underlying22 hv;obtain ⟨fuel,hf⟩:=h;obtain ⟨u,xs,e,hs,hx⟩:=JR hf;simp [Value.cells] at e
 rw [e];exact ⟨xs,hs,hx⟩
end
end Go.Proofs.YtfgcodcablpdcaaGreat
set_option maxRecDepth 100000
set_option maxHeartbeats 64000000
namespace Go.Proofs.YtfgcodcablpdcaaGreat
open Go.Proofs.Tryz
open Go.RowKit Plain
def jY(n:Int)(m:gu):Bytes:=if 0<=n/\n<72057594037927936/\fV m=true then prec n m else []
def Wy(w:World)(bs:Bytes)(e:Ending)(w':World):Prop:=∃ v,e= .returned v/\By.Seq w' v bs/\Below w.heap.size w w'
structure XO(r:Int×gu):Prop where
 n:mM r.1
 m:Qi 1 r.2
 i:r.2.items.length<=60
 t:r.2.fU.length<=24
theorem Wz{r:Int×gu}(h:pV r=true)(hok:Cb r):XO r:=
 have hs:=Wu h hok.2
 ⟨hok.1,Nb h hok.2,hs.i,hs.t⟩
theorem Qk{l:List (Int×gu)}(h:AU l=true)(hok:∀ r∈l,Cb r):l.length<=12/\∀ r∈l,XO r:=by
 unfold AU at h;rw [aD,decide_eq_true_iff,aR] at h;exact ⟨h.1,fun r hr=>Wz (h.2 r hr) (hok r hr)⟩
theorem Ib{n:Int}{m:gu}(hn:0<=n/\n<72057594037927936)(hf:fV m=true)(hi:m.items.length<=60)(ht:m.fU.length<=24):(prec n m).length<=200008:=by
 unfold prec;rw [aA,Ca];have:=gP n.toNat (by omega);have:=Qg hf hi ht;omega
theorem cDo_out{c:fT}{n:Int}{m:gu}(h3:c.cores<=3)(h:¬ (0<=n/\n<72057594037927936/\fV m=true)):FJ c n m=none:=by
 unfold FJ
 by_cases hf:fV m=false
 ·rw [if_pos hf]
 rw [if_neg hf];have hf2:fV m=true:=by simpa using hf
 have hn:¬ (0<=n/\n<72057594037927936):=fun k=>h ⟨k.1,k.2,hf2⟩
 rw [if_neg (by omega),if_neg (by omega),if_neg (by omega)]
theorem Dt{v:Value}{r:Int×gu}{w:World}(hv:Hw w v r.1 r.2)(hr:XO r):Calls prog 15 #[v] w (Wy w (jY r.1 r.2)):=by
 obtain ⟨n,m⟩:=r;obtain ⟨va,vn,vc,fa,fn,fc,za,zn,zc,na,nn,nc,ia,im,ic,la,ln,lc,rfl,h⟩:=hv.slices;have G0:=zH (zB w (.cells #[.int .i64 n,.int .i64 m.kind,.int .i64 m.ticket,.bool m.whole,.slice va vn vc,.slice fa fn fc,.slice za zn zc,.slice na nn nc,.slice ia im ic,.slice la ln lc] 48));have X0:=Kt (n:=n) h;unfold lD at X0;have X:Hid (xQ w.heap.size n m ⟨va,vn,vc,fa,fn,fc,za,zn,zc,na,nn,nc,ia,im,ic,la,ln,lc⟩ (w.alloc (.cells #[.int .i64 n,.int .i64 m.kind,.int .i64 m.ticket,.bool m.whole,.slice va vn vc,.slice fa fn fc,.slice za zn zc,.slice na nn nc,.slice ia im ic,.slice la ln lc] 48))):=zH X0;have KM:=zH (fun u v (h:pE u v m)=>mputP h hr.m.p hr.m.n (by have:=hr.i;show m.items.length<=_;simp only at this;omega) (by have:=hr.t;show m.fU.length<=_;simp only at this;omega));have HI:=i64_in hr.n;simp only at HI
 have PL:=zH (fun hn hf=>Ib (n:=n) (m:=m) hn hf hr.i hr.t);clear hv h X0 hr
 show Calls _ _ _ _ (Wy w (jY n m))
 go_enter func15,ntmps15
 go_upto_region 1 with fail
 generalize (w.alloc _)=w0 at*;have c0:=X.o.cl.1
 by_cases hn:0<=n/\n<72057594037927936
 rotate_left
 ·have KN:=zH (By.Tw (.slice none 0 0) w0 n HI.1 HI.2 (by omega))
  have E0:jY n m=[]:=by unfold jY;rw [if_neg (fun k=>hn ⟨k.1,k.2.1⟩)]
  go_wp2_with fail
  refine KN.o.mono ?_;rintro e w2 ⟨rfl,rfl⟩;clear c0 KN;obtain ⟨c0,c1,c2,c3,c4,c5,c6,c7,c8,c9⟩:=X.o.cl;have K3:=zH (KM.o w0 _ X.o.is);go_wp2_with fail
  refine K3.o.mono ?_;intro e w3 hg;have G3:=zH (G0.o.trans (hg.2.2.mono G0.o.size))
  cases hf:fV m
  ·obtain rfl:=hg.2.1 hf
   clear hg K3 c0 c1 c2 c3 c4 c5 c6 c7 c8 c9;go_wp2_with fail
   go_ret
   exact ⟨.slice none 0 0,rfl,by rw [E0];exact By.Seq.nil _,G3.o⟩
  ·obtain ⟨v,rfl,ho⟩:=hg.1 hf
   obtain ⟨a,nn,rfl,-,-,-,-⟩:=ho.parts;clear hg ho K3 c0 c1 c2 c3 c4 c5 c6 c7 c8 c9;go_wp2_with fail
   go_ret
   exact ⟨.slice none 0 0,rfl,by rw [E0];exact By.Seq.nil _,G3.o⟩
 have EN:((n.toNat:Nat):Int)=n:=by omega
 have KN0:=By.zF (By.Seq.nil w0) (by simp) n.toNat (by omega);rw [EN,bJ] at KN0;have KN:=zH KN0;clear KN0;have HN:=zH hn;have FL:(form n.toNat).length<=8:=gP _ (by omega);have E1:fV m=true ->jY n m=form n.toNat++rJ m:=fun hf=>by unfold jY prec;rw [if_pos ⟨hn.1,hn.2,hf⟩,Ca]
 have E0:fV m=false ->jY n m=[]:=fun hf=>by unfold jY;rw [if_neg (fun k=>by rw [hf] at k;exact absurd k.2.2 (by decide))]
 have PZ:fV m=true ->(rJ m).length<=200008:=fun hf=>by have:=PL.o hn hf;unfold prec at this;rw [aA] at this;omega
 have HE1:=zH E1;have HE0:=zH E0;have HPZ:=zH PZ;clear E1 E0 PZ PL EN hn;go_wp2_with fail
 refine KN.o.mono ?_;rintro e w2 ⟨v2,rfl,ho2,hb2⟩;have O2:=zH (ho2.mono G0.o.size);have X2:=zH (X.o.below hb2);have G2:=zH (G0.o.trans (hb2.mono G0.o.size));obtain ⟨a2,n2,rfl,-,-,-,-⟩:=ho2.parts;clear ho2 hb2 KN X c0;obtain ⟨c0,c1,c2,c3,c4,c5,c6,c7,c8,c9⟩:=X2.o.cl;have K3:=zH (KM.o w2 _ X2.o.is);clear KM;generalize form n.toNat=fm at*;generalize hfe:fm.length=fl at*;have FE:=zH hfe;have FL2:=zH FL;clear hfe FL;go_wp2_with fail
 refine K3.o.mono ?_;intro e w3 hg;have O3:=zH (O2.o.below hg.2.2 (ah _));have G3:=zH (G2.o.trans (hg.2.2.mono G2.o.size));obtain ⟨f,hf⟩:∃ f,fV m=f:=⟨_,rfl⟩;have HF:=zH hf;clear hf
 cases f
 ·obtain rfl:=hg.2.1 HF.o
  clear hg K3 c0 c1 c2 c3 c4 c5 c6 c7 c8 c9;have E0:=HE0.o HF.o;go_wp2_with fail
  go_ret
  exact ⟨.slice none 0 0,rfl,by rw [E0];exact By.Seq.nil _,G3.o⟩
 obtain ⟨v3,rfl,ho3⟩:=hg.1 HF.o;have S3:=zH ho3.seq;obtain ⟨a3,n3,rfl,-,-,-,-⟩:=ho3.parts;have PZ:=zH (HPZ.o HF.o);have EB:=zH (HE1.o HF.o);clear ho3 hg K3 c0 c1 c2 c3 c4 c5 c6 c7 c8 c9 HE1 HE0 HPZ HF;generalize rJ m=pm at*;have ZG:=zH G3.o.size;have GR:Hid (Grow w.heap.size w (.slice none 0 0) w3 (.slice a2 fl n2)):=zH ⟨G3.o,fun b hl _=>G3.o.block b hl,fun k hk=> .inr (O3.o.lt k hk).1⟩;go_wp2_with (at_builtin;refine By.iq rfl (.tmp 25) (.tmp 26) rfl w.heap.size rfl O3.o rfl S3.o (by rw [FE.o];have:=FL2.o;have:=PZ.o;omega) G3.o.size ?_)
 intro v5 w5 ho5 hgr hat;have O5:=zH ho5;have G5:=zH (GR.o.app hgr hat (fun k hk=>(O3.o.lt k hk).1) (ah _)).below;clear ho5 hgr hat;go_wp2_with fail
 go_ret
 exact ⟨v5,rfl,by rw [EB.o];exact O5.o.seq,G5.o⟩
theorem yG{k:Nat}{v bv:Value}{c:fT}{r:Int×gu}{w:World}(hv:kK w v c)(hb:By.Seq w bv (jY r.1 r.2))(hcf:nX k c)(uD:k<=24)(hr:XO r):
  Calls prog 14 #[v,bv] w (xZ w (rM c r.1 r.2).1 (rM c r.1 r.2).2):=by
 by_cases h:0<=r.1/\r.1<72057594037927936/\fV r.2=true
 ·unfold jY at hb
  rw [if_pos h] at hb;exact Kz hv hb hcf uD hr.m (by decide) h.2.2 ⟨h.1,h.2.1⟩ (ak (Ib ⟨h.1,h.2.1⟩ h.2.2 hr.i hr.t) (by decide))
 ·unfold jY at hb
  rw [if_neg h] at hb;rw [wX (cDo_out hcf.c3 h)];exact XK hv hb
end Go.Proofs.YtfgcodcablpdcaaGreat