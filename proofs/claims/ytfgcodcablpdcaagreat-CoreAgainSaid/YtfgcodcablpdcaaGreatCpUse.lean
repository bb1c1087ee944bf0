import Derived.Test.YtfgcodcablpdcaaGreatCpMade
set_option linter.unusedVariables false
set_option maxRecDepth 100000
set_option maxHeartbeats 64000000
namespace Go.Proofs.YtfgcodcablpdcaaGreat
open Go.Proofs.Tryz
open Go.RowKit Plain
def kR(c:fT)(frm:Int)(m:gu):Option Bytes:=(BQ c frm m).map fun r=>prec r.1 r.2
def La(c:fT)(m:gu):Option Bytes:=if (jw c m.fU).length=0 then none else some (prec 0 {lQ with kind:=6,fU:=jw c m.fU})
theorem Qw{l:List fI}(h:fV {lQ with kind:=6,fU:=l}=true):(rJ {lQ with kind:=6,fU:=l}).length<=1000+l.length*14000:=by
 rw [yC];refine ak (PD h) ?_
 show 1000+0*144+l.length*14000<=_
 omega
theorem vP{c:fT}{n:Int}:qK c n=true↔0<=n/\n<c.cores/\¬ n=c.me:=by
 unfold qK rO;simp [and_assoc]
theorem Qx{c:fT}{n:Int}(h:0<=c.cores):tL c n=true↔c.cores<=n/\n<8/\¬ n=c.me:=by
 unfold tL rO;simp
 omega
section
variable {c:fT} {n:Int} {m:gu}
theorem Lb(hf:fV m=true)(h0:0<=c.cores)(h3:c.cores<=3)(h:(m.kind=1/\tL c n=true)\/(m.kind=6/\qK c n=true)):kR c n m=La c m:=by
 unfold kR BQ La;rw [Qx h0,vP] at h;rw [if_neg (by rw [hf];rintro (k|k|k|k);cases k;all_goals omega),if_pos (by omega)]
 split<;>rfl
theorem rec_ask(hf:fV m=true)(h3:c.cores<=3)(h:m.kind=5/\qK c n=true):kR c n m=if within m.vec (c.known.getD n.toNat [])=false then some (prec (1+n) m) else none:=by
 unfold kR BQ;rw [vP] at h;rw [if_neg (by rw [hf];rintro (k|k|k|k);cases k;all_goals omega),if_neg (by omega)]
 by_cases hw:within m.vec (c.known.getD n.toNat [])=false
 ·rw [if_pos ⟨h.1,h.2.2.1,hw⟩,if_pos hw];rfl
 ·rw [if_neg fun k=>hw k.2.2,if_neg hw];rfl
theorem Ck(h0:0<=c.cores)(h1:m.kind=1 ->tL c n=false)(h6:m.kind=6 ->qK c n=false)(h5:m.kind=5 ->qK c n=false):kR c n m=none:=by
 have g1:m.kind=1 ->¬ (c.cores<=n/\n<8/\¬ n=c.me):=fun e h=>by have:=h1 e;rw [(Qx h0).2 h] at this;cases this
 have g6:m.kind=6 ->¬ (0<=n/\n<c.cores/\¬ n=c.me):=fun e h=>by have:=h6 e;rw [vP.2 h] at this;cases this
 have g5:m.kind=5 ->¬ (0<=n/\n<c.cores/\¬ n=c.me):=fun e h=>by have:=h5 e;rw [vP.2 h] at this;cases this
 unfold kR BQ
 split
 ·rfl
 rename_i hn
 have hn2:¬ n<0/\¬ 7<n/\¬ n=c.me:=⟨fun h=>hn (.inr (.inl h)),fun h=>hn (.inr (.inr (.inl h))),fun h=>hn (.inr (.inr (.inr h)))⟩;rw [if_neg (by omega),if_neg (fun k=>g5 k.1 ⟨by omega,k.2.1,hn2.2.2⟩)]
 rfl
end
theorem Nh{k j:Nat}{v bv:Value}{c:fT}{m:gu}{bs:Bytes}{n:Int}{w:World}(hv:kK w v c)(hb:By.Seq w bv bs)(hz:bs.length<=500000000)(hr:xO bs=some m)(hf:fV m=true)(hcf:nX k c)(uD:k<=24)(hm:Qi j m)(hj:j<=12)(hlen:(rJ m).length<=900000000)(hit:m.items.length<=32768):Calls prog 20 #[v,.int .i64 n,bv] w (GivesAns w (kR c n m)):=by
 obtain ⟨res,hres⟩:∃ r:Option gu,r=some m:=⟨_,rfl⟩;rw [<-hres] at hr;have HLN:=zH hlen;have HIT:=zH hit;clear hlen hit;obtain ⟨ha,hn,hc,ia,im,ic,fa,fn,fc,la,ln,lc,ka,kn,kc,rfl,h⟩:=hv.slices;obtain ⟨ba,bn,bc,rfl,hbn,-,-,hbs⟩:=uL hb;have BX:=mX h;unfold fP at BX;have X0:=zH BX;have hb0:=zB w (.cells #[.int .i64 c.me,.int .i64 c.cores,.slice ha hn hc,.slice ia im ic,.slice fa fn fc,.slice la ln lc,.slice ka kn kc] 34);have B0:=zH hb0;have KM:=zH (Uj (hbs.below hb0) hz res hr);subst hres;have HC:=zH hcf;have HK:=zH uD;have HM:=zH hm;have HJ:=zH hj;have HF:=zH hf;have C0:Hid (0<=c.cores):=zH (by have:=hcf.cores;omega);clear hv hb hz hr h BX hbs hb0 hbn hcf uD hm hj hf;go_enter func20,ntmps20
 go_upto_region 1 with fail
 generalize (w.alloc _)=w0 at*;go_upto_region 2 with (go_at_call 33;refine KM.o.mono ?_;rintro e w1 ⟨v1,rfl,hm1,hb⟩;have B1:=zH (B0.o.trans (hb.mono B0.o.size));have X1:=zH (X0.o.below hb);obtain ⟨va,vn,vc,ga,gn,gc,za,zn,zc,na,nn,nc,ja,jm,jc,ta,tn,tc,rfl,HA⟩:=hm1.slices;have A1:=zH HA;clear hm1 HA hb KM)
 have hb1:=zB w1 (.cells #[.int .i64 m.kind,.int .i64 m.ticket,.bool m.whole,.slice va vn vc,.slice ga gn gc,.slice za zn zc,.slice na nn nc,.slice ja jm jc,.slice ta tn tc] 46);have X:=zH (X1.o.below hb1);have Y:=zH (mW A1.o);have B2:=zH (B1.o.trans (hb1.mono B1.o.size));clear hb1 X0 X1 A1 B1 B0;generalize (w1.alloc _)=w2 at*;generalize w1.heap.size=gm at*;obtain ⟨c0,c1,c2,c3,c4,c5,c6⟩:=X.o.cl;obtain ⟨m0,m1,m2,m3,m4,m5,m6,m7,m8⟩:=Y.o.c;have KE:=zH (Uv (n:=n) X.o.is HC.o.c3);have KO:=zH (Qt (n:=n) X.o.is HC.o.c3);unfold fP at KE KO
 by_cases hk1:m.kind=1
 ·have b1:(m.kind==1)=true:=beq_iff_eq.2 hk1
  have K1:=zH hk1;have b6:(m.kind==6)=false:=beq_false_of_ne (by omega);have b5:(m.kind==5)=false:=beq_false_of_ne (by omega);clear hk1;obtain ⟨r,hr⟩:∃ r,tL c n=r:=⟨_,rfl⟩;rw [hr] at KE;have HR:=zH hr;clear hr;go_wp2_with fail
  refine KE.o.mono ?_;rintro e w4 ⟨rfl,hb⟩;have X4:=zH (X.o.below hb);have Y4:=zH (Y.o.below hb);have B4:=zH (B2.o.trans (hb.mono B2.o.size));clear hb KE KO X Y c0 c1 c2 c3 c4 c5 c6 m0 m1 m2 m3 m4 m5 m6 m7 m8;obtain ⟨c0,c1,c2,c3,c4,c5,c6⟩:=X4.o.cl;obtain ⟨m0,m1,m2,m3,m4,m5,m6,m7,m8⟩:=Y4.o.c
  cases r
  ·have E:=zH (Ck (m:=m) (n:=n) C0.o (fun _=>HR.o) (fun h=>absurd (K1.o.symm.trans h) (by decide)) (fun h=>absurd (K1.o.symm.trans h) (by decide)))
   go_wp2_with fail
   go_ret2
   rw [E.o];exact ⟨_,rfl,fun x hx=>(by cases hx),fun _=>rfl,B4.o⟩
  ·skip
   have E:=zH (Lb (n:=n) HF.o C0.o HC.o.c3 (.inl ⟨K1.o,HR.o⟩));have KL:=zH (AY (w:=w4) X4.o.is Y4.o.a.l HC.o.snd (kJ.1 HF.o).fU (fun t h=>(HM.o.tf t h).b.tx) (by have:=HC.o.list;have:=HM.o.t;have:=HK.o;have:=HJ.o;omega));unfold fP at KL;go_wp2_with fail
   refine KL.o.mono ?_;rintro e w5 ⟨da,dn,dc,rfl,hT,hb⟩;have T5:fM gV w5 (.slice da dn dc) (jw c m.fU):=hT.mono fun b h=>h.2
   have DN:=zH T5.iY.1;have B5:=zH (B4.o.trans (hb.mono B4.o.size));have FT:∀ t∈jw c m.fU,FP t:=fun t h=>HM.o.tf t (Ch h)
   have FL:(jw c m.fU).length<=24*j:=ak (sU c m.fU) HM.o.t;have FF:fV {lQ with kind:=6,fU:=jw c m.fU}=true:=Ez (fun t h=>sK h) (by have:=HJ.o;omega);have KR:=zH (yL (w:=w5) (n:=0) (m:={lQ with kind:=6,fU:=jw c m.fU}) (v:= .agg #[.int .i64 6,.int .i64 0,.bool false,.slice none 0 0,.slice none 0 0,.slice none 0 0,.slice none 0 0,.slice none 0 0,.slice da dn dc]) ⟨_,_,_,_,_,_,rfl,fM.nil _,fM.nil _,kD.nil _,kD.nil _,fM.nil _,T5⟩ (Cj FT (by have:=HJ.o;omega) 6).1 (Cj FT (by have:=HJ.o;omega) 6).2 (by simp [lQ]) (by have:=HJ.o;simp;omega) FF (by decide) (by have h1:=Qw FF;have:=HJ.o;omega));clear hT hb T5 FT FL FF KL c0 c1 c2 c3 c4 c5 c6 m0 m1 m2 m3 m4 m5 m6 m7 m8
   by_cases hq:dn=0
   ·have E2:Hid (kR c n m=none):=zH (by rw [E.o];exact if_pos (DN.o.trans hq))
    have b0:((dn:Int)==0)=true:=by rw [hq];rfl
    clear hq KR;go_wp2_with fail
    go_ret2
    rw [E2.o];exact ⟨_,rfl,fun x hx=>(by cases hx),fun _=>rfl,B5.o⟩
   ·have E2:Hid (kR c n m=some (prec 0 {lQ with kind:=6,fU:=jw c m.fU})):=zH (by rw [E.o];exact if_neg (by rw [DN.o];exact hq))
    have b0:((dn:Int)==0)=false:=beq_false_of_ne (by omega);clear hq E;go_wp2_with fail
    refine KR.o.mono ?_;rintro e w6 ⟨v6,rfl,ho,hb⟩;have O6:=zH (ho.mono B5.o.size);have B6:=zH (B5.o.trans (hb.mono B5.o.size));obtain ⟨a,q,rfl,-,-,-,-⟩:=ho.parts;clear ho hb KR;generalize (prec 0 {lQ with kind:=6,fU:=jw c m.fU}).length=pl at*;go_wp2_with fail
    go_ret2
    rw [E2.o];exact ⟨_,rfl,fun x hx=>(by cases hx;exact O6.o),fun h=>(by cases h),B6.o⟩
 have K1:=zH hk1;have b1:(m.kind==1)=false:=beq_false_of_ne hk1;clear hk1
 by_cases hk6:m.kind=6
 ·have b6:(m.kind==6)=true:=beq_iff_eq.2 hk6
  have K6:=zH hk6;have b5:(m.kind==5)=false:=beq_false_of_ne (by omega);clear hk6;obtain ⟨r,hr⟩:∃ r,qK c n=r:=⟨_,rfl⟩;rw [hr] at KO;have HR:=zH hr;clear hr;go_wp2_with fail
  refine KO.o.mono ?_;rintro e w4 ⟨rfl,hb⟩;have X4:=zH (X.o.below hb);have Y4:=zH (Y.o.below hb);have B4:=zH (B2.o.trans (hb.mono B2.o.size));clear hb KE KO X Y c0 c1 c2 c3 c4 c5 c6 m0 m1 m2 m3 m4 m5 m6 m7 m8;obtain ⟨c0,c1,c2,c3,c4,c5,c6⟩:=X4.o.cl;obtain ⟨m0,m1,m2,m3,m4,m5,m6,m7,m8⟩:=Y4.o.c
  cases r
  ·have E:=zH (Ck (m:=m) (n:=n) C0.o (fun h=>absurd h K1.o) (fun _=>HR.o) (fun h=>absurd (K6.o.symm.trans h) (by decide)))
   go_wp2_with fail
   go_ret2
   rw [E.o];exact ⟨_,rfl,fun x hx=>(by cases hx),fun _=>rfl,B4.o⟩
  ·skip
   have E:=zH (Lb (n:=n) HF.o C0.o HC.o.c3 (.inr ⟨K6.o,HR.o⟩));have KL:=zH (AY (w:=w4) X4.o.is Y4.o.a.l HC.o.snd (kJ.1 HF.o).fU (fun t h=>(HM.o.tf t h).b.tx) (by have:=HC.o.list;have:=HM.o.t;have:=HK.o;have:=HJ.o;omega));unfold fP at KL;go_wp2_with fail
   refine KL.o.mono ?_;rintro e w5 ⟨da,dn,dc,rfl,hT,hb⟩;have T5:fM gV w5 (.slice da dn dc) (jw c m.fU):=hT.mono fun b h=>h.2
   have DN:=zH T5.iY.1;have B5:=zH (B4.o.trans (hb.mono B4.o.size));have FT:∀ t∈jw c m.fU,FP t:=fun t h=>HM.o.tf t (Ch h)
   have FL:(jw c m.fU).length<=24*j:=ak (sU c m.fU) HM.o.t;have FF:fV {lQ with kind:=6,fU:=jw c m.fU}=true:=Ez (fun t h=>sK h) (by have:=HJ.o;omega);have KR:=zH (yL (w:=w5) (n:=0) (m:={lQ with kind:=6,fU:=jw c m.fU}) (v:= .agg #[.int .i64 6,.int .i64 0,.bool false,.slice none 0 0,.slice none 0 0,.slice none 0 0,.slice none 0 0,.slice none 0 0,.slice da dn dc]) ⟨_,_,_,_,_,_,rfl,fM.nil _,fM.nil _,kD.nil _,kD.nil _,fM.nil _,T5⟩ (Cj FT (by have:=HJ.o;omega) 6).1 (Cj FT (by have:=HJ.o;omega) 6).2 (by simp [lQ]) (by have:=HJ.o;simp;omega) FF (by decide) (by have h1:=Qw FF;have:=HJ.o;omega));clear hT hb T5 FT FL FF KL c0 c1 c2 c3 c4 c5 c6 m0 m1 m2 m3 m4 m5 m6 m7 m8
   by_cases hq:dn=0
   ·have E2:Hid (kR c n m=none):=zH (by rw [E.o];exact if_pos (DN.o.trans hq))
    have b0:((dn:Int)==0)=true:=by rw [hq];rfl
    clear hq KR;go_wp2_with fail
    go_ret2
    rw [E2.o];exact ⟨_,rfl,fun x hx=>(by cases hx),fun _=>rfl,B5.o⟩
   ·have E2:Hid (kR c n m=some (prec 0 {lQ with kind:=6,fU:=jw c m.fU})):=zH (by rw [E.o];exact if_neg (by rw [DN.o];exact hq))
    have b0:((dn:Int)==0)=false:=beq_false_of_ne (by omega);clear hq E;go_wp2_with fail
    refine KR.o.mono ?_;rintro e w6 ⟨v6,rfl,ho,hb⟩;have O6:=zH (ho.mono B5.o.size);have B6:=zH (B5.o.trans (hb.mono B5.o.size));obtain ⟨a,q,rfl,-,-,-,-⟩:=ho.parts;clear ho hb KR;generalize (prec 0 {lQ with kind:=6,fU:=jw c m.fU}).length=pl at*;go_wp2_with fail
    go_ret2
    rw [E2.o];exact ⟨_,rfl,fun x hx=>(by cases hx;exact O6.o),fun h=>(by cases h),B6.o⟩
 have K6:=zH hk6;have b6:(m.kind==6)=false:=beq_false_of_ne hk6;clear hk6
 by_cases hk5:m.kind=5
 rotate_left
 ·have b5:(m.kind==5)=false:=beq_false_of_ne hk5
  have E:=zH (Ck (m:=m) (n:=n) C0.o (fun h=>absurd h K1.o) (fun h=>absurd h K6.o) (fun h=>absurd h hk5));clear hk5;go_wp2_with fail
  go_ret2
  rw [E.o];exact ⟨_,rfl,fun x hx=>(by cases hx),fun _=>rfl,B2.o⟩
 have b5:(m.kind==5)=true:=beq_iff_eq.2 hk5;have K5:=zH hk5;clear hk5;obtain ⟨r,hr⟩:∃ r,qK c n=r:=⟨_,rfl⟩;rw [hr] at KO;have HR:=zH hr;clear hr
 cases r
 ·have E:=zH (Ck (m:=m) (n:=n) C0.o (fun h=>absurd h K1.o) (fun h=>absurd h K6.o) (fun _=>HR.o))
  go_wp2_with fail
  refine KO.o.mono ?_;rintro e w4 ⟨rfl,hb⟩;have X4:=zH (X.o.below hb);have Y4:=zH (Y.o.below hb);have B4:=zH (B2.o.trans (hb.mono B2.o.size));clear hb KE KO X Y c0 c1 c2 c3 c4 c5 c6 m0 m1 m2 m3 m4 m5 m6 m7 m8;obtain ⟨c0,c1,c2,c3,c4,c5,c6⟩:=X4.o.cl;obtain ⟨m0,m1,m2,m3,m4,m5,m6,m7,m8⟩:=Y4.o.c;go_wp2_with fail
  go_ret2
  rw [E.o];exact ⟨_,rfl,fun x hx=>(by cases hx),fun _=>rfl,B4.o⟩
 obtain ⟨o1,o2,o3⟩:=vP.1 HR.o;obtain ⟨j0,rfl⟩:∃ j0:Nat,n=(j0:Int):=⟨n.toNat,by omega⟩;have hjl:j0<c.known.length:=by have:=HC.o.cores;omega
 have E0:=rec_ask HF.o HC.o.c3 ⟨K5.o,HR.o⟩;rw [show c.known.getD ((j0:Nat):Int).toNat []=c.known.getD j0 default from rfl] at E0;obtain ⟨wb,hwb⟩:∃ r,within m.vec (c.known.getD j0 default)=r:=⟨_,rfl⟩;rw [hwb] at E0;have E:=zH E0;have HWB:=zH hwb;have HJL:=zH hjl;have kj0:(0:Int)<=(j0:Int):=by omega
 have kj3:(j0:Int)<=3:=by have:=HC.o.c3;omega
 clear E0 hwb o1 o2 o3 hjl;go_upto_region 11 with (go_at_call 57;refine KO.o.mono ?_;rintro e w4 ⟨rfl,hb⟩;have X4:=zH (X.o.below hb);have Y4:=zH (Y.o.below hb);have B4:=zH (B2.o.trans (hb.mono B2.o.size));clear hb KE KO X Y c0 c1 c2 c3 c4 c5 c6 m0 m1 m2 m3 m4 m5 m6 m7 m8)
 have DKN:=zH (fM.iY (L:=oM) (show fM oM w4 (.slice ka kn kc) c.known from X4.o.seq.k)).1;have kj:(j0:Int)<kn:=by have:=HJL.o;have:=DKN.o;omega
 have KK:=zH (fun u (hb:Below w4.heap.size w4 u)=>KG (v:= .agg #[.int .i64 c.me,.int .i64 c.cores,.slice ha hn hc,.slice ia im ic,.slice fa fn fc,.slice la ln lc,.slice ka kn kc]) ⟨⟨ha,hn,hc,ia,im,ic,fa,fn,fc,la,ln,lc,ka,kn,kc⟩,rfl,(X4.o.below hb).seq⟩ HC.o.snd.kn HC.o.c3 (fun x hx=>ak (HC.o.known x hx) (by decide)));have KW:=zH (fun u ev (hb:Below w4.heap.size w4 u) (he:gQ u ev (c.known.getD j0 default))=>Ay (gW (Y4.o.below hb).a.v) he (ak HM.o.vec (by decide)));rw [HWB.o] at KW;have KE2:Hid (∀ u,Below w4.heap.size w4 u ->Below w4.heap.size w4 u/\(u.cell? ⟨w.heap.size,0,none⟩=some (.int .i64 c.me)/\u.cell? ⟨w.heap.size,1,none⟩=some (.int .i64 c.cores)/\u.cell? ⟨w.heap.size,2,none⟩=some (.slice ha hn hc)/\u.cell? ⟨w.heap.size,3,none⟩=some (.slice ia im ic)/\u.cell? ⟨w.heap.size,4,none⟩=some (.slice fa fn fc)/\u.cell? ⟨w.heap.size,5,none⟩=some (.slice la ln lc)/\u.cell? ⟨w.heap.size,6,none⟩=some (.slice ka kn kc))/\u.cell? ⟨gm,3,none⟩=some (.slice va vn vc)):=zH (fun u hb=>⟨hb,(X4.o.below hb).cl,(Y4.o.below hb).c.2.2.2.1⟩);refine wp_region_held_drew (S:=fun u'=>Below w4.heap.size w4 u'/\(u'.cell? ⟨w.heap.size,0,none⟩=some (.int .i64 c.me)/\u'.cell? ⟨w.heap.size,1,none⟩=some (.int .i64 c.cores)/\u'.cell? ⟨w.heap.size,2,none⟩=some (.slice ha hn hc)/\u'.cell? ⟨w.heap.size,3,none⟩=some (.slice ia im ic)/\u'.cell? ⟨w.heap.size,4,none⟩=some (.slice fa fn fc)/\u'.cell? ⟨w.heap.size,5,none⟩=some (.slice la ln lc)/\u'.cell? ⟨w.heap.size,6,none⟩=some (.slice ka kn kc))/\u'.cell? ⟨gm,3,none⟩=some (.slice va vn vc)) (by kernel_rfl) ?_ (fun hH=> ?_)
 ·(exact KE2.o _ (aj _ _).drew)
 simp only [zS,aJ,Nat.reduceAdd]
 refine fJ 0 hH ?_;refine fJ 1 hH ?_;refine fJ 2 hH ?_;refine fJ 4 hH ?_;refine rd 3 fun K hK=> ?_
 go_simp
 refine (KK.o _ hH.1).mono ?_;rintro e s1 ⟨ga,gc,rfl,hG,hb⟩;rw [DKN.o] at hG ⊢;have C1:=zH (hH.1.trans (hb.mono hH.1.size));obtain ⟨gk,go,gc2,e4,hgk,hx⟩:=sS (hG.sq fun b h _=>h) (fun b h=>h.2) (by have:=HJL.o;omega);simp only [aC] at e4
 obtain ⟨rfl,-,-⟩:=e4;obtain rfl:=Wn hG;obtain ⟨da,dn,dc,hd,sd⟩:=hx j0 HJL.o;rw [aJ] at hd;have HD:=zH hd;have KW1:=zH (KW.o s1 _ C1.o (gW (sd.mono fun b h=>h.2)));have gd:=fM.iY (L:=oM) (show fM oM s1 (.slice (some ⟨gk,0,none⟩) kn gc) c.known from hG.own.seq);have g1:(kn:Int)<=gc:=by have:=gd.2;omega
 have g2:(gc:Int)<=9223372036854775807:=by have:=gd.2;omega
 clear hx sd gd hd hgk;refine hK.out _ _ (KE2.o _ C1.o) (fun hH=> ?_);clear hK K hG hb;refine fJ 5 hH ?_;have ck:=HD.o;refine rd 6 fun K hK=> ?_
 go_simp
 refine hK.out _ _ hH (fun hH=> ?_);clear hK K ck;refine rd 7 fun K hK=> ?_
 go_simp
 refine (KW1.o).mono ?_;rintro e s2 ⟨rfl,rfl⟩;refine hK.out _ _ hH (fun hH=> ?_);clear hK K;refine wpAnyH_done (by kernel_rfl) ?_ _;clear hH;have Y5:=zH (Y4.o.below C1.o);have B5:=zH (B4.o.trans (C1.o.mono B4.o.size));obtain ⟨m0,m1,m2,m3,m4,m5,m6,m7,m8⟩:=Y5.o.c;clear KK KW KW1 KE2 HD g1 g2 X4 Y4
 cases wb
 rotate_left
 ·simp only [Bool.true_eq_false,if_false] at E
  go_wp2_with fail
  go_ret2
  rw [E.o];exact ⟨_,rfl,fun x hx=>(by cases hx),fun _=>rfl,B5.o⟩
 simp only [if_true] at E
 have KR:=zH (yL (n:=1+(j0:Int)) Y5.o.is HM.o.p HM.o.n HIT.o (by have:=HM.o.t;have:=HJ.o;omega) HF.o ⟨by omega,by omega⟩ (ak HLN.o (by decide)));go_wp2_with fail
 refine KR.o.mono ?_;rintro e w6 ⟨v6,rfl,ho,hb⟩;have O6:=zH (ho.mono B5.o.size);have B6:=zH (B5.o.trans (hb.mono B5.o.size));obtain ⟨a,q,rfl,-,-,-,-⟩:=ho.parts;clear ho hb KR m0 m1 m2 m3 m4 m5 m6 m7 m8;generalize (prec (1+(j0:Int)) m).length=pl at*;go_wp2_with fail
 go_ret2
 rw [E.o];exact ⟨_,rfl,fun x hx=>(by cases hx;exact O6.o),fun h=>(by cases h),B6.o⟩
end Go.Proofs.YtfgcodcablpdcaaGreat
set_option maxRecDepth 100000
set_option maxHeartbeats 64000000
namespace Go.Proofs.YtfgcodcablpdcaaGreat
open Go.Proofs.Tryz
open Go.RowKit Plain
def coT:fI:=⟨3,1,[],[]⟩
def Ux:gu:=⟨1,0,false,[],[],[],[],[],[coT]⟩
def coF:gu:=⟨6,0,false,[],[],[],[],[],[coT]⟩
theorem xg:fV Ux=true:=by decide+kernel
theorem Ik:fV coF=true:=by decide+kernel
theorem coT_ok:yD coT:=⟨by unfold mM;decide,by unfold mM;decide,fun n h=>absurd h (by simp [coT]),fun e h=>absurd h (by simp [coT])⟩
theorem coM_ok:Au Ux:=⟨by unfold mM;decide,by unfold mM;decide,fun n h=>absurd h (by simp [Ux]),fun n h=>absurd h (by simp [Ux]),fun n h=>absurd h (by simp [Ux]),fun x h=>by rw [bE.1 h];exact coT_ok⟩
theorem coF_ok:Au coF:=⟨by unfold mM;decide,by unfold mM;decide,fun n h=>absurd h (by simp [coF]),fun n h=>absurd h (by simp [coF]),fun n h=>absurd h (by simp [coF]),fun x h=>by rw [bE.1 h];exact coT_ok⟩
theorem Gh:Qi 1 Ux:=Nb (by decide+kernel) coM_ok
theorem coF_fit:Qi 1 coF:=Nb (by decide+kernel) coF_ok
theorem co_new:nX 0 (cNew 0 1):=Qn (by decide) (by decide) (by decide)
theorem Yb:kR (cNew 0 1) 3 Ux=some (prec 0 coF):=by
 unfold kR;rw [show BQ (cNew 0 1) 3 Ux=some (0,coF) from by decide+kernel]
 rfl
theorem co_do:rM (cNew 0 1) 0 coF=(nH (cNew 0 1) [coT],0):=oU (by decide+kernel)
theorem co_list:(nH (cNew 0 1) [coT]).past.list.length=1:=by decide+kernel
theorem co_heard:(nH (cNew 0 1) [coT]).store.heard.length=4:=by decide+kernel
theorem EH(w:World):Calls prog 9 #[] w (fO w true):=by
 have KN:=zH (Ky (w:=w) (me:=0) (n:=1) (by decide) (by decide) (by decide));go_enter func9,ntmps9
 go_upto_region 2 with (go_at_call 10;refine KN.o.mono ?_;rintro e w1 ⟨⟨ha,hn,hc,ia,im,ic,fa,fn,fc,la,ln,lc,ka,kn,kc⟩,rfl,hA,hb⟩;have A1:=zH (hA.mono fun b h=>h.2);have B1:=zH hb;clear hA hb;unfold fP)
 have X0:=mX A1.o;unfold fP at X0;have G0:=B1.o.trans ((zB w1 (.cells #[.int .i64 (cNew 0 1).me,.int .i64 (cNew 0 1).cores,.slice ha hn hc,.slice ia im ic,.slice fa fn fc,.slice la ln lc,.slice ka kn kc] 34)).mono B1.o.size);have GN:=zH (B1.o.size);have X:=zH X0;have G:=zH G0;clear X0 G0 A1 KN B1;generalize (w1.alloc _)=w2 at*;generalize w1.heap.size=g at*;have hb3:=zB w2 (.cells #[.int .i64 3,.int .i64 1,.slice none 0 0,.slice none 0 0] 82);have KP:=zH (mputP (m:=Ux) (w:=w2.alloc (.cells #[.int .i64 3,.int .i64 1,.slice none 0 0,.slice none 0 0] 82)) (v:= .agg #[.int .i64 1,.int .i64 0,.bool false,.slice none 0 0,.slice none 0 0,.slice none 0 0,.slice none 0 0,.slice none 0 0,.slice (some ⟨w2.heap.size,0,none⟩) 1 1]) ⟨_,_,_,_,_,_,rfl,fM.nil _,fM.nil _,kD.nil _,kD.nil _,fM.nil _,one_txn (t:=coT) (fM.nil _) (fM.nil _)⟩ Gh.p Gh.n (by simp [Ux]) (by simp [Ux]));have X3:=zH (X.o.below hb3);have G3:=zH (G.o.trans (hb3.mono G.o.size));clear hb3;go_wp2_with fail
 refine KP.o.mono ?_;intro e w4 hg;obtain ⟨v4,rfl,ho⟩:=hg.1 xg;have X4:=zH (X3.o.below hg.2.2);have G4:=zH (G3.o.trans (hg.2.2.mono G3.o.size));have S4:=zH ho.seq;clear hg ho KP X3 G3 X G;obtain ⟨ba,bn,bc,rfl,hn,-,-,hs⟩:=uL S4.o;replace S4:=zH hs;have ZL:(rJ Ux).length<=200000:=Qg xg (by simp [Ux]) (by simp [Ux]);have KR0:=Nh (k:=0) (j:=1) (n:=3) X4.o.is S4.o (ak ZL (by decide)) (Hu xg Gh.n) xg co_new (by decide) Gh (by decide) (ak ZL (by decide)) (by simp [Ux]);rw [Yb] at KR0;unfold fP at KR0;have KR:=zH KR0;clear hs hn KR0 ZL;obtain ⟨c0,c1,c2,c3,c4,c5,c6⟩:=X4.o.cl;go_wp2_with fail
 refine KR.o.mono ?_;rintro e w5 ⟨v5,rfl,ho,-,hb⟩;have X5:=zH (X4.o.below hb);have G5:=zH (G4.o.trans (hb.mono G4.o.size));have S5:=zH (ho _ rfl).seq;clear ho hb KR c0 c1 c2 c3 c4 c5 c6 X4 G4;simp only [Option.isSome_some]
 obtain ⟨da,dn,dc,rfl,-,-,-,hs⟩:=uL S5.o;have PL:(prec 0 coF).length<=200008:=Ib ⟨by decide,by decide⟩ Ik (by simp [coF]) (by simp [coF]);have Ii:=Kz (k:=0) (j:=1) X5.o.is hs co_new (by decide) coF_fit (by decide) Ik ⟨by decide,by decide⟩ (ak PL (by decide));rw [co_do] at Ii;unfold fP at Ii;have KD:=zH Ii;have L1:=zH co_list;have L2:=zH co_heard;clear hs Ii PL S5;generalize nH (cNew 0 1) [coT]=d at*;obtain ⟨c0,c1,c2,c3,c4,c5,c6⟩:=X5.o.cl;go_upto_region 5 with (go_at_call 14;refine KD.o.mono ?_;rintro e w6 ⟨⟨xa,xn,xc,ya,ym,yc,za,zn,zc,qa,qn,qc,pa,pn,pc⟩,rfl,hA,hb⟩;have X6:=zH (X5.o.below hb);have G6:=zH (G5.o.trans (hb.mono G5.o.size));have A6:=zH hA;have ZH:=zH X5.o.lt;clear hA hb KD c0 c1 c2 c3 c4 c5 c6 X5 G5;unfold fP;obtain ⟨c0,c1,c2,c3,c4,c5,c6⟩:=X6.o.cl;obtain ⟨f0,f1,f2,f3,f4,f5,f6⟩:=(⟨X6.o.free 0,X6.o.free 1,X6.o.free 2,X6.o.free 3,X6.o.free 4,X6.o.free 5,X6.o.free 6⟩:_/\_/\_/\_/\_/\_/\_))
 have hn1:zn=zn:=rfl;obtain rfl:1=qn:=by rw [<-L1.o];exact (fM.iY (L:=gV) (A6.o.l.mono fun b h=>h.2)).1
 obtain rfl:4=xn:=by rw [<-L2.o];exact (fM.iY (L:=gL) (A6.o.h.mono fun b h=>h.2)).1
 have hcb:=X6.o.b;unfold fP at hcb;obtain ⟨⟨y0,y1,y2,y3,y4,y5,y6⟩,hz,ho,hbl⟩:=vo hcb (.int .i64 d.me) (.int .i64 d.cores) (.slice xa 4 xc) (.slice ya ym yc) (.slice za zn zc) (.slice qa 1 qc) (.slice pa pn pc);have G7:=zH (G6.o.trans (hbl _ GN.o));unfold kQ at y0 y1 y2 y3 y4 y5 y6 hz ho hbl G7;clear hcb hz ho hbl c0 c1 c2 c3 c4 c5 c6 f0 f1 f2 f3 f4 f5 f6;go_wp2_with fail
 go_ret
 exact ⟨rfl,G7.o⟩
theorem one_rec{w:World}{n:Int}{m:gu}{s:Dn}(h:xX m s w):wU (w.alloc (.cells (#[.int .i64 n]++lD m s) 48)) (.slice (some ⟨w.heap.size,0,none⟩) 1 1) [(n,m)]:=by
 have hb:=zB w (.cells (#[.int .i64 n]++lD m s) 48);refine ⟨_,1,rfl,ah _,by decide,fun _=>⟨_,0,rfl,by simp,fun j x hj=> ?_⟩⟩;have ej:j=0:=by
  have:=(aP.1 hj).1
  simpa using this
 subst ej;obtain rfl:(n,m)=x:=by simpa using hj
 refine ⟨s,⟨?_,fun i v hi=> ?_⟩,h.below hb⟩
 ·have:=bg w (#[.int .i64 n]++lD m s) 48 0
  rw [show (0:Nat)+0*10=0 from rfl,this]
  rfl
 ·have:=bg w (#[.int .i64 n]++lD m s) 48 (i+1)
  rw [show (0:Nat)+0*10+1+i=i+1 by omega,this];rw [<-hi];rw [Array.getElem?_append_right (by simp)];simp
theorem Uy{r:Int×gu}:AU [r]=pV r:=by unfold AU;simp
theorem Yc(w:World):kK w (.agg #[.int .i64 0,.int .i64 0,.slice none 0 0,.slice none 0 0,.slice none 0 0,.slice none 0 0,.slice none 0 0]) oQ:=
 ⟨⟨none,0,0,none,0,0,none,0,0,none,0,0,none,0,0⟩,rfl,⟨iC _ _ _,iC _ _ _,iC _ _ _,iC _ _ _,iC _ _ _⟩⟩
theorem Qy(c:fT)(n:Int)(m:gu):((rM c n m).2=0/\FJ c n m=some (rM c n m).1)\/((rM c n m).2=2/\(rM c n m).1=oQ/\FJ c n m=none):=by
 cases h:FJ c n m with
 |none=>rw [wX h];exact .inr ⟨rfl,rfl,rfl⟩
 |some d=>rw [oU h];exact .inl ⟨rfl,rfl⟩
structure RpFit(x:gu):Prop where
 p:yB x
 n:yt x
 i:x.items.length<=2304
 t:x.fU.length<=288
 ik:∀ y∈x.items,y.key.length<=300
 tf:∀ t∈x.fU,FP t
theorem RpFit.len{x:gu}(h:RpFit x)(hf:fV x=true):(rJ x).length<=5000000:=by
 rw [yC];have:=PD hf;have:=h.i;have:=h.t;omega
end Go.Proofs.YtfgcodcablpdcaaGreat