import Derived.Test.YtfgcodcablpdcaaGreatMsBox
import Derived.Test.YtfgcodcablpdcaaGreatTxUses
set_option linter.unusedVariables false
set_option maxRecDepth 100000
set_option maxHeartbeats 64000000
namespace Go.Proofs.YtfgcodcablpdcaaGreat
open Go.Proofs.Tryz
open Go.RowKit Plain
theorem uq{w:World}{g:Nat}{s:Rb}(hx:iV w g s)(m:Nat)(hm:m<=100000000000000000):Calls prog 281 #[.pointer (some ⟨g,0,none⟩),.int .i64 m] w fun e w'=>∃ a k c,k=min m s.1.length/\e= .returned (.slice a k c)/\By.Seq w' (.slice a k c) (s.1.take m)/\Below w.heap.size w w':=by
 obtain ⟨a,n,c,hn,h1,h2,h0,hh,hs,-⟩:=hx.parts;obtain ⟨c0,-,-,-⟩:=jE hh;obtain ⟨k,hk⟩:∃ k,k=min m s.1.length:=⟨_,rfl⟩;have hf:=hs.first k (by omega);have e:s.1.take k=s.1.take m:=by rw [hk,<-List.take_eq_take_min]
 rw [e] at hf;have HF:=zH hf;have M1:min (m:Int) (n:Int)=(k:Int):=by omega
 have m1:(k:Int)<=n:=by omega
 have m2:(k:Int)<=c:=by omega
 have m3:(0:Int)<=k:=by omega
 have m4:(n:Int)<=c:=by omega
 have HK:=zH hk;have HN:=zH hn;clear hx hs hh hf e hn hk h0;go_enter func281,ntmps281
 go_wp2_with fail
 go_quiet (fail)
 go_wp2_with fail
 go_ret
 exact ⟨_,_,_,HK.o,rfl,HF.o.below (below_drewN (aj _ _) _),below_drewN (aj _ _) _⟩
theorem YW{w:World}{g:Nat}{s:Rb}(hx:iV w g s)(hl:s.1.length<=500000000):Calls prog 228 #[.pointer (some ⟨g,0,none⟩),.int .i64 8,.func (.func 41) #[] #[]] w (lZ vN w g (xq iZ 0 s)):=by
 obtain ⟨r,k⟩:=s;obtain ⟨a0,n0,cc,hn0,h1,h2,h0,hh,hs,-⟩:=hx.parts;obtain ⟨c0,c1,f0,f1⟩:=jE hh;have HX:=zH hx
 cases k with
 |false=>
  have KF:=uq hx 8 (by decide);have HL:NP iZ 8 r:=locB_num r;have eg:∀ args w,(callFunc 41 args).run prog w= .ok (.enter 41 args) w:=enters_of func41 (by kernel_rfl) rfl;have HG:=zH hx.lt;have e0:((0:Int) !=0)=false:=by decide
  have hlr:(r.take 8).length<=1000000000:=by
   have:=bM 8 r;have h3:r.length<=500000000:=hl;have h4:=dK 8 r;omega
  cases hres:iZ.get (r.take 8) with
  |err j=>
   have hj:j≠0:=iZ.bad hres;obtain ⟨j2,HL2⟩:=HL.2 _ hres;have HE:=zH (zX (z:=0) HL2);have e1:(j !=0)=true:=bne_iff_ne.2 hj;clear hx hs hh HL HL2;go_enter func228,ntmps228
   go_wp2_with fail
   refine KF.mono ?_;rintro e w1 ⟨a1,k1,Vj,-,rfl,hs1,hb⟩;have KR:=By.uM hs1 hlr;rw [hres] at KR;have HB:=zH hb;have uo:=zH (HX.o.below hb);clear hs1 hb KF hres c0 c1 f0 f1;go_upto_region 6 with (go_at_fn 41;refine KR.mono ?_;rintro e w2 ⟨rfl,rfl⟩)
   obtain ⟨a2,n2,c2,hn2,-,-,-,hh2,hs2,hl2⟩:=uo.o.parts;have HL2:=zH hl2;obtain ⟨d0,d1,f0,f1⟩:=jE hh2;have mP:=zH hh2;have ze:=zH hs2;have HN:=zH hn2;clear hh2 hs2 hn2 KR;go_wp2_with fail
   go_ret
   rw [HE.o];have hn3:n2=r.length:=HN.o;subst hn3;exact ⟨_,rfl,rfl,vY mP.o ze.o HL2.o,(But.of HB.o (aT HG.o)).trans (But.set _ _ _ _)⟩
  |ok x q=>
   obtain ⟨HL2,hq⟩:=HL.1 _ _ hres;have HE:=zH (Bj (z:=0) HL2);obtain ⟨p,hp⟩:∃ p,p=min 8 r.length-q.length:=⟨_,rfl⟩;rw [<-hp] at HE;have hp0:0<p:=by omega
   have hpr:p<=r.length:=by omega
   have HQ:=zH hq;have HP:=zH hp;clear hx hs hh HL HL2 hq hp;go_enter func228,ntmps228
   go_wp2_with fail
   refine KF.mono ?_;rintro e w1 ⟨a1,k1,Vj,hk1,rfl,hs1,hb⟩;have KR:=By.uM hs1 hlr;rw [hres] at KR;have HB:=zH hb;have uo:=zH (HX.o.below hb);have NY:=zH hk1;clear hs1 hb KF hres c0 c1 f0 f1 hk1;go_upto_region 6 with (go_at_fn 41;refine KR.mono ?_;rintro e w2 ⟨v2,rfl,ho2,hb2⟩)
   have HB2:=zH (HB.o.trans (hb2.mono HB.o.size));have NZ:=zH (uo.o.below hb2);obtain ⟨a3,c3,rfl,-,-,-,-⟩:=ho2.parts;clear ho2 hb2 KR;obtain ⟨a2,n2,c2,hn2,g1,g2,g0,hh2,hs2,hl2⟩:=NZ.o.parts;have HL2:=zH hl2;obtain ⟨d0,d1,f0,f1⟩:=jE hh2;have hn3:n2=r.length:=hn2;subst hn3;have hs3:=hs2;obtain ⟨b2,o2,c2',hv,-,-,-,-⟩:=hs3.spot (by omega);simp only [aC] at hv
   obtain ⟨rfl,-,rfl⟩:=hv;have hd:=hs2.from p hpr;have mP:=zH hh2;have HD:=zH hd;have HG2:=zH (But.of HB2.o (aT HG.o));have e2:(k1:Int)-(q.length:Int)=(p:Int):=by have h3:=HP.o;have h4:=HQ.o;have h5:k1=min 8 r.length:=NY.o;omega
   have e3:IntKind.i64.wrap ((k1:Int)-(q.length:Int))=(p:Int):=by rw [e2];simp [IntKind.wrap,IntKind.bits,IntKind.signed];omega
   have tT:Hid ((r.drop p).length=r.length-p):=zH bB;clear hh2 hs2 hs3 hd hn2 g0 e2;generalize q.length=ql at*;have p1:(p:Int)<=(r.length:Int):=by omega
   have p2:(r.length:Int)<=(c2:Int):=by omega
   have p3:(p:Int)<=(c2:Int):=by omega
   have p4:(0:Int)<=(p:Int):=by omega
   by_cases hcp:c2=p
   ·rw [if_pos hcp] at HD
    subst hcp;have hpl:r.length=c2:=by omega
    rw [hpl,cu] at HD;rw [hpl,cu] at tT;have HPL:=zH hpl;generalize r.length=n at*;subst hpl;go_wp2_with fail
    go_ret
    rw [HE.o];refine ⟨_,rfl,rfl,?_,HG2.o.trans (But.set _ _ _ _)⟩;have HR:=nR (r:=r.drop n) (c':=0) mP.o (by rw [tT.o];exact HD.o) (fun _ ad he=>by cases he;exact HL2.o (by first|omega|(show 0<r.length;omega)) ⟨b2,o2,none⟩ rfl);rw [tT.o] at HR;exact HR
   ·rw [if_neg hcp] at HD
    go_wp2_with fail
    go_ret
    rw [HE.o];refine ⟨_,rfl,rfl,?_,HG2.o.trans (But.set _ _ _ _)⟩;have HR:=nR (r:=r.drop p) (c':=c2-p) mP.o (by rw [tT.o];exact HD.o) (fun _ ad he=>by cases he;exact HL2.o (by first|omega|(show 0<r.length;omega)) ⟨b2,o2,none⟩ rfl);rw [tT.o] at HR;exact HR
 |true=>
  have HE:=zH (vV (c:=iZ) (z:=0) (b:=r));clear hx hs hh;go_enter func228,ntmps228
  go_wp2_with fail
  go_ret
  rw [HE.o];exact ⟨_,rfl,rfl,HX.o,But.refl _ _⟩
theorem YX{w:World}{g:Nat}{s:Rb}(hx:iV w g s)(hl:s.1.length<=500000000):Calls prog 284 #[.pointer (some ⟨g,0,none⟩),.int .i64 8,.func (.func 285) #[] #[]] w (lZ vI w g (xq qz 0 s)):=by
 obtain ⟨r,k⟩:=s;obtain ⟨a0,n0,cc,hn0,h1,h2,h0,hh,hs,-⟩:=hx.parts;obtain ⟨c0,c1,f0,f1⟩:=jE hh;have HX:=zH hx
 cases k with
 |false=>
  have KF:=uq hx 8 (by decide);have HL:NP qz 8 r:=locB_int r;have eg:∀ args w,(callFunc 285 args).run prog w= .ok (.enter 285 args) w:=enters_of func285 (by kernel_rfl) rfl;have HG:=zH hx.lt;have e0:((0:Int) !=0)=false:=by decide
  have hlr:(r.take 8).length<=1000000000:=by
   have:=bM 8 r;have h3:r.length<=500000000:=hl;have h4:=dK 8 r;omega
  cases hres:qz.get (r.take 8) with
  |err j=>
   have hj:j≠0:=qz.bad hres;obtain ⟨j2,HL2⟩:=HL.2 _ hres;have HE:=zH (zX (z:=0) HL2);have e1:(j !=0)=true:=bne_iff_ne.2 hj;clear hx hs hh HL HL2;go_enter func284,ntmps284
   go_wp2_with fail
   refine KF.mono ?_;rintro e w1 ⟨a1,k1,Vj,-,rfl,hs1,hb⟩;have KR:=By.Gl hs1 hlr;rw [hres] at KR;have HB:=zH hb;have uo:=zH (HX.o.below hb);clear hs1 hb KF hres c0 c1 f0 f1;go_upto_region 6 with (go_at_fn 285;refine KR.mono ?_;rintro e w2 ⟨rfl,rfl⟩)
   obtain ⟨a2,n2,c2,hn2,-,-,-,hh2,hs2,hl2⟩:=uo.o.parts;have HL2:=zH hl2;obtain ⟨d0,d1,f0,f1⟩:=jE hh2;have mP:=zH hh2;have ze:=zH hs2;have HN:=zH hn2;clear hh2 hs2 hn2 KR;go_wp2_with fail
   go_ret
   rw [HE.o];have hn3:n2=r.length:=HN.o;subst hn3;exact ⟨_,rfl,rfl,vY mP.o ze.o HL2.o,(But.of HB.o (aT HG.o)).trans (But.set _ _ _ _)⟩
  |ok x q=>
   obtain ⟨HL2,hq⟩:=HL.1 _ _ hres;have HE:=zH (Bj (z:=0) HL2);obtain ⟨p,hp⟩:∃ p,p=min 8 r.length-q.length:=⟨_,rfl⟩;rw [<-hp] at HE;have hp0:0<p:=by omega
   have hpr:p<=r.length:=by omega
   have HQ:=zH hq;have HP:=zH hp;clear hx hs hh HL HL2 hq hp;go_enter func284,ntmps284
   go_wp2_with fail
   refine KF.mono ?_;rintro e w1 ⟨a1,k1,Vj,hk1,rfl,hs1,hb⟩;have KR:=By.Gl hs1 hlr;rw [hres] at KR;have HB:=zH hb;have uo:=zH (HX.o.below hb);have NY:=zH hk1;clear hs1 hb KF hres c0 c1 f0 f1 hk1;go_upto_region 6 with (go_at_fn 285;refine KR.mono ?_;rintro e w2 ⟨v2,rfl,ho2,hb2⟩)
   have HB2:=zH (HB.o.trans (hb2.mono HB.o.size));have NZ:=zH (uo.o.below hb2);obtain ⟨a3,c3,rfl,-,-,-,-⟩:=ho2.parts;clear ho2 hb2 KR;obtain ⟨a2,n2,c2,hn2,g1,g2,g0,hh2,hs2,hl2⟩:=NZ.o.parts;have HL2:=zH hl2;obtain ⟨d0,d1,f0,f1⟩:=jE hh2;have hn3:n2=r.length:=hn2;subst hn3;have hs3:=hs2;obtain ⟨b2,o2,c2',hv,-,-,-,-⟩:=hs3.spot (by omega);simp only [aC] at hv
   obtain ⟨rfl,-,rfl⟩:=hv;have hd:=hs2.from p hpr;have mP:=zH hh2;have HD:=zH hd;have HG2:=zH (But.of HB2.o (aT HG.o));have e2:(k1:Int)-(q.length:Int)=(p:Int):=by have h3:=HP.o;have h4:=HQ.o;have h5:k1=min 8 r.length:=NY.o;omega
   have e3:IntKind.i64.wrap ((k1:Int)-(q.length:Int))=(p:Int):=by rw [e2];simp [IntKind.wrap,IntKind.bits,IntKind.signed];omega
   have tT:Hid ((r.drop p).length=r.length-p):=zH bB;clear hh2 hs2 hs3 hd hn2 g0 e2;generalize q.length=ql at*;have p1:(p:Int)<=(r.length:Int):=by omega
   have p2:(r.length:Int)<=(c2:Int):=by omega
   have p3:(p:Int)<=(c2:Int):=by omega
   have p4:(0:Int)<=(p:Int):=by omega
   by_cases hcp:c2=p
   ·rw [if_pos hcp] at HD
    subst hcp;have hpl:r.length=c2:=by omega
    rw [hpl,cu] at HD;rw [hpl,cu] at tT;have HPL:=zH hpl;generalize r.length=n at*;subst hpl;go_wp2_with fail
    go_ret
    rw [HE.o];refine ⟨_,rfl,rfl,?_,HG2.o.trans (But.set _ _ _ _)⟩;have HR:=nR (r:=r.drop n) (c':=0) mP.o (by rw [tT.o];exact HD.o) (fun _ ad he=>by cases he;exact HL2.o (by first|omega|(show 0<r.length;omega)) ⟨b2,o2,none⟩ rfl);rw [tT.o] at HR;exact HR
   ·rw [if_neg hcp] at HD
    go_wp2_with fail
    go_ret
    rw [HE.o];refine ⟨_,rfl,rfl,?_,HG2.o.trans (But.set _ _ _ _)⟩;have HR:=nR (r:=r.drop p) (c':=c2-p) mP.o (by rw [tT.o];exact HD.o) (fun _ ad he=>by cases he;exact HL2.o (by first|omega|(show 0<r.length;omega)) ⟨b2,o2,none⟩ rfl);rw [tT.o] at HR;exact HR
 |true=>
  have HE:=zH (vV (c:=qz) (z:=0) (b:=r));clear hx hs hh;go_enter func284,ntmps284
  go_wp2_with fail
  go_ret
  rw [HE.o];exact ⟨_,rfl,rfl,HX.o,But.refl _ _⟩
theorem Vk{w:World}{g:Nat}{s:Rb}(hx:iV w g s)(hl:s.1.length<=500000000)(M:Nat)(hM:M=sI s.1)(hm:M<=100000000000000000):Calls prog 282 #[.pointer (some ⟨g,0,none⟩),.int .i64 M,.func (.func 283) #[] #[]] w (lZ vT w g (xq iQ [] s)):=by
 obtain ⟨r,k⟩:=s;obtain ⟨a0,n0,cc,hn0,h1,h2,h0,hh,hs,-⟩:=hx.parts;obtain ⟨c0,c1,f0,f1⟩:=jE hh;have HX:=zH hx
 cases k with
 |false=>
  have KF:=uq hx M hm;have HL:NP iQ M r:=hM▸YE r;have eg:∀ args w,(callFunc 283 args).run prog w= .ok (.enter 283 args) w:=enters_of func283 (by kernel_rfl) rfl;have HG:=zH hx.lt;have e0:((0:Int) !=0)=false:=by decide
  have hlr:(r.take M).length<=1000000000:=by
   have:=bM M r;have h3:r.length<=500000000:=hl;have h4:=dK M r;omega
  cases hres:iQ.get (r.take M) with
  |err j=>
   have hj:j≠0:=iQ.bad hres;obtain ⟨j2,HL2⟩:=HL.2 _ hres;have HE:=zH (zX (z:=[]) HL2);have e1:(j !=0)=true:=bne_iff_ne.2 hj;clear hx hs hh HL HL2 hM hm;go_enter func282,ntmps282
   go_wp2_with fail
   refine KF.mono ?_;rintro e w1 ⟨a1,k1,Vj,-,rfl,hs1,hb⟩;have KR:=By.Cq hs1 hlr;rw [hres] at KR;have HB:=zH hb;have uo:=zH (HX.o.below hb);clear hs1 hb KF hres c0 c1 f0 f1;go_upto_region 6 with (go_at_fn 283;refine KR.mono ?_;rintro e w2 ⟨rfl,rfl⟩)
   obtain ⟨a2,n2,c2,hn2,-,-,-,hh2,hs2,hl2⟩:=uo.o.parts;have HL2:=zH hl2;obtain ⟨d0,d1,f0,f1⟩:=jE hh2;have mP:=zH hh2;have ze:=zH hs2;have HN:=zH hn2;clear hh2 hs2 hn2 KR;go_wp2_with fail
   go_ret
   rw [HE.o];have hn3:n2=r.length:=HN.o;subst hn3;exact ⟨_,rfl,rfl,vY mP.o ze.o HL2.o,(But.of HB.o (aT HG.o)).trans (But.set _ _ _ _)⟩
  |ok x q=>
   obtain ⟨HL2,hq⟩:=HL.1 _ _ hres;have HE:=zH (Bj (z:=[]) HL2);obtain ⟨p,hp⟩:∃ p,p=min M r.length-q.length:=⟨_,rfl⟩;rw [<-hp] at HE;have hp0:0<p:=by omega
   have hpr:p<=r.length:=by omega
   have HQ:=zH hq;have HP:=zH hp;clear hx hs hh HL HL2 hq hp hM hm;go_enter func282,ntmps282
   go_wp2_with fail
   refine KF.mono ?_;rintro e w1 ⟨a1,k1,Vj,hk1,rfl,hs1,hb⟩;have KR:=By.Cq hs1 hlr;rw [hres] at KR;have HB:=zH hb;have uo:=zH (HX.o.below hb);have NY:=zH hk1;clear hs1 hb KF hres c0 c1 f0 f1 hk1;go_upto_region 6 with (go_at_fn 283;refine KR.mono ?_;rintro e w2 ⟨v2,rfl,ho2,hb2⟩)
   have HB2:=zH (HB.o.trans (hb2.mono HB.o.size));have NZ:=zH (uo.o.below hb2);obtain ⟨a3,c3,rfl,-,-,-,-⟩:=ho2.parts;clear ho2 hb2 KR;obtain ⟨a2,n2,c2,hn2,g1,g2,g0,hh2,hs2,hl2⟩:=NZ.o.parts;have HL2:=zH hl2;obtain ⟨d0,d1,f0,f1⟩:=jE hh2;have hn3:n2=r.length:=hn2;subst hn3;have hs3:=hs2;obtain ⟨b2,o2,c2',hv,-,-,-,-⟩:=hs3.spot (by omega);simp only [aC] at hv
   obtain ⟨rfl,-,rfl⟩:=hv;have hd:=hs2.from p hpr;have mP:=zH hh2;have HD:=zH hd;have HG2:=zH (But.of HB2.o (aT HG.o));have e2:(k1:Int)-(q.length:Int)=(p:Int):=by have h3:=HP.o;have h4:=HQ.o;have h5:k1=min M r.length:=NY.o;omega
   have e3:IntKind.i64.wrap ((k1:Int)-(q.length:Int))=(p:Int):=by rw [e2];simp [IntKind.wrap,IntKind.bits,IntKind.signed];omega
   have tT:Hid ((r.drop p).length=r.length-p):=zH bB;clear hh2 hs2 hs3 hd hn2 g0 e2;generalize q.length=ql at*;have p1:(p:Int)<=(r.length:Int):=by omega
   have p2:(r.length:Int)<=(c2:Int):=by omega
   have p3:(p:Int)<=(c2:Int):=by omega
   have p4:(0:Int)<=(p:Int):=by omega
   by_cases hcp:c2=p
   ·rw [if_pos hcp] at HD
    subst hcp;have hpl:r.length=c2:=by omega
    rw [hpl,cu] at HD;rw [hpl,cu] at tT;have HPL:=zH hpl;generalize r.length=n at*;subst hpl;go_wp2_with fail
    go_ret
    rw [HE.o];refine ⟨_,rfl,rfl,?_,HG2.o.trans (But.set _ _ _ _)⟩;have HR:=nR (r:=r.drop n) (c':=0) mP.o (by rw [tT.o];exact HD.o) (fun _ ad he=>by cases he;exact HL2.o (by first|omega|(show 0<r.length;omega)) ⟨b2,o2,none⟩ rfl);rw [tT.o] at HR;exact HR
   ·rw [if_neg hcp] at HD
    go_wp2_with fail
    go_ret
    rw [HE.o];refine ⟨_,rfl,rfl,?_,HG2.o.trans (But.set _ _ _ _)⟩;have HR:=nR (r:=r.drop p) (c':=c2-p) mP.o (by rw [tT.o];exact HD.o) (fun _ ad he=>by cases he;exact HL2.o (by first|omega|(show 0<r.length;omega)) ⟨b2,o2,none⟩ rfl);rw [tT.o] at HR;exact HR
 |true=>
  have HE:=zH (vV (c:=iQ) (z:=[]) (b:=r));clear hx hs hh hM hm;go_enter func282,ntmps282
  go_wp2_with fail
  go_ret
  rw [HE.o];exact ⟨_,rfl,rfl,HX.o,But.refl _ _⟩
theorem rY{w:World}{g:Nat}{s:Rb}(hx:iV w g s)(hl:s.1.length<=500000000):Calls prog 165 #[.pointer (some ⟨g,0,none⟩)] w (lZ vI w g (gF s)):=by
 have K:=zH (YW hx hl);have HR:Hid (gF s=(((xq iZ 0 s).1:Int),(xq iZ 0 s).2)):=zH rfl;clear hx hl;generalize gF s=p at*;generalize xq iZ 0 s=q at*;go_enter func165,ntmps165
 go_wp2_with fail
 refine K.o.mono ?_;rintro e w1 ⟨v,rfl,hv,hx,hb⟩;obtain rfl:v= .int .i64 q.1:=hv;have HX:=zH hx;have HB:=zH hb;clear hx hb K;go_wp2_with fail
 go_ret
 rw [HR.o];exact ⟨_,rfl,rfl,HX.o,HB.o⟩
theorem mint_any{w:World}{g:Nat}{s:Rb}(hx:iV w g s)(hl:s.1.length<=500000000):Calls prog 232 #[.pointer (some ⟨g,0,none⟩)] w (lZ vI w g (Cz s)):=by
 have K:=zH (YX hx hl);have HR:Hid (Cz s=xq qz 0 s):=zH rfl;clear hx hl;generalize Cz s=p at*;generalize xq qz 0 s=q at*;go_enter func232,ntmps232
 go_wp2_with fail
 refine K.o.mono ?_;rintro e w1 ⟨v,rfl,hv,hx,hb⟩;obtain rfl:v= .int .i64 q.1:=hv;have HX:=zH hx;have HB:=zH hb;clear hx hb K;go_wp2_with fail
 go_ret
 rw [HR.o];exact ⟨_,rfl,rfl,HX.o,HB.o⟩
theorem Ae{w:World}{g:Nat}{s:Rb}(hx:iV w g s)(hl:s.1.length<=500000000):Calls prog 231 #[.pointer (some ⟨g,0,none⟩)] w (lZ vT w g (gK s)):=by
 have HG:=zH hx.lt;have KF:=uq hx 8 (by decide);have HT:Hid (sI s.1=8+(match jh (s.1.take 8) with| .ok n _=>n| .err _=>0)):=zH rfl;have HM:=zH (Rv s.1);have HR:Hid (gK s=xq iQ [] s):=zH rfl;have HX:=zH hx;have hlr:(s.1.take 8).length<=1000000000:=by rw [aO];omega
 have KT:Hid (∀ W,iV W g s ->∀ M:Nat,M=sI s.1 ->M<=100000000000000000 ->Calls prog 282 #[.pointer (some ⟨g,0,none⟩),.int .i64 M,.func (.func 283) #[] #[]] W (lZ vT W g (xq iQ [] s))):=zH (fun W h M h1 h2=>Vk h hl M h1 h2);clear hx hl;generalize gK s=p at*;generalize xq iQ [] s=q at*;go_enter func231,ntmps231
 go_wp2_with fail
 refine KF.mono ?_;rintro e w1 ⟨a1,k1,Vj,-,rfl,hs1,hb⟩;have KN:=By.uM hs1 hlr;change Calls _ _ _ _ (By.NA (fun n:Nat=> .int .i64 n) (.int .i64 0) w1 (jh (s.1.take 8))) at KN;have HB:=zH hb;have uo:=zH (HX.o.below hb);clear hs1 hb KF HX
 cases hres:jh (s.1.take 8) with
 |err j=>
  rw [hres] at KN HT;obtain ⟨M,hM⟩:∃ M,M=8:=⟨_,rfl⟩;have KK:=KT.o w1 uo.o 8 (by rw [HT.o];rfl) (by decide);clear uo HT hM hres;go_wp2_with fail
  refine KN.mono ?_;rintro e w2 ⟨rfl,rfl⟩;go_wp2_with fail
  refine KK.mono ?_;rintro e w2 ⟨v,rfl,hv,hx,hb⟩;obtain rfl:v= .string (bt q.1):=hv;have NZ:=zH hx;have HB2:=zH ((But.of HB.o (aT HG.o)).trans hb);clear hx hb KK;go_wp2_with fail
  go_ret
  rw [HR.o];exact ⟨_,rfl,rfl,NZ.o,HB2.o⟩
 |ok n r=>
  rw [hres] at KN HT;obtain ⟨M,hM⟩:∃ M,M=8+n:=⟨_,rfl⟩;have hM2:M<=100000000000000000:=by have:=HM.o;rw [HT.o] at this;change 8+n<=_ at this;omega
  have HKK:Hid (∀ W,iV W g s ->Calls prog 282 #[.pointer (some ⟨g,0,none⟩),.int .i64 M,.func (.func 283) #[] #[]] W (lZ vT W g q)):=zH (fun W h=>KT.o W h M (by rw [HT.o];exact hM) hM2);have e2:(8:Int)+(n:Int)=(M:Int):=by omega
  have e3:IntKind.i64.wrap ((8:Int)+(n:Int))=(M:Int):=by rw [e2];simp [IntKind.wrap,IntKind.bits,IntKind.signed];omega
  clear HT hM hres hM2 e2;go_wp2_with fail
  refine KN.mono ?_;rintro e w2 ⟨v2,rfl,ho2,hb2⟩;have NZ:=zH (uo.o.below hb2);have HB2:=zH (HB.o.trans (hb2.mono HB.o.size));have KK:=HKK.o w2 NZ.o;clear ho2 hb2 KN;go_wp2_with fail
  refine KK.mono ?_;rintro e w3 ⟨v,rfl,hv,hx,hb⟩;obtain rfl:v= .string (bt q.1):=hv;have HX3:=zH hx;have HB3:=zH ((But.of HB2.o (aT HG.o)).trans hb);clear hx hb KK;go_wp2_with fail
  go_ret
  rw [HR.o];exact ⟨_,rfl,rfl,HX3.o,HB3.o⟩
theorem um{w:World}{g:Nat}{s:Rb}(hx:iV w g s)(hl:s.1.length<=500000000)(k:Nat):Calls prog 166 #[.pointer (some ⟨g,0,none⟩),.int .i64 k] w (lZ vN w g (ig k s)):=by
 have K:=zH (rY hx hl);have H1:Hid (k<(xq iZ 0 s).1 ->ig k s=(0,((xq iZ 0 s).2.1,true))):=zH (fun h=>by unfold ig;rw [if_pos h]);have H2:Hid (¬ k<(xq iZ 0 s).1 ->ig k s=xq iZ 0 s):=zH (fun h=>by unfold ig;rw [if_neg h]);change Hid (Calls _ _ _ _ (lZ vI w g (((xq iZ 0 s).1:Int),(xq iZ 0 s).2))) at K;clear hx hl;generalize ig k s=p at*;generalize xq iZ 0 s=q at*;obtain ⟨n,b,j⟩:=q;go_enter func166,ntmps166
 go_wp2_with fail
 refine K.o.mono ?_;rintro e w1 ⟨v,rfl,hv,hx,hb⟩;obtain rfl:v= .int .i64 n:=hv;have HX:=zH hx;have HB:=zH hb;clear hb K
 by_cases hk:k<n
 ·obtain rfl:=H1.o hk
  obtain ⟨a2,n2,c2,hn2,-,-,-,hh2,hs2,hl2⟩:=hx.parts;have HL2:=zH hl2;obtain ⟨d0,d1,f0,f1⟩:=jE hh2;have hk':(k:Int)<(n:Int):=by omega
  have mP:=zH hh2;have ze:=zH hs2;have HN:=zH hn2;clear hx hh2 hs2 hn2 H1 H2;go_wp2_with fail
  go_ret
  have hn3:n2=b.length:=HN.o;subst hn3;exact ⟨_,rfl,rfl,vY mP.o ze.o HL2.o,HB.o.trans (But.set _ _ _ _)⟩
 ·obtain rfl:=H2.o hk
  have hk':¬ (k:Int)<(n:Int):=by omega
  clear hx H1 H2;go_wp2_with fail
  go_ret
  exact ⟨_,rfl,rfl,HX.o,HB.o⟩
end Go.Proofs.YtfgcodcablpdcaaGreat