import Derived.Test.YtfgcodcablpdcaaGreatCpByt
set_option linter.unusedVariables false
set_option maxRecDepth 100000
set_option maxHeartbeats 64000000
namespace Go.Proofs.YtfgcodcablpdcaaGreat
open Go.Proofs.Tryz
open Go.RowKit Plain
structure FQ(base:World)(nb:Nat)(d:fT)(s:pQ)(u:World):Prop where
 ge:base.heap.size<=nb
 b:u.heap[nb]? =some (.cells (fP d s) 34 (0,0))
 at_:nE (fun b=>base.heap.size<=b/\b<u.heap.size/\b≠nb) d s u
 low:Below base.heap.size base u
theorem FQ.box{base u:World}{nb:Nat}{d:fT}{s:pQ}(k:FQ base nb d s u):nu nb d s u:=⟨k.b,k.at_.mono fun b h=>h.2⟩
theorem FQ.lt{base u:World}{nb:Nat}{d:fT}{s:pQ}(k:FQ base nb d s u):nb<u.heap.size:=k.box.lt
theorem FQ.below{base u u':World}{nb:Nat}{d:fT}{s:pQ}(k:FQ base nb d s u)(hb:Below u.heap.size u u'):FQ base nb d s u':=
 ⟨k.ge,(hb.block _ k.lt).trans k.b,(k.at_.agree fun b h=>hb.block b h.2.1).mono fun b h=>⟨h.1,ay h.2.1 hb.size,h.2.2⟩,k.low.trans (hb.mono k.low.size)⟩
theorem pW{base u:World}{nb:Nat}{d:fT}{ha ia fa la ka:Option Addr}{hn hc im ic fn fc ln lc kn kc:Nat}(hz:u.heap[nb]? =some (.cells ji 34 (0,0)))(hn0:base.heap.size<=nb)(hb:Below base.heap.size base u)(h:nE (fun b=>base.heap.size<=b/\b<u.heap.size/\b≠nb) d ⟨ha,hn,hc,ia,im,ic,fa,fn,fc,la,ln,lc,ka,kn,kc⟩ u):
  FQ base nb d ⟨ha,hn,hc,ia,im,ic,fa,fn,fc,la,ln,lc,ka,kn,kc⟩ (kQ u nb (.int .i64 d.me) (.int .i64 d.cores) (.slice ha hn hc) (.slice ia im ic) (.slice fa fn fc) (.slice la ln lc) (.slice ka kn kc)):=by
 have hz':=hz;unfold ji at hz';obtain ⟨-,hs,ho,hl⟩:=vo hz' (.int .i64 d.me) (.int .i64 d.cores) (.slice ha hn hc) (.slice ia im ic) (.slice fa fn fc) (.slice la ln lc) (.slice ka kn kc);exact ⟨hn0,vw hz' _ _ _ _ _ _ _,(h.agree fun b k=>ho b k.2.2).mono fun b k=>⟨k.1,by rw [hs];exact k.2.1,k.2.2⟩,hb.trans (hl _ hn0)⟩
structure Ap(w:World)(g:Nat)(c:fT)(s:pQ)(u:World):Prop where
 zb:u.heap[w.heap.size]? =some (.cells ji 34 (0,0))
 cb:u.heap[g]? =some (.cells (fP c s) 34 (0,0))
 at_:nE (fun b=>w.heap.size<b/\b<u.heap.size/\b≠g) c s u
 gt:w.heap.size<g
 low:Below w.heap.size w u
theorem Ap.box{w u:World}{g:Nat}{c:fT}{s:pQ}(k:Ap w g c s u):nu g c s u:=⟨k.cb,k.at_.mono fun b h=>h.2⟩
theorem Ap.lt{w u:World}{g:Nat}{c:fT}{s:pQ}(k:Ap w g c s u):g<u.heap.size:=k.box.lt
theorem Ap.below{w u u':World}{g:Nat}{c:fT}{s:pQ}(k:Ap w g c s u)(hb:Below u.heap.size u u'):Ap w g c s u':=
 ⟨(hb.block _ (Nat.lt_trans k.gt k.lt)).trans k.zb,(hb.block _ k.lt).trans k.cb,(k.at_.agree fun b h=>hb.block b h.2.1).mono fun b h=>⟨h.1,ay h.2.1 hb.size,h.2.2⟩,k.gt,k.low.trans (hb.mono k.low.size)⟩
theorem Ap.put{w u0 u:World}{g nb:Nat}{c d:fT}{s:pQ}{ha ia fa la ka:Option Addr}{hn hc im ic fn fc ln lc kn kc:Nat}(k:Ap w g c s u0)(n:FQ u0 nb d ⟨ha,hn,hc,ia,im,ic,fa,fn,fc,la,ln,lc,ka,kn,kc⟩ u):
  Ap w g d ⟨ha,hn,hc,ia,im,ic,fa,fn,fc,la,ln,lc,ka,kn,kc⟩ (kQ u g (.int .i64 d.me) (.int .i64 d.cores) (.slice ha hn hc) (.slice ia im ic) (.slice fa fn fc) (.slice la ln lc) (.slice ka kn kc)):=by
 have k':=k.below n.low;have hz':=k'.cb;unfold fP at hz';obtain ⟨-,hs,ho,hl⟩:=vo hz' (.int .i64 d.me) (.int .i64 d.cores) (.slice ha hn hc) (.slice ia im ic) (.slice fa fn fc) (.slice la ln lc) (.slice ka kn kc);have hg:=k.gt;have hl0:=k.lt;exact ⟨(ho _ (by omega)).trans k'.zb,vw hz' _ _ _ _ _ _ _,(n.at_.agree fun b h=>ho b (by have:=h.1;omega)).mono fun b h=>⟨by have:=h.1;omega,by rw [hs];exact h.2.1,by have:=h.1;omega⟩,hg,k'.low.trans (hl _ (by omega))⟩
theorem Ap.free{w u:World}{g:Nat}{c:fT}{s:pQ}(k:Ap w g c s u)(i:Nat):u.frozen? ⟨g,i,none⟩=false:=iI k.cb i
structure Behind(me cores:Int)(l:List (Int×gu))(c:fT):Prop where
 ex:∃ n:Nat,cores=n/\0<=me/\me<n/\n<=3/\c=xR (cNew me n) l
 short:AU l=true
theorem Dv{me:Int}{n:Nat}{l:List (Int×gu)}(h0:0<=me)(h1:me<n)(h3:n<=3)(hl:∀ r∈l,XO r):∀ k,k<=l.length ->nX k (xR (cNew me n) (l.take k))
 |0,_=>by simpa [xR] using Qn h0 h1 h3
 |k+1,hk=>by
  rw [Ih (by omega)];exact XU (Dv h0 h1 h3 hl k (by omega)) (hl _ (aU _)).m
theorem Behind.fit{me cores:Int}{l:List (Int×gu)}{c:fT}(h:Behind me cores l c)(hok:∀ r∈l,Cb r):nX 12 c:=by
 obtain ⟨n,-,h0,h1,h3,rfl⟩:=h.ex;obtain ⟨k1,k2⟩:=Qk h.short hok;have:=Dv h0 h1 h3 k2 l.length (ah _);rw [bq] at this;exact this.mono k1
def XV(w:World)(me cores:Int)(l:List (Int×gu))(e:Ending)(w':World):Prop:=
 ∃ c s b,e= .returned (.tuple #[.agg (fP c s),.bool b])/\nE (fun b=>w.heap.size<=b/\b<w'.heap.size) c s w'/\Below w.heap.size w w'/\(b=true ->Behind me cores l c)
theorem Qo{w w0 w1:World}{c:fT}{s:pQ}(hz:w0.heap[w.heap.size]? =some (.cells ji 34 (0,0)))(hs:w.heap.size<w0.heap.size)(hb0:Below w.heap.size w w0)(h:nE (fun b=>w0.heap.size<=b/\b<w1.heap.size) c s w1)(hb:Below w0.heap.size w0 w1):Ap w w1.heap.size c s (w1.alloc (.cells (fP c s) 34)):=by
 have hb2:=zB w1 (.cells (fP c s) 34);have z:=hb.size;exact ⟨((hb2.block _ (by omega)).trans (hb.block _ hs)).trans hz,aM w1 _,(h.agree fun b k=>hb2.block b k.2).mono fun b k=>⟨by have:=k.1;omega,ay k.2 hb2.size,Nat.ne_of_lt k.2⟩,by omega,(hb0.trans (hb.mono (aT hs))).trans (hb2.mono (by omega))⟩
theorem Qp{v:Value}{me cores:Int}{l:List (Int×gu)}{w:World}(hv:wU w v l)(hok:∀ r∈l,Cb r):Calls prog 17 #[.int .i64 me,.int .i64 cores,v] w (XV w me cores l):=by
 obtain ⟨r,hr⟩:∃ r,AU l=r:=⟨_,rfl⟩;have KSH:=zH (fun u (hb:Below w.heap.size w u)=>Qe (hv.below hb) r hr);have HR:=zH hr;obtain ⟨a,cap,rfl,g1,g2,h⟩:=hv;have HRF:=zH (fun h=>Qk (l:=l) h hok);have B0:=zH (zB w (.cells #[.int .i64 0,.int .i64 0,.slice none 0 0,.slice none 0 0,.slice none 0 0,.slice none 0 0,.slice none 0 0] 34));have Z0:Hid ((w.alloc (.cells #[.int .i64 0,.int .i64 0,.slice none 0 0,.slice none 0 0,.slice none 0 0,.slice none 0 0,.slice none 0 0] 34)).heap[w.heap.size]? =some (.cells ji 34 (0,0))):=zH (aM w _);have S0:Hid (w.heap.size<(w.alloc (.cells #[.int .i64 0,.int .i64 0,.slice none 0 0,.slice none 0 0,.slice none 0 0,.slice none 0 0,.slice none 0 0] 34)).heap.size):=zH (by simp);obtain ⟨n,hN⟩:∃ n,l.length=n:=⟨_,rfl⟩;have HN:=zH hN;have HX:Hid (∀ j,j<n ->∃ x,l[j]? =some x/\∃ h,l[j]'h=x):=zH (fun j hj=>⟨_,au (by omega),by omega,rfl⟩);rw [hN] at h g1 KSH ⊢;have HC:=zH h;clear h hN hr hok;have k2:(n:Int)<=cap:=by omega
 have k3:(cap:Int)<=9223372036854775807:=by omega
 clear g1 g2;go_enter func17,ntmps17
 go_upto_region 1 with fail
 generalize (w.alloc _)=w0 at*
 by_cases hin:cores<1\/3<cores\/me<0\/cores<=me
 ·have KN:=zH (Ui (w:=w0) hin)
  clear hin;go_upto_region 2 with (go_at_call 10;refine KN.o.mono ?_;rintro e w1 ⟨⟨ha,hn,hc,ia,im,ic,fa,fn,fc,la,ln,lc,ka,kn,kc⟩,rfl,hA,hb⟩;have A1:=zH hA;have B1:=zH hb;clear hA hb;unfold fP)
  have M1:Hid (Ap w w1.heap.size oQ ⟨ha,hn,hc,ia,im,ic,fa,fn,fc,la,ln,lc,ka,kn,kc⟩ (w1.alloc (.cells (fP oQ ⟨ha,hn,hc,ia,im,ic,fa,fn,fc,la,ln,lc,ka,kn,kc⟩) 34))):=zH (Qo Z0.o S0.o B0.o A1.o B1.o);unfold fP at M1;clear A1 B1;clear KN HC KSH;generalize w1.heap.size=g at*;generalize (w1.alloc _)=w2 at*;obtain ⟨c0,c1,c2,c3,c4,c5,c6⟩:=M1.o.box.cl;go_upto_region 3 with fail
  clear c0 c1 c2 c3 c4 c5 c6;have hzb:=M1.o.zb;unfold ji at hzb;have FR:=zH (fun i=>iI hzb i);obtain ⟨z0,z1,z2,z3,z4,z5,z6⟩:=gM hzb;obtain ⟨f0,f1,f2,f3,f4,f5,f6⟩:=(⟨FR.o 0,FR.o 1,FR.o 2,FR.o 3,FR.o 4,FR.o 5,FR.o 6⟩:_/\_/\_/\_/\_/\_/\_);have OUT:=zH (fun x0 x1 x2 x3 x4 x5 x6=>vo hzb x0 x1 x2 x3 x4 x5 x6);clear hzb;obtain ⟨c0,c1,c2,c3,c4,c5,c6⟩:=M1.o.box.cl;go_wp2_with fail
  obtain ⟨⟨y0,y1,y2,y3,y4,y5,y6⟩,hz,ho,hbl⟩:=OUT.o (.int .i64 oQ.me) (.int .i64 oQ.cores) (.slice ha hn hc) (.slice ia im ic) (.slice fa fn fc) (.slice la ln lc) (.slice ka kn kc);unfold kQ at y0 y1 y2 y3 y4 y5 y6 hz ho hbl;refine bodyPost_ret (v:= .tuple #[.agg #[.int .i64 oQ.me,.int .i64 oQ.cores,.slice ha hn hc,.slice ia im ic,.slice fa fn fc,.slice la ln lc,.slice ka kn kc],.bool false]) (by simp [results,results17,go_sem,y0,y1,y2,y3,y4,y5,y6]) rfl ?_;exact ⟨oQ,⟨ha,hn,hc,ia,im,ic,fa,fn,fc,la,ln,lc,ka,kn,kc⟩,false,rfl,(M1.o.at_.agree fun b h=>ho b (by omega)).mono fun b h=>⟨by omega,by rw [hz];exact h.2.1⟩,M1.o.low.trans (hbl _ (ah _)),fun h=>(by cases h)⟩
 obtain ⟨nc,hnc⟩:∃ nc:Nat,cores=nc:=⟨cores.toNat,by omega⟩;subst hnc;have p0:0<=me:=by omega
 have p1:me<nc:=by omega
 have p3:nc<=3:=by omega
 have KN:=zH (Ky (w:=w0) p0 p1 p3);have PP:=zH (cK p0 (cK p1 p3));clear hin p0 p1 p3;go_upto_region 2 with (go_at_call 10;refine KN.o.mono ?_;rintro e w1 ⟨⟨ha,hn,hc,ia,im,ic,fa,fn,fc,la,ln,lc,ka,kn,kc⟩,rfl,hA,hb⟩;have A1:=zH hA;have B1:=zH hb;clear hA hb;unfold fP)
 have M1:Hid (Ap w w1.heap.size (cNew me nc) ⟨ha,hn,hc,ia,im,ic,fa,fn,fc,la,ln,lc,ka,kn,kc⟩ (w1.alloc (.cells (fP (cNew me nc) ⟨ha,hn,hc,ia,im,ic,fa,fn,fc,la,ln,lc,ka,kn,kc⟩) 34))):=zH (Qo Z0.o S0.o B0.o A1.o B1.o);unfold fP at M1;clear A1 B1;have KS1:=zH (KSH.o _ M1.o.low);clear KN KSH;generalize w1.heap.size=g at*;generalize (w1.alloc _)=w2 at*
 cases r
 ·go_upto_region 3 with (go_at_call 13;refine KS1.o.mono ?_;rintro e w3 ⟨rfl,hb⟩;have M3:=zH (M1.o.below hb);clear hb KS1 M1)
  have hzb:=M3.o.zb;unfold ji at hzb;have FR:=zH (fun i=>iI hzb i);obtain ⟨z0,z1,z2,z3,z4,z5,z6⟩:=gM hzb;obtain ⟨f0,f1,f2,f3,f4,f5,f6⟩:=(⟨FR.o 0,FR.o 1,FR.o 2,FR.o 3,FR.o 4,FR.o 5,FR.o 6⟩:_/\_/\_/\_/\_/\_/\_);have OUT:=zH (fun x0 x1 x2 x3 x4 x5 x6=>vo hzb x0 x1 x2 x3 x4 x5 x6);clear hzb;obtain ⟨c0,c1,c2,c3,c4,c5,c6⟩:=M3.o.box.cl;go_wp2_with fail
  obtain ⟨⟨y0,y1,y2,y3,y4,y5,y6⟩,hz,ho,hbl⟩:=OUT.o (.int .i64 (cNew me nc).me) (.int .i64 (cNew me nc).cores) (.slice ha hn hc) (.slice ia im ic) (.slice fa fn fc) (.slice la ln lc) (.slice ka kn kc);unfold kQ at y0 y1 y2 y3 y4 y5 y6 hz ho hbl;refine bodyPost_ret (v:= .tuple #[.agg #[.int .i64 (cNew me nc).me,.int .i64 (cNew me nc).cores,.slice ha hn hc,.slice ia im ic,.slice fa fn fc,.slice la ln lc,.slice ka kn kc],.bool false]) (by simp [results,results17,go_sem,y0,y1,y2,y3,y4,y5,y6]) rfl ?_;exact ⟨(cNew me nc),⟨ha,hn,hc,ia,im,ic,fa,fn,fc,la,ln,lc,ka,kn,kc⟩,false,rfl,(M3.o.at_.agree fun b h=>ho b (by omega)).mono fun b h=>⟨by omega,by rw [hz];exact h.2.1⟩,M3.o.low.trans (hbl _ (ah _)),fun h=>(by cases h)⟩
 go_upto_region 4 with (go_at_call 13;refine KS1.o.mono ?_;rintro e w3 ⟨rfl,hb⟩;have M3:=zH (M1.o.below hb);clear hb KS1 M1)
 go_wp2_with fail
 have Gg:=zH (HRF.o HR.o).2;have H12:=zH (HRF.o HR.o).1
 go_loopw [10] (fun i wr=>∃ k:Nat,k<=n/\i= .int .i64 k/\Aside (∃ s,Ap w g (xR (cNew me nc) (l.take k)) s wr)) (fun i _=>n-(intOf i).toNat)
 case atStart=>exact ⟨0,aL _,rfl,_,M3.o⟩
 case round=>
  obtain ⟨k,hk,rfl,hrel⟩:=hrel;obtain ⟨⟨ha,hn,hc,ia,im,ic,fa,fn,fc,la,ln,lc,ka,kn,kc⟩,hm⟩:=Aside.out hrel;have M:=zH hm;clear hrel hm M3
  by_cases hlt:k<n
  ·obtain ⟨b,o,rfl,hblt,hcc⟩:=HC.o (by omega)
   obtain ⟨x,hx,hx1,hx2⟩:=HX.o k hlt;obtain ⟨⟨va,vn,vc,fa2,fn2,fc2,za,zn,zc,wa,wn,wc,ja,jm,jc,ta,tn,tc⟩,hr,hm⟩:=hcc k x hx;have hrf:XO x:=Gg.o x (bD hx);have hcf:=Dv PP.o.1 PP.o.2.1 PP.o.2.2 Gg.o k (by rw [HN.o];exact hk);have hnx:xR (cNew me nc) (l.take (k+1))=yK (xR (cNew me nc) (l.take k)) x:=by rw [Ih (by rw [HN.o];exact hlt),hx2]
   have uD:k<=24:=by have:=H12.o;have:=HN.o;omega
   generalize xR (cNew me nc) (l.take k)=c at*;have KB:=zH (fun u (hb:Below wr.heap.size wr u)=>Dt (v:= .agg #[.int .i64 x.1,.int .i64 x.2.kind,.int .i64 x.2.ticket,.bool x.2.whole,.slice va vn vc,.slice fa2 fn2 fc2,.slice za zn zc,.slice wa wn wc,.slice ja jm jc,.slice ta tn tc]) (r:=x) ⟨⟨va,vn,vc,fa2,fn2,fc2,za,zn,zc,wa,wn,wc,ja,jm,jc,ta,tn,tc⟩,rfl,hm.below (M.o.low.trans (hb.mono M.o.low.size))⟩ hrf);have Ii:=fun u bv (hb:Below wr.heap.size wr u) (hs:By.Seq u bv (jY x.1 x.2))=>yG (v:= .agg #[.int .i64 c.me,.int .i64 c.cores,.slice ha hn hc,.slice ia im ic,.slice fa fn fc,.slice la ln lc,.slice ka kn kc]) ⟨⟨ha,hn,hc,ia,im,ic,fa,fn,fc,la,ln,lc,ka,kn,kc⟩,rfl,(M.o.box.below hb).seq⟩ hs hcf uD hrf
   obtain ⟨d,hd⟩:∃ d,d=(rM c x.1 x.2).1:=⟨_,rfl⟩;obtain ⟨er,he⟩:∃ e,e=(rM c x.1 x.2).2:=⟨_,rfl⟩;rw [<-hd,<-he] at Ii;have KD:=zH Ii;have DE:=zH (cK hd he);have NXT:=zH hnx;have KE:Hid (∀ u,Below wr.heap.size wr u ->Below wr.heap.size wr u/\(u.cell? ⟨g,0,none⟩=some (Value.int .i64 c.me)/\u.cell? ⟨g,1,none⟩=some (Value.int .i64 c.cores)/\u.cell? ⟨g,2,none⟩=some (Value.slice ha hn hc)/\u.cell? ⟨g,3,none⟩=some (Value.slice ia im ic)/\u.cell? ⟨g,4,none⟩=some (Value.slice fa fn fc)/\u.cell? ⟨g,5,none⟩=some (Value.slice la ln lc)/\u.cell? ⟨g,6,none⟩=some (Value.slice ka kn kc))/\u.cell? ⟨b,o+k*10,none⟩=some (Value.int .i64 x.1)/\u.cell? ⟨b,o+k*10+1,none⟩=some (Value.int .i64 x.2.kind)/\u.cell? ⟨b,o+k*10+2,none⟩=some (Value.int .i64 x.2.ticket)/\u.cell? ⟨b,o+k*10+3,none⟩=some (Value.bool x.2.whole)/\u.cell? ⟨b,o+k*10+4,none⟩=some (Value.slice va vn vc)/\u.cell? ⟨b,o+k*10+5,none⟩=some (Value.slice fa2 fn2 fc2)/\u.cell? ⟨b,o+k*10+6,none⟩=some (Value.slice za zn zc)/\u.cell? ⟨b,o+k*10+7,none⟩=some (Value.slice wa wn wc)/\u.cell? ⟨b,o+k*10+8,none⟩=some (Value.slice ja jm jc)/\u.cell? ⟨b,o+k*10+9,none⟩=some (Value.slice ta tn tc)):=zH (fun u hb=>by
    obtain ⟨c0,c1,c2,c3,c4,c5,c6⟩:=(M.o.box.below hb).cl;have hr':=hr.below (M.o.low.trans (hb.mono M.o.low.size)) hblt;obtain ⟨t1,t2,t3,t4,t5,t6,t7,t8,t9⟩:=hr'.msg;exact ⟨hb,⟨c0,c1,c2,c3,c4,c5,c6⟩,hr'.c0,t1,t2,t3,t4,t5,t6,t7,t8,t9⟩)
   have k1:(k:Int)<n:=by omega
   clear hcc hx hx2 hr hm hrf hcf hnx uD Ii hd he;generalize jY x.1 x.2=rb at*;go_upto_region 7 with fail
   go_cut [11,12] (fun s11 s12 wx=>∃ (nb:Nat) (xa:Option Addr) (hx xc:Nat) (ya:Option Addr) (iy yc:Nat) (za:Option Addr) (fz zc:Nat) (qa:Option Addr) (lq qc:Nat) (pa:Option Addr) (kp pc:Nat),s11= .pointer (some ⟨nb,0,none⟩)/\s12= .int .i64 er/\FQ wr nb d ⟨xa,hx,xc,ya,iy,yc,za,fz,zc,qa,lq,qc,pa,kp,pc⟩ wx)
   case first=>
    refine wp_region_held_drew (S:=fun u'=>Below wr.heap.size wr u'/\(u'.cell? ⟨g,0,none⟩=some (Value.int .i64 c.me)/\u'.cell? ⟨g,1,none⟩=some (Value.int .i64 c.cores)/\u'.cell? ⟨g,2,none⟩=some (Value.slice ha hn hc)/\u'.cell? ⟨g,3,none⟩=some (Value.slice ia im ic)/\u'.cell? ⟨g,4,none⟩=some (Value.slice fa fn fc)/\u'.cell? ⟨g,5,none⟩=some (Value.slice la ln lc)/\u'.cell? ⟨g,6,none⟩=some (Value.slice ka kn kc))/\u'.cell? ⟨b,o+k*10,none⟩=some (Value.int .i64 x.1)/\u'.cell? ⟨b,o+k*10+1,none⟩=some (Value.int .i64 x.2.kind)/\u'.cell? ⟨b,o+k*10+2,none⟩=some (Value.int .i64 x.2.ticket)/\u'.cell? ⟨b,o+k*10+3,none⟩=some (Value.bool x.2.whole)/\u'.cell? ⟨b,o+k*10+4,none⟩=some (Value.slice va vn vc)/\u'.cell? ⟨b,o+k*10+5,none⟩=some (Value.slice fa2 fn2 fc2)/\u'.cell? ⟨b,o+k*10+6,none⟩=some (Value.slice za zn zc)/\u'.cell? ⟨b,o+k*10+7,none⟩=some (Value.slice wa wn wc)/\u'.cell? ⟨b,o+k*10+8,none⟩=some (Value.slice ja jm jc)/\u'.cell? ⟨b,o+k*10+9,none⟩=some (Value.slice ta tn tc)) (by kernel_rfl) ?_ (fun hH=> ?_)
    ·(exact KE.o _ (aj _ _).drew)
    simp only [zS,aJ,Nat.reduceAdd]
    refine fJ 0 hH ?_;refine fJ 1 hH ?_;refine fJ 2 hH ?_;refine fJ 3 hH ?_;refine fJ 4 hH ?_;refine wpAnyH_ready (rs:=[5,10]) (by kernel_rfl) (by simp) ?_;refine bC rfl (fun K hK=> ?_) (bC rfl (fun K hK=> ?_) dA)
    ·skip
     go_simp
     have BH:=zH hH.1;refine (KB.o _ BH.o).mono ?_;rintro e s1 ⟨bv,rfl,hs,hb⟩;have BS:=zH hs;have B1:=zH (BH.o.trans (hb.mono BH.o.size));clear hs hb BH;refine hK.out _ _ (KE.o _ B1.o) (fun hH=> ?_);clear hK K;refine wpAnyH_ready (rs:=[6,10]) (by kernel_rfl) (by simp) ?_;refine bC rfl (fun K hK=> ?_) (bC rfl (fun K hK=> ?_) dA)
     ·skip
      go_simp
      have BH:=zH hH.1;refine (KD.o _ bv BH.o BS.o).mono ?_;rintro e s2 ⟨⟨xa,hx,xc,ya,iy,yc,za,fz,zc,qa,lq,qc,pa,kp,pc⟩,rfl,hA,hb⟩;have B2:=zH (BH.o.trans (hb.mono BH.o.size));have ZH:=zH BH.o.size;have A2:=zH (hA.mono fun b h=>(⟨by have:=ZH.o;have:=h.1;omega,h.2⟩:wr.heap.size<=b/\b<s2.heap.size));clear hA hb BH KD KB;unfold fP;refine hK.out _ _ (KE.o _ B2.o) (fun hH=> ?_);clear hK K;refine fJ 7 hH ?_;refine fJ 8 hH ?_;refine fJ 9 hH ?_;refine rd 10 fun K hK=> ?_
      go_simp
      have ZQ:=zH hH.1.size;have DQ:Hid ((s2.alloc (.cells #[.int .i64 0,.int .i64 0,.slice none 0 0,.slice none 0 0,.slice none 0 0,.slice none 0 0,.slice none 0 0] 34)).heap[s2.heap.size]? =some (.cells ji 34 (0,0))):=zH (aM s2 _);have DL:Hid (s2.heap.size<(s2.alloc (.cells #[.int .i64 0,.int .i64 0,.slice none 0 0,.slice none 0 0,.slice none 0 0,.slice none 0 0,.slice none 0 0] 34)).heap.size):=zH (show s2.heap.size<(s2.alloc (.cells #[.int .i64 0,.int .i64 0,.slice none 0 0,.slice none 0 0,.slice none 0 0,.slice none 0 0,.slice none 0 0] 34)).heap.size from by simp);have A3:=zH ((A2.o.agree fun b h=>(zB s2 (.cells #[.int .i64 0,.int .i64 0,.slice none 0 0,.slice none 0 0,.slice none 0 0,.slice none 0 0,.slice none 0 0] 34)).block b h.2).mono fun b h=>(⟨h.1,by have:=DL.o;have:=h.2;omega,by have:=h.2;omega⟩:wr.heap.size<=b/\b<(s2.alloc (.cells #[.int .i64 0,.int .i64 0,.slice none 0 0,.slice none 0 0,.slice none 0 0,.slice none 0 0,.slice none 0 0] 34)).heap.size/\b≠s2.heap.size));clear A2;refine hK.out _ _ (KE.o _ (hH.1.alloc hH.1.size _)) (fun hH=> ?_);clear hK K;generalize hNB:s2.heap.size=nb at*;generalize (s2.alloc _)=sA at*;have ZN:Hid (wr.heap.size<=nb):=zH (by have:=ZQ.o;omega);have NX:=zH (pW DQ.o ZN.o hH.1 A3.o);unfold kQ at NX;have hzb:=DQ.o;unfold ji at hzb;have FR:=zH (fun i=>iI hzb i);obtain ⟨z0,z1,z2,z3,z4,z5,z6⟩:=gM hzb;obtain ⟨f0,f1,f2,f3,f4,f5,f6⟩:=(⟨FR.o 0,FR.o 1,FR.o 2,FR.o 3,FR.o 4,FR.o 5,FR.o 6⟩:_/\_/\_/\_/\_/\_/\_);clear hzb FR;refine rd 11 fun K hK=> ?_
      go_simp
      refine hK.out _ _ (KE.o _ NX.o.low) (fun hH=> ?_);clear hK K z0 z1 z2 z3 z4 z5 z6 f0 f1 f2 f3 f4 f5 f6;refine fJ 12 hH ?_;refine wpAnyH_done (by kernel_rfl) ?_ _;clear hH;go_wp2_with fail
      go_meet
      exact ⟨nb,xa,hx,xc,ya,iy,yc,za,fz,zc,qa,lq,qc,pa,kp,pc,rfl,rfl,NX.o⟩
     ·skip
      go_simp
      have ZQ:=zH hH.1.size;have DQ:Hid ((s1.alloc (.cells #[.int .i64 0,.int .i64 0,.slice none 0 0,.slice none 0 0,.slice none 0 0,.slice none 0 0,.slice none 0 0] 34)).heap[s1.heap.size]? =some (.cells ji 34 (0,0))):=zH (aM s1 _);have DL:Hid (s1.heap.size<(s1.alloc (.cells #[.int .i64 0,.int .i64 0,.slice none 0 0,.slice none 0 0,.slice none 0 0,.slice none 0 0,.slice none 0 0] 34)).heap.size):=zH (show s1.heap.size<(s1.alloc (.cells #[.int .i64 0,.int .i64 0,.slice none 0 0,.slice none 0 0,.slice none 0 0,.slice none 0 0,.slice none 0 0] 34)).heap.size from by simp);replace BS:=zH (BS.o.below (zB s1 (.cells #[.int .i64 0,.int .i64 0,.slice none 0 0,.slice none 0 0,.slice none 0 0,.slice none 0 0,.slice none 0 0] 34)));refine hK.out _ _ (KE.o _ (hH.1.alloc hH.1.size _)) (fun hH=> ?_);clear hK K;generalize hNB:s1.heap.size=nb at*;generalize (s1.alloc _)=sA at*;refine rd 6 fun K hK=> ?_
      go_simp
      have BH:=zH hH.1;refine (KD.o _ bv BH.o BS.o).mono ?_;rintro e s2 ⟨⟨xa,hx,xc,ya,iy,yc,za,fz,zc,qa,lq,qc,pa,kp,pc⟩,rfl,hA,hb⟩;have B2:=zH (BH.o.trans (hb.mono BH.o.size));have ZH:=zH BH.o.size;replace DQ:=zH ((hb.block _ DL.o).trans DQ.o);have A3:=zH (hA.mono fun b h=>(⟨by have:=ZH.o;have:=h.1;omega,h.2,by have:=DL.o;have:=h.1;omega⟩:wr.heap.size<=b/\b<s2.heap.size/\b≠nb));clear DL;clear hA hb BH KD KB;unfold fP;refine hK.out _ _ (KE.o _ B2.o) (fun hH=> ?_);clear hK K;refine fJ 7 hH ?_;refine fJ 8 hH ?_;refine fJ 9 hH ?_;have ZN:Hid (wr.heap.size<=nb):=zH (by have:=ZQ.o;omega);have NX:=zH (pW DQ.o ZN.o hH.1 A3.o);unfold kQ at NX;have hzb:=DQ.o;unfold ji at hzb;have FR:=zH (fun i=>iI hzb i);obtain ⟨z0,z1,z2,z3,z4,z5,z6⟩:=gM hzb;obtain ⟨f0,f1,f2,f3,f4,f5,f6⟩:=(⟨FR.o 0,FR.o 1,FR.o 2,FR.o 3,FR.o 4,FR.o 5,FR.o 6⟩:_/\_/\_/\_/\_/\_/\_);clear hzb FR;refine rd 11 fun K hK=> ?_
      go_simp
      refine hK.out _ _ (KE.o _ NX.o.low) (fun hH=> ?_);clear hK K z0 z1 z2 z3 z4 z5 z6 f0 f1 f2 f3 f4 f5 f6;refine fJ 12 hH ?_;refine wpAnyH_done (by kernel_rfl) ?_ _;clear hH;go_wp2_with fail
      go_meet
      exact ⟨nb,xa,hx,xc,ya,iy,yc,za,fz,zc,qa,lq,qc,pa,kp,pc,rfl,rfl,NX.o⟩
    ·skip
     go_simp
     have ZQ:=zH hH.1.size;have DQ:Hid ((wr.alloc (.cells #[.int .i64 0,.int .i64 0,.slice none 0 0,.slice none 0 0,.slice none 0 0,.slice none 0 0,.slice none 0 0] 34)).drew.heap[wr.heap.size]? =some (.cells ji 34 (0,0))):=zH (aM wr _);have DL:Hid (wr.heap.size<(wr.alloc (.cells #[.int .i64 0,.int .i64 0,.slice none 0 0,.slice none 0 0,.slice none 0 0,.slice none 0 0,.slice none 0 0] 34)).drew.heap.size):=zH (show wr.heap.size<(wr.alloc (.cells #[.int .i64 0,.int .i64 0,.slice none 0 0,.slice none 0 0,.slice none 0 0,.slice none 0 0,.slice none 0 0] 34)).heap.size from by simp);refine hK.out _ _ (KE.o _ (hH.1.alloc hH.1.size _)) (fun hH=> ?_);clear hK K;generalize (wr.alloc _).drew=sA at*;refine rd 5 fun K hK=> ?_
     go_simp
     have BH:=zH hH.1;refine (KB.o _ BH.o).mono ?_;rintro e s1 ⟨bv,rfl,hs,hb⟩;have BS:=zH hs;have B1:=zH (BH.o.trans (hb.mono BH.o.size));replace DQ:=zH ((hb.block _ DL.o).trans DQ.o);replace DL:=zH (ay DL.o hb.size);clear hs hb BH;refine hK.out _ _ (KE.o _ B1.o) (fun hH=> ?_);clear hK K;refine rd 6 fun K hK=> ?_
     go_simp
     have BH:=zH hH.1;refine (KD.o _ bv BH.o BS.o).mono ?_;rintro e s2 ⟨⟨xa,hx,xc,ya,iy,yc,za,fz,zc,qa,lq,qc,pa,kp,pc⟩,rfl,hA,hb⟩;have B2:=zH (BH.o.trans (hb.mono BH.o.size));have ZH:=zH BH.o.size;replace DQ:=zH ((hb.block _ DL.o).trans DQ.o);have A3:=zH (hA.mono fun b h=>(⟨by have:=ZH.o;have:=h.1;omega,h.2,by have:=DL.o;have:=h.1;omega⟩:wr.heap.size<=b/\b<s2.heap.size/\b≠wr.heap.size));clear DL;clear hA hb BH KD KB;unfold fP;refine hK.out _ _ (KE.o _ B2.o) (fun hH=> ?_);clear hK K;refine fJ 7 hH ?_;refine fJ 8 hH ?_;refine fJ 9 hH ?_;have ZN:Hid (wr.heap.size<=wr.heap.size):=zH (by exact ah _);have NX:=zH (pW DQ.o ZN.o hH.1 A3.o);unfold kQ at NX;have hzb:=DQ.o;unfold ji at hzb;have FR:=zH (fun i=>iI hzb i);obtain ⟨z0,z1,z2,z3,z4,z5,z6⟩:=gM hzb;obtain ⟨f0,f1,f2,f3,f4,f5,f6⟩:=(⟨FR.o 0,FR.o 1,FR.o 2,FR.o 3,FR.o 4,FR.o 5,FR.o 6⟩:_/\_/\_/\_/\_/\_/\_);clear hzb FR;refine rd 11 fun K hK=> ?_
     go_simp
     refine hK.out _ _ (KE.o _ NX.o.low) (fun hH=> ?_);clear hK K z0 z1 z2 z3 z4 z5 z6 f0 f1 f2 f3 f4 f5 f6;refine fJ 12 hH ?_;refine wpAnyH_done (by kernel_rfl) ?_ _;clear hH;go_wp2_with fail
     go_meet
     exact ⟨wr.heap.size,xa,hx,xc,ya,iy,yc,za,fz,zc,qa,lq,qc,pa,kp,pc,rfl,rfl,NX.o⟩
   case rest=>
    obtain ⟨nb,xa,hx,xc,ya,iy,yc,za,fz,zc,qa,lq,qc,pa,kp,pc,rfl,rfl,Uo⟩:=hcut;have NX:=zH Uo;have MX:=zH (M.o.below Uo.low);have DN:(er=0/\yK c x=d)\/(er=2/\yK c x=c):=by
     obtain ⟨h1,h2⟩:=DE.o
     cases hq:FJ c x.1 x.2 with
     |none=>rw [wX hq] at h2;exact .inr ⟨h2,Uq hq⟩
     |some q=>rw [oU hq] at h1 h2;exact .inl ⟨h2,by rw [h1];exact Ur hq⟩
    clear Uo KB KD KE DE
    rcases DN with ⟨rfl,hdn⟩|⟨rfl,hdn⟩
    ·have MP:=zH (M.o.put NX.o)
     unfold kQ at MP;rw [hdn] at NXT;clear hdn;obtain ⟨t0,t1,t2,t3,t4,t5,t6⟩:=NX.o.box.cl;obtain ⟨c0,c1,c2,c3,c4,c5,c6⟩:=MX.o.box.cl;obtain ⟨f0,f1,f2,f3,f4,f5,f6⟩:=(⟨MX.o.free 0,MX.o.free 1,MX.o.free 2,MX.o.free 3,MX.o.free 4,MX.o.free 5,MX.o.free 6⟩:_/\_/\_/\_/\_/\_/\_);go_wp2_with fail
     go_roundw
     case rel=>exact ⟨k+1,by omega,by go_num,_,by rw [NXT.o];exact MP.o⟩
     case measure=>simp [intOf];omega
    ·rw [hdn] at NXT
     clear hdn;go_wp2_with fail
     go_roundw
     case rel=>exact ⟨k+1,by omega,by go_num,_,by rw [NXT.o];exact MX.o⟩
     case measure=>simp [intOf];omega
  ·obtain rfl:k=n:=by omega
   have hlk:l.take k=l:=by rw [<-HN.o,bq]
   rw [hlk] at M;have BE:Behind me nc l (xR (cNew me nc) l):=⟨⟨nc,rfl,PP.o.1,PP.o.2.1,PP.o.2.2,rfl⟩,HR.o⟩;have BH:=zH BE;clear hlk BE HC HX;generalize xR (cNew me nc) l=c at*;have hzb:=M.o.zb;unfold ji at hzb;have FR:=zH (fun i=>iI hzb i);obtain ⟨z0,z1,z2,z3,z4,z5,z6⟩:=gM hzb;obtain ⟨f0,f1,f2,f3,f4,f5,f6⟩:=(⟨FR.o 0,FR.o 1,FR.o 2,FR.o 3,FR.o 4,FR.o 5,FR.o 6⟩:_/\_/\_/\_/\_/\_/\_);have OUT:=zH (fun x0 x1 x2 x3 x4 x5 x6=>vo hzb x0 x1 x2 x3 x4 x5 x6);clear hzb;obtain ⟨c0,c1,c2,c3,c4,c5,c6⟩:=M.o.box.cl;go_wp2_with fail
   obtain ⟨⟨y0,y1,y2,y3,y4,y5,y6⟩,hz,ho,hbl⟩:=OUT.o (.int .i64 c.me) (.int .i64 c.cores) (.slice ha hn hc) (.slice ia im ic) (.slice fa fn fc) (.slice la ln lc) (.slice ka kn kc);unfold kQ at y0 y1 y2 y3 y4 y5 y6 hz ho hbl;refine bodyPost_ret (v:= .tuple #[.agg #[.int .i64 c.me,.int .i64 c.cores,.slice ha hn hc,.slice ia im ic,.slice fa fn fc,.slice la ln lc,.slice ka kn kc],.bool true]) (by simp [results,results17,go_sem,y0,y1,y2,y3,y4,y5,y6]) rfl ?_;exact ⟨c,⟨ha,hn,hc,ia,im,ic,fa,fn,fc,la,ln,lc,ka,kn,kc⟩,true,rfl,(M.o.at_.agree fun b h=>ho b (by omega)).mono fun b h=>⟨by omega,by rw [hz];exact h.2.1⟩,M.o.low.trans (hbl _ (ah _)),fun _=>BH.o⟩
end Go.Proofs.YtfgcodcablpdcaaGreat