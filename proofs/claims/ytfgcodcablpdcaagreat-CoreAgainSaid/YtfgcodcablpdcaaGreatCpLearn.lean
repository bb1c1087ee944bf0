import Derived.Test.YtfgcodcablpdcaaGreatCpNode
set_option linter.unusedVariables false
set_option maxRecDepth 100000
set_option maxHeartbeats 64000000
namespace Go.Proofs.YtfgcodcablpdcaaGreat
open Go.Proofs.Tryz
open Go.RowKit Plain
theorem kset{xs:List Ints}{k:Nat}(hk:k<xs.length):(xs.take k++List.replicate (xs.length-k) []).set k (xs.getD k default)=xs.take (k+1)++List.replicate (xs.length-(k+1)) []:=by
 have h1:(xs.take k).length=k:=by rw [aO];omega
 rw [List.set_append_right _ _ (by omega),h1,cu,show xs.length-k=(xs.length-(k+1))+1 by omega,List.replicate_succ,List.set_cons_zero,bK hk,aY];simp [List.getD,hk]
theorem gy.nilJ{J:Nat ->Prop}{B n:Nat}{w:World}{g:Nat}(h:gy oM B w (.slice (some ⟨g,0,none⟩) n n) (List.replicate n [])):iO J oM B w (.slice (some ⟨g,0,none⟩) n n) (List.replicate n []):=by
 obtain ⟨vals,ho,hr⟩:=h;refine ⟨vals,ho,hr.1,fun j x hj=> ?_⟩;obtain ⟨v,ev,hs⟩:=hr.2 j x hj;have hx:x=[]:=List.eq_of_mem_replicate (bD hj);subst hx;obtain ⟨a',cap',vals',e',k1,k2,k0,kr,-⟩:=hs;exact ⟨v,ev,a',cap',vals',e',k1,k2,k0,⟨kr.1,fun j y hy=>by simp at hy⟩,fun h=>absurd h (by simp)⟩
def WA(w:World)(ks:List Ints)(e:Ending)(w':World):Prop:=∃ ka kc,e= .returned (.slice ka ks.length kc)/\iO (fun b=>w.heap.size<=b) oM w.heap.size w' (.slice ka ks.length kc) ks/\Below w.heap.size w w'
theorem KG{v:Value}{c:fT}{w:World}(hv:kK w v c)(hk:(c.known.length:Int)=c.cores)(h3:c.cores<=3)(hl:∀ x∈c.known,x.length<=1000000):Calls prog 61 #[v] w (WA w c.known):=by
 obtain ⟨ha,hn,hc,ia,im,ic,fa,fn,fc,la,ln,lc,ka,kn,kc,rfl,h⟩:=hv.slices;have X:Hid ((w.alloc (.cells #[.int .i64 c.me,.int .i64 c.cores,.slice ha hn hc,.slice ia im ic,.slice fa fn fc,.slice la ln lc,.slice ka kn kc] 34)).heap[w.heap.size]? =some (.cells #[.int .i64 c.me,.int .i64 c.cores,.slice ha hn hc,.slice ia im ic,.slice fa fn fc,.slice la ln lc,.slice ka kn kc] 34 (0,0))):=zH (aM w _);have H0:=zH h;have B0:=zH (zB w (.cells #[.int .i64 c.me,.int .i64 c.cores,.slice ha hn hc,.slice ia im ic,.slice fa fn fc,.slice la ln lc,.slice ka kn kc] 34));have DK:=(fM.iY (L:=oM) (show fM oM w (.slice ka kn kc) c.known from h.k));have HL:=zH hl;have KL:=zH DK.1;have M1:min c.cores 3=(kn:Int):=by have:=DK.1;omega
 have M2:max (kn:Int) 0=(kn:Int):=by omega
 have K3:Hid (kn<=3):=zH (by have:=DK.1;omega);have i1:(kn:Int)<=kc:=by have:=DK.2;omega
 have i2:(kc:Int)<=9223372036854775807:=by have:=DK.2;omega
 have RS:Hid (c.known.take kn++List.replicate (kn-kn) []=c.known):=zH (by rw [<-DK.1,bq];simp);have KS:Hid (∀ k,k<kn ->(c.known.take k++List.replicate (kn-k) []).set k (c.known.getD k default)=c.known.take (k+1)++List.replicate (kn-(k+1)) []):=zH (fun k hk=>by rw [<-DK.1];exact kset (by rw [DK.1];exact hk));unfold WA;rw [DK.1];clear hv h hk h3 hl DK;go_enter func61,ntmps61
 go_upto_region 1 with fail
 generalize (w.alloc _)=w0 at*;obtain ⟨c0,c1,c2,c3,c4,c5,c6⟩:=gM X.o;have XL:=zH (aH.1 X.o).1;go_wp2_with (at_make;refine yE oM [] Pq rfl (.tmp 8) rfl kn rfl (by have:=K3.o;omega) ?_)
 intro w1 ho hb hz;have O1:=zH (show iO (fun b=>w.heap.size<=b) oM w0.heap.size w1 (.slice (some ⟨w0.heap.size,0,none⟩) kn kn) (c.known.take 0++List.replicate (kn-0) []) from ho.nilJ);have X1:=zH ((hb.block _ XL.o).trans X.o);have B1:=zH (B0.o.trans (hb.mono B0.o.size));have Z0:=zH B0.o.size;have ZG:Hid (w.heap.size<w0.heap.size):=zH XL.o;clear ho hb hz X XL c0 c1 c2 c3 c4 c5 c6;generalize w0.heap.size=g at*;obtain ⟨c0,c1,c2,c3,c4,c5,c6⟩:=gM X1.o;go_wp2_with fail
 clear c0 c1 c2 c3 c4 c5 c6 M1 M2
 go_loopw [16] (fun i wr=>∃ k:Nat,k<=kn/\i= .int .i64 k/\Aside (iO (fun b=>w.heap.size<=b) oM g wr (.slice (some ⟨g,0,none⟩) kn kn) (c.known.take k++List.replicate (kn-k) [])/\wr.heap[w.heap.size]? =some (.cells #[.int .i64 c.me,.int .i64 c.cores,.slice ha hn hc,.slice ia im ic,.slice fa fn fc,.slice la ln lc,.slice ka kn kc] 34 (0,0))/\Below w.heap.size w wr)) (fun i _=>kn-(intOf i).toNat)
 case atStart=>exact ⟨0,aL _,rfl,O1.o,X1.o,B1.o⟩
 case round=>
  obtain ⟨k,hk,rfl,hrel⟩:=hrel;obtain ⟨r1,r2,r3⟩:=Aside.out hrel;have OR:=zH r1;have XR:=zH r2;have BR:=zH r3;clear hrel r1 r2 r3 O1 X1 B1
  by_cases hlt:k<kn
  ·obtain ⟨c0,c1,c2,c3,c4,c5,c6⟩:=gM XR.o
   have hkl:k<c.known.length:=by rw [KL.o];exact hlt
   obtain ⟨kb,ko,kc2,e4,-,hx⟩:=sS (H0.o.k.agree fun b hb=>BR.o.block b hb) (fun b h=>ay h BR.o.size) (by omega);simp only [aC] at e4
   obtain ⟨rfl,-,rfl⟩:=e4;obtain ⟨da,dn,dc,hd,sd⟩:=hx k hkl;have XL:(c.known.getD k default).length<=1000000:=by simp only [List.getD,au hkl,Option.getD_some];exact HL.o _ (aU hkl)
   have KSK:=KS.o k hlt;generalize c.known.getD k default=x at sd XL KSK;have KSH:=zH KSK;have KD:=zH (nL (show fM gL wr (.slice da dn dc) x from sd.mono fun b h=>ay h BR.o.size) XL);have GL:=zH (OR.o.lt g rfl);have k1:(k:Int)<kn:=by omega
   clear hx sd XL KSK hkl;go_upto_region 5 with fail
   go_wp2_with (go_at_call 89;refine KD.o.mono ?_;rintro e w2 ⟨v2,rfl,ho2,hb2⟩;have O2:=zH (ho2.new gU);have OB:=zH (OR.o.below hb2 (ah _));have B2:=zH hb2;obtain ⟨a2,e2,rfl,-,-,-,-⟩:=ho2.parts;obtain ⟨z,hz⟩:=Option.isSome_iff_exists.1 (OB.o.own.there (show k<kn*1 by omega));have hf:=OB.o.free w2 (aj _ _) k;clear ho2 hb2 KD hd c0 c1 c2 c3 c4 c5 c6)
   generalize x.length=xl at*;have OS:=zH (OB.o.setV (by rw [aA,aO,bW,KL.o];omega) (by rw [aA,aO,bW,KL.o];omega) (x:=x) (xv:= .slice a2 xl e2) (j:=k) (O2.o.mono fun b h=>⟨by have:=BR.o.size;omega,h.2,by have:=GL.o;omega⟩));rw [KSH.o] at OS;have XS:Hid ((w2.setCell ⟨g,k,none⟩ (.slice a2 xl e2)).heap[w.heap.size]? =some (.cells #[.int .i64 c.me,.int .i64 c.cores,.slice ha hn hc,.slice ia im ic,.slice fa fn fc,.slice la ln lc,.slice (some ⟨kb,ko,none⟩) kn kc] 34 (0,0))):=zH ((aN _ _ _ _ (by show w.heap.size≠g;have:=ZG.o;omega)).trans ((B2.o.block _ (aH.1 XR.o).1).trans XR.o));have BS:Hid (Below w.heap.size w (w2.setCell ⟨g,k,none⟩ (.slice a2 xl e2))):=zH ((BR.o.trans (B2.o.mono BR.o.size)).setCell (by show w.heap.size<=g;have:=ZG.o;omega) _);go_wp2_with fail
   go_roundw
   case rel=>exact ⟨k+1,by omega,by go_num,OS.o,XS.o,BS.o⟩
   case measure=>simp [intOf];omega
  ·obtain rfl:k=kn:=by omega
   have OF:=zH OR.o;rw [RS.o] at OF;go_wp2_with fail
   go_ret
   exact ⟨_,_,rfl,OF.o.mono (by have:=ZG.o;omega),BR.o⟩
theorem Ql{v:Value}{c:fT}{w:World}(hv:kK w v c)(hk:(c.known.length:Int)=c.cores)(h3:c.cores<=3)(hl:∀ x∈c.known,x.length<=1000000)(hh:c.store.heard.length<=1000000)(hi:c.store.items.length<=1000000)(hfl:c.past.floor.length<=1000000)(hpl:c.past.list.length<=1000000)(hpt:∀ t∈c.past.list,t.deps.length<=1000000/\t.effs.length<=1000000/\∀ e∈t.effs,e.drops.length<=1000000):
  Calls prog 98 #[v] w (Pt w c):=by
 obtain ⟨ha,hn,hc,ia,im,ic,fa,fn,fc,la,ln,lc,ka,kn,kc,rfl,h⟩:=hv.slices;have FM:=vB (w:=w) c ⟨ha,hn,hc,ia,im,ic,fa,fn,fc,la,ln,lc,ka,kn,kc⟩;unfold fP ji at FM;have DA:=zH FM;have ZW:Hid (((w.alloc (.cells #[.int .i64 c.me,.int .i64 c.cores,.slice ha hn hc,.slice ia im ic,.slice fa fn fc,.slice la ln lc,.slice ka kn kc] 34)).alloc (.cells #[.int .i64 0,.int .i64 0,.slice none 0 0,.slice none 0 0,.slice none 0 0,.slice none 0 0,.slice none 0 0] 34)).heap.size=w.heap.size+2):=zH (by simp);have HU:=zH (fun u (hb:Below w.heap.size w u)=>h.below hb);have DH:Hid (c.store.heard.length=hn):=zH (show fM gL w (.slice ha hn hc) c.store.heard from h.h).iY.1;have DI:Hid (c.store.items.length=im):=zH (show fM gG w (.slice ia im ic) c.store.items from h.i).iY.1;have DF:Hid (c.past.floor.length=fn):=zH (show fM gL w (.slice fa fn fc) c.past.floor from h.f).iY.1;have DL:Hid (c.past.list.length=ln):=zH (fM.iY (L:=gV) (show fM gV w (.slice la ln lc) c.past.list from h.l)).1;have DK:Hid (c.known.length=kn):=zH (fM.iY (L:=oM) (show fM oM w (.slice ka kn kc) c.known from h.k)).1;have K1:=zH (fun u (hb:Below w.heap.size w u)=>nL (h.below hb).h hh);have K2:=zH (fun u (hb:Below w.heap.size w u)=>wZ (h.below hb).i hi);have K3:=zH (fun u (hb:Below w.heap.size w u)=>nL (h.below hb).f hfl);have K4:=zH (fun u (hb:Below w.heap.size w u)=>JU (h.below hb).l hpl hpt);have K5:=zH (fun u s (ha:nE (· <u.heap.size) c s u)=>KG (v:= .agg (fP c s)) ⟨s,rfl,ha⟩ hk h3 hl);clear hv h hk h3 hl hh hi hfl hpl hpt FM;go_enter func98,ntmps98
 go_upto_region 1 with fail
 generalize ((w.alloc _).alloc _)=w0 at*
 go_cut [11] (fun s11 wx=>∃ (xa:Option Addr) (xc:Nat) (ya:Option Addr) (yc:Nat),nk w c ⟨xa,hn,xc,ya,im,yc,fa,fn,fc,la,ln,lc,ka,kn,kc⟩ wx/\Sq gL (fun b=>w.heap.size+2<=b/\b<wx.heap.size) wx (.slice xa hn xc) c.store.heard/\Sq gG (fun b=>w.heap.size+2<=b/\b<wx.heap.size) wx (.slice ya im yc) c.store.items)
 case first=>
  refine wp_region_held_drew (S:=fun u'=>Below w.heap.size w u') (by kernel_rfl) ?_ (fun hH=> ?_)
  ·(exact DA.o.low.trans (((aj w0.heap.size w0).drew).mono DA.o.low.size))
  simp only [zS,aJ,Nat.reduceAdd]
  refine fJ 0 hH ?_;refine fJ 1 hH ?_;refine fJ 4 hH ?_;refine fJ 5 hH ?_;refine wpAnyH_ready (rs:=[2,6]) (by kernel_rfl) (by simp) ?_;refine bC rfl (fun K hK=> ?_) (bC rfl (fun K hK=> ?_) dA)
  ·skip
   obtain ⟨e0,e1,e2,e3,e4,e5,e6⟩:=(DA.o.below ((aj w0.heap.size w0).drew)).cl
   go_simp
   refine hK.out _ _ hH (fun hH=> ?_);clear hK K e0 e1 e2 e3 e4 e5 e6;refine wpAnyH_ready (rs:=[3,6]) (by kernel_rfl) (by simp) ?_;refine bC rfl (fun K hK=> ?_) (bC rfl (fun K hK=> ?_) dA)
   ·skip
    go_simp
    refine (K1.o _ (DA.o.low.trans (((aj w0.heap.size w0).drew).mono DA.o.low.size))).mono ?_;rintro e s1 ⟨v1,rfl,ho,hb⟩;obtain ⟨xa,xc,rfl,-,-,ho⟩:=ho.at hn DH.o;have ZB:=zH ((aj w0.heap.size w0).drew).size;have N1:Hid (Sq gL (fun b=>w.heap.size+2<=b/\b<s1.heap.size) s1 (.slice xa hn xc) c.store.heard):=zH ((ho.new gU).mono fun b h=>⟨by have:=ZB.o;have:=ZW.o;omega,h.2⟩);have B1:=zH (((aj w0.heap.size w0).drew).trans (hb.mono ((aj w0.heap.size w0).drew).size));clear ho hb ZB;refine hK.out _ _ (DA.o.low.trans (B1.o.mono DA.o.low.size)) (fun hH=> ?_);clear hK K;refine rd 6 fun K hK=> ?_
    obtain ⟨e0,e1,e2,e3,e4,e5,e6⟩:=(DA.o.below B1.o).cl
    go_simp
    refine hK.out _ _ hH (fun hH=> ?_);clear hK K e0 e1 e2 e3 e4 e5 e6;refine rd 7 fun K hK=> ?_
    go_simp
    refine (K2.o _ (DA.o.low.trans (B1.o.mono DA.o.low.size))).mono ?_;rintro e s2 ⟨v2,rfl,ho,hb⟩;obtain ⟨ya,yc,rfl,-,-,ho⟩:=ho.at im DI.o;have ZB:=zH B1.o.size;have I2:Hid (Sq gG (fun b=>w.heap.size+2<=b/\b<s2.heap.size) s2 (.slice ya im yc) c.store.items):=zH ((ho.new jR).mono fun b h=>⟨by have:=ZB.o;have:=ZW.o;omega,h.2⟩);have N2:=zH (N1.o.later hb);have B2:=zH (B1.o.trans (hb.mono B1.o.size));clear ho hb ZB;refine hK.out _ _ (DA.o.low.trans (B2.o.mono DA.o.low.size)) (fun hH=> ?_);clear hK K;refine fJ 8 hH ?_;refine fJ 9 hH ?_;obtain ⟨e0,e1,e2,e3,e4,e5,e6⟩:=(DA.o.below B2.o).cl;have f2:=(DA.o.below B2.o).free 2;have f3:=(DA.o.below B2.o).free 3;refine rd 10 fun K hK=> ?_
    go_simp
    have NX:Hid (nk w c ⟨xa,hn,xc,ya,im,yc,fa,fn,fc,la,ln,lc,ka,kn,kc⟩ (jL s2 w.heap.size 2 (.slice xa hn xc) (.slice ya im yc))):=zH ((DA.o.below B2.o).next (fun b h=>iJ _ _ _ _ _ h) ((DA.o.below B2.o).low.trans (lu _ (ah _) _ _ _)) (mD (DA.o.below B2.o).cb _ _));refine hK.out _ _ NX.o.low (fun hH=> ?_);clear hK K e0 e1 e2 e3 e4 e5 e6 f2 f3;refine wpAnyH_done (by kernel_rfl) ?_ _;clear hH;go_wp2_with fail
    go_meet
    refine ⟨xa,xc,ya,yc,NX.o,(N2.o.agree fun b h=>iJ _ _ _ _ _ (by omega)).mono fun b h=>⟨h.1,?_⟩,(I2.o.agree fun b h=>iJ _ _ _ _ _ (by omega)).mono fun b h=>⟨h.1,?_⟩⟩<;>(have:=mE s2 w.heap.size 2 (.slice xa hn xc) (.slice ya im yc);unfold jL at this;rw [this];exact h.2)
   ·skip
    obtain ⟨e0,e1,e2,e3,e4,e5,e6⟩:=(DA.o.below ((aj w0.heap.size w0).drew)).cl
    go_simp
    refine hK.out _ _ hH (fun hH=> ?_);clear hK K e0 e1 e2 e3 e4 e5 e6;refine rd 3 fun K hK=> ?_
    go_simp
    refine (K1.o _ (DA.o.low.trans (((aj w0.heap.size w0).drew).mono DA.o.low.size))).mono ?_;rintro e s1 ⟨v1,rfl,ho,hb⟩;obtain ⟨xa,xc,rfl,-,-,ho⟩:=ho.at hn DH.o;have ZB:=zH ((aj w0.heap.size w0).drew).size;have N1:Hid (Sq gL (fun b=>w.heap.size+2<=b/\b<s1.heap.size) s1 (.slice xa hn xc) c.store.heard):=zH ((ho.new gU).mono fun b h=>⟨by have:=ZB.o;have:=ZW.o;omega,h.2⟩);have B1:=zH (((aj w0.heap.size w0).drew).trans (hb.mono ((aj w0.heap.size w0).drew).size));clear ho hb ZB;refine hK.out _ _ (DA.o.low.trans (B1.o.mono DA.o.low.size)) (fun hH=> ?_);clear hK K;refine rd 7 fun K hK=> ?_
    go_simp
    refine (K2.o _ (DA.o.low.trans (B1.o.mono DA.o.low.size))).mono ?_;rintro e s2 ⟨v2,rfl,ho,hb⟩;obtain ⟨ya,yc,rfl,-,-,ho⟩:=ho.at im DI.o;have ZB:=zH B1.o.size;have I2:Hid (Sq gG (fun b=>w.heap.size+2<=b/\b<s2.heap.size) s2 (.slice ya im yc) c.store.items):=zH ((ho.new jR).mono fun b h=>⟨by have:=ZB.o;have:=ZW.o;omega,h.2⟩);have N2:=zH (N1.o.later hb);have B2:=zH (B1.o.trans (hb.mono B1.o.size));clear ho hb ZB;refine hK.out _ _ (DA.o.low.trans (B2.o.mono DA.o.low.size)) (fun hH=> ?_);clear hK K;refine fJ 8 hH ?_;refine fJ 9 hH ?_;obtain ⟨e0,e1,e2,e3,e4,e5,e6⟩:=(DA.o.below B2.o).cl;have f2:=(DA.o.below B2.o).free 2;have f3:=(DA.o.below B2.o).free 3;refine rd 10 fun K hK=> ?_
    go_simp
    have NX:Hid (nk w c ⟨xa,hn,xc,ya,im,yc,fa,fn,fc,la,ln,lc,ka,kn,kc⟩ (jL s2 w.heap.size 2 (.slice xa hn xc) (.slice ya im yc))):=zH ((DA.o.below B2.o).next (fun b h=>iJ _ _ _ _ _ h) ((DA.o.below B2.o).low.trans (lu _ (ah _) _ _ _)) (mD (DA.o.below B2.o).cb _ _));refine hK.out _ _ NX.o.low (fun hH=> ?_);clear hK K e0 e1 e2 e3 e4 e5 e6 f2 f3;refine wpAnyH_done (by kernel_rfl) ?_ _;clear hH;go_wp2_with fail
    go_meet
    refine ⟨xa,xc,ya,yc,NX.o,(N2.o.agree fun b h=>iJ _ _ _ _ _ (by omega)).mono fun b h=>⟨h.1,?_⟩,(I2.o.agree fun b h=>iJ _ _ _ _ _ (by omega)).mono fun b h=>⟨h.1,?_⟩⟩<;>(have:=mE s2 w.heap.size 2 (.slice xa hn xc) (.slice ya im yc);unfold jL at this;rw [this];exact h.2)
  ·skip
   obtain ⟨e0,e1,e2,e3,e4,e5,e6⟩:=(DA.o.below ((aj w0.heap.size w0).drew)).cl
   go_simp
   refine hK.out _ _ hH (fun hH=> ?_);clear hK K e0 e1 e2 e3 e4 e5 e6;refine rd 2 fun K hK=> ?_
   obtain ⟨e0,e1,e2,e3,e4,e5,e6⟩:=(DA.o.below ((aj w0.heap.size w0).drew)).cl
   go_simp
   refine hK.out _ _ hH (fun hH=> ?_);clear hK K e0 e1 e2 e3 e4 e5 e6;refine rd 3 fun K hK=> ?_
   go_simp
   refine (K1.o _ (DA.o.low.trans (((aj w0.heap.size w0).drew).mono DA.o.low.size))).mono ?_;rintro e s1 ⟨v1,rfl,ho,hb⟩;obtain ⟨xa,xc,rfl,-,-,ho⟩:=ho.at hn DH.o;have ZB:=zH ((aj w0.heap.size w0).drew).size;have N1:Hid (Sq gL (fun b=>w.heap.size+2<=b/\b<s1.heap.size) s1 (.slice xa hn xc) c.store.heard):=zH ((ho.new gU).mono fun b h=>⟨by have:=ZB.o;have:=ZW.o;omega,h.2⟩);have B1:=zH (((aj w0.heap.size w0).drew).trans (hb.mono ((aj w0.heap.size w0).drew).size));clear ho hb ZB;refine hK.out _ _ (DA.o.low.trans (B1.o.mono DA.o.low.size)) (fun hH=> ?_);clear hK K;refine rd 7 fun K hK=> ?_
   go_simp
   refine (K2.o _ (DA.o.low.trans (B1.o.mono DA.o.low.size))).mono ?_;rintro e s2 ⟨v2,rfl,ho,hb⟩;obtain ⟨ya,yc,rfl,-,-,ho⟩:=ho.at im DI.o;have ZB:=zH B1.o.size;have I2:Hid (Sq gG (fun b=>w.heap.size+2<=b/\b<s2.heap.size) s2 (.slice ya im yc) c.store.items):=zH ((ho.new jR).mono fun b h=>⟨by have:=ZB.o;have:=ZW.o;omega,h.2⟩);have N2:=zH (N1.o.later hb);have B2:=zH (B1.o.trans (hb.mono B1.o.size));clear ho hb ZB;refine hK.out _ _ (DA.o.low.trans (B2.o.mono DA.o.low.size)) (fun hH=> ?_);clear hK K;refine fJ 8 hH ?_;refine fJ 9 hH ?_;obtain ⟨e0,e1,e2,e3,e4,e5,e6⟩:=(DA.o.below B2.o).cl;have f2:=(DA.o.below B2.o).free 2;have f3:=(DA.o.below B2.o).free 3;refine rd 10 fun K hK=> ?_
   go_simp
   have NX:Hid (nk w c ⟨xa,hn,xc,ya,im,yc,fa,fn,fc,la,ln,lc,ka,kn,kc⟩ (jL s2 w.heap.size 2 (.slice xa hn xc) (.slice ya im yc))):=zH ((DA.o.below B2.o).next (fun b h=>iJ _ _ _ _ _ h) ((DA.o.below B2.o).low.trans (lu _ (ah _) _ _ _)) (mD (DA.o.below B2.o).cb _ _));refine hK.out _ _ NX.o.low (fun hH=> ?_);clear hK K e0 e1 e2 e3 e4 e5 e6 f2 f3;refine wpAnyH_done (by kernel_rfl) ?_ _;clear hH;go_wp2_with fail
   go_meet
   refine ⟨xa,xc,ya,yc,NX.o,(N2.o.agree fun b h=>iJ _ _ _ _ _ (by omega)).mono fun b h=>⟨h.1,?_⟩,(I2.o.agree fun b h=>iJ _ _ _ _ _ (by omega)).mono fun b h=>⟨h.1,?_⟩⟩<;>(have:=mE s2 w.heap.size 2 (.slice xa hn xc) (.slice ya im yc);unfold jL at this;rw [this];exact h.2)
 case rest=>
  obtain ⟨xa,xc,ya,yc,hD,hN,hI⟩:=hcut;have D1:=zH hD;have N1:=zH hN;have I1:=zH hI;clear hD hN hI DA;go_upto_region 2 with fail
  go_cut [21] (fun s21 wx=>∃ (za:Option Addr) (zc:Nat) (qa:Option Addr) (qc L:Nat),nk w c ⟨xa,hn,xc,ya,im,yc,za,fn,zc,qa,ln,qc,ka,kn,kc⟩ wx/\w.heap.size+2<=L/\L<=wx.heap.size/\Sq gL (fun b=>w.heap.size+2<=b/\b<L) wx (.slice xa hn xc) c.store.heard/\Sq gG (fun b=>w.heap.size+2<=b/\b<L) wx (.slice ya im yc) c.store.items/\Sq gL (fun b=>w.heap.size+2<=b/\b<L) wx (.slice za fn zc) c.past.floor/\iO (fun b=>L<=b) gV L wx (.slice qa ln qc) c.past.list)
  case first=>
   refine wp_region_held_drew (S:=fun u'=>Below w.heap.size w u') (by kernel_rfl) ?_ (fun hH=> ?_)
   ·(exact D1.o.low.trans (((aj wc.heap.size wc).drew).mono D1.o.low.size))
   simp only [zS,aJ,Nat.reduceAdd]
   refine fJ 0 hH ?_;refine fJ 1 hH ?_;refine fJ 4 hH ?_;refine fJ 5 hH ?_;refine wpAnyH_ready (rs:=[2,6]) (by kernel_rfl) (by simp) ?_;refine bC rfl (fun K hK=> ?_) (bC rfl (fun K hK=> ?_) dA)
   ·skip
    obtain ⟨e0,e1,e2,e3,e4,e5,e6⟩:=(D1.o.below ((aj wc.heap.size wc).drew)).cl
    go_simp
    refine hK.out _ _ hH (fun hH=> ?_);clear hK K e0 e1 e2 e3 e4 e5 e6;refine wpAnyH_ready (rs:=[3,6]) (by kernel_rfl) (by simp) ?_;refine bC rfl (fun K hK=> ?_) (bC rfl (fun K hK=> ?_) dA)
    ·skip
     go_simp
     refine (K3.o _ (D1.o.low.trans (((aj wc.heap.size wc).drew).mono D1.o.low.size))).mono ?_;rintro e s1 ⟨v1,rfl,ho,hb⟩;obtain ⟨za,zc,rfl,-,-,ho⟩:=ho.at fn DF.o;have ZB:=zH ((aj wc.heap.size wc).drew).size;have ZL:=zH D1.o.lt;have F1:Hid (Sq gL (fun b=>w.heap.size+2<=b/\b<s1.heap.size) s1 (.slice za fn zc) c.past.floor):=zH ((ho.new gU).mono fun b h=>⟨by have:=ZB.o;have:=ZL.o;omega,h.2⟩);have B1:=zH (((aj wc.heap.size wc).drew).trans (hb.mono ((aj wc.heap.size wc).drew).size));have N2:=zH (N1.o.later B1.o);have I2:=zH (I1.o.later B1.o);clear ho hb ZB;refine hK.out _ _ (D1.o.low.trans (B1.o.mono D1.o.low.size)) (fun hH=> ?_);clear hK K;refine rd 6 fun K hK=> ?_
     obtain ⟨e0,e1,e2,e3,e4,e5,e6⟩:=(D1.o.below B1.o).cl
     go_simp
     refine hK.out _ _ hH (fun hH=> ?_);clear hK K e0 e1 e2 e3 e4 e5 e6;refine rd 7 fun K hK=> ?_
     go_simp
     refine (K4.o _ (D1.o.low.trans (B1.o.mono D1.o.low.size))).mono ?_;rintro e s2 ⟨qa,qn,qc,rfl,ho,hb⟩;have hq:ln=qn:=by
      obtain ⟨a,c,e,-⟩:=ho.at ln DL.o;exact ((Value.slice.inj e).2.1).symm
     subst hq;have Q2:=zH ho;have H2:=zH hb;have B2:=zH (B1.o.trans (hb.mono B1.o.size));have ZL2:Hid (w.heap.size+2<=s1.heap.size/\s1.heap.size<=s2.heap.size):=zH ⟨by have:=B1.o.size;have:=ZL.o;omega,hb.size⟩;clear ho hb;refine hK.out _ _ (D1.o.low.trans (B2.o.mono D1.o.low.size)) (fun hH=> ?_);clear hK K;refine fJ 8 hH ?_;refine fJ 9 hH ?_;obtain ⟨e0,e1,e2,e3,e4,e5,e6⟩:=(D1.o.below B2.o).cl;have f4:=(D1.o.below B2.o).free 4;have f5:=(D1.o.below B2.o).free 5;refine rd 10 fun K hK=> ?_
     go_simp
     have NX:Hid (nk w c ⟨xa,hn,xc,ya,im,yc,za,fn,zc,qa,ln,qc,ka,kn,kc⟩ (jL s2 w.heap.size 4 (.slice za fn zc) (.slice qa ln qc))):=zH ((D1.o.below B2.o).next (fun b h=>iJ _ _ _ _ _ h) ((D1.o.below B2.o).low.trans (lu _ (ah _) _ _ _)) (mD (D1.o.below B2.o).cb _ _));refine hK.out _ _ NX.o.low (fun hH=> ?_);clear hK K e0 e1 e2 e3 e4 e5 e6 f4 f5;refine wpAnyH_done (by kernel_rfl) ?_ _;clear hH;go_wp2_with fail
     go_meet
     have hz:=mE s2 w.heap.size 4 (.slice za fn zc) (.slice qa ln qc);have ho:∀ b,b≠w.heap.size ->(jL s2 w.heap.size 4 (.slice za fn zc) (.slice qa ln qc)).heap[b]? =s2.heap[b]? :=fun b h=>iJ _ _ _ _ _ h
     exact ⟨za,zc,qa,qc,s1.heap.size,NX.o,ZL2.o.1,ak ZL2.o.2 (dR hz.symm),N2.o.agree fun b h=>(ho b (by omega)).trans (H2.o.block b h.2),I2.o.agree fun b h=>(ho b (by omega)).trans (H2.o.block b h.2),F1.o.agree fun b h=>(ho b (by omega)).trans (H2.o.block b h.2),Q2.o.kept (dR hz.symm) fun b _ h=>ho b (by have:=ZL2.o.1;rcases h with h|h<;>omega)⟩
    ·skip
     obtain ⟨e0,e1,e2,e3,e4,e5,e6⟩:=(D1.o.below ((aj wc.heap.size wc).drew)).cl
     go_simp
     refine hK.out _ _ hH (fun hH=> ?_);clear hK K e0 e1 e2 e3 e4 e5 e6;refine rd 3 fun K hK=> ?_
     go_simp
     refine (K3.o _ (D1.o.low.trans (((aj wc.heap.size wc).drew).mono D1.o.low.size))).mono ?_;rintro e s1 ⟨v1,rfl,ho,hb⟩;obtain ⟨za,zc,rfl,-,-,ho⟩:=ho.at fn DF.o;have ZB:=zH ((aj wc.heap.size wc).drew).size;have ZL:=zH D1.o.lt;have F1:Hid (Sq gL (fun b=>w.heap.size+2<=b/\b<s1.heap.size) s1 (.slice za fn zc) c.past.floor):=zH ((ho.new gU).mono fun b h=>⟨by have:=ZB.o;have:=ZL.o;omega,h.2⟩);have B1:=zH (((aj wc.heap.size wc).drew).trans (hb.mono ((aj wc.heap.size wc).drew).size));have N2:=zH (N1.o.later B1.o);have I2:=zH (I1.o.later B1.o);clear ho hb ZB;refine hK.out _ _ (D1.o.low.trans (B1.o.mono D1.o.low.size)) (fun hH=> ?_);clear hK K;refine rd 7 fun K hK=> ?_
     go_simp
     refine (K4.o _ (D1.o.low.trans (B1.o.mono D1.o.low.size))).mono ?_;rintro e s2 ⟨qa,qn,qc,rfl,ho,hb⟩;have hq:ln=qn:=by
      obtain ⟨a,c,e,-⟩:=ho.at ln DL.o;exact ((Value.slice.inj e).2.1).symm
     subst hq;have Q2:=zH ho;have H2:=zH hb;have B2:=zH (B1.o.trans (hb.mono B1.o.size));have ZL2:Hid (w.heap.size+2<=s1.heap.size/\s1.heap.size<=s2.heap.size):=zH ⟨by have:=B1.o.size;have:=ZL.o;omega,hb.size⟩;clear ho hb;refine hK.out _ _ (D1.o.low.trans (B2.o.mono D1.o.low.size)) (fun hH=> ?_);clear hK K;refine fJ 8 hH ?_;refine fJ 9 hH ?_;obtain ⟨e0,e1,e2,e3,e4,e5,e6⟩:=(D1.o.below B2.o).cl;have f4:=(D1.o.below B2.o).free 4;have f5:=(D1.o.below B2.o).free 5;refine rd 10 fun K hK=> ?_
     go_simp
     have NX:Hid (nk w c ⟨xa,hn,xc,ya,im,yc,za,fn,zc,qa,ln,qc,ka,kn,kc⟩ (jL s2 w.heap.size 4 (.slice za fn zc) (.slice qa ln qc))):=zH ((D1.o.below B2.o).next (fun b h=>iJ _ _ _ _ _ h) ((D1.o.below B2.o).low.trans (lu _ (ah _) _ _ _)) (mD (D1.o.below B2.o).cb _ _));refine hK.out _ _ NX.o.low (fun hH=> ?_);clear hK K e0 e1 e2 e3 e4 e5 e6 f4 f5;refine wpAnyH_done (by kernel_rfl) ?_ _;clear hH;go_wp2_with fail
     go_meet
     have hz:=mE s2 w.heap.size 4 (.slice za fn zc) (.slice qa ln qc);have ho:∀ b,b≠w.heap.size ->(jL s2 w.heap.size 4 (.slice za fn zc) (.slice qa ln qc)).heap[b]? =s2.heap[b]? :=fun b h=>iJ _ _ _ _ _ h
     exact ⟨za,zc,qa,qc,s1.heap.size,NX.o,ZL2.o.1,ak ZL2.o.2 (dR hz.symm),N2.o.agree fun b h=>(ho b (by omega)).trans (H2.o.block b h.2),I2.o.agree fun b h=>(ho b (by omega)).trans (H2.o.block b h.2),F1.o.agree fun b h=>(ho b (by omega)).trans (H2.o.block b h.2),Q2.o.kept (dR hz.symm) fun b _ h=>ho b (by have:=ZL2.o.1;rcases h with h|h<;>omega)⟩
   ·skip
    obtain ⟨e0,e1,e2,e3,e4,e5,e6⟩:=(D1.o.below ((aj wc.heap.size wc).drew)).cl
    go_simp
    refine hK.out _ _ hH (fun hH=> ?_);clear hK K e0 e1 e2 e3 e4 e5 e6;refine rd 2 fun K hK=> ?_
    obtain ⟨e0,e1,e2,e3,e4,e5,e6⟩:=(D1.o.below ((aj wc.heap.size wc).drew)).cl
    go_simp
    refine hK.out _ _ hH (fun hH=> ?_);clear hK K e0 e1 e2 e3 e4 e5 e6;refine rd 3 fun K hK=> ?_
    go_simp
    refine (K3.o _ (D1.o.low.trans (((aj wc.heap.size wc).drew).mono D1.o.low.size))).mono ?_;rintro e s1 ⟨v1,rfl,ho,hb⟩;obtain ⟨za,zc,rfl,-,-,ho⟩:=ho.at fn DF.o;have ZB:=zH ((aj wc.heap.size wc).drew).size;have ZL:=zH D1.o.lt;have F1:Hid (Sq gL (fun b=>w.heap.size+2<=b/\b<s1.heap.size) s1 (.slice za fn zc) c.past.floor):=zH ((ho.new gU).mono fun b h=>⟨by have:=ZB.o;have:=ZL.o;omega,h.2⟩);have B1:=zH (((aj wc.heap.size wc).drew).trans (hb.mono ((aj wc.heap.size wc).drew).size));have N2:=zH (N1.o.later B1.o);have I2:=zH (I1.o.later B1.o);clear ho hb ZB;refine hK.out _ _ (D1.o.low.trans (B1.o.mono D1.o.low.size)) (fun hH=> ?_);clear hK K;refine rd 7 fun K hK=> ?_
    go_simp
    refine (K4.o _ (D1.o.low.trans (B1.o.mono D1.o.low.size))).mono ?_;rintro e s2 ⟨qa,qn,qc,rfl,ho,hb⟩;have hq:ln=qn:=by
     obtain ⟨a,c,e,-⟩:=ho.at ln DL.o;exact ((Value.slice.inj e).2.1).symm
    subst hq;have Q2:=zH ho;have H2:=zH hb;have B2:=zH (B1.o.trans (hb.mono B1.o.size));have ZL2:Hid (w.heap.size+2<=s1.heap.size/\s1.heap.size<=s2.heap.size):=zH ⟨by have:=B1.o.size;have:=ZL.o;omega,hb.size⟩;clear ho hb;refine hK.out _ _ (D1.o.low.trans (B2.o.mono D1.o.low.size)) (fun hH=> ?_);clear hK K;refine fJ 8 hH ?_;refine fJ 9 hH ?_;obtain ⟨e0,e1,e2,e3,e4,e5,e6⟩:=(D1.o.below B2.o).cl;have f4:=(D1.o.below B2.o).free 4;have f5:=(D1.o.below B2.o).free 5;refine rd 10 fun K hK=> ?_
    go_simp
    have NX:Hid (nk w c ⟨xa,hn,xc,ya,im,yc,za,fn,zc,qa,ln,qc,ka,kn,kc⟩ (jL s2 w.heap.size 4 (.slice za fn zc) (.slice qa ln qc))):=zH ((D1.o.below B2.o).next (fun b h=>iJ _ _ _ _ _ h) ((D1.o.below B2.o).low.trans (lu _ (ah _) _ _ _)) (mD (D1.o.below B2.o).cb _ _));refine hK.out _ _ NX.o.low (fun hH=> ?_);clear hK K e0 e1 e2 e3 e4 e5 e6 f4 f5;refine wpAnyH_done (by kernel_rfl) ?_ _;clear hH;go_wp2_with fail
    go_meet
    have hz:=mE s2 w.heap.size 4 (.slice za fn zc) (.slice qa ln qc);have ho:∀ b,b≠w.heap.size ->(jL s2 w.heap.size 4 (.slice za fn zc) (.slice qa ln qc)).heap[b]? =s2.heap[b]? :=fun b h=>iJ _ _ _ _ _ h
    exact ⟨za,zc,qa,qc,s1.heap.size,NX.o,ZL2.o.1,ak ZL2.o.2 (dR hz.symm),N2.o.agree fun b h=>(ho b (by omega)).trans (H2.o.block b h.2),I2.o.agree fun b h=>(ho b (by omega)).trans (H2.o.block b h.2),F1.o.agree fun b h=>(ho b (by omega)).trans (H2.o.block b h.2),Q2.o.kept (dR hz.symm) fun b _ h=>ho b (by have:=ZL2.o.1;rcases h with h|h<;>omega)⟩
  case rest=>
   obtain ⟨za,zc,qa,qc,L,hD,hL1,hL2,hN,hI,hF,hQ⟩:=hcut;have D2:=zH hD;have LL:=zH (cK hL1 hL2);have N2:=zH hN;have I2:=zH hI;have F2:=zH hF;have Q2:=zH hQ;have A2:nE (· <wc.heap.size) c ⟨xa,hn,xc,ya,im,yc,za,fn,zc,qa,ln,qc,ka,kn,kc⟩ wc:=⟨hN.mono fun b h=>ay h.2 hL2,hI.mono fun b h=>ay h.2 hL2,hF.mono fun b h=>ay h.2 hL2,hQ.own.seq,(HU.o _ hD.low).k⟩;have KK:=zH (K5.o _ _ A2);unfold fP at KK;clear hD hL1 hL2 hN hI hF hQ A2 K1 K2 K3 K4 K5 N1 I1 D1;obtain ⟨c0,c1,c2,c3,c4,c5,c6⟩:=D2.o.cl;go_upto_region 4 with (go_at_call 61;refine KK.o.mono ?_;rintro e w5 ⟨ga,gc,rfl,hG,hb⟩;rw [DK.o] at hG ⊢;have D3:=zH (D2.o.below hb);have B3:=zH hb;have G3:=zH hG;clear hG hb KK c0 c1 c2 c3 c4 c5 c6;obtain ⟨c0,c1,c2,c3,c4,c5,c6⟩:=D3.o.cl;have f6:=D3.o.free 6)
   have D4:=zH (D3.o.set6 (ya:=ga) (yn:=kn) (yc:=gc));clear c0 c1 c2 c3 c4 c5 c6 f6;have H4:=zH (show uI (w.heap.size+2) c ⟨xa,hn,xc,ya,im,yc,za,fn,zc,qa,ln,qc,ga,kn,gc⟩ (w5.setCell ⟨w.heap.size,6,none⟩ (.slice ga kn gc)) from by
    refine uI.but (g:=w.heap.size) (u:=w5) ⟨L,wc.heap.size,LL.o.1,LL.o.2,B3.o.size,N2.o.agree fun b h=>B3.o.block b (by have:=LL.o.2;omega),I2.o.agree fun b h=>B3.o.block b (by have:=LL.o.2;omega),F2.o.agree fun b h=>B3.o.block b (by have:=LL.o.2;omega),Q2.o.top.below B3.o (ah _),fun k hk=>(Q2.o.lt k hk).2,G3.o⟩ (by omega) (fun b h=>aN _ _ _ _ h) (by simp [World.setCell]))
   clear N2 I2 F2 Q2 G3 D2 D3 B3;generalize (w5.setCell _ _)=u4 at*;have hzb:=D4.o.zb;unfold ji at hzb;have FR:=zH (fun i=>iI hzb i);obtain ⟨z0,z1,z2,z3,z4,z5,z6⟩:=gM hzb;obtain ⟨f0,f1,f2,f3,f4,f5,f6⟩:=(⟨FR.o 0,FR.o 1,FR.o 2,FR.o 3,FR.o 4,FR.o 5,FR.o 6⟩:_/\_/\_/\_/\_/\_/\_);have OUT:=zH (fun x0 x1 x2 x3 x4 x5 x6=>vo hzb x0 x1 x2 x3 x4 x5 x6);clear hzb;obtain ⟨c0,c1,c2,c3,c4,c5,c6⟩:=D4.o.cl;go_wp2_with fail
   obtain ⟨⟨y0,y1,y2,y3,y4,y5,y6⟩,hz,ho,hbl⟩:=OUT.o (.int .i64 c.me) (.int .i64 c.cores) (.slice xa hn xc) (.slice ya im yc) (.slice za fn zc) (.slice qa ln qc) (.slice ga kn gc);unfold kQ at y0 y1 y2 y3 y4 y5 y6 hz ho hbl;refine bodyPost_ret (v:= .agg #[.int .i64 c.me,.int .i64 c.cores,.slice xa hn xc,.slice ya im yc,.slice za fn zc,.slice qa ln qc,.slice ga kn gc]) (by simp [results,results98,go_sem,y0,y1,y2,y3,y4,y5,y6]) rfl ?_
   refine ⟨⟨xa,hn,xc,ya,im,yc,za,fn,zc,qa,ln,qc,ga,kn,gc⟩,rfl,(H4.o.but (g:=w.heap.size+1) (by omega) ho hz).mono (by omega),D4.o.low.trans (hbl _ (by omega))⟩
end Go.Proofs.YtfgcodcablpdcaaGreat
set_option maxRecDepth 100000
set_option maxHeartbeats 64000000
namespace Go.Proofs.YtfgcodcablpdcaaGreat
open Go.Proofs.Tryz
open Go.RowKit Plain
theorem cpEnters:∀ args w,(callFunc 130 args).run prog w= .ok (.enter 130 args) w:=enters_of func130 (by kernel_rfl) rfl
theorem cpUnlike{W:World}{g q:Nat}{hv ev tv:Value}{h:Ints}{t:fI}(hg:W.cell? ⟨g,2,none⟩=some hv)(hq:W.cell? ⟨q,0,none⟩=some ev)(hh:gQ W hv h)(he:gQ W ev h)(ht:kN W tv t):
  Calls prog 130 (#[tv]++#[.pointer (some ⟨g,0,none⟩),.pointer (some ⟨q,0,none⟩)]) W (fO W false):=by
 obtain ⟨da,dn,dc,ea,en,ec,rfl,k1,k2⟩:=ht.parts
 show Calls prog 130 #[.agg #[.int .i64 t.node,.int .i64 t.seq,.slice da dn dc,.slice ea en ec],.pointer (some ⟨g,0,none⟩),.pointer (some ⟨q,0,none⟩)] W _
 have hb0:=zB W (.cells #[.int .i64 t.node,.int .i64 t.seq,.slice da dn dc,.slice ea en ec] 82);have BE:=zH hb0;have TB:=(kZ (w:=W) (t:=t) k1 k2);have G1:=(hb0.cell (aG W ⟨g,2,none⟩ hg)).trans hg;have Q1:=(hb0.cell (aG W ⟨q,0,none⟩ hq)).trans hq;have HH:=hh.below hb0;have HE:=he.below hb0;obtain ⟨xa,xc,rfl,-⟩:=hh.parts;obtain ⟨ya,yc,rfl,-⟩:=he.parts;have KA:Hid (∀ u,Below (W.alloc (.cells #[.int .i64 t.node,.int .i64 t.seq,.slice da dn dc,.slice ea en ec] 82)).heap.size (W.alloc (.cells #[.int .i64 t.node,.int .i64 t.seq,.slice da dn dc,.slice ea en ec] 82)) u ->Calls prog 131 #[.slice xa h.length xc,.int .i64 t.node] u fun e w'=>e= .returned (.int .i64 (iF h t.node))/\Below u.heap.size u w'):=zH (fun u hb=>Calls.tell (jJ (HH.below hb) t.node));have KB:Hid (∀ u,Below (W.alloc (.cells #[.int .i64 t.node,.int .i64 t.seq,.slice da dn dc,.slice ea en ec] 82)).heap.size (W.alloc (.cells #[.int .i64 t.node,.int .i64 t.seq,.slice da dn dc,.slice ea en ec] 82)) u ->Calls prog 131 #[.slice ya h.length yc,.int .i64 t.node] u fun e w'=>e= .returned (.int .i64 (iF h t.node))/\Below u.heap.size u w'):=zH (fun u hb=>Calls.tell (jJ (HE.below hb) t.node));have KE:Hid (∀ u,Below (W.alloc (.cells #[.int .i64 t.node,.int .i64 t.seq,.slice da dn dc,.slice ea en ec] 82)).heap.size (W.alloc (.cells #[.int .i64 t.node,.int .i64 t.seq,.slice da dn dc,.slice ea en ec] 82)) u ->Below (W.alloc (.cells #[.int .i64 t.node,.int .i64 t.seq,.slice da dn dc,.slice ea en ec] 82)).heap.size (W.alloc (.cells #[.int .i64 t.node,.int .i64 t.seq,.slice da dn dc,.slice ea en ec] 82)) u/\u.cell? ⟨g,2,none⟩=some (.slice xa h.length xc)/\u.cell? ⟨q,0,none⟩=some (.slice ya h.length yc)/\u.cell? ⟨W.heap.size,0,none⟩=some (.int .i64 t.node)):=zH (fun u hb=>⟨hb,(hb.cell (aG _ _ G1)).trans G1,(hb.cell (aG _ _ Q1)).trans Q1,(TB.below hb).c.1⟩);clear hg hq hh he ht k1 k2 hb0 TB G1 Q1 HH HE;generalize iF h t.node=sn at*;obtain ⟨xn,hxn⟩:∃ n,n=h.length:=⟨_,rfl⟩;rw [<-hxn] at KA KB KE;clear hxn;obtain ⟨yn,hyn⟩:∃ n,n=xn:=⟨_,rfl⟩;have b1:(sn !=sn)=false:=by simp
 go_enter func130,ntmps130
 go_upto_region 1 with fail
 generalize (W.alloc _)=wd at*;refine wp_region_held_drew (S:=fun u'=>Below wd.heap.size wd u'/\u'.cell? ⟨g,2,none⟩=some (.slice xa xn xc)/\u'.cell? ⟨q,0,none⟩=some (.slice ya xn yc)/\u'.cell? ⟨W.heap.size,0,none⟩=some (.int .i64 t.node)) (by kernel_rfl) ?_ (fun hH=> ?_)
 ·(exact KE.o _ (aj _ _).drew)
 simp only [zS,aJ,Nat.reduceAdd]
 refine fJ 0 hH ?_;refine fJ 1 hH ?_;refine fJ 2 hH ?_;refine fJ 3 hH ?_;refine fJ 4 hH ?_;refine fJ 6 hH ?_;refine fJ 7 hH ?_;refine fJ 8 hH ?_;refine rd 5 fun K hK=> ?_
 go_simp
 refine (KA.o _ hH.1).mono ?_;rintro e s1 ⟨rfl,hb⟩;refine hK.out _ _ (KE.o _ (iM hH hb)) (fun hH=> ?_);clear hK K hb;refine rd 9 fun K hK=> ?_
 go_simp
 refine (KB.o _ hH.1).mono ?_;rintro e s2 ⟨rfl,hb⟩;refine hK.out _ _ (KE.o _ (iM hH hb)) (fun hH=> ?_);clear hK K hb;refine fJ 10 hH ?_;refine fJ 11 hH ?_;refine wpAnyH_done (by kernel_rfl) ?_ _;have GZ:=zH hH.1;clear hH;go_wp2_with fail
 go_ret
 exact ⟨rfl,BE.o.trans (GZ.o.mono BE.o.size)⟩
theorem AY{v lv:Value}{c:fT}{l:List fI}{w:World}(hv:kK w v c)(hlv:fM gV w lv l)(hs:pU c)(hf:∀ t∈l,fQ t=true)(hw:∀ t∈l,lJ t)(hpl:c.past.list.length+l.length<=4096):
  Calls prog 58 #[v,lv] w (WB w (jw c l)):=by
 obtain ⟨ha,hn,hc,ia,im,ic,fa,fn,fc,la,ln,lc,ka,kn,kc,rfl,h⟩:=hv.slices;obtain ⟨ta,tc,rfl,-,-,-,-⟩:=hlv.parts;have X:Hid ((w.alloc (.cells #[.int .i64 c.me,.int .i64 c.cores,.slice ha hn hc,.slice ia im ic,.slice fa fn fc,.slice la ln lc,.slice ka kn kc] 34)).heap[w.heap.size]? =some (.cells #[.int .i64 c.me,.int .i64 c.cores,.slice ha hn hc,.slice ia im ic,.slice fa fn fc,.slice la ln lc,.slice ka kn kc] 34 (0,0))):=zH (aM w _);have hb0:=zB w (.cells #[.int .i64 c.me,.int .i64 c.cores,.slice ha hn hc,.slice ia im ic,.slice fa fn fc,.slice la ln lc,.slice ka kn kc] 34);have B0:=zH hb0;have HU:=zH (fun u (hb:Below w.heap.size w u)=>h.below hb);have HLV:=zH hlv;have DL:=(fM.iY (L:=gV) (show fM gV w (.slice la ln lc) c.past.list from h.l));have EL:Hid (c.store.heard.length<=1000000):=zH (by have:=hs.st.len;omega);have PE:Hid (oF c.past=c.store.heard):=zH hs.same;have KE:=zH (fun u (hb:Below w.heap.size w u)=>Du (p:=c.past) (v:= .agg #[.slice fa fn fc,.slice la ln lc]) ⟨_,_,rfl,(h.below hb).f,(h.below hb).l⟩ (by have:=hs.fl;omega) (by omega));have MS:Hid (meet c.store.heard c.store.heard=c.store.heard):=zH (by rw [meet_self,hs.st.cut]);have TD:Hid (kH c.store.heard l=jw c l):=zH (by have:=Un hs hf;rwa [Ig hs] at this);have TL:Hid ((jw c l).length<=l.length):=zH (sU c l);have HN:Hid (l.length<=1000000):=zH (by omega);have KT:=zH (fun u mv tv (hm:gQ u mv c.store.heard) (ht:fM gV u tv l)=>Kv hm ht (by omega) (fun t ht=>(hw t ht).w) (by have:=hs.st.len;omega));have LL:Hid (c.past.list.length=ln/\ln+l.length<=4096):=zH ⟨DL.1,by have:=DL.1;omega⟩;have ZC:Hid ((w.alloc (.cells #[.int .i64 c.me,.int .i64 c.cores,.slice ha hn hc,.slice ia im ic,.slice fa fn fc,.slice la ln lc,.slice ka kn kc] 34)).heap.size=w.heap.size+1):=zH (by simp);have KM0:=zH (fun u hv ev (h1:gQ u hv c.store.heard) (h2:gQ u ev c.store.heard)=>yI h1 h2 EL.o EL.o);rw [PE.o] at KE;rw [TD.o] at KT;rw [MS.o] at KM0;have i1:(ln:Int)<=lc:=by have:=DL.2;omega
 have i2:(lc:Int)<=9223372036854775807:=by have:=DL.2;omega
 have i3:(ln:Int)<=4096:=by have:=LL.o.2;omega
 have M1:max (4096-(ln:Int)) 0=4096-(ln:Int):=by omega
 clear hv hlv hs hf hw hpl h hb0 DL PE TD;generalize hcd:jw c l=d at*;clear hcd;go_enter func58,ntmps58
 go_upto_region 1 with fail
 generalize (w.alloc _)=w0 at*;obtain ⟨c0,c1,c2,c3,c4,c5,c6⟩:=gM X.o;have K1:=zH (KE.o w0 B0.o);go_upto_region 2 with (go_at_call 32;refine K1.o.mono ?_;rintro e w1 ⟨v1,rfl,ho,hb⟩;have S1:=zH ho.seq;have B1:=zH hb;obtain ⟨ya,yc,rfl,-,-,-,-⟩:=ho.parts;clear ho hb K1 KE c0 c1 c2 c3 c4 c5 c6)
 generalize c.store.heard.length=yn at*;have hb2:=zB w1 (.cells #[.slice ya yn yc] 25);have Q2:Hid ((w1.alloc (.cells #[.slice ya yn yc] 25)).cell? ⟨w1.heap.size,0,none⟩=some (.slice ya yn yc)):=zH (cell_of_row _ _ 0 _ _ _ (aM w1 _));have S2:=zH (S1.o.below hb2);have B2:=zH (B1.o.trans (hb2.mono B1.o.size));have ZQ:Hid (w1.heap.size<(w1.alloc (.cells #[.slice ya yn yc] 25)).heap.size):=zH (by simp);have X2:=zH ((hb2.block _ (ay (aH.1 X.o).1 B1.o.size)).trans ((B1.o.block _ (aH.1 X.o).1).trans X.o));clear hb2 S1 B1 X;generalize (w1.alloc _)=w2 at*;generalize w1.heap.size=q at*;have BW:=zH (B0.o.trans (B2.o.mono B0.o.size));have XL:=zH (aH.1 X2.o).1;have KC:=zH (yJ (fM.below HLV.o BW.o) (fun b hb=>hb) HN.o);obtain ⟨tn,htn⟩:∃ n,n=l.length:=⟨_,rfl⟩;rw [<-htn] at KC ⊢;have TN:=zH htn;clear htn;go_wp2_with fail
 refine KC.o.mono ?_;rintro e w3 ⟨v3,rfl,ho,hb⟩;have KD:=zH (Ci (N:=w2.heap.size) ho.own hb.size HN.o (fun _=>false) 130 #[.pointer (some ⟨w.heap.size,0,none⟩),.pointer (some ⟨q,0,none⟩)] cpEnters (fun W d tv hd hw ht=>cpUnlike (((hb.trans hw).cell (p:=⟨w.heap.size,2,none⟩) XL.o).trans (gM X2.o).2.2.1) (((hb.trans hw).cell (p:=⟨q,0,none⟩) ZQ.o).trans Q2.o) (gW (HU.o W (BW.o.trans ((hb.trans hw).mono BW.o.size))).h) (S2.o.below (hb.trans hw)) ht));rw [show (l.filter fun x=> !(fun _:fI=>false) x)=l from dQ.2 fun _ _=>rfl] at KD;have G3:=zH hb;obtain ⟨a3,e3,rfl,-,-,-,-⟩:=ho.own.parts;clear ho hb KC;go_wp2_with fail
 refine KD.o.mono ?_;rintro e w4 ⟨v4,rfl,ho,hb⟩;have G4:=zH (G3.o.trans hb);have S4:=zH ho.seq;obtain ⟨a4,e4,rfl,-,-,-,-⟩:=ho.parts;have X4:=zH ((G4.o.block _ XL.o).trans X2.o);have B4:=zH (BW.o.trans (G4.o.mono BW.o.size));have KM:=zH (KM0.o _ _ _ (gW (HU.o w4 B4.o).h) (S2.o.below G4.o));have q4:=(G4.o.cell (p:=⟨q,0,none⟩) ZQ.o).trans Q2.o;obtain ⟨c0,c1,c2,c3,c4,c5,c6⟩:=gM X4.o;clear ho hb KD G3;go_wp2_with fail
 refine KM.o.mono ?_;rintro e w5 ⟨v5,rfl,ho,hb⟩;have KT5:=zH (KT.o w5 _ _ ho.seq (S4.o.below hb));have B5:=zH (B4.o.trans (hb.mono B4.o.size));have X5:=zH ((hb.block _ (aH.1 X4.o).1).trans X4.o);obtain ⟨a5,e5,rfl,-,-,-,-⟩:=ho.parts;clear ho hb KM KM0 KT q4 c0 c1 c2 c3 c4 c5 c6;go_wp2_with fail
 refine KT5.o.mono ?_;rintro e w6 ⟨av,xv,rfl,ha,hx,hb⟩;have A6:=zH (ha.mono fun b h=>(⟨ak B5.o.size h.1,h.2⟩:w.heap.size<=b/\b<w6.heap.size));have B6:=zH (B5.o.trans (hb.mono B5.o.size));have X6:=zH ((hb.block _ (aH.1 X5.o).1).trans X5.o);obtain ⟨a6,e6,rfl,L6,L7,-,-⟩:=ha.seq.parts;obtain ⟨x6,y6,rfl,-,-,-,-⟩:=hx.seq.parts;obtain ⟨dn,hdn⟩:∃ n,n=d.length:=⟨_,rfl⟩;rw [<-hdn] at A6 L6 TL ⊢;have M2:min (4096-(ln:Int)) (dn:Int)=(dn:Int):=by have:=TL.o;have:=LL.o.2;omega
 have j1:(dn:Int)<=e6:=by omega
 have j2:(e6:Int)<=9223372036854775807:=by omega
 have j3:(0:Int)<=(dn:Int):=by omega
 obtain ⟨c0,c1,c2,c3,c4,c5,c6⟩:=gM X6.o;clear ha hx hb KT5 hdn L6 L7;go_wp2_with fail
 go_ret
 exact ⟨_,_,_,rfl,A6.o,B6.o⟩
end Go.Proofs.YtfgcodcablpdcaaGreat