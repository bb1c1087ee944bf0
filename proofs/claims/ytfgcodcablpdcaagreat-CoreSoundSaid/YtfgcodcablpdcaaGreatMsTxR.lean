import Derived.Test.YtfgcodcablpdcaaGreatMsParts
set_option linter.unusedVariables false
set_option maxRecDepth 100000
set_option maxHeartbeats 64000000
namespace Go.Proofs.YtfgcodcablpdcaaGreat
open Go.Proofs.Tryz
open Go.RowKit Plain
def Vl(w:World)(res:mq fI)(e:Ending)(w':World):Prop:=match res with
 | .ok t rest=>∃ u v,e= .returned (.tuple #[u,v,.int .i64 0])/\vX w.heap.size w' u t/\By.Seq w' v rest/\Below w.heap.size w w'
 | .err k=>∃ u v,e= .returned (.tuple #[u,v,.int .i64 k])/\kN w' u default/\By.Seq w' v []/\Below w.heap.size w w'
theorem WW(B:Nat)(w:World):vX B w (.agg #[.int .i64 0,.int .i64 0,.slice none 0 0,.slice none 0 0]) default:=⟨_,_,_,_,_,_,rfl,gy.nil _ _,iO.nil _ _ _⟩
theorem zf{w:World}{g R:Nat}{s:Rb}{v0 v1 v2 v3:Value}(h:iV w g s)(hR:g<R):iV (st4 w R v0 v1 v2 v3) g s:=(((h.store hR).store hR).store hR).store hR
theorem N0{a b:Nat}(h:a+2<=b):a<=b:=by omega
theorem WX{b:Value}{bs:Bytes}{w:World}(hb:By.Seq w b bs)(hl:bs.length<=100000)(res:mq fI)(hr:kC.get bs=res):Calls prog 234 #[b] w (Vl w res):=by
 obtain ⟨ba,bc,rfl,g1,g2,g0,hs⟩:=hb.parts;have hbA:Below w.heap.size w (w.alloc (.cells #[.int .i64 0,.int .i64 0,.slice none 0 0,.slice none 0 0] 82)):=(aj _ _).alloc (ah _) _;have hbB:Below w.heap.size w ((w.alloc (.cells #[.int .i64 0,.int .i64 0,.slice none 0 0,.slice none 0 0] 82)).alloc (.cells #[.slice ba bs.length bc,.int .i64 0] 284)):=hbA.alloc hbA.size _;have hbC:Below (w.heap.size+1) (w.alloc (.cells #[.int .i64 0,.int .i64 0,.slice none 0 0,.slice none 0 0] 82)) ((w.alloc (.cells #[.int .i64 0,.int .i64 0,.slice none 0 0,.slice none 0 0] 82)).alloc (.cells #[.slice ba bs.length bc,.int .i64 0] 284)):=(aj _ _).alloc (by simp) _;have hX:jB ((w.alloc (.cells #[.int .i64 0,.int .i64 0,.slice none 0 0,.slice none 0 0] 82)).alloc (.cells #[.slice ba bs.length bc,.int .i64 0] 284)) (w.heap.size+1) (bs,0):=by
  refine ⟨ba,bc,?_,hs.below hbB,fun hp ad he=> ?_⟩
  ·have h:=aM (w.alloc (.cells #[.int .i64 0,.int .i64 0,.slice none 0 0,.slice none 0 0] 82)) (.cells #[.slice ba bs.length bc,.int .i64 0] 284)
   rw [show (w.alloc (.cells #[.int .i64 0,.int .i64 0,.slice none 0 0,.slice none 0 0] 82)).heap.size=w.heap.size+1 by simp] at h;exact h
  ·obtain ⟨b',o',c',hv,-,-,-,hc⟩:=hs.spot hp
   simp only [aC] at hv
   rw [hv.1] at he
   cases he
   have:=aG w _ (hc 0 hp)
   show b'<w.heap.size+1
   change b'<w.heap.size at this;omega
 have KT:=zH (rtxn_any hX hl);have RZ:Hid (((w.alloc (.cells #[.int .i64 0,.int .i64 0,.slice none 0 0,.slice none 0 0] 82)).alloc (.cells #[.slice ba bs.length bc,.int .i64 0] 284)).heap[w.heap.size]? =some (.cells #[.int .i64 0,.int .i64 0,.slice none 0 0,.slice none 0 0] 82 (0,0))):=zH ((hbC.block w.heap.size (by omega)).trans (aM w _));have ZA:Hid (((w.alloc (.cells #[.int .i64 0,.int .i64 0,.slice none 0 0,.slice none 0 0] 82)).alloc (.cells #[.slice ba bs.length bc,.int .i64 0] 284)).heap.size=w.heap.size+2):=zH (by simp);have GA:=zH hbB;have HE:=zH (fun k (h:(Ee (bs,0)).2.2=k) (hk:k≠0)=>read_err h hk);have HD:=zH (fun h=>YZ (b:=bs) h);rw [hr] at HE HD;have HBL:Hid ((Ee (bs,0)).2.1.length<=100000):=zH (ak (CK WY 8 _) (ak (le_t3 (bs,0)) hl));clear hb hl hs hX hbA hbB hbC hr;generalize Ee (bs,0)=q at*;obtain ⟨x,rest,k⟩:=q;generalize bs.length=bl at*;go_enter func234,ntmps234
 go_upto_region 2 with fail
 generalize ((w.alloc _).alloc _)=wa at*;go_wp2_with fail
 refine KT.o.mono ?_;rintro e w1 ⟨v,rfl,⟨da,dn,dc,ea,en,ec,rfl,hd,he⟩,hx,hbt⟩;have RZ1:=zH ((hbt.block w.heap.size (by rw [ZA.o];omega) (by omega)).trans RZ.o);have GB:=zH (GA.o.trans (hbt.below.mono (by omega)));have Z1:Hid (w.heap.size+2<=w1.heap.size):=zH (by have:=hbt.size;rw [ZA.o] at this;exact this);rw [ZA.o] at hd he;have hba:=zB w1 (.cells #[.int .i64 x.node,.int .i64 x.seq,.slice da dn dc,.slice ea en ec] 82);have D2:=zH (hd.below hba (ah _));have E2:=zH (he.below hba (ah _));have X2:=zH (hx.below hba);have RZ2:=zH ((hba.block w.heap.size (by have:=Z1.o;omega)).trans RZ1.o);have G2:Hid (Below w.heap.size w (w1.alloc (.cells #[.int .i64 x.node,.int .i64 x.seq,.slice da dn dc,.slice ea en ec] 82))):=zH (GB.o.alloc GB.o.size _);have Z2:Hid (w.heap.size+2<=(w1.alloc (.cells #[.int .i64 x.node,.int .i64 x.seq,.slice da dn dc,.slice ea en ec] 82)).heap.size):=zH (by have:=Z1.o;simp;omega);have T2:Hid (∀ W,Below (w1.alloc (.cells #[.int .i64 x.node,.int .i64 x.seq,.slice da dn dc,.slice ea en ec] 82)).heap.size (w1.alloc (.cells #[.int .i64 x.node,.int .i64 x.seq,.slice da dn dc,.slice ea en ec] 82)) W ->W.cell? ⟨w1.heap.size,0,none⟩=some (.int .i64 x.node)/\W.cell? ⟨w1.heap.size,1,none⟩=some (.int .i64 x.seq)/\W.cell? ⟨w1.heap.size,2,none⟩=some (.slice da dn dc)/\W.cell? ⟨w1.heap.size,3,none⟩=some (.slice ea en ec)):=zH (fun W h=>by
  refine ⟨?_,?_,?_,?_⟩
  ·exact (h.cell (p:=⟨w1.heap.size,0,none⟩) (by simp)).trans (by simp)
  ·exact (h.cell (p:=⟨w1.heap.size,1,none⟩) (by simp)).trans (by simp)
  ·exact (h.cell (p:=⟨w1.heap.size,2,none⟩) (by simp)).trans (by simp)
  ·exact (h.cell (p:=⟨w1.heap.size,3,none⟩) (by simp)).trans (by simp))
 clear hd he hx hbt hba KT RZ1 GB;go_upto_region 3 with fail
 generalize (w1.alloc _)=w2 at*;generalize w1.heap.size=tb at*;obtain ⟨ra,rn,rc,hrn,r1,r2,r0,hrh,hrs,-⟩:=X2.o.parts;obtain ⟨x0,x1,-,-⟩:=mQ hrh;change rn=rest.length at hrn;change By.Seq w2 (.slice ra rn rc) rest at hrs;change w2.cell? ⟨w.heap.size+1,1,none⟩=some (.int .i64 k) at x1;have HRS:=zH hrs;have HRN:=zH hrn;have HX0:=zH x0;clear hrs hrn hrh x0;obtain ⟨⟨y0,y1,y2,y3⟩,f0,f1,f2,f3⟩:=iR RZ2.o
 by_cases hk:k=0
 rotate_left
 ·have hkb:(k !=0)=true:=bne_iff_ne.2 hk
  obtain rfl:res= .err k:=HE.o k rfl hk;have FC:=zH (iR (oh (v0:= .int .i64 0) (v1:= .int .i64 0) (v2:= .slice none 0 0) (v3:= .slice none 0 0) RZ2.o)).1;have FB:=zH (Ag (v0:= .int .i64 0) (v1:= .int .i64 0) (v2:= .slice none 0 0) (v3:= .slice none 0 0) G2.o (ah w.heap.size));unfold st4 at FC FB;clear HE HD hk r0;go_wp2_with fail
  go_region
  go_wp2_with fail
  obtain ⟨z0,z1,z2,z3⟩:=FC.o;refine bodyPost_ret (v:= .tuple #[.agg #[.int .i64 0,.int .i64 0,.slice none 0 0,.slice none 0 0],.slice none 0 0,.int .i64 k]) (by simp [results,results234,go_sem,z0,z1,z2,z3]) rfl ?_;exact ⟨_,_,rfl,Rw _,By.Seq.nil _,FB.o.drew⟩
 ·subst hk
  have hkb:((0:Int) !=0)=false:=by decide
  obtain ⟨hok,hres⟩:=HD.o rfl;have FX:=zH (Y8 hok);have KF:=zH (vL (w:=w2) (v:= .agg #[.int .i64 x.node,.int .i64 x.seq,.slice da dn dc,.slice ea en ec]) ⟨_,_,rfl,D2.o.seq,E2.o.own.seq⟩ FX.o _ rfl);have Vi:=zH hres;obtain ⟨t0,t1,t2,t3⟩:=T2.o w2 (aj _ _);clear hres hok HE HD;generalize fQ x=r at*;go_wp2_with fail
  refine KF.o.mono ?_;rintro e w3 ⟨rfl,hb3⟩;have RZ3:=zH ((hb3.block w.heap.size (by have:=Z2.o;omega)).trans RZ2.o);have G3:=zH (G2.o.trans (hb3.mono G2.o.size));have Z3:Hid (w.heap.size+2<=w3.heap.size):=zH (ak Z2.o hb3.size)
  cases r with
  |false=>
   obtain rfl:res= .err 2:=Vi.o;clear hb3 y0 y1 y2 y3 f0 f1 f2 f3 t0 t1 t2 t3 KF x1 T2 Vi;obtain ⟨⟨y0,y1,y2,y3⟩,f0,f1,f2,f3⟩:=iR RZ3.o;have FC:=zH (iR (oh (v0:= .int .i64 0) (v1:= .int .i64 0) (v2:= .slice none 0 0) (v3:= .slice none 0 0) RZ3.o)).1;have FB:=zH (Ag (v0:= .int .i64 0) (v1:= .int .i64 0) (v2:= .slice none 0 0) (v3:= .slice none 0 0) G3.o (ah w.heap.size));unfold st4 at FC FB;go_wp2_with fail
   obtain ⟨z0,z1,z2,z3⟩:=FC.o;refine bodyPost_ret (v:= .tuple #[.agg #[.int .i64 0,.int .i64 0,.slice none 0 0,.slice none 0 0],.slice none 0 0,.int .i64 2]) (by simp [results,results234,go_sem,z0,z1,z2,z3]) rfl ?_;exact ⟨_,_,rfl,Rw _,By.Seq.nil _,FB.o⟩
  |true=>
   obtain rfl:res= .ok x rest:=Vi.o;have T3:Hid (∀ W,Below w3.heap.size w3 W ->W.cell? ⟨tb,0,none⟩=some (.int .i64 x.node)/\W.cell? ⟨tb,1,none⟩=some (.int .i64 x.seq)/\W.cell? ⟨tb,2,none⟩=some (.slice da dn dc)/\W.cell? ⟨tb,3,none⟩=some (.slice ea en ec)):=zH (fun W h=>T2.o W (hb3.trans (h.mono hb3.size)));have X3:Hid (∀ W,Below w3.heap.size w3 W ->W.cell? ⟨w.heap.size+1,0,none⟩=some (.slice ra rn rc)):=zH (fun W h=>(h.cell (p:=⟨w.heap.size+1,0,none⟩) (show w.heap.size+1<w3.heap.size by have:=Z3.o;omega)).trans ((hb3.cell (p:=⟨w.heap.size+1,0,none⟩) (show w.heap.size+1<w2.heap.size by have:=Z2.o;omega)).trans HX0.o));have D3:=zH (D2.o.below hb3 (ah _));have E3:=zH (E2.o.below hb3 (ah _));have KE:Hid (∀ U,Below w3.heap.size w3 U ->Below w.heap.size w3 U/\(U.cell? ⟨tb,0,none⟩=some (.int .i64 x.node)/\U.cell? ⟨tb,1,none⟩=some (.int .i64 x.seq)/\U.cell? ⟨tb,2,none⟩=some (.slice da dn dc)/\U.cell? ⟨tb,3,none⟩=some (.slice ea en ec))/\U.cell? ⟨w.heap.size+1,0,none⟩=some (.slice ra rn rc)):=zH (fun U h=>⟨h.mono (by have:=Z3.o;omega),T3.o U h,X3.o U h⟩);have KC:=zH (Vm (w:=w3.drew) ((HRS.o.below hb3).below (aj _ _).drew) (by have h:rest.length<=100000:=HBL.o;omega) r0);have HTB:Hid (tb≠w.heap.size):=zH (by have:=Z1.o;omega);clear hb3 y0 y1 y2 y3 f0 f1 f2 f3 t0 t1 t2 t3 KF x1 T2 Vi T3 X3 r0;go_upto_region 7 with fail
   refine wp_region_held_drew (S:=fun u'=>Below w.heap.size w3 u'/\(u'.cell? ⟨tb,0,none⟩=some (.int .i64 x.node)/\u'.cell? ⟨tb,1,none⟩=some (.int .i64 x.seq)/\u'.cell? ⟨tb,2,none⟩=some (.slice da dn dc)/\u'.cell? ⟨tb,3,none⟩=some (.slice ea en ec))/\u'.cell? ⟨w.heap.size+1,0,none⟩=some (.slice ra rn rc)) (by kernel_rfl) ?_ (fun hH=> ?_)
   ·(exact KE.o _ (aj _ _).drew)
   simp only [zS,aJ,Nat.reduceAdd]
   refine fJ 0 hH ?_;refine fJ 1 hH ?_;refine fJ 2 hH ?_;refine rd 3 fun K hK=> ?_
   go_simp
   refine KC.o.mono ?_;rintro e w4 ⟨v4,rfl,ho4,hb4⟩;have B4:Hid (Below w3.heap.size w3 w4):=zH (((aj _ _).drew).trans hb4);obtain ⟨a4,c4,rfl,-,-,-,-⟩:=ho4.parts;have O4:Hid (By.jv w3.heap.size w4 (.slice a4 rest.length c4) rest):=zH ho4;refine hK.out _ _ (KE.o _ B4.o) (fun hH=> ?_);clear hK K hb4 ho4 KC;have RZ4:=zH ((B4.o.block w.heap.size (by have:=Z3.o;omega)).trans RZ3.o);have G4:=zH (G3.o.trans (B4.o.mono (by have:=G3.o.size;omega)));have Z4:Hid (w.heap.size+2<=w4.heap.size):=zH (ak Z3.o B4.o.size);obtain ⟨⟨y0,y1,y2,y3⟩,f0,f1,f2,f3⟩:=iR RZ4.o;have FC:=zH (iR (oh (v0:= .int .i64 x.node) (v1:= .int .i64 x.seq) (v2:= .slice da dn dc) (v3:= .slice ea en ec) RZ4.o)).1;have FB:=zH (Ag (v0:= .int .i64 x.node) (v1:= .int .i64 x.seq) (v2:= .slice da dn dc) (v3:= .slice ea en ec) G4.o (ah w.heap.size));have FT:=zH (zh w4 w.heap.size (.int .i64 x.node) (.int .i64 x.seq) (.slice da dn dc) (.slice ea en ec));have FD:=zH ((D3.o.below B4.o (ah _)).but gU FT.o (by omega));have FE:=zH ((E3.o.below B4.o (ah _)).but FT.o (by omega) (fun b hb e=>by omega));have FV:=zH (Vn O4.o FT.o (by have:=Z3.o;omega));have hcl:∀ (p:Addr) (v:Value),p.block≠w.heap.size ->w4.cell? p=some v ->(st4 w4 w.heap.size (.int .i64 x.node) (.int .i64 x.seq) (.slice da dn dc) (.slice ea en ec)).cell? p=some v:=fun p v hp h=>(aQ (w:=w4) (Y9 _ _ _ _ _ _ _ hp)).trans h
   have HS5:Hid (Below w.heap.size w3 (st4 w4 w.heap.size (.int .i64 x.node) (.int .i64 x.seq) (.slice da dn dc) (.slice ea en ec))/\((st4 w4 w.heap.size (.int .i64 x.node) (.int .i64 x.seq) (.slice da dn dc) (.slice ea en ec)).cell? ⟨tb,0,none⟩=some (.int .i64 x.node)/\(st4 w4 w.heap.size (.int .i64 x.node) (.int .i64 x.seq) (.slice da dn dc) (.slice ea en ec)).cell? ⟨tb,1,none⟩=some (.int .i64 x.seq)/\(st4 w4 w.heap.size (.int .i64 x.node) (.int .i64 x.seq) (.slice da dn dc) (.slice ea en ec)).cell? ⟨tb,2,none⟩=some (.slice da dn dc)/\(st4 w4 w.heap.size (.int .i64 x.node) (.int .i64 x.seq) (.slice da dn dc) (.slice ea en ec)).cell? ⟨tb,3,none⟩=some (.slice ea en ec))/\(st4 w4 w.heap.size (.int .i64 x.node) (.int .i64 x.seq) (.slice da dn dc) (.slice ea en ec)).cell? ⟨w.heap.size+1,0,none⟩=some (.slice ra rn rc)):=zH ⟨Ag hH.1 (ah _),⟨hcl _ _ HTB.o hH.2.1.1,hcl _ _ HTB.o hH.2.1.2.1,hcl _ _ HTB.o hH.2.1.2.2.1,hcl _ _ HTB.o hH.2.1.2.2.2⟩,hcl _ _ (by show w.heap.size+1≠w.heap.size;omega) hH.2.2⟩;clear FT hcl;unfold st4 at FC FB FD FE FV HS5;refine rd 4 fun K hK=> ?_
   go_simp
   refine hK.out _ _ HS5.o (fun hH=> ?_);clear hK K;refine fJ 5 hH ?_;refine fJ 6 hH ?_;refine wpAnyH_done (by kernel_rfl) ?_ _;go_wp2_with fail
   obtain ⟨z0,z1,z2,z3⟩:=FC.o;refine bodyPost_ret (v:= .tuple #[.agg #[.int .i64 x.node,.int .i64 x.seq,.slice da dn dc,.slice ea en ec],.slice a4 rest.length c4,.int .i64 0]) (by simp [results,results234,go_sem,z0,z1,z2,z3]) rfl ?_;exact ⟨_,_,rfl,⟨_,_,_,_,_,_,rfl,FD.o.mono (by omega),(FE.o.mono (by omega)).imp (fun b h=>by omega)⟩,FV.o.seq,FB.o⟩
theorem Za{w:World}{g:Nat}{s:Rb}(hx:iV w g s)(hl:s.1.length<=500000000):Calls prog 233 #[.pointer (some ⟨g,0,none⟩),.int .i64 8192,.func (.func 234) #[] #[]] w (lZ (vX w.heap.size) w g (xq kC default s)):=by
 obtain ⟨r,k⟩:=s;have HG:=zH hx.lt;have xA:Hid (w.heap.size≠g):=zH (by have:=hx.lt;omega);have hbA:Below w.heap.size w (w.alloc (.cells #[.int .i64 0,.int .i64 0,.slice none 0 0,.slice none 0 0] 82)):=(aj _ _).alloc (ah _) _;have hbB:Below w.heap.size w ((w.alloc (.cells #[.int .i64 0,.int .i64 0,.slice none 0 0,.slice none 0 0] 82)).alloc (.cells #[.int .i64 0,.int .i64 0,.slice none 0 0,.slice none 0 0] 82)):=hbA.alloc hbA.size _;have hbC:Below (w.heap.size+1) (w.alloc (.cells #[.int .i64 0,.int .i64 0,.slice none 0 0,.slice none 0 0] 82)) ((w.alloc (.cells #[.int .i64 0,.int .i64 0,.slice none 0 0,.slice none 0 0] 82)).alloc (.cells #[.int .i64 0,.int .i64 0,.slice none 0 0,.slice none 0 0] 82)):=(aj _ _).alloc (by simp) _;have XB:=zH (hx.below hbB);have RAB:Hid (((w.alloc (.cells #[.int .i64 0,.int .i64 0,.slice none 0 0,.slice none 0 0] 82)).alloc (.cells #[.int .i64 0,.int .i64 0,.slice none 0 0,.slice none 0 0] 82)).heap[w.heap.size]? =some (.cells #[.int .i64 0,.int .i64 0,.slice none 0 0,.slice none 0 0] 82 (0,0))):=zH ((hbC.block w.heap.size (by omega)).trans (aM w _));have RBB:Hid (((w.alloc (.cells #[.int .i64 0,.int .i64 0,.slice none 0 0,.slice none 0 0] 82)).alloc (.cells #[.int .i64 0,.int .i64 0,.slice none 0 0,.slice none 0 0] 82)).heap[w.heap.size+1]? =some (.cells #[.int .i64 0,.int .i64 0,.slice none 0 0,.slice none 0 0] 82 (0,0))):=zH (by
  have h:=aM (w.alloc (.cells #[.int .i64 0,.int .i64 0,.slice none 0 0,.slice none 0 0] 82)) (.cells #[.int .i64 0,.int .i64 0,.slice none 0 0,.slice none 0 0] 82);rw [show (w.alloc (.cells #[.int .i64 0,.int .i64 0,.slice none 0 0,.slice none 0 0] 82)).heap.size=w.heap.size+1 by simp] at h;exact h)
 have ZB:Hid (((w.alloc (.cells #[.int .i64 0,.int .i64 0,.slice none 0 0,.slice none 0 0] 82)).alloc (.cells #[.int .i64 0,.int .i64 0,.slice none 0 0,.slice none 0 0] 82)).heap.size=w.heap.size+2):=zH (by simp);have GB:=zH (But.of hbB (aT hx.lt));clear hx hbA hbB hbC
 cases k with
 |true=>
  have HE:=zH (vV (c:=kC) (z:=default) (b:=r));go_enter func233,ntmps233
  go_upto_region 2 with fail
  generalize ((w.alloc _).alloc _)=wB at*;obtain ⟨a0,n0,cc,hn0,h1,h2,h0,hh,hs,-⟩:=XB.o.parts;obtain ⟨c0,c1,f0,f1⟩:=jE hh;clear hs;obtain ⟨⟨z0,z1,z2,z3⟩,-,-,-,-⟩:=iR RBB.o;obtain ⟨⟨y0,y1,y2,y3⟩,f4,f5,f6,f7⟩:=iR RAB.o;have FC:=zH (iR (oh (v0:= .int .i64 0) (v1:= .int .i64 0) (v2:= .slice none 0 0) (v3:= .slice none 0 0) RAB.o)).1;have FG:=zH (Ah (v0:= .int .i64 0) (v1:= .int .i64 0) (v2:= .slice none 0 0) (v3:= .slice none 0 0) GB.o HG.o (ah w.heap.size));have FX:=zH (zf (v0:= .int .i64 0) (v1:= .int .i64 0) (v2:= .slice none 0 0) (v3:= .slice none 0 0) XB.o HG.o);unfold st4 at FC FG FX;go_wp2_with fail
  obtain ⟨g0,g1,g2,g3⟩:=FC.o;refine bodyPost_ret (v:= .agg #[.int .i64 0,.int .i64 0,.slice none 0 0,.slice none 0 0]) (by simp [results,results233,go_sem,g0,g1,g2,g3]) rfl ?_;rw [HE.o];exact ⟨_,rfl,WW _ _,FX.o,FG.o⟩
 |false=>
  have eg:∀ args w,(callFunc 234 args).run prog w= .ok (.enter 234 args) w:=enters_of func234 (by kernel_rfl) rfl;have HL:NP kC 8192 r:=locB_txn r;have e0:((0:Int) !=0)=false:=by decide
  have hlr:(r.take 8192).length<=100000:=by
   have:=bM 8192 r;omega
  have HL5:Hid (r.length<=500000000):=zH hl;go_enter func233,ntmps233
  go_upto_region 2 with fail
  generalize ((w.alloc _).alloc _)=wB at*;obtain ⟨a0,n0,cc,hn0,h1,h2,h0,hh,hs,-⟩:=XB.o.parts;obtain ⟨c0,c1,f0,f1⟩:=jE hh;have KF:=uq XB.o 8192 (by decide);clear hs hh
  cases hres:kC.get (r.take 8192) with
  |err j=>
   have hj:j≠0:=kC.bad hres;obtain ⟨j2,HL2⟩:=HL.2 _ hres;have HE:=zH (zX (z:=(default:fI)) HL2);have e1:(j !=0)=true:=bne_iff_ne.2 hj;clear HL HL2;go_wp2_with fail
   refine KF.mono ?_;rintro e w1 ⟨a1,k1,Vj,-,rfl,hs1,hb⟩;have KR:=WX hs1 hlr _ hres;have HB:=zH hb;have uo:=zH (XB.o.below hb);clear hs1 hb KF c0 c1 f0 f1;go_upto_region 6 with (go_at_fn 234;refine KR.mono ?_;rintro e w2 ⟨u,v2,rfl,hu,hv,hb2⟩;obtain ⟨da,dn,dc,ea,en,ec,rfl,q1,q2⟩:=hu.parts;obtain ⟨ra,rn,rc,rfl,hrn,-,-,-⟩:=uL hv)
   obtain rfl:rn=0:=hrn;obtain ⟨x,hxd⟩:∃ x:fI,default=x:=⟨_,rfl⟩;rw [hxd];have HB2:Hid (Below wB.heap.size wB (w2.alloc (.cells #[.int .i64 x.node,.int .i64 x.seq,.slice da dn dc,.slice ea en ec] 82))):=zH ((HB.o.trans (hb2.mono HB.o.size)).alloc (ak HB.o.size hb2.size) _);clear hb2 hu hv q1 q2 KR hxd;generalize (w2.alloc _)=w3 at*;have X3:=zH (XB.o.below HB2.o);obtain ⟨a2,n2,c2,hn2,-,-,-,hh2,hs2,hl2⟩:=X3.o.parts;have HL2:=zH hl2;obtain ⟨d0,d1,f0,f1⟩:=jE hh2;have mP:=zH hh2;have ze:=zH hs2;have HN:=zH hn2;clear hh2 hs2 hn2;go_upto_region 8 with fail
   have hn3:n2=r.length:=HN.o;have X4:Hid (iV (w3.setCell ⟨g,1,none⟩ (.bool true)) g (r,true)):=zH (by subst hn3;exact vY mP.o ze.o HL2.o);have G4:Hid (But g w (w3.setCell ⟨g,1,none⟩ (.bool true))):=zH ((GB.o.trans (But.of HB2.o (by have:=GB.o.size;have:=HG.o;omega))).trans (But.set _ _ _ _));have RA4:=zH ((aN w3 ⟨g,1,none⟩ (.bool true) w.heap.size xA.o).trans ((HB2.o.block w.heap.size (by rw [ZB.o];omega)).trans RAB.o));have RB4:=zH ((aN w3 ⟨g,1,none⟩ (.bool true) (w.heap.size+1) (by show w.heap.size+1≠g;have:=HG.o;omega)).trans ((HB2.o.block (w.heap.size+1) (by rw [ZB.o];omega)).trans RBB.o));clear d0 d1 f0 f1;generalize (w3.setCell _ _)=w4 at*;obtain ⟨⟨z0,z1,z2,z3⟩,-,-,-,-⟩:=iR RB4.o;obtain ⟨⟨y0,y1,y2,y3⟩,f4,f5,f6,f7⟩:=iR RA4.o;have FC:=zH (iR (oh (v0:= .int .i64 0) (v1:= .int .i64 0) (v2:= .slice none 0 0) (v3:= .slice none 0 0) RA4.o)).1;have FG:=zH (Ah (v0:= .int .i64 0) (v1:= .int .i64 0) (v2:= .slice none 0 0) (v3:= .slice none 0 0) G4.o HG.o (ah w.heap.size));have FX:=zH (zf (v0:= .int .i64 0) (v1:= .int .i64 0) (v2:= .slice none 0 0) (v3:= .slice none 0 0) X4.o HG.o);unfold st4 at FC FG FX;go_wp2_with fail
   obtain ⟨g0,g1,g2,g3⟩:=FC.o;refine bodyPost_ret (v:= .agg #[.int .i64 0,.int .i64 0,.slice none 0 0,.slice none 0 0]) (by simp [results,results233,go_sem,g0,g1,g2,g3]) rfl ?_;rw [HE.o];exact ⟨_,rfl,WW _ _,FX.o,FG.o⟩
  |ok x q=>
   obtain ⟨HL2,hq⟩:=HL.1 _ _ hres;have HE:=zH (Bj (z:=(default:fI)) HL2);obtain ⟨p,hp⟩:∃ p,p=min 8192 r.length-q.length:=⟨_,rfl⟩;rw [<-hp] at HE;have hp0:0<p:=by omega
   have hpr:p<=r.length:=by omega
   have HQ:=zH hq;have HP:=zH hp;clear HL HL2 hq hp;go_wp2_with fail
   refine KF.mono ?_;rintro e w1 ⟨a1,k1,Vj,hk1,rfl,hs1,hb⟩;have KR:=WX hs1 hlr _ hres;have HB:=zH hb;have uo:=zH (XB.o.below hb);have NY:=zH hk1;have HW1:Hid (w.heap.size+2<=w1.heap.size):=zH (by have:=hb.size;rw [ZB.o] at this;exact this);clear hs1 hb KF c0 c1 f0 f1 hk1;go_upto_region 6 with (go_at_fn 234;refine KR.mono ?_;rintro e w2 ⟨u,v2,rfl,⟨da,dn,dc,ea,en,ec,rfl,q1,q2⟩,hv,hb2⟩;obtain ⟨ra,rn,rc,rfl,hrn,-,-,-⟩:=uL hv)
   have hba:=zB w2 (.cells #[.int .i64 x.node,.int .i64 x.seq,.slice da dn dc,.slice ea en ec] 82);have HB2:Hid (Below wB.heap.size wB (w2.alloc (.cells #[.int .i64 x.node,.int .i64 x.seq,.slice da dn dc,.slice ea en ec] 82))):=zH ((HB.o.trans (hb2.mono HB.o.size)).alloc (ak HB.o.size hb2.size) _);have D3:=zH (q1.below hba (ah _));have E3:=zH (q2.below hba (ah _));have RT3:Hid ((w2.alloc (.cells #[.int .i64 x.node,.int .i64 x.seq,.slice da dn dc,.slice ea en ec] 82)).heap[w2.heap.size]? =some (.cells #[.int .i64 x.node,.int .i64 x.seq,.slice da dn dc,.slice ea en ec] 82 (0,0))):=zH (aM _ _);have HTB:Hid (w1.heap.size<=w2.heap.size):=zH hb2.size;have HRN:=zH hrn;clear hb2 hv q1 q2 KR hba hrn;go_upto_region 9 with fail
   generalize (w2.alloc _)=w3 at*;generalize w2.heap.size=tb at*;have HTG:Hid (tb≠g):=zH (by have:=HTB.o;have:=HW1.o;have:=HG.o;omega);have HGT:Hid (g<w1.heap.size):=zH (by have:=HW1.o;have:=HG.o;omega);have ZT:=HW1;have X3:=zH (XB.o.below HB2.o);have HG3:Hid (But g w w3):=zH (GB.o.trans (But.of HB2.o (by have:=GB.o.size;have:=HG.o;omega)));have RA3:=zH ((HB2.o.block w.heap.size (by rw [ZB.o];omega)).trans RAB.o);obtain ⟨a2,n2,c2,hn2,g1,g2,g0,hh2,hs2,hl2⟩:=X3.o.parts;have HL2:=zH hl2;obtain ⟨d0,d1,f0,f1⟩:=jE hh2;have hn3:n2=r.length:=hn2;subst hn3;have hs3:=hs2;obtain ⟨b2,o2,c2',hv,-,-,-,-⟩:=hs3.spot (by omega);simp only [aC] at hv
   obtain ⟨rfl,-,rfl⟩:=hv;have hd:=hs2.from p hpr;have mP:=zH hh2;have HD:=zH hd;have e2:(k1:Int)-(q.length:Int)=(p:Int):=by have h3:=HP.o;have h4:=HQ.o;have h5:k1=min 8192 r.length:=NY.o;omega
   have e3:IntKind.i64.wrap ((k1:Int)-(q.length:Int))=(p:Int):=by rw [e2];simp [IntKind.wrap,IntKind.bits,IntKind.signed];omega
   have tT:Hid ((r.drop p).length=r.length-p):=zH bB;clear hh2 hs2 hs3 hd hn2 g0 e2 HRN;generalize q.length=ql at*;have p1:(p:Int)<=(r.length:Int):=by omega
   have p2:(r.length:Int)<=(c2:Int):=by omega
   have p3:(p:Int)<=(c2:Int):=by omega
   have p4:(0:Int)<=(p:Int):=by omega
   by_cases hcp:c2=p
   ·rw [if_pos hcp] at HD
    subst hcp;have hpl:r.length=c2:=by omega
    rw [hpl,cu] at HD;rw [hpl,cu] at tT;have HPL:=zH hpl;generalize r.length=n at*;subst hpl;have XX:iV (w3.setCell ⟨g,0,none⟩ (.slice (some ⟨b2,o2,none⟩) 0 0)) g (r.drop n,false):=by
     have HR:=nR (r:=r.drop n) (c':=0) mP.o (by rw [tT.o];exact HD.o) (fun _ ad he=>by cases he;exact HL2.o (by first|omega|(show 0<r.length;omega)) ⟨b2,o2,none⟩ rfl);rw [tT.o] at HR;exact HR
    go_upto_region 10 with fail
    have X4:=zH XX;have G4:=zH (HG3.o.trans (But.set _ _ 0 (.slice (some ⟨b2,o2,none⟩) 0 0)));have RA4:=zH ((aN w3 ⟨g,0,none⟩ (.slice (some ⟨b2,o2,none⟩) 0 0) w.heap.size xA.o).trans RA3.o);have RT4:=zH ((aN w3 ⟨g,0,none⟩ (.slice (some ⟨b2,o2,none⟩) 0 0) tb HTG.o).trans RT3.o);have D4:=zH (D3.o.but gU (But.set g w3 0 (.slice (some ⟨b2,o2,none⟩) 0 0)) HGT.o);have E4:=zH (E3.o.but (But.set g w3 0 (.slice (some ⟨b2,o2,none⟩) 0 0)) HGT.o (fun b hb e=>by have:=HGT.o;omega));generalize (w3.setCell _ _)=w4 at*;obtain ⟨⟨z0,z1,z2,z3⟩,-,-,-,-⟩:=iR RT4.o;obtain ⟨⟨y0,y1,y2,y3⟩,f4,f5,f6,f7⟩:=iR RA4.o;have FC:=zH (iR (oh (v0:= .int .i64 x.node) (v1:= .int .i64 x.seq) (v2:= .slice da dn dc) (v3:= .slice ea en ec) RA4.o)).1;have FG:=zH (Ah (v0:= .int .i64 x.node) (v1:= .int .i64 x.seq) (v2:= .slice da dn dc) (v3:= .slice ea en ec) G4.o HG.o (ah w.heap.size));have FX:=zH (zf (v0:= .int .i64 x.node) (v1:= .int .i64 x.seq) (v2:= .slice da dn dc) (v3:= .slice ea en ec) X4.o HG.o);have FB:=zH (zh w4 w.heap.size (.int .i64 x.node) (.int .i64 x.seq) (.slice da dn dc) (.slice ea en ec));have FD:=zH ((D4.o.but gU FB.o (by have:=ZT.o;omega)).mono (N0 ZT.o));have FE:=zH (((E4.o.but FB.o (by have:=ZT.o;omega) (fun b hb e=>by have:=ZT.o;omega)).mono (N0 ZT.o)).imp fun b hb=>ak (N0 ZT.o) hb);clear FB;unfold st4 at FC FG FX FD FE;go_wp2_with fail
    obtain ⟨g0,g1,g2,g3⟩:=FC.o;refine bodyPost_ret (v:= .agg #[.int .i64 x.node,.int .i64 x.seq,.slice da dn dc,.slice ea en ec]) (by simp [results,results233,go_sem,g0,g1,g2,g3]) rfl ?_;rw [HE.o];exact ⟨_,rfl,⟨_,_,_,_,_,_,rfl,FD.o,FE.o⟩,FX.o,FG.o⟩
   ·rw [if_neg hcp] at HD
    have XX:iV (w3.setCell ⟨g,0,none⟩ (.slice (some ⟨b2,o2+p,none⟩) (r.length-p) (c2-p))) g (r.drop p,false):=by
     have HR:=nR (r:=r.drop p) (c':=c2-p) mP.o (by rw [tT.o];exact HD.o) (fun _ ad he=>by cases he;exact HL2.o (by first|omega|(show 0<r.length;omega)) ⟨b2,o2,none⟩ rfl);rw [tT.o] at HR;exact HR
    go_upto_region 10 with fail
    have X4:=zH XX;have G4:=zH (HG3.o.trans (But.set _ _ 0 (.slice (some ⟨b2,o2+p,none⟩) (r.length-p) (c2-p))));have RA4:=zH ((aN w3 ⟨g,0,none⟩ (.slice (some ⟨b2,o2+p,none⟩) (r.length-p) (c2-p)) w.heap.size xA.o).trans RA3.o);have RT4:=zH ((aN w3 ⟨g,0,none⟩ (.slice (some ⟨b2,o2+p,none⟩) (r.length-p) (c2-p)) tb HTG.o).trans RT3.o);have D4:=zH (D3.o.but gU (But.set g w3 0 (.slice (some ⟨b2,o2+p,none⟩) (r.length-p) (c2-p))) HGT.o);have E4:=zH (E3.o.but (But.set g w3 0 (.slice (some ⟨b2,o2+p,none⟩) (r.length-p) (c2-p))) HGT.o (fun b hb e=>by have:=HGT.o;omega));generalize (w3.setCell _ _)=w4 at*;obtain ⟨⟨z0,z1,z2,z3⟩,-,-,-,-⟩:=iR RT4.o;obtain ⟨⟨y0,y1,y2,y3⟩,f4,f5,f6,f7⟩:=iR RA4.o;have FC:=zH (iR (oh (v0:= .int .i64 x.node) (v1:= .int .i64 x.seq) (v2:= .slice da dn dc) (v3:= .slice ea en ec) RA4.o)).1;have FG:=zH (Ah (v0:= .int .i64 x.node) (v1:= .int .i64 x.seq) (v2:= .slice da dn dc) (v3:= .slice ea en ec) G4.o HG.o (ah w.heap.size));have FX:=zH (zf (v0:= .int .i64 x.node) (v1:= .int .i64 x.seq) (v2:= .slice da dn dc) (v3:= .slice ea en ec) X4.o HG.o);have FB:=zH (zh w4 w.heap.size (.int .i64 x.node) (.int .i64 x.seq) (.slice da dn dc) (.slice ea en ec));have FD:=zH ((D4.o.but gU FB.o (by have:=ZT.o;omega)).mono (N0 ZT.o));have FE:=zH (((E4.o.but FB.o (by have:=ZT.o;omega) (fun b hb e=>by have:=ZT.o;omega)).mono (N0 ZT.o)).imp fun b hb=>ak (N0 ZT.o) hb);clear FB;unfold st4 at FC FG FX FD FE;go_wp2_with fail
    obtain ⟨g0,g1,g2,g3⟩:=FC.o;refine bodyPost_ret (v:= .agg #[.int .i64 x.node,.int .i64 x.seq,.slice da dn dc,.slice ea en ec]) (by simp [results,results233,go_sem,g0,g1,g2,g3]) rfl ?_;rw [HE.o];exact ⟨_,rfl,⟨_,_,_,_,_,_,rfl,FD.o,FE.o⟩,FX.o,FG.o⟩
theorem mtxn_any{w:World}{g:Nat}{s:Rb}(hx:iV w g s)(hl:s.1.length<=500000000):Calls prog 172 #[.pointer (some ⟨g,0,none⟩)] w (lZ (vX w.heap.size) w g (uF s)):=by
 have HG:=zH hx.lt;have xA:Hid (w.heap.size≠g):=zH (by have:=hx.lt;omega);have hba:=zB w (.cells #[.int .i64 0,.int .i64 0,.slice none 0 0,.slice none 0 0] 82);have K0:=zH (Za (hx.below hba) hl);have R0:Hid ((w.alloc (.cells #[.int .i64 0,.int .i64 0,.slice none 0 0,.slice none 0 0] 82)).heap[w.heap.size]? =some (.cells #[.int .i64 0,.int .i64 0,.slice none 0 0,.slice none 0 0] 82 (0,0))):=zH (aM _ _);have Z0:Hid (w.heap.size<(w.alloc (.cells #[.int .i64 0,.int .i64 0,.slice none 0 0,.slice none 0 0] 82)).heap.size):=zH (by simp);have G0:Hid (But g w (w.alloc (.cells #[.int .i64 0,.int .i64 0,.slice none 0 0,.slice none 0 0] 82))):=zH (But.of hba (aT hx.lt));have HR:Hid (uF s=xq kC default s):=zH rfl;clear hx hl hba;generalize uF s=res at*;generalize xq kC default s=q at*;obtain ⟨x,t⟩:=q;go_enter func172,ntmps172
 go_upto_region 1 with fail
 generalize (w.alloc _)=w0 at*;go_wp2_with fail
 refine K0.o.mono ?_;rintro e w1 ⟨v,rfl,⟨da,dn,dc,ea,en,ec,rfl,hd,he⟩,hx,hb⟩;have R1:=zH ((hb.block _ Z0.o xA.o).trans R0.o);have G1:=zH (G0.o.trans hb);have X1:=zH hx;have D1:=zH hd;have E1:=zH he;clear hx hb K0 hd he;obtain ⟨⟨y0,y1,y2,y3⟩,f4,f5,f6,f7⟩:=iR R1.o;have FC:=zH (iR (oh (v0:= .int .i64 x.node) (v1:= .int .i64 x.seq) (v2:= .slice da dn dc) (v3:= .slice ea en ec) R1.o)).1;have FG:=zH (Ah (v0:= .int .i64 x.node) (v1:= .int .i64 x.seq) (v2:= .slice da dn dc) (v3:= .slice ea en ec) G1.o HG.o (ah w.heap.size));have FX:=zH (zf (v0:= .int .i64 x.node) (v1:= .int .i64 x.seq) (v2:= .slice da dn dc) (v3:= .slice ea en ec) X1.o HG.o);have FB:=zH (zh w1 w.heap.size (.int .i64 x.node) (.int .i64 x.seq) (.slice da dn dc) (.slice ea en ec));have FD:=zH ((D1.o.but gU FB.o Z0.o).mono (aT Z0.o));have FE:=zH (((E1.o.but FB.o Z0.o (fun b hb e=>by have:=Z0.o;omega)).mono (aT Z0.o)).imp fun b hb=>ak (aT Z0.o) hb);clear FB;unfold st4 at FC FG FX FD FE;go_wp2_with fail
 obtain ⟨g0,g1,g2,g3⟩:=FC.o;refine bodyPost_ret (v:= .agg #[.int .i64 x.node,.int .i64 x.seq,.slice da dn dc,.slice ea en ec]) (by simp [results,results172,go_sem,g0,g1,g2,g3]) rfl ?_;rw [HR.o];exact ⟨_,rfl,⟨_,_,_,_,_,_,rfl,FD.o,FE.o⟩,FX.o,FG.o⟩
theorem YO{w:World}{g:Nat}{s:Rb}(hx:iV w g s)(hl:s.1.length<=500000000)(k:Nat)(hk:k<=100000):Calls prog 171 #[.pointer (some ⟨g,0,none⟩),.int .i64 k,.func (.func 172) #[.pointer (some ⟨g,0,none⟩)] #[]] w (lZ (fun W v l=>iO (fun b=>w.heap.size<=b) gV w.heap.size W v l) w g (gJ uF k s)):=by
 have HG:=zH hx.lt;have K0:=zH (um hx hl k);have HC:=zH (zY k s);have HT0:=zH (ak (o8 k s) hl);have HR:Hid (gJ uF k s=mN uF (ig k s).1 (ig k s).2):=zH rfl;have HK:=zH hk;have eg:∀ args w,(callFunc 172 args).run prog w= .ok (.enter 172 args) w:=enters_of func172 (by kernel_rfl) rfl;clear hx hl hk;generalize gJ uF k s=res at*;generalize ig k s=q0 at*;obtain ⟨n,s0⟩:=q0;go_enter func171,ntmps171
 go_wp2_with fail
 refine K0.o.mono ?_;rintro e w1 ⟨v,rfl,hv,hx1,hb1⟩;obtain rfl:v= .int .i64 n:=hv;have uo:=zH hx1;have HB1:=zH hb1;have HN:Hid (n<=100000):=zH (ak HC.o HK.o);clear hx1 hb1 K0;go_wp2_with fail
 go_loopw [8] (fun z wr=>∃ (l:List fI) (j:Nat) (t:Rb),l.length+j=n/\Aside (res=(l++(mN uF j t).1,(mN uF j t).2))/\Aside (t.1.length<=500000000)/\iO (fun b=>w.heap.size<=b) gV w.heap.size wr z l/\iV wr g t/\But g w wr) (fun z _=>n-lenOf z)
 case atStart=>exact ⟨[],n,s0,by simp,by rw [bJ];exact HR.o,HT0.o,iO.nil _ _ _,uo.o,HB1.o⟩
 case round=>
  obtain ⟨l,j,t,hlj,Gg,HT,ho,hx,hb⟩:=hrel;have HO:=zH ho;have HX:=zH hx;have HB:=zH hb;have HLJ:=zH hlj;obtain ⟨la,lc,rfl,h1,h2,-,-⟩:=ho.own.parts;obtain ⟨ra,rn,rc,-,-,-,-,hh,-,-⟩:=hx.parts;obtain ⟨x0,x1,-,-⟩:=jE hh;clear ho hx hb hh;obtain ⟨b,bad⟩:=t;change wr.cell? ⟨g,1,none⟩=some (.bool bad) at x1;obtain ⟨ll,hll⟩:∃ m,l.length=m:=⟨_,rfl⟩;rw [hll] at hlj h1 HO;have LL:=zH hll;have Iq:=HN.o
  by_cases hlt:ll<n
  ·have hlt2:(ll:Int)<(n:Int):=by omega
   cases bad with
   |true=>
    rw [hll];go_wp2_with fail
    go_ret
    rw [Gg.out,I9,aV];exact ⟨_,rfl,HO.o,HX.o,HB.o⟩
   |false=>
    obtain ⟨i,rfl⟩:∃ i,j=i+1:=⟨j-1,by omega⟩;have HRM:Hid (res=(l++[(uF (b,false)).1]++(mN uF i (uF (b,false)).2).1,(mN uF i (uF (b,false)).2).2)):=zH (by rw [Gg.out,Cy,aY];rfl);have HT1:=zH (ak (Q9 (b,false)) HT.out);have KN:=zH (mtxn_any HX.o HT.out);clear Gg;generalize uF (b,false)=q at*;obtain ⟨x,t⟩:=q;rw [hll];go_wp2_with (first
     |(go_at_fn 172;refine KN.o.mono ?_;rintro e w2 ⟨v,rfl,⟨da,dn,dc,ea,en,ec,rfl,hd,he⟩,hx2,hb2⟩
       have O2:Hid (iO (fun b=>w.heap.size<=b) gV w.heap.size w2 _ l):=zH (HO.o.but hb2 HG.o fun b hb e=>by have:=HG.o;omega);have N2:=zH (hd.new gU);have M2:=zH (he.sq fun b h1 _=>h1);have Zr:=zH HB.o.size;have Z2:=zH hb2.size;have OL:=zH HO.o.lt;have G2:=zH (HB.o.trans hb2);have X2:=zH hx2;clear hx2 hb2 KN hd he)
     |(at_builtin;refine kE (fun b=>w.heap.size<=b) gV rfl (.tmp 23) (.tmp 26) rfl w.heap.size rfl (O2.o.alloc _) rfl (Jg (x:=x) (N:=w.heap.size) N2.o M2.o (fun k hk=>(OL.o k hk).2) Z2.o Zr.o) (fun _ _ h=>h) (by rw [LL.o];simp;omega) (by have:=G2.o.size;simp;omega) ?_))
    intro v' w5 ho' hgr _;have O5:=zH ho';have G5:=zH ((G2.o.alloc HG.o _).grown hgr HG.o (fun j hj=>(O2.o.lt j hj).1));have X5:=zH ((X2.o.below ((aj _ _).alloc (ah _) _)).grown hgr (fun j hj=>ay HG.o (O2.o.lt j hj).1));obtain ⟨na,nc,hnv,hn1,hn2⟩:∃ na nc,v'= .slice na (ll+1) nc/\(ll+1:Int)<=(nc:Int)/\(nc:Int)<=9223372036854775807:=by
     obtain ⟨a,c,e,k1,k2,-⟩:=ho'.own.parts;rw [aA,LL.o] at e k1;exact ⟨a,c,e,by simp at k1;omega,by omega⟩
    clear ho' hgr x0 x1;subst hnv;go_wp2_with fail
    go_roundw
    case rel=>exact ⟨l++[x],i,t,by rw [aA,LL.o];simp;omega,HRM.o,HT1.o,O5.o,X5.o,G5.o⟩
    case measure=>simp [lenOf]<;>omega
  ·have hlt2:¬ (ll:Int)<(n:Int):=by omega
   obtain rfl:j=0:=by omega
   rw [hll];go_wp2_with fail
   go_ret
   rw [Gg.out,Gn,aV];exact ⟨_,rfl,HO.o,HX.o,HB.o⟩
theorem Rn{w:World}{g:Nat}{s:Rb}(hx:iV w g s)(hl:s.1.length<=500000000):Calls prog 167 #[.pointer (some ⟨g,0,none⟩)] w (lZ (fun W v l=>gy gL w.heap.size W v l) w g (gJ gF 8 s)):=by
 have K:=zH (YU hx hl 8 (by decide));clear hx hl;generalize gJ gF 8 s=q at*;go_enter func167,ntmps167
 go_wp2_with fail
 refine K.o.mono ?_;rintro e w1 ⟨v,rfl,hv,hx,hb⟩;have HV:=zH hv;have HX:=zH hx;have HB:=zH hb;clear hv hx hb K;go_wp2_with fail
 go_ret
 exact ⟨_,rfl,HV.o,HX.o,HB.o⟩
theorem LV{w:World}{g:Nat}{s:Rb}(hx:iV w g s)(hl:s.1.length<=500000000):Calls prog 168 #[.pointer (some ⟨g,0,none⟩)] w (lZ (fun W v l=>gy qP w.heap.size W v l) w g (gJ gK 8 s)):=by
 have K:=zH (Vb hx hl 8 (by decide));clear hx hl;generalize gJ gK 8 s=q at*;go_enter func168,ntmps168
 go_wp2_with fail
 refine K.o.mono ?_;rintro e w1 ⟨v,rfl,hv,hx,hb⟩;have HV:=zH hv;have HX:=zH hx;have HB:=zH hb;clear hv hx hb K;go_wp2_with fail
 go_ret
 exact ⟨_,rfl,HV.o,HX.o,HB.o⟩
end Go.Proofs.YtfgcodcablpdcaaGreat