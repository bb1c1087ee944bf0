import Derived.Test.YtmknpmamkjjiaaaQuPush
set_option linter.unusedVariables false
set_option maxRecDepth 100000
set_option maxHeartbeats 64000000
namespace Go.Proofs.Ytmknpmamkjjiaaa
open Go.Proofs.Try
open Go.RowKit Plain
theorem uO(w:World)(m:Int)(a:Option Addr)(n c:Nat)(m2:Int)(a2:Option Addr)(n2 c2:Nat):(((w.alloc (.cells #[.int .i64 m,.slice a n c] 26)).alloc (.cells #[.int .i64 m2,.slice a2 n2 c2] 26)).cell? ⟨w.heap.size,0,none⟩=some (.int .i64 m)/\((w.alloc (.cells #[.int .i64 m,.slice a n c] 26)).alloc (.cells #[.int .i64 m2,.slice a2 n2 c2] 26)).cell? ⟨w.heap.size,1,none⟩=some (.slice a n c))/\((w.alloc (.cells #[.int .i64 m,.slice a n c] 26)).alloc (.cells #[.int .i64 m2,.slice a2 n2 c2] 26)).cell? ⟨w.heap.size+1,0,none⟩=some (.int .i64 m2)/\((w.alloc (.cells #[.int .i64 m,.slice a n c] 26)).alloc (.cells #[.int .i64 m2,.slice a2 n2 c2] 26)).cell? ⟨w.heap.size+1,1,none⟩=some (.slice a2 n2 c2):=by
 show ((((w.alloc (qc m a n c)).alloc (qc m2 a2 n2 c2)).cell? ⟨w.heap.size,0,none⟩=some (.int .i64 m)/\((w.alloc (qc m a n c)).alloc (qc m2 a2 n2 c2)).cell? ⟨w.heap.size,1,none⟩=some (.slice a n c))/\((w.alloc (qc m a n c)).alloc (qc m2 a2 n2 c2)).cell? ⟨w.heap.size+1,0,none⟩=some (.int .i64 m2)/\((w.alloc (qc m a n c)).alloc (qc m2 a2 n2 c2)).cell? ⟨w.heap.size+1,1,none⟩=some (.slice a2 n2 c2))
 have z1:(w.alloc (qc m a n c)).heap.size=w.heap.size+1:=by simp
 have b1:=dD (w.alloc (qc m a n c)) m2 a2 n2 c2;rw [z1] at b1;exact ⟨(dA.below (dD w m a n c) ((ak _ _).alloc (aj _) (qc m2 a2 n2 c2))).c.1,b1.c.1⟩
theorem dw.parts{w:World}{v:Value}{q:bM}(h:dw w v q):∃ a n c,v= .agg #[.int .i64 q.most,.slice a n c]/\q.list.length=n/\bJ dJ w (.slice a n c) q.list:=by
 obtain ⟨a,n,c,rfl,hn,hs⟩:=h;exact ⟨a,n,c,rfl,hn.symm,hs⟩
def wK(w:World)(q:bM)(e:Ending)(w':World):Prop:=∃ a n c,e= .returned (.agg #[.int .i64 q.most,.slice a n c])/\dw w' (.agg #[.int .i64 q.most,.slice a n c]) q/\Sq dJ (fun b=>w.heap.size<=b/\b<w'.heap.size) w' (.slice a n c) q.list/\Below w.heap.size w w'
theorem kS.q{w:World}{q:bM}{e:Ending}{w':World}(h:kS w q e w'):wK w q e w':=by
 obtain ⟨a,n,c,rfl,hn,ho,hb⟩:=h;exact ⟨a,n,c,rfl,⟨a,n,c,rfl,hn.symm,ho.nu.mono fun b h=>h.2⟩,ho.nu,hb⟩
structure wL(q:bM):Prop where
 len:q.list.length<=1000
 fit:∀ t∈q.list,iy t
theorem wL.heard{q:bM}(h:wL q)(v:Ints):wL (bS q v):=⟨aD (mY _ _) h.len,fun t ht=>h.fit t (qj ht)⟩
theorem xZ{q:bM}(h:gu q.list=true)(hok:∀ t∈q.list,jU t):wL q:=by
 unfold gu at h;rw [aO,decide_eq_true_iff,aZ] at h;refine ⟨aD h.1 (by decide),fun t ht=>qy ?_ (hok t ht)⟩;unfold gu;rw [aO,List.all_cons,List.all_nil,Bool.and_true];exact ⟨rfl,h.2 t ht⟩
theorem fV{v vv:Value}{q:bM}{x:Ints}{w:World}(h:dw w v q)(hv:bX w vv x)(hf:wL q):Calls prog 8 #[v,vv] w (wK w (bS q x)):=
 (iA h hv (by have:=hf.len;omega) hf.fit).mono fun _ _ h=>h.q
theorem iY{u v:Value}{a:bM}{w:World}(hu:dw w u a)(hv:dw w v a)(hl:a.list.length<=1000000):Calls prog 10 #[u,v] w (bH w true):=by
 obtain ⟨la,n,lc,rfl,hn,h1⟩:=hu.parts;obtain ⟨ma,n2,mc,rfl,hn2,h2⟩:=hv.parts;obtain rfl:n=n2:=hn.symm.trans hn2;have hB:Below w.heap.size w ((w.alloc (.cells #[.int .i64 a.most,.slice la n lc] 26)).alloc (.cells #[.int .i64 a.most,.slice ma n mc] 26)):=(zB w _).alloc (by simp) _;have CA:=zH (uO w a.most la n lc a.most ma n mc);have KS:=zH (qg (h1.below hB) (h2.below hB) hl);rw [aB rfl] at KS;have G:=zH hB;clear hu hv hl hn hn2 h1 h2 hB;generalize a.most=m at*;have be:(m==m)=true:=by simp
 go_enter func10,ntmps10
 go_upto_region 1 with fail
 generalize ((w.alloc _).alloc _)=w0 at*;obtain ⟨⟨c0,c1⟩,c2,c3⟩:=CA.o;go_wp2_with fail
 refine KS.o.mono ?_;rintro e w1 ⟨rfl,hb⟩;have G1:=zH (G.o.trans (hb.mono G.o.size));clear hb KS c0 c1 c2 c3;go_wp2_with fail
 go_ret
 exact ⟨rfl,G1.o⟩
structure iN(g:Nat)(q:bM)(a:Option Addr)(n c:Nat)(u:World):Prop where
 box:dA g q.most a n c u
 len:q.list.length=n
 sq:Sq dJ (fun b=>b<u.heap.size/\b≠g) u (.slice a n c) q.list
section
variable {g:Nat} {q:bM} {a:Option Addr} {n c:Nat} {u u':World}
theorem iN.is(h:iN g q a n c u):dw u (.agg #[.int .i64 q.most,.slice a n c]) q:=⟨a,n,c,rfl,h.len.symm,h.sq.mono fun b k=>k.1⟩
theorem iN.below(h:iN g q a n c u)(hb:Below u.heap.size u u'):iN g q a n c u':=⟨h.box.below hb,h.len,(h.sq.agree fun b k=>hb.block b k.1).mono fun b k=>⟨aK k.1 hb.size,k.2⟩⟩
theorem iI{w:World}(h:dw w (.agg #[.int .i64 q.most,.slice a n c]) q):iN w.heap.size q a n c (w.alloc (.cells #[.int .i64 q.most,.slice a n c] 26)):=by
 obtain ⟨a',n',c',e,hn,hs⟩:=h.parts;simp only [Value.agg.injEq,Array.mk.injEq,List.cons.injEq,aG,true_and,and_true] at e
 obtain ⟨rfl,rfl,rfl⟩:=e;have hb:=zB w (.cells #[.int .i64 q.most,.slice a n c] 26);exact ⟨dD w _ _ _ _,hn,(Sq.agree hs fun b k=>hb.block b k).mono fun b k=>⟨aK k hb.size,fun e=>by have k2:b<w.heap.size:=k;omega⟩⟩
theorem iN.put{q':bM}{a':Option Addr}{n' c':Nat}(h:iN g q a n c u)(hn:q'.list.length=n')(hs:Sq dJ (fun b=>b<u.heap.size/\b≠g) u (.slice a' n' c') q'.list):iN g q' a' n' c' ((u.setCell ⟨g,0,none⟩ (.int .i64 q'.most)).setCell ⟨g,1,none⟩ (.slice a' n' c')):=
 ⟨h.box.put _ _ _ _,hn,(hs.agree fun b k=>(aH _ _ _ _ k.2).trans (aH _ _ _ _ k.2)).mono fun b k=>⟨by simpa [World.setCell] using k.1,k.2⟩⟩
end
def qt1:bK:=⟨0,1,[],[]⟩
def qt2:bK:=⟨0,2,[1],[]⟩
theorem wM:qw 1=⟨1,[]⟩/\iH 1=0:=⟨rfl,rfl⟩
theorem wN:fT ⟨1,[]⟩ qt1=0/\fF ⟨1,[]⟩ qt1=⟨1,[qt1]⟩:=by
 have e:fT ⟨1,[]⟩ qt1=0:=by decide+kernel
 exact ⟨e,by unfold fF;rw [e];rfl⟩
theorem wO:fT ⟨1,[qt1]⟩ qt2=6/\fF ⟨1,[qt1]⟩ qt2=⟨0,[]⟩:=by
 have e:fT ⟨1,[qt1]⟩ qt2=6:=by decide+kernel
 exact ⟨e,by unfold fF;rw [e];rfl⟩
theorem wP:bS ⟨1,[qt1]⟩ [1]=⟨1,[]⟩:=by
 unfold bS dV
 congr 1
theorem ou:iy qt1:=⟨by simp [qt1],by simp [qt1],fun e he=>by simp [qt1] at he,⟨by show fU 0;unfold fU;decide,by show fU 1;unfold fU;decide,fun n h=>by simp [qt1] at h,fun e h=>by simp [qt1] at h⟩⟩
theorem x9:iy qt2:=⟨by simp [qt2],by simp [qt2],fun e he=>by simp [qt2] at he,⟨by show fU 0;unfold fU;decide,by show fU 2;unfold fU;decide,fun n h=>(by obtain rfl:n=1:=(by simpa [qt2] using h);unfold fU;decide),fun e h=>by simp [qt2] at h⟩⟩
theorem y9(w:World):dU w (.agg #[.int .i64 0,.int .i64 1,.slice none 0 0,.slice none 0 0]) qt1:=⟨_,_,rfl,bJ.nil _,bJ.nil _⟩
theorem jV(w:World):Calls prog 5 #[] w (bH w true):=by
 have K1:=zH (ni 1 w);rw [wM.1,wM.2] at K1;have BP:Hid (∀ u v,dw u v ⟨1,[]⟩ ->Calls prog 9 #[v,.agg #[.int .i64 0,.int .i64 1,.slice none 0 0,.slice none 0 0]] u (oq u 1 [qt1] 0)):=zH (fun u v h=>by
  have k:=iX h (y9 u) (by simp) (fun t h=>by cases h) ou;rw [wN.1,wN.2] at k;exact k)
 have BR:Hid (∀ u v dv,dw u v ⟨1,[qt1]⟩ ->bJ fD u dv [1] ->Calls prog 9 #[v,.agg #[.int .i64 0,.int .i64 2,dv,.slice none 0 0]] u (oq u 0 [] 6)):=zH (fun u v dv h hd=>by
  have k:=iX (t:=qt2) (tv:= .agg #[.int .i64 0,.int .i64 2,dv,.slice none 0 0]) h ⟨_,_,rfl,hd,bJ.nil _⟩ (by simp) (fun t h=>by rw [bf.1 h];exact ou) x9;rw [wO.1,wO.2] at k;exact k)
 have KH:Hid (∀ u v dv,dw u v ⟨1,[qt1]⟩ ->bX u dv [1] ->Calls prog 8 #[v,dv] u (oo u 1 [])):=zH (fun u v dv h hd=>by
  have k:=iA h hd (by simp) (fun t h=>by rw [bf.1 h];exact ou);rw [wP] at k;exact k)
 go_enter func5,ntmps5
 go_wp2_with fail
 refine K1.o.mono ?_;rintro e w1 ⟨a1,n1,c1,rfl,hn,ho,hb⟩;have V1:=zH (iI (w:=w1) (q:=⟨1,[]⟩) (a:=a1) (n:=n1) (c:=c1) ⟨a1,n1,c1,rfl,hn.symm,ho.nu.mono fun b h=>h.2⟩);have G1:=zH (hb.trans ((zB w1 (.cells #[.int .i64 1,.slice a1 n1 c1] 26)).mono hb.size));have ZG:Hid (w.heap.size<=w1.heap.size):=zH hb.size;clear hn ho hb K1;go_upto_region 2 with fail
 generalize (w1.alloc _)=w2 at*;generalize w1.heap.size=g at*;obtain ⟨⟨c0,c1'⟩,f0,f1⟩:=V1.o.box.c;have K2:=zH (BP.o w2 _ V1.o.is);go_upto_region 3 with (go_at_call 9;refine K2.o.mono ?_;rintro e w3 ⟨a2,n2,c2,rfl,hn,ho,hb⟩;have V2:=zH (V1.o.below hb);have S2:=zH (ho.nu.mono fun b h=>(⟨h.2,by have:=V1.o.box.lt;omega⟩:b<w3.heap.size/\b≠g));have G2:=zH (G1.o.trans (hb.mono G1.o.size));have N2:=zH hn;clear hn ho hb K2 BP V1 G1 c0 c1' f0 f1;obtain ⟨⟨c0,c1'⟩,f0,f1⟩:=V2.o.box.c)
 have V3:=zH (V2.o.put (q':=⟨1,[qt1]⟩) N2.o S2.o);have G3:Hid (Below w.heap.size w ((w3.setCell ⟨g,0,none⟩ (.int .i64 1)).setCell ⟨g,1,none⟩ (.slice a2 n2 c2))):=zH ((G2.o.setCell ZG.o _).setCell ZG.o _);clear V2 G2 S2 c0 c1' f0 f1;generalize ((w3.setCell _ _).setCell _ _)=w4 at*;have hb4:=zB w4 (.cells #[.int .i64 1] 3);have V5:=zH (V3.o.below hb4);have G5:=zH (G3.o.trans (hb4.mono G3.o.size));have K4:=zH (BR.o _ _ _ V5.o.is (yg (bX.one w4 1)));obtain ⟨⟨c0,c1'⟩,f0,f1⟩:=V3.o.box.c;clear hb4 BR G3;go_upto_region 4 with (go_at_call 9;refine K4.o.mono ?_;rintro e w6 ⟨a3,n3,c3,rfl,hn,ho,hb⟩;have V6:=zH ((V5.o.below hb).below (zB w6 (.cells #[.int .i64 0,.slice a3 n3 c3] 26)));have G6:=zH ((G5.o.trans (hb.mono G5.o.size)).alloc (aD G5.o.size hb.size) (.cells #[.int .i64 0,.slice a3 n3 c3] 26));clear hn ho hb K4 V5 V3 G5 c0 c1' f0 f1)
 generalize (w6.alloc _)=w7 at*;have hb7:=zB w7 (.cells #[.int .i64 1] 3);have V8:=zH (V6.o.below hb7);have G8:=zH (G6.o.trans (hb7.mono G6.o.size));have K8:=zH (KH.o _ _ _ V8.o.is (bX.one w7 1));obtain ⟨⟨c0,c1'⟩,-⟩:=V6.o.box.c;clear hb7 KH G6;go_wp2_with fail
 refine K8.o.mono ?_;rintro e w9 ⟨a4,n4,c4,rfl,hn,ho,hb⟩;obtain rfl:0=n4:=hn;have G9:=zH (G8.o.trans (hb.mono G8.o.size));clear ho hb K8 V8 V6 c0 c1';have Dx:∀ w:World,(Instr.field 26 (.agg #[.int .i64 1,.slice a4 0 c4]) 1).run prog w= .ok (.slice a4 0 c4) w:=fun _=>by kernel_rfl
 go_wp2_with fail
 go_ret
 exact ⟨rfl,G9.o⟩
end Go.Proofs.Ytmknpmamkjjiaaa