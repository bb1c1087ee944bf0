import Derived.Test.YtmknpmamkjjiaaaTxn
import Derived.Test.YtmknpmamkjjiaaaEMades
import Derived.Test.YtmknpmamkjjiaaaVcAll
set_option linter.unusedVariables false
set_option maxRecDepth 100000
set_option maxHeartbeats 64000000
namespace Go.Proofs.Ytmknpmamkjjiaaa
open Go.Proofs.Try
open Go.RowKit Plain
theorem pE:∀ args w,(callFunc 35 args).run prog w= .ok (.enter 35 args) w:=enters_of func35 (by kernel_rfl) rfl
theorem vC(node seq:Int)(v:List Int)(d:bW):(!fO node seq v d)=((!(decide (1<=d.seq)&&decide (d.seq<=cO v d.node)))&& !jN node seq d):=by
 unfold fO jN
 cases decide (d.node=node)<;>cases decide (d.seq=seq)<;>cases decide (1<=d.seq)<;>cases decide (d.seq<=cO v d.node)<;>rfl
theorem rD(node seq:Int){a:Option Addr}{n c:Nat}{v:List Int}(d:bW)(b1 b2 b3:Nat)(W:World)(hv:bX W (.slice a n c) v)
  (h1:W.cell? ⟨b1,0,none⟩=some (.slice a n c)) (h2:W.cell? ⟨b2,0,none⟩=some (.int .i64 node)) (h3:W.cell? ⟨b3,0,none⟩=some (.int .i64 seq)):
  Calls prog 35 (#[dv d]++#[.pointer (some ⟨b1,0,none⟩),.pointer (some ⟨b2,0,none⟩),.pointer (some ⟨b3,0,none⟩)]) W (bH W (!fO node seq v d)):=by
 show Calls prog 35 #[.agg #[.int .i64 d.node,.int .i64 d.seq,.int .i64 d.pos],.pointer (some ⟨b1,0,none⟩),.pointer (some ⟨b2,0,none⟩),.pointer (some ⟨b3,0,none⟩)] W _
 have hb:=zB W (.cells #[.int .i64 d.node,.int .i64 d.seq,.int .i64 d.pos] 47);have hc:∀ {b:Nat} {u:Value},W.cell? ⟨b,0,none⟩=some u ->(W.alloc (.cells #[.int .i64 d.node,.int .i64 d.seq,.int .i64 d.pos] 47)).cell? ⟨b,0,none⟩=some u:=fun h=>(hb.cell (ay W _ h)).trans h
 have k1:=hc h1;have k2:=hc h2;have k3:=hc h3;have DB:Hid (gq (W.alloc (.cells #[.int .i64 d.node,.int .i64 d.seq,.int .i64 d.pos] 47)) W.heap.size 0 d):=zH ⟨by simp,by simp,by simp⟩;have KH:=zH (kC (hv.below hb) d.node d.seq d.pos);have G:=zH hb;have K:=zH (fun W=>mH node seq d W);have e1:=vC node seq v d;clear hc hb h1 h2 h3 hv;rw [e1];clear e1;generalize (decide (1<=d.seq)&&decide (d.seq<=cO v d.node))=r0 at*;generalize jN node seq d=r1 at*;go_enter func35,ntmps35
 go_upto_region 1 with fail
 generalize (W.alloc _)=w1 at*;obtain ⟨c0,c1,c2⟩:=DB.o;simp only [aC] at c1 c2
 go_wp2_with fail
 refine KH.o.mono ?_;rintro e w2 ⟨rfl,hb⟩;have m2:=(hb.cell (ay w1 _ k2)).trans k2;have m3:=(hb.cell (ay w1 _ k3)).trans k3;have d0:=(hb.cell (ay w1 _ c0)).trans c0;have d1:=(hb.cell (ay w1 _ c1)).trans c1;have d2:=(hb.cell (ay w1 _ c2)).trans c2;have G2:=zH (G.o.trans (hb.mono G.o.size));clear hb c0 c1 c2 k1 k2 k3 KH
 cases r0 with
 |true=>
  go_wp2_with fail
  go_ret
  exact ⟨rfl,G2.o⟩
 |false=>
  rw [Bool.not_false,aN];go_wp2_with fail
  refine (K.o _).mono ?_;rintro e w3 ⟨rfl,hb⟩;have G3:=zH (G2.o.trans (hb.mono G2.o.size));clear hb;go_wp2_with fail
  go_ret
  exact ⟨rfl,G3.o⟩
theorem tY{l:List bO}{node seq:Int}{v:List Int}(h:∀ j,j<l.length ->((l.getD j default).drops.any fun d=> !fO node seq v d)=false):gJ l node seq v=true:=by
 unfold gJ;rw [aZ];intro e he;obtain ⟨j,hj,rfl⟩:=aX he;have:=h j hj;rw [show l.getD j default=l[j] by simp [List.getD,ah hj],List.any_eq_false] at this;rw [aZ];intro d hd
 simpa using this d hd
theorem tZ{l:List bO}{node seq:Int}{v:List Int}{j:Nat}(hj:j<l.length)(h:((l.getD j default).drops.any fun d=> !fO node seq v d)=true):gJ l node seq v=false:=by
 unfold gJ;rw [List.all_eq_false];refine ⟨l[j],aS hj,?_⟩;rw [show l.getD j default=l[j] by simp [List.getD,ah hj],List.any_eq_true] at h;obtain ⟨d,hd,hn⟩:=h;rw [aZ];intro k;have:=k d hd;rw [this] at hn
 cases hn
theorem rE(node seq:Int){u v:Value}{l:List bO}{xs:List Int}{w:World}(hu:bJ d9 w u l)(hv:bX w v xs)(hd:∀ e∈l,e.drops.length<=1000000):
  Calls prog 25 #[u,.int .i64 node,.int .i64 seq,v] w (bH w (gJ l node seq xs)):=by
 have yE:=zH (fun k hk=>hd _ (gY (l:=l) (k:=k) hk));have HA:=zH (fun h=>tY (l:=l) (node:=node) (seq:=seq) (v:=xs) h);have HN:=zH (fun j (hj:j<l.length) h=>tZ (l:=l) (node:=node) (seq:=seq) (v:=xs) hj h);generalize gJ l node seq xs=r at*;obtain ⟨a,cap,rfl,g1,g2,g0,h⟩:=hu.parts;obtain ⟨av,cv,rfl,gv1,gv2,gv0,hv'⟩:=hv.parts;generalize xs.length=nv at*;obtain ⟨n,hN⟩:∃ n,l.length=n:=⟨_,rfl⟩;rw [hN] at g1 yE HA HN h ⊢;have LN:=zH hN;have B1:=((zB w (.cells #[.int .i64 node] 3)).alloc (by simp) (.cells #[.int .i64 seq] 3)).alloc (by simp;omega) (.cells #[.slice av nv cv] 31);have k1:((((w.alloc (.cells #[.int .i64 node] 3)).alloc (.cells #[.int .i64 seq] 3)).alloc (.cells #[.slice av nv cv] 31))).cell? ⟨w.heap.size,0,none⟩=some (.int .i64 node):=(dR w _ _ _ _ _ _ 0).1;have k2:((((w.alloc (.cells #[.int .i64 node] 3)).alloc (.cells #[.int .i64 seq] 3)).alloc (.cells #[.slice av nv cv] 31))).cell? ⟨w.heap.size+1,0,none⟩=some (.int .i64 seq):=(dR w _ _ _ _ _ _ 0).2.1;have k3:((((w.alloc (.cells #[.int .i64 node] 3)).alloc (.cells #[.int .i64 seq] 3)).alloc (.cells #[.slice av nv cv] 31))).cell? ⟨w.heap.size+1+1,0,none⟩=some (.slice av nv cv):=(dR w _ _ _ _ _ _ 0).2.2;have HS:=zH (h.below B1);have HV:=zH (hv'.below B1);have G:=zH B1;clear hu hv h hv' g0 gv0 hN B1 hd;go_enter func25,ntmps25
 go_upto_region 1 with fail
 generalize (((w.alloc _).alloc _).alloc _)=w1 at*;have KC:Hid (∀ W {dv:Value} {ds:List bW},Below w1.heap.size w1 W ->bJ eP W dv ds ->ds.length<=1000000 ->Calls prog 37 #[dv,.func (.func 35) #[] #[.pointer (some ⟨w.heap.size+1+1,0,none⟩),.pointer (some ⟨w.heap.size,0,none⟩),.pointer (some ⟨w.heap.size+1,0,none⟩)]] W (bH W (ds.any fun d=> !fO node seq xs d))):=
  zH (fun W dv ds hb hs hn=>iM hs hn _ _ _ pE (fun W' d hb'=>by
   have b2:=hb.trans (hb'.mono hb.size);exact rD node seq d _ _ _ W' (HV.o.below b2) ((b2.cell (ay w1 _ k3)).trans k3) ((b2.cell (ay w1 _ k1)).trans k1) ((b2.cell (ay w1 _ k2)).trans k2)))
 clear k1 k2 k3;go_wp2_with fail
 go_loopw [11,15] (fun _ i wr=>∃ k:Nat,k<=n/\i= .int .i64 k/\(∀ j,j<k ->((l.getD j default).drops.any fun d=> !fO node seq xs d)=false)/\Below w1.heap.size w1 wr) (fun _ i _=>n-(intOf i).toNat)
 case atStart=>exact ⟨0,aJ _,rfl,fun j hj=>absurd hj (by omega),ak _ _⟩
 case round=>
  obtain ⟨k,hk,rfl,hall,hb⟩:=hrel;have je:=zH hall;have HB:=zH hb;clear hall hb
  by_cases hlt:k<n
  ·obtain ⟨b,o,c,hv,-,-,-,hc⟩:=eX (HS.o.below HB.o) (by rw [LN.o];omega)
   rw [LN.o] at hv;simp only [aG] at hv
   obtain ⟨rfl,-,rfl⟩:=hv;obtain ⟨dv,EA,SD⟩:=hc k (by rw [LN.o];exact hlt);have hl:=yE.o k hlt;have xw:=zH (HN.o k hlt);have HX:Hid (((l.getD k default).drops.any fun d=> !fO node seq xs d)=false ->∀ j,j<k+1 ->((l.getD j default).drops.any fun d=> !fO node seq xs d)=false):=zH (fun h j hj=>by
    by_cases e:j=k
    ·rw [e];exact h
    ·exact je.o j (by omega))
   clear hc;generalize l.getD k default=x at*;obtain ⟨da,dc,rfl,-⟩:=SD.parts;have hb2:=zB wr (.cells #[.int .i64 x.pos,.string (bt x.key),.string (bt x.field),.int .i64 x.kind,.string (bt x.elem),.int .i64 x.n,.slice da x.drops.length dc] 58);have EX:(wr.alloc (.cells #[.int .i64 x.pos,.string (bt x.key),.string (bt x.field),.int .i64 x.kind,.string (bt x.elem),.int .i64 x.n,.slice da x.drops.length dc] 58)).cell? ⟨wr.heap.size,6,none⟩=some (.slice da x.drops.length dc):=aM wr _ _ 6;have K:=KC.o _ (HB.o.trans (hb2.mono HB.o.size)) (SD.below hb2) hl;have G2:=zH (HB.o.trans (hb2.mono HB.o.size));obtain ⟨c0,c1,c2,c3,c4,c5,c6⟩:=EA;clear SD hb2;generalize x.drops.length=dn at*;go_upto_region 5 with fail
   clear c0 c1 c2 c3 c4 c5 c6;generalize (wr.alloc _)=w2 at*
   cases hq:x.drops.any fun d=> !fO node seq xs d with
   |true=>
    obtain rfl:r=false:=xw.o hq;rw [hq] at K;clear hq HX xw;go_wp2_with fail
    refine K.mono ?_;rintro e w3 ⟨rfl,hb⟩;have G3:=zH (G.o.trans ((G2.o.trans (hb.mono G2.o.size)).mono G.o.size));clear hb K;go_wp2_with fail
    go_ret
    exact ⟨rfl,G3.o⟩
   |false=>
    have HU:=zH (HX.o hq);rw [hq] at K;clear hq HX xw;go_wp2_with fail
    refine K.mono ?_;rintro e w3 ⟨rfl,hb⟩;have G3:=zH (G2.o.trans (hb.mono G2.o.size));clear hb K;go_wp2_with fail
    go_roundw
    case rel=>exact ⟨k+1,by omega,by go_num,HU.o,G3.o⟩
    case measure=>simp [intOf];omega
  ·obtain rfl:k=n:=by omega
   obtain rfl:r=true:=HA.o je.o;go_wp2_with fail
   go_ret
   exact ⟨rfl,G.o.trans (HB.o.mono G.o.size)⟩
end Go.Proofs.Ytmknpmamkjjiaaa