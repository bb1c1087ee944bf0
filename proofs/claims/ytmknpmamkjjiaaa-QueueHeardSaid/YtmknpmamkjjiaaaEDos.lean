import Derived.Test.YtmknpmamkjjiaaaEForms
import Derived.Test.YtmknpmamkjjiaaaRefE
set_option linter.unusedVariables false
set_option maxRecDepth 100000
set_option maxHeartbeats 64000000
namespace Go.Proofs.Ytmknpmamkjjiaaa
open Go.Proofs.Try
open Go.RowKit Plain Go.Maps
theorem qW{u:Value}{xs:List bW}{w:World}(hu:bJ eP w u xs)(hn:xs.length<=1000000):Calls prog 43 #[u] w (oZ eP w xs):=by
 obtain ⟨a,cap,rfl,-,-,g0,h⟩:=hu.parts;have q22:∀ (w:World) (a:Option Addr) (n c n' c':Nat),(binOp .eql 56 (.slice a n c) (.slice none n' c')).run prog w= .ok (.bool a.isNone) w:=fun w a n c n' c'=>Lib.run_eql_slice_nil w _ _ a n c n' c' underlying56
 cases a with
 |none=>
  obtain rfl:=g0 rfl;obtain rfl:xs=[]:=aF (by have:=h.gy;omega);go_enter func43,ntmps43
  go_wp2_with fail
  go_ret
  exact ⟨_,rfl,cB.nil _ _,ak _ _⟩
 |some ad=>
  have HS:=zH (h.dB (.cells #[] 47));have HO:=zH (cB.empty (L:=eP) w w.heap.size (aj _));have HB:=zH (zB w (.cells #[] 47));have hz:w.heap.size<=(w.alloc (.cells #[] 47)).heap.size:=by simp
  have HZ:=zH hz;clear hu h g0 hz;go_enter func43,ntmps43
  go_wp2_with (at_builtin;refine eU eP rfl (.tmp 5) (.tmp 6) rfl w.heap.size rfl HO.o rfl HS.o (fun _ _ h=>h) (by simp;omega) HZ.o ?_)
  intro v' w2 ho' hgr _;have O3:=zH ho';have B3:=zH (HB.o.grown hgr HZ.o (fun j hj=>(HO.o.lt j hj).1));clear ho' hgr;go_wp2_with fail
  go_ret
  exact ⟨_,rfl,by simpa using O3.o,B3.o⟩
def o7:bI:=⟨[],[],0,[],0,⟨0,0,0⟩⟩
theorem tL(P:Nat ->Prop)(w:World):dQ.R P w dQ.zero.cells.toList o7:=rfl
theorem xC(vals:List Value)(j i:Nat)(u:Value)(hj:j*8<vals.length):pt 8 (vals.set (j*8) u) i=if i=j then (pt 8 vals j).set 0 u else pt 8 vals i:=by
 have len:∀ (l:List Value) (q:Nat),(pt 8 l q).length<=8:=fun l q=>by unfold pt;rw [bn];omega
 apply List.ext_getElem?
 intro r
 by_cases hr:r<8
 ·rw [iO _ _ _ hr,List.getElem?_set]
  by_cases e:i=j
  ·subst e
   rw [if_pos rfl,List.getElem?_set]
   by_cases r0:r=0
   ·subst r0
    have h0:0<(pt 8 vals i).length:=by unfold pt;rw [bn,List.length_drop];omega
    rw [if_pos (by omega),if_pos hj,if_pos rfl,if_pos h0]
   ·rw [if_neg (by omega),if_neg (fun h=>r0 h.symm),iO _ _ _ hr]
  ·rw [if_neg e,if_neg (by omega),iO _ _ _ hr]
 ·have h1:=len (vals.set (j*8) u) i
  rw [bq (by omega)]
  split
  ·rw [bq (by rw [List.length_set];have:=len vals j;omega)]
  ·rw [bq (by have:=len vals i;omega)]
theorem cB.yL{B:Nat}{w:World}{g n cap:Nat}{xs:List bI}(h:cB dQ B w (.slice (some ⟨g,0,none⟩) n cap) xs){j:Nat}(hj:j<xs.length)(s:bL):
  cB dQ B (w.setCell ⟨g,j*8,none⟩ (.string (bt s))) (.slice (some ⟨g,0,none⟩) n cap) (xs.set j ⟨s,(xs.getD j default).field,(xs.getD j default).kind,(xs.getD j default).elem,(xs.getD j default).n,(xs.getD j default).dot⟩):=by
 have hn:=h.seq.gy.1;obtain ⟨vals,ho,hr⟩:=h;rw [hn] at ho;have hs:=(World.ownsRow.stored ho (j*8) (.string (bt s))).1;have hl:vals.length=xs.length*8:=hr.1;refine ⟨vals.set (j*8) (.string (bt s)),by rw [List.length_set,hn];exact hs,by rw [List.length_set,List.length_set];exact hl,fun i x hx=> ?_⟩
 show pt 8 (vals.set (j*8) (.string (bt s))) i=fA x
 rw [xC vals j i _ (by omega)];rw [List.getElem?_set] at hx
 by_cases e:i=j
 ·subst e
  rw [if_pos rfl,if_pos hj] at hx;rw [if_pos rfl];have h0:pt 8 vals i=fA (xs.getD i default):=hr.2 i _ (getD_at hj);rw [h0,<-bg hx]
  rfl
 ·rw [if_neg (fun h=>e h.symm)] at hx
  rw [if_neg e];exact hr.2 i x hx
theorem cB.zA{B:Nat}{w:World}{g n cap:Nat}{xs:List bI}(h:cB dQ B w (.slice (some ⟨g,0,none⟩) n cap) xs)(j:Nat):w.frozen? ⟨g,j,none⟩=false:=by
 have hn:=h.seq.gy.1;obtain ⟨vals,ho,-⟩:=h;rw [hn] at ho;exact World.ownsRow.frozenAt ho j
def fZ(l:List bO)(k:Nat):List bI:=(l.take k).map jB++List.replicate (l.length-k) o7
theorem qX(l:List bO):fZ l 0=List.replicate l.length o7:=by unfold fZ;simp
theorem tN(l:List bO):fZ l l.length=l.map jB:=by unfold fZ;simp
theorem tO(l:List bO){k:Nat}(hk:k<=l.length):(fZ l k).length=l.length:=by unfold fZ;simp;omega
theorem vk(l:List bO){k:Nat}(hk:k<l.length):(fZ l k).getD k default=o7:=by
 unfold fZ;have h1:((l.take k).map jB).length=k:=by simp;omega
 rw [List.getD,List.getElem?_append_right (by omega),h1,Nat.sub_self,List.getElem?_replicate,if_pos (by omega)]
 rfl
theorem qY(l:List bO){k:Nat}(hk:k<l.length):(fZ l k).set k (jB (l.getD k default))=fZ l (k+1):=by
 have h1:((l.take k).map jB).length=k:=by simp;omega
 unfold fZ;rw [List.set_append_right _ _ (by omega),h1,Nat.sub_self,iP hk,List.map_append,List.append_assoc]
 congr 1
 obtain ⟨m,hm⟩:∃ m,l.length-k=m+1:=⟨l.length-k-1,by omega⟩;rw [hm,show l.length-(k+1)=m by omega,List.replicate_succ]
 rfl
theorem vo{l:List bO}{zs:List bL}{k:Nat}(hk:k<l.length):decide ((l.getD k default).key∈dX l zs)=covers zs (l.getD k default).key:=o8 (gY hk)
theorem eF.drops{w:World}{b:Nat}{x:bO}{dv:Value}(h:eF w b 0 x dv)(u:Value):eF (w.setCell ⟨b,6,none⟩ u) b 0 x u:=by
 obtain ⟨c0,c1,c2,c3,c4,c5,c6⟩:=h;simp only [aC] at c1 c2 c3 c4 c5 c6
 exact ⟨(aI _ _ _ _ (by simp)).trans c0,(aI _ _ _ _ (by simp)).trans c1,(aI _ _ _ _ (by simp)).trans c2,(aI _ _ _ _ (by simp)).trans c3,(aI _ _ _ _ (by simp)).trans c4,(aI _ _ _ _ (by simp)).trans c5,World.cell?_setCell_same _ _ _ c6⟩
theorem xD{W:World}{x:bO}{av:Option Addr}{nv cv:Nat}{g C:Nat}{ov:Value}(hC:g<C)(hs:Sq eP (fun b=>C<=b/\b<W.heap.size) W (.slice av nv cv) x.drops)(hg:∀ k,ov.ownBlock=some k ->k<C)(hz:C<=W.heap.size)(u:Value):
  Sq d9 (fun b=>C<=b/\b<((W.setCell ⟨g,6,none⟩ u).alloc (.cells #[.int .i64 x.pos,.string (bt x.key),.string (bt x.field),.int .i64 x.kind,.string (bt x.elem),.int .i64 x.n,.slice av nv cv] 58)).heap.size/\ov.ownBlock≠some b) ((W.setCell ⟨g,6,none⟩ u).alloc (.cells #[.int .i64 x.pos,.string (bt x.key),.string (bt x.field),.int .i64 x.kind,.string (bt x.elem),.int .i64 x.n,.slice av nv cv] 58)) (.slice (some ⟨(W.setCell ⟨g,6,none⟩ u).heap.size,0,none⟩) 1 1) [x]:=by
 have hw:(W.setCell ⟨g,6,none⟩ u).heap.size=W.heap.size:=by simp [World.setCell]
 have hS:((W.setCell ⟨g,6,none⟩ u).alloc (.cells #[.int .i64 x.pos,.string (bt x.key),.string (bt x.field),.int .i64 x.kind,.string (bt x.elem),.int .i64 x.n,.slice av nv cv] 58)).heap.size=W.heap.size+1:=by rw [<-hw];simp
 rw [hS];have hB:Below (W.setCell ⟨g,6,none⟩ u).heap.size (W.setCell ⟨g,6,none⟩ u) ((W.setCell ⟨g,6,none⟩ u).alloc (.cells #[.int .i64 x.pos,.string (bt x.key),.string (bt x.field),.int .i64 x.kind,.string (bt x.elem),.int .i64 x.n,.slice av nv cv] 58)):=(ak _ _).alloc (aj _) _;have hin:Sq eP (fun b=>C<=b/\b<W.heap.size+1/\ov.ownBlock≠some b) ((W.setCell ⟨g,6,none⟩ u).alloc (.cells #[.int .i64 x.pos,.string (bt x.key),.string (bt x.field),.int .i64 x.kind,.string (bt x.elem),.int .i64 x.n,.slice av nv cv] 58)) (.slice av nv cv) x.drops:=
  (Sq.agree hs fun b hb=>(hB.block b (by rw [hw];exact hb.2)).trans (aH _ _ _ _ (show b≠g by have:=hb.1;omega))).mono fun b hb=>⟨hb.1,by omega,fun e=>by have:=hg b e;omega⟩
 refine ⟨_,1,j5 x (.slice av nv cv),rfl,aj _,by unfold maxLen;simp,(by simp),Rows.nG ⟨_,rfl,hin⟩,fun _=>⟨_,0,rfl,⟨by rw [hw];omega,by rw [hw];omega,fun e=>by have:=hg _ e;rw [hw] at this;omega⟩,fun i u' hu=> ?_⟩⟩;rw [aC];have:=aM (W.setCell ⟨g,6,none⟩ u) #[.int .i64 x.pos,.string (bt x.key),.string (bt x.field),.int .i64 x.kind,.string (bt x.elem),.int .i64 x.n,.slice av nv cv] 58 i;rw [this,<-bC];exact hu
theorem qZ{v zv:Value}{l:List bO}{zs:List bL}{w:World}(hv:bJ d9 w v l)(hz:dx w zv zs)(hn:l.length<=1000)(hd:∀ e∈l,e.drops.length<=1000)(hzl:zs.length<=1000000):
  Calls prog 28 #[v,zv] w (zC d9 w (jJ l zs)):=by
 have yE:=zH (fun k hk=>hd _ (gY (l:=l) (k:=k) hk));have Bf:=zH (tN l);have Bg:=zH (qX l);have yM:=zH (fun k hk=>qY l (k:=k) hk);have Bj:=zH (fun k hk=>vk l (k:=k) hk);have Ai:=zH (fun k hk=>tO l (k:=k) hk);have Bl:Hid (∀ k,k<l.length ->decide ((l.getD k default).key∈dX l zs)=(fun j=>covers zs (l.getD j default).key) k):=zH (fun k hk=>vo (l:=l) (zs:=zs) (k:=k) hk);have Cu:Hid ((dX l zs).length<=1000000):=zH (by have:=o9 l zs;omega);have Bn:Hid (cK (dX l zs)):=zH (cu _);have KU:=zH (fun (W:World) (kv:Value) (h:Below w.heap.size w W) (hs:bJ dQ W kv (l.map jB))=>q8 hs (hz.below h) (by rw [List.length_map];omega) hzl);have KK:Hid (∀ (W:World) (kv:Value) (hs:bJ dQ W kv (gH (l.map jB) zs)),Calls prog 40 #[kv] W (q9 W (dX l zs))):=zH (fun W kv hs=>mE hs (by have:=kg (l.map jB) zs;rw [List.length_map] at this;omega));have Cv:=zH (vw l zs);rw [<-Cv.o];have PY:Hid (∀ k,(fun j=>covers zs (l.getD j default).key) k=true ->dF (fun j=>covers zs (l.getD j default).key) l (k+1)=dF (fun j=>covers zs (l.getD j default).key) l k++[l.getD k default]):=zH (fun k h=>mF (f:=fun j=>covers zs (l.getD j default).key) (xs:=l) (k:=k) h);have PN:Hid (∀ k,(fun j=>covers zs (l.getD j default).key) k=false ->dF (fun j=>covers zs (l.getD j default).key) l (k+1)=dF (fun j=>covers zs (l.getD j default).key) l k):=zH (fun k h=>pq (f:=fun j=>covers zs (l.getD j default).key) (xs:=l) (k:=k) h);have PL:=zH (fun k=>jC (fun j=>covers zs (l.getD j default).key) l k);have P0:Hid (dF (fun j=>covers zs (l.getD j default).key) l 0=[]):=zH rfl;obtain ⟨a,cap,rfl,g1,g2,g0,h⟩:=hv.parts;obtain ⟨az,cz,rfl,-⟩:=hz.parts;have HS:=zH h;obtain ⟨n,hN⟩:∃ n,l.length=n:=⟨_,rfl⟩;rw [hN] at g1 hn HS yE Bg Bf yM Bj Ai Bl ⊢;have LN:=zH hN;clear hv hz h g0 hd hN;generalize (fun j=>covers zs (l.getD j default).key)=f at*;generalize zs.length=nz at*;go_enter func28,ntmps28
 go_wp2_with (at_make;refine ko dQ o7 tL rfl (.tmp 15) rfl n rfl (by omega) ?_)
 intro w1 ho1 hb1 hz1;have O1:=zH ho1;rw [<-Bg.o] at O1;have B1:=zH hb1;have Z1:Hid (w.heap.size<w1.heap.size):=zH (by omega);clear ho1 hb1 hz1;go_wp2_with fail
 go_loopw [6,19] (fun _ i wr=>∃ k:Nat,k<=n/\i= .int .i64 k/\cB dQ w.heap.size wr (.slice (some ⟨w.heap.size,0,none⟩) n n) (fZ l k)/\Below w.heap.size w wr) (fun _ i _=>n-(intOf i).toNat)
 case atStart=>exact ⟨0,aJ _,rfl,O1.o,B1.o⟩
 case round=>
  obtain ⟨k,hk,rfl,ho,hb⟩:=hrel;have HO:=zH ho;have HB:=zH hb;clear ho hb
  by_cases hlt:k<n
  ·obtain ⟨b,o,c,hv,-,-,-,hc⟩:=eX (HS.o.below HB.o) (by rw [LN.o];omega)
   rw [LN.o] at hv;simp only [aG] at hv
   obtain ⟨rfl,-,rfl⟩:=hv;obtain ⟨dv,EX,hsd⟩:=hc k (by rw [LN.o];exact hlt);obtain ⟨da,dc,rfl,-,-,-,hsd⟩:=hsd.parts;have xw:=zH (yM.o k hlt);have Bo:=zH (Bj.o k hlt);have Aj:Hid (k<(fZ l k).length):=zH (by rw [Ai.o k hk];exact hlt);clear hc hsd;generalize l.getD k default=x at*;obtain ⟨c0,c1,c2,c3,c4,c5,c6⟩:=EX;generalize x.drops.length=m at*;have OB:=zH (HO.o.alloc (.cells #[.int .i64 x.pos,.string (bt x.key),.string (bt x.field),.int .i64 x.kind,.string (bt x.elem),.int .i64 x.n,.slice da m dc] 58));have GB:=zH (HB.o.alloc HB.o.size (.cells #[.int .i64 x.pos,.string (bt x.key),.string (bt x.field),.int .i64 x.kind,.string (bt x.elem),.int .i64 x.n,.slice da m dc] 58));have EB:Hid (eF (wr.alloc (.cells #[.int .i64 x.pos,.string (bt x.key),.string (bt x.field),.int .i64 x.kind,.string (bt x.elem),.int .i64 x.n,.slice da m dc] 58)) wr.heap.size 0 x (.slice da m dc)):=zH (gB wr x da m dc);go_upto_region 5 with fail
   clear c0 c1 c2 c3 c4 c5 c6;generalize (wr.alloc _)=wb at*;obtain ⟨c0,c1,c2,c3,c4,c5,c6⟩:=EB.o.zero;have hcell:wb.cell? ⟨w.heap.size,k*8,none⟩=some (.string (bt [])):=by
    obtain ⟨b',o',cc,hv',-,-,-,hc'⟩:=iQ OB.o.seq (Nat.lt_of_le_of_lt (aJ _) Aj.o);simp only [aG,Option.some.injEq,Addr.mk.injEq,and_true] at hv'
    obtain ⟨⟨rfl,rfl⟩,-,-⟩:=hv';have:=(hc' k Aj.o).c0;rw [Bo.o,aC] at this;exact this
   have hfro:wb.frozen? ⟨w.heap.size,k*8,none⟩=false:=OB.o.zA _;have O2:Hid (cB dQ w.heap.size (wb.setCell ⟨w.heap.size,k*8,none⟩ (.string (bt x.key))) (.slice (some ⟨w.heap.size,0,none⟩) n n) (fZ l (k+1))):=zH (by
    have:=OB.o.yL Aj.o x.key;rw [Bo.o] at this;rw [<-xw.o];exact this)
   have G2:Hid (Below w.heap.size w (wb.setCell ⟨w.heap.size,k*8,none⟩ (.string (bt x.key)))):=zH (GB.o.setCell (aj _) _);have kn:(k:Int)<(n:Int):=by omega
   go_upto_region 6 with fail
   clear c0 c1 c2 c3 c4 c5 c6 hcell hfro;generalize (wb.setCell _ _)=w2 at*;go_wp2_with fail
   go_roundw
   case rel=>exact ⟨k+1,by omega,by go_num,O2.o,G2.o⟩
   case measure=>simp [intOf];omega
  ·obtain rfl:k=n:=by omega
   rw [Bf.o] at HO;have K:=KU.o wr _ HB.o HO.o.seq;clear HO;go_wp2_with fail
   refine K.mono ?_;rintro e w3 ⟨v3,rfl,ho,hb⟩;have G3:=zH (HB.o.trans (hb.mono HB.o.size));have K4:=KK.o w3 v3 ho.seq;obtain ⟨a3,c3,rfl,-⟩:=ho.parts;clear ho hb K;generalize (gH (l.map jB) zs).length=n3 at*;go_wp2_with fail
   refine K4.mono ?_;rintro e w4 ⟨v4,rfl,hs4,hb⟩;have G4:=zH (G3.o.trans (hb.mono G3.o.size));have S4:=zH hs4;obtain ⟨a4,c4,rfl,-⟩:=hs4.parts;clear hs4 hb K4;go_wp2_with fail
   go_loopw [9,12,13,37] (fun z _ _ i wq=>∃ t:Nat,t<=k/\i= .int .i64 t/\bT (fun b=>w4.heap.size<=b) d9 w4.heap.size wq z (dF f l t)/\Below w4.heap.size w4 wq) (fun _ _ _ i _=>k-(intOf i).toNat)
   case atStart=>exact ⟨0,aJ _,rfl,by rw [P0.o];exact bT.nil _ _ _,ak _ _⟩
   case round=>
    rename World=>wq
    obtain ⟨t,ht,rfl,ho,hb⟩:=hrel;have HO:=zH ho;have zD:=zH hb;have HB:Hid (Below w.heap.size w wq):=zH (G4.o.trans (hb.mono G4.o.size));have HC:=zH (S4.o.below hb);have Cw:=zH (PL.o t);clear ho hb
    by_cases hlt:t<k
    ·obtain ⟨b,o,c,hv,-,-,-,hc⟩:=eX (HS.o.below HB.o) (by rw [LN.o];omega)
     rw [LN.o] at hv;simp only [aG] at hv
     obtain ⟨rfl,-,rfl⟩:=hv;obtain ⟨dv,EX,hsd⟩:=hc t (by rw [LN.o];exact hlt);obtain ⟨da,dc,rfl,-,-,-,hsd⟩:=hsd.parts;have HM:=yE.o t hlt;have Bp:=Bl.o t hlt;have Cx:=zH (PY.o t);have Cy:=zH (PN.o t);clear hc;generalize l.getD t default=x at*;obtain ⟨c0,c1,c2,c3',xA,c5,c6⟩:=EX;obtain ⟨m,hM⟩:∃ m,x.drops.length=m:=⟨_,rfl⟩;rw [hM] at hsd c6 HM;have LM:=zH hM;clear hM;have SB:=zH (hsd.dB (.cells #[.int .i64 x.pos,.string (bt x.key),.string (bt x.field),.int .i64 x.kind,.string (bt x.elem),.int .i64 x.n,.slice da m dc] 58));have BX:=zH (zB wq (.cells #[.int .i64 x.pos,.string (bt x.key),.string (bt x.field),.int .i64 x.kind,.string (bt x.elem),.int .i64 x.n,.slice da m dc] 58));have CB:=zH (HC.o.dB (.cells #[.int .i64 x.pos,.string (bt x.key),.string (bt x.field),.int .i64 x.kind,.string (bt x.elem),.int .i64 x.n,.slice da m dc] 58));have EB:Hid (eF (wq.alloc (.cells #[.int .i64 x.pos,.string (bt x.key),.string (bt x.field),.int .i64 x.kind,.string (bt x.elem),.int .i64 x.n,.slice da m dc] 58)) wq.heap.size 0 x (.slice da m dc)):=zH (gB wq x da m dc);have ZB:Hid ((wq.alloc (.cells #[.int .i64 x.pos,.string (bt x.key),.string (bt x.field),.int .i64 x.kind,.string (bt x.elem),.int .i64 x.n,.slice da m dc] 58)).heap.size=wq.heap.size+1):=zH (by simp);have FB:Hid ((wq.alloc (.cells #[.int .i64 x.pos,.string (bt x.key),.string (bt x.field),.int .i64 x.kind,.string (bt x.elem),.int .i64 x.n,.slice da m dc] 58)).frozen? ⟨wq.heap.size,6,none⟩=false):=zH (by simp);clear hsd;go_upto_region 12 with fail
     clear c0 c1 c2 c3' xA c5 c6;generalize (wq.alloc _)=wb at*;obtain ⟨j,-,h1,h2,KS⟩:=gI CB.o Bn.o Cu.o x.key;rw [mG Bn.o h1 h2] at KS;clear h1 h2;obtain ⟨c0,c1,c2,c3',xA,c5,c6⟩:=EB.o.zero;rw [Bp] at KS;clear Bp;go_wp2_with fail
     refine KS.mono ?_;rintro e w5 ⟨rfl,q,hw5⟩;have B5:Below wb.heap.size wb w5:=by rw [hw5];exact below_drewN (ak _ _) q
     have Z5:w5.heap.size=wb.heap.size:=by rw [hw5];rfl
     clear hw5 KS;have E5:=zH (EB.o.below B5 EB.o.lt);have BQ:Hid (Below wq.heap.size wq w5):=zH (BX.o.trans (B5.mono BX.o.size));have SD:=SB.o.below B5;have F5:w5.frozen? ⟨wq.heap.size,6,none⟩=false:=(B5.frozen (p:=⟨wq.heap.size,6,none⟩) (show wq.heap.size<wb.heap.size by rw [ZB.o];omega)).trans FB.o;have ZQ:Hid (wq.heap.size<w5.heap.size):=zH (by rw [Z5,ZB.o];omega);clear c0 c1 c2 c3' xA c5 c6;obtain ⟨c0,c1,c2,c3',xA,c5,c6⟩:=E5.o.zero
     cases hf:f t with
     |false=>
      have HX:=zH (Cy.o hf);have O5:Hid (bT (fun b=>w4.heap.size<=b) d9 w4.heap.size w5 _ (dF f l t)):=zH (HO.o.below BQ.o (aj _));have G5:=zH (zD.o.trans (BQ.o.mono zD.o.size));clear hf B5 F5 SD;go_wp2_with fail
      clear c0 c1 c2 c3' xA c5 c6;go_roundw
      case rel=>exact ⟨t+1,by omega,by go_num,by rw [HX.o];exact O5.o,G5.o⟩
      case measure=>simp [intOf];omega
     |true=>
      have HX:=zH (Cx.o hf);have KC:=qW SD (by rw [LM.o];omega);have FZ:=zH F5;clear hf B5 F5 SD;go_wp2_with fail
      refine KC.mono ?_;rintro e w6 ⟨v6,rfl,ho6,hb6⟩;have N6:=zH (ho6.new vB);have E6:=zH (E5.o.below hb6 E5.o.lt);have Cz:Hid (Below wq.heap.size wq w6):=zH (BQ.o.trans (hb6.mono BQ.o.size));have f6:w6.frozen? ⟨wq.heap.size,6,none⟩=false:=(hb6.frozen (p:=⟨wq.heap.size,6,none⟩) ZQ.o).trans FZ.o;have Z6:Hid (w5.heap.size<=w6.heap.size):=zH hb6.size;obtain ⟨a6,zF,rfl,-⟩:=ho6.parts;rw [LM.o] at N6;clear ho6 hb6 KC c0 c1 c2 c3' xA c5 c6;obtain ⟨c0,c1,c2,c3',xA,c5,c6⟩:=E6.o.zero;rw [LM.o];have E7:Hid (eF (w6.setCell ⟨wq.heap.size,6,none⟩ (.slice a6 m zF)) wq.heap.size 0 x (.slice a6 m zF)):=zH (E6.o.drops _);have Z7:Hid ((w6.setCell ⟨wq.heap.size,6,none⟩ (.slice a6 m zF)).heap.size=w6.heap.size):=zH (by simp [World.setCell]);have Bq:Hid (Below wq.heap.size wq (w6.setCell ⟨wq.heap.size,6,none⟩ (.slice a6 m zF))):=zH (Cz.o.setCell (aj _) _);have ONE:=zH (fun (ov:Value) (hov:∀ k,ov.ownBlock=some k ->k<w5.heap.size)=>xD (x:=x) (g:=wq.heap.size) (C:=w5.heap.size) (ov:=ov) ZQ.o N6.o hov Z6.o (.slice a6 m zF));go_upto_region 15 with fail
      clear c0 c1 c2 c3' xA c5 c6 f6;generalize (w6.setCell _ _)=w7 at*;obtain ⟨c0,c1,c2,c3',xA,c5,c6⟩:=E7.o.zero;have O7:=zH (HO.o.below Bq.o (aj _));have G7:Hid (Below w4.heap.size w4 w7):=zH (zD.o.trans (Bq.o.mono zD.o.size));have OL:=HO.o.lt;obtain ⟨ao,co,rfl,-⟩:=HO.o.own.parts;have Dt:=zD.o.size;have H5:=BQ.o.size;go_wp2_with (at_builtin;refine iZ (fun b=>w4.heap.size<=b) d9 rfl (.tmp 53) (.tmp 55) rfl w4.heap.size rfl (O7.o.alloc _) rfl (ONE.o _ (fun k hk=>Nat.lt_trans (HO.o.lt k hk).2 ZQ.o)) (fun _ _ h=>d9.mono h fun b hb=>⟨by have:=hb.1;omega,hb.2⟩) (by have:=Cw.o;simp;omega) (by have:=G7.o.size;simp;omega) ?_)
      intro v8 w8 ho8 hgr _;have O8:=zH ho8;have G8:Hid (Below w4.heap.size w4 w8):=zH (G7.o.trans (((ak w4.heap.size w7).alloc G7.o.size _).grown hgr (by have:=G7.o.size;simp;omega) (fun j hj=>(HO.o.lt j hj).1)));rw [<-HX.o] at O8;clear ho8 hgr c0 c1 c2 c3' xA c5 c6;go_wp2_with fail
      go_roundw
      case rel=>exact ⟨t+1,by omega,by go_num,O8.o,G8.o⟩
      case measure=>simp [intOf];omega
    ·obtain rfl:t=k:=by omega
     have OE:=zH ((HO.o.mono G4.o.size).imp fun b hb=>aD G4.o.size hb);go_wp2_with fail
     go_ret
     exact ⟨_,rfl,OE.o,HB.o⟩
end Go.Proofs.Ytmknpmamkjjiaaa