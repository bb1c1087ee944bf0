import Derived.Test.YtfgcodcablpdcaaGreatTxPuts
import Derived.Test.YtfgcodcablpdcaaGreatMsBox
set_option linter.unusedVariables false
set_option maxRecDepth 100000
set_option maxHeartbeats 64000000
namespace Go.Proofs.YtfgcodcablpdcaaGreat
open Go.Proofs.Tryz
open Go.RowKit Plain
theorem nS{B:Nat}{v l:Value}{xs:Bytes}{ns:List Int}{Q:Nat ->Prop}{w:World}(hv:By.jv B w v xs)(hB:B<=w.heap.size)(hl:Sq gL Q w l ns)(hQ:∀ b,Q b ->b<w.heap.size/\v.ownBlock≠some b)(hn:∀ n∈ns,0<=n/\n<72057594037927936)(hx:xs.length+8*ns.length<=900000000):
  Calls prog 125 #[v,l] w (jM B w v (xs++fZ ns)):=by
 have HL:Hid (∀ W u,Grow B w v W u ->fM gL W l ns):=zH (fun W u h=>h.sq hl hQ);obtain ⟨la,lc,lvs,rfl,k1,k2,-⟩:=hl;have CB:=zH (fun k (hk:k<ns.length)=>jW (fun n=>form (n:Int).toNat) ns (k:=k) hk);obtain ⟨P,hP⟩:∃ P:Nat ->Bytes,P=fun k=>fZ (ns.take k):=⟨_,rfl⟩
 have PS:Hid (∀ k,k<ns.length ->P (k+1)=P k++(form ((ns.getD k default):Int).toNat)):=zH (fun k hk=>by rw [hP];exact CB.o k hk);have P0:Hid (P 0=[]):=zH (by rw [hP];rfl);have PN:Hid (P ns.length=fZ ns):=zH (by rw [hP];show fZ (ns.take ns.length)=_;rw [bq]);have PL:Hid (∀ k,(P k).length<=8*ns.length):=zH (fun k=>by
  rw [hP];refine ak (j6 (fun n=>form (n:Int).toNat) 8 (ns.take k) fun n h=> ?_) (eO _ (by rw [aO];omega));have:=hn n (bO h);exact gP _ (by omega))
 have HM:=zH (fun k (hk:k<ns.length)=>hn _ (pJ (l:=ns) hk));have HO0:=zH hv;rw [<-PN.o];clear hP CB PN hn hQ;have OU:=zH hv.lt;obtain ⟨va,vc,rfl,-,-,-,-⟩:=hv.parts;have km:maxLen=9223372036854775807:=rfl;rw [km] at k2;clear km;obtain ⟨n,hN⟩:∃ n,ns.length=n:=⟨_,rfl⟩;rw [hN] at hx k1 PS PL HM ⊢;have LN:=zH hN;rw [hN] at HL;clear hv hN;generalize hxl:xs.length=xl at*;have XL:=zH hxl;clear hxl;go_enter func125,ntmps125
 go_wp2_with fail
 go_loopw [0,11] (fun z i wr=>∃ k:Nat,k<=n/\i= .int .i64 k/\By.jv B wr z (xs++P k)/\Grow B w (.slice va xl vc) wr z) (fun _ i _=>n-(intOf i).toNat)
 case atStart=>exact ⟨0,aL _,rfl,by rw [P0.o,aV];exact HO0.o,Grow.refl _ _ _⟩
 case round=>
  obtain ⟨k,hk,rfl,ho,hg⟩:=hrel;have HO:=zH ho;have HG:=zH hg;clear ho hg
  by_cases hlt:k<n
  ·have PK:=zH (PS.o k hlt)
   have LK:=zH (PL.o k);have MK:=HM.o k hlt;have SL:=HL.o _ _ HG.o;obtain ⟨b,o,c,hv,-,-,-,hc⟩:=(gW SL).spot (by rw [LN.o];omega);rw [LN.o] at hv;simp only [aC] at hv
   obtain ⟨rfl,-,rfl⟩:=hv;have c0:=hc k (by rw [LN.o];exact hlt);clear hc;change _=some (Value.int .i64 (ns.getD k default)) at c0;obtain ⟨m,hm⟩:∃ m:Nat,ns.getD k default=(m:Int):=⟨(ns.getD k default).toNat,by omega⟩;rw [hm] at c0 MK PK;clear hm;have hm2:m<72057594037927936:=by omega
   clear MK;clear SL;obtain ⟨za,zc,rfl,-,-,-,-⟩:=HO.o.parts;generalize (xs++P k).length=zl at*;have KP:=zH (By.zF (By.Seq.nil wr) (by simp) m hm2);have FL:=gP m hm2;replace PK:Hid (P (k+1)=P k++form m):=PK;generalize form m=fm at*;go_wp2_with fail
   refine KP.o.mono ?_;rintro e w2 ⟨v2,rfl,ho2,hb2⟩;rw [bJ] at ho2;have O2:=zH (HO.o.below hb2 (ah _));have G2:=zH (HG.o.keep hb2 hB);have S2:=zH ho2.seq;obtain ⟨a2,c2,rfl,-,-,-,-⟩:=ho2.parts;clear ho2 hb2 KP;have FL2:=zH FL;have Z2:=zH G2.o.size;clear FL;generalize hfe:fm.length=fl at*;have FE:=zH hfe;clear hfe;go_wp2_with (at_builtin;refine By.iq rfl (.tmp 20) (.tmp 21) rfl B rfl O2.o rfl S2.o (by rw [aA,XL.o,FE.o];have:=LK.o;have:=FL2.o;omega) (by have:=Z2.o;omega) ?_)
   intro v5 w5 ho5 hgr hat;have O5:=zH ho5;have G5:=zH (G2.o.app hgr hat (fun k hk=>(O2.o.lt k hk).1) hB);clear ho5 hgr hat;go_wp2_with fail
   go_roundw
   case rel=>exact ⟨k+1,by omega,by go_num,by rw [PK.o];exact O5.o,G5.o⟩
   case measure=>simp [intOf]<;>omega
  ·obtain rfl:k=n:=by omega
   go_wp2_with fail
   go_ret
   exact ⟨_,rfl,HO.o,HG.o⟩
theorem yY{B:Nat}{v l:Value}{xs:Bytes}{ns:List iE}{Q:Nat ->Prop}{w:World}(hv:By.jv B w v xs)(hB:B<=w.heap.size)(hl:Sq qP Q w l ns)(hQ:∀ b,Q b ->b<w.heap.size/\v.ownBlock≠some b)(hn:∀ n∈ns,n.length<=1000)(hx:xs.length+1008*ns.length<=900000000):
  Calls prog 127 #[v,l] w (jM B w v (xs++iT ns)):=by
 have HL:Hid (∀ W u,Grow B w v W u ->fM qP W l ns):=zH (fun W u h=>h.sq hl hQ);obtain ⟨la,lc,lvs,rfl,k1,k2,-⟩:=hl;have CB:=zH (fun k (hk:k<ns.length)=>jW (fun n=>form (n:iE).length++wO n) ns (k:=k) hk);obtain ⟨P,hP⟩:∃ P:Nat ->Bytes,P=fun k=>iT (ns.take k):=⟨_,rfl⟩
 have PS:Hid (∀ k,k<ns.length ->P (k+1)=P k++(form ((ns.getD k default):iE).length++wO (ns.getD k default))):=zH (fun k hk=>by rw [hP];exact CB.o k hk);have P0:Hid (P 0=[]):=zH (by rw [hP];rfl);have PN:Hid (P ns.length=iT ns):=zH (by rw [hP];show iT (ns.take ns.length)=_;rw [bq]);have PL:Hid (∀ k,(P k).length<=1008*ns.length):=zH (fun k=>by
  rw [hP];refine ak (j6 (fun n=>form (n:iE).length++wO n) 1008 (ns.take k) fun n h=> ?_) (eO _ (by rw [aO];omega));have:=hn n (bO h);rw [aA,oI];have:=gP n.length (by omega);omega)
 have HM:=zH (fun k (hk:k<ns.length)=>hn _ (pJ (l:=ns) hk));have HO0:=zH hv;rw [<-PN.o];clear hP CB PN hn hQ;have OU:=zH hv.lt;obtain ⟨va,vc,rfl,-,-,-,-⟩:=hv.parts;have km:maxLen=9223372036854775807:=rfl;rw [km] at k2;clear km;obtain ⟨n,hN⟩:∃ n,ns.length=n:=⟨_,rfl⟩;rw [hN] at hx k1 PS PL HM ⊢;have LN:=zH hN;rw [hN] at HL;clear hv hN;generalize hxl:xs.length=xl at*;have XL:=zH hxl;clear hxl;go_enter func127,ntmps127
 go_wp2_with fail
 go_loopw [0,11] (fun z i wr=>∃ k:Nat,k<=n/\i= .int .i64 k/\By.jv B wr z (xs++P k)/\Grow B w (.slice va xl vc) wr z) (fun _ i _=>n-(intOf i).toNat)
 case atStart=>exact ⟨0,aL _,rfl,by rw [P0.o,aV];exact HO0.o,Grow.refl _ _ _⟩
 case round=>
  obtain ⟨k,hk,rfl,ho,hg⟩:=hrel;have HO:=zH ho;have HG:=zH hg;clear ho hg
  by_cases hlt:k<n
  ·have PK:=zH (PS.o k hlt)
   have LK:=zH (PL.o k);have MK:=HM.o k hlt;have SL:=HL.o _ _ HG.o;obtain ⟨b,o,c,hv,-,-,-,hc⟩:=SL.spot (by rw [LN.o];omega);rw [LN.o] at hv;simp only [aC] at hv
   obtain ⟨rfl,-,rfl⟩:=hv;obtain ⟨vs,hr,hc0⟩:=hc k _ (getD_at (by rw [LN.o];exact hlt));obtain rfl:vs=[tv (ns.getD k default)]:=hr;have c0:=hc0 0 _ rfl;clear hc hc0;rw [show o+(k*qP.k+0)=o+k by show o+(k*1+0)=o+k;omega] at c0;unfold tv at c0;generalize ns.getD k default=t at*;clear SL;obtain ⟨za,zc,rfl,-,-,-,-⟩:=HO.o.parts;generalize (xs++P k).length=zl at*;have KP:=zH (By.Gy (By.Seq.nil wr) (by simp) (bt t) (show (bt t).size<=65536 by rw [nZ];omega));have FL:(form t.length++wO t).length<=1008:=by rw [aA,oI];have:=gP t.length (by omega);omega
   rw [Ro] at KP;generalize form t.length++wO t=fm at*;have hst:(bt t).size<=1000:=MK;clear MK;go_wp2_with fail
   refine KP.o.mono ?_;rintro e w2 ⟨v2,rfl,ho2,hb2⟩;rw [bJ] at ho2;have O2:=zH (HO.o.below hb2 (ah _));have G2:=zH (HG.o.keep hb2 hB);have S2:=zH ho2.seq;obtain ⟨a2,c2,rfl,-,-,-,-⟩:=ho2.parts;clear ho2 hb2 KP;have FL2:=zH FL;have Z2:=zH G2.o.size;clear FL;generalize hfe:fm.length=fl at*;have FE:=zH hfe;clear hfe;go_wp2_with (at_builtin;refine By.iq rfl (.tmp 20) (.tmp 21) rfl B rfl O2.o rfl S2.o (by rw [aA,XL.o,FE.o];have:=LK.o;have:=FL2.o;omega) (by have:=Z2.o;omega) ?_)
   intro v5 w5 ho5 hgr hat;have O5:=zH ho5;have G5:=zH (G2.o.app hgr hat (fun k hk=>(O2.o.lt k hk).1) hB);clear ho5 hgr hat;go_wp2_with fail
   go_roundw
   case rel=>exact ⟨k+1,by omega,by go_num,by rw [PK.o];exact O5.o,G5.o⟩
   case measure=>simp [intOf]<;>omega
  ·obtain rfl:k=n:=by omega
   go_wp2_with fail
   go_ret
   exact ⟨_,rfl,HO.o,HG.o⟩
theorem jS.same{w w':World}{b o:Nat}{x:fK}(h:jS w b o x)(he:w'.heap[b]? =w.heap[b]?):jS w' b o x:=by
 have c:∀ (j:Nat) (v:Value),w.cell? ⟨b,j,none⟩=some v ->w'.cell? ⟨b,j,none⟩=some v:=fun j v g=>(aQ (w:=w) (a:=⟨b,j,none⟩) he).trans g
 exact ⟨c _ _ h.c0,c _ _ h.c1,c _ _ h.c2,c _ _ h.c3,c _ _ h.c4,c _ _ h.c5,c _ _ h.c6,c _ _ h.c7⟩
def PutI(x:fK):Prop:=x.key.length<=1000/\x.field.length<=1000/\(0<=x.kind/\x.kind<=3)/\x.elem.length<=1000/\Nm.Plain.fits x.n/\(0<=x.dot.node/\x.dot.node<=1073741824)/\(0<=x.dot.seq/\x.dot.seq<=1073741824)/\(0<=x.dot.pos/\x.dot.pos<=1073741824)
theorem putI_of{x:fK}(h:iH x=true)(hn:Nm.Plain.fits x.n):PutI x:=by
 obtain ⟨h1,h2,h3,h4,h5,h6⟩:=wQ h;unfold jX at h1;rw [decide_eq_true_iff] at h1;exact ⟨by omega,by omega,by omega,by omega,hn,by omega,by omega,by omega⟩
theorem U9{B:Nat}{v:Value}{xs:Bytes}{x:fK}{w:World}(hv:By.jv B w v xs)(hB:B<=w.heap.size)(hp:PutI x)(hl:xs.length<=800000000):
  Calls prog 128 #[v,.agg #[.string (bt x.key),.string (bt x.field),.int .i64 x.kind,.string (bt x.elem),.int .i64 x.n,.int .i64 x.dot.node,.int .i64 x.dot.seq,.int .i64 x.dot.pos]] w (jM B w v (xs++pI x)):=by
 have EB:=zH (tO w x);have ZE:Hid (w.heap.size<(w.alloc (.cells #[.string (bt x.key),.string (bt x.field),.int .i64 x.kind,.string (bt x.elem),.int .i64 x.n,.int .i64 x.dot.node,.int .i64 x.dot.seq,.int .i64 x.dot.pos] 79)).heap.size):=zH (by simp);have ZB:Hid (B<=(w.alloc (.cells #[.string (bt x.key),.string (bt x.field),.int .i64 x.kind,.string (bt x.elem),.int .i64 x.n,.int .i64 x.dot.node,.int .i64 x.dot.seq,.int .i64 x.dot.pos] 79)).heap.size):=zH (by simp;omega);have NE:Hid (v.ownBlock≠some w.heap.size):=zH (fun e=>by have:=(hv.lt _ e).2;omega);have GW:Hid (Grow B w v (w.alloc (.cells #[.string (bt x.key),.string (bt x.field),.int .i64 x.kind,.string (bt x.elem),.int .i64 x.n,.int .i64 x.dot.node,.int .i64 x.dot.seq,.int .i64 x.dot.pos] 79)) v):=zH ((Grow.refl B w v).keep ((aj _ _).alloc (ah _) _) hB);have O0:=zH (hv.alloc (.cells #[.string (bt x.key),.string (bt x.field),.int .i64 x.kind,.string (bt x.elem),.int .i64 x.n,.int .i64 x.dot.node,.int .i64 x.dot.seq,.int .i64 x.dot.pos] 79));have G0:=zH (Grow.refl B (w.alloc (.cells #[.string (bt x.key),.string (bt x.field),.int .i64 x.kind,.string (bt x.elem),.int .i64 x.n,.int .i64 x.dot.node,.int .i64 x.dot.seq,.int .i64 x.dot.pos] 79)) v);obtain ⟨p1,p2,p3,p4,p5,p6,p7,p8⟩:=hp;have P1:=zH p1;have P2:=zH p2;have P3:=zH p3;have P4:=zH p4;have P5:=zH p5;have P6:=zH p6;have P7:=zH p7;have P8:=zH p8;have HPE:Hid (pI x=iT [x.key,x.field]++fZ [x.kind]++iT [x.elem]++lI x.n++fZ [x.dot.node,x.dot.seq,x.dot.pos]):=zH rfl;clear p1 p2 p3 p4 p5 p6 p7 p8;obtain ⟨a0,c0,rfl,-,-,-,-⟩:=hv.parts;clear hv;generalize hxl:xs.length=xl at*;have M0:=zH hxl;have N0:Hid (xs.length<=xl+0):=zH (by omega);clear hxl;obtain ⟨Y0,hY0⟩:∃ Y,Y=xs:=⟨_,rfl⟩;rw [<-hY0] at O0 M0 N0 ⊢;clear hY0;obtain ⟨n0,hn0⟩:∃ n,n=xl:=⟨_,rfl⟩;rw [<-hn0] at O0 G0 NE GW ⊢;go_enter func128,ntmps128
 go_upto_region 1 with fail
 clear hn0;generalize (w.alloc _)=u0 at*;have K1:Hid (Calls prog 127 #[.slice a0 n0 c0,.slice (some ⟨u0.heap.size,0,none⟩) 2 2] (u0.alloc (.cells #[.string (bt x.key),.string (bt x.field)] 9)) (jM B (u0.alloc (.cells #[.string (bt x.key),.string (bt x.field)] 9)) (.slice a0 n0 c0) (Y0++iT [x.key,x.field]))):=zH (yY (O0.o.alloc _) (by have:=G0.o.size;have:=ZB.o;simp;omega) (CJ u0 #[.string (bt x.key),.string (bt x.field)] [x.key,x.field] (.slice a0 n0 c0) rfl (by simp) (fun k hk=>(O0.o.lt k hk).2)) (fun b hb=>hb) (by intro n hn;simp at hn;rcases hn with rfl|rfl;exact P1.o;exact P2.o) (by have:=N0.o;simp;omega));have LL1:=qQ (ns:=[x.key,x.field]) (by intro n hn;simp at hn;rcases hn with rfl|rfl;exact P1.o;exact P2.o);simp only [aZ,bf] at LL1
 obtain ⟨e0,e1,e2,e3,e4,e5,e6,e7⟩:=(EB.o.same (G0.o.kept _ ZE.o NE.o)).zero;go_wp2_with fail
 refine K1.o.mono ?_;rintro e u1 ⟨v',rfl,ho,hg⟩;have G1:=zH ((G0.o.keep ((aj _ _).alloc (ah _) _) ZB.o).trans hg);obtain ⟨a1,c1,rfl,-,-,-,-⟩:=ho.parts;have O1:=zH ho;clear ho hg K1;have YL:(Y0++iT [x.key,x.field]).length<=xl+2016:=by rw [aA];have:=N0.o;omega
 clear LL1;generalize hn:(Y0++iT [x.key,x.field]).length=n1 at*;generalize hY:Y0++iT [x.key,x.field]=Y1 at*;have E1:=zH hY.symm;have N1:Hid (Y1.length<=xl+2016):=zH (by rw [hn];exact YL);have M1:=zH hn;clear hn hY YL;clear e0 e1 e2 e3 e4 e5 e6 e7;have K2:Hid (Calls prog 125 #[.slice a1 n1 c1,.slice (some ⟨u1.heap.size,0,none⟩) 1 1] (u1.alloc (.cells #[.int .i64 x.kind] 3)) (jM B (u1.alloc (.cells #[.int .i64 x.kind] 3)) (.slice a1 n1 c1) (Y1++fZ [x.kind]))):=zH (nS (O1.o.alloc _) (by have:=G1.o.size;have:=ZB.o;simp;omega) (l9 u1 #[.int .i64 x.kind] [x.kind] (.slice a1 n1 c1) rfl (by simp) (fun k hk=>(O1.o.lt k hk).2)) (fun b hb=>hb) (by intro n hn;simp at hn;have:=P3.o;omega) (by have:=N1.o;simp;omega));have LL2:=iU (ns:=[x.kind]) (by intro n hn;simp at hn;have:=P3.o;omega);simp only [aZ,bf] at LL2
 obtain ⟨e0,e1,e2,e3,e4,e5,e6,e7⟩:=(EB.o.same (G1.o.kept _ ZE.o NE.o)).zero;go_wp2_with fail
 refine K2.o.mono ?_;rintro e u2 ⟨v',rfl,ho,hg⟩;have G2:=zH ((G1.o.keep ((aj _ _).alloc (ah _) _) ZB.o).trans hg);obtain ⟨a2,c2,rfl,-,-,-,-⟩:=ho.parts;have O2:=zH ho;clear ho hg K2;have YL:(Y1++fZ [x.kind]).length<=xl+2024:=by rw [aA];have:=N1.o;omega
 clear LL2;generalize hn:(Y1++fZ [x.kind]).length=n2 at*;generalize hY:Y1++fZ [x.kind]=Y2 at*;have E2:=zH hY.symm;have N2:Hid (Y2.length<=xl+2024):=zH (by rw [hn];exact YL);have M2:=zH hn;clear hn hY YL;clear e0 e1 e2 e3 e4 e5 e6 e7;have K3:Hid (Calls prog 127 #[.slice a2 n2 c2,.slice (some ⟨u2.heap.size,0,none⟩) 1 1] (u2.alloc (.cells #[.string (bt x.elem)] 9)) (jM B (u2.alloc (.cells #[.string (bt x.elem)] 9)) (.slice a2 n2 c2) (Y2++iT [x.elem]))):=zH (yY (O2.o.alloc _) (by have:=G2.o.size;have:=ZB.o;simp;omega) (CJ u2 #[.string (bt x.elem)] [x.elem] (.slice a2 n2 c2) rfl (by simp) (fun k hk=>(O2.o.lt k hk).2)) (fun b hb=>hb) (by intro n hn;simp at hn;subst hn;exact P4.o) (by have:=N2.o;simp;omega));have LL3:=qQ (ns:=[x.elem]) (by intro n hn;simp at hn;subst hn;exact P4.o);simp only [aZ,bf] at LL3
 obtain ⟨e0,e1,e2,e3,e4,e5,e6,e7⟩:=(EB.o.same (G2.o.kept _ ZE.o NE.o)).zero;go_wp2_with fail
 refine K3.o.mono ?_;rintro e u3 ⟨v',rfl,ho,hg⟩;have G3:=zH ((G2.o.keep ((aj _ _).alloc (ah _) _) ZB.o).trans hg);obtain ⟨a3,c3,rfl,-,-,-,-⟩:=ho.parts;have O3:=zH ho;clear ho hg K3;have YL:(Y2++iT [x.elem]).length<=xl+3032:=by rw [aA];have:=N2.o;omega
 clear LL3;generalize hn:(Y2++iT [x.elem]).length=n3 at*;generalize hY:Y2++iT [x.elem]=Y3 at*;have E3:=zH hY.symm;have N3:Hid (Y3.length<=xl+3032):=zH (by rw [hn];exact YL);have M3:=zH hn;clear hn hY YL;clear e0 e1 e2 e3 e4 e5 e6 e7;have KI:=zH (By.Gx (By.Seq.nil u3) (by simp) x.n P5.o.1 P5.o.2);obtain ⟨e0,e1,e2,e3,e4,e5,e6,e7⟩:=(EB.o.same (G3.o.kept _ ZE.o NE.o)).zero;go_wp2_with fail
 refine KI.o.mono ?_;rintro e u3b ⟨v2,rfl,ho2,hb2⟩;rw [bJ] at ho2;have O3b:=zH (O3.o.below hb2 (ah _));have G3b:=zH (G3.o.keep hb2 ZB.o);have S3:=zH ho2.seq;have IL:=zH (mV x.n);obtain ⟨a2,c2,rfl,-,-,-,-⟩:=ho2.parts;clear ho2 hb2 KI e0 e1 e2 e3 e4 e5 e6 e7;generalize hil:(lI x.n).length=il at*;clear hil;generalize hIF:lI x.n=IF at*;have IFE:=zH hIF.symm;clear hIF;have ILF:Hid (IF.length=il):=zH (by
  obtain ⟨a,c,hv,-⟩:=S3.o;simp only [aC] at hv
  exact hv.2.1.symm)
 go_wp2_with (at_builtin;refine By.iq rfl (.tmp 22) (.tmp 25) rfl B rfl O3b.o rfl S3.o (by rw [ILF.o];have:=N3.o;have:=IL.o;omega) (by have:=G3b.o.size;have:=ZB.o;omega) ?_)
 intro v5 u4 ho hgr hat;have G4:=zH (G3b.o.app hgr hat (fun k hk=>(O3b.o.lt k hk).1) ZB.o);obtain ⟨a4,c4,rfl,-,-,-,-⟩:=ho.parts;have O4:=zH ho;clear ho hgr hat;have YL:(Y3++IF).length<=xl+3040:=by rw [aA,ILF.o];have:=N3.o;have:=IL.o;omega
 generalize hn:(Y3++IF).length=n4 at*;generalize hY:Y3++IF=Y4 at*;have E4:=zH hY.symm;have N4:Hid (Y4.length<=xl+3040):=zH (by rw [hn];exact YL);have M4:=zH hn;clear hn hY YL IL;have K5:Hid (Calls prog 125 #[.slice a4 n4 c4,.slice (some ⟨u4.heap.size,0,none⟩) 3 3] (u4.alloc (.cells #[.int .i64 x.dot.node,.int .i64 x.dot.seq,.int .i64 x.dot.pos] 3)) (jM B (u4.alloc (.cells #[.int .i64 x.dot.node,.int .i64 x.dot.seq,.int .i64 x.dot.pos] 3)) (.slice a4 n4 c4) (Y4++fZ [x.dot.node,x.dot.seq,x.dot.pos]))):=zH (nS (O4.o.alloc _) (by have:=G4.o.size;have:=ZB.o;simp;omega) (l9 u4 #[.int .i64 x.dot.node,.int .i64 x.dot.seq,.int .i64 x.dot.pos] [x.dot.node,x.dot.seq,x.dot.pos] (.slice a4 n4 c4) rfl (by simp) (fun k hk=>(O4.o.lt k hk).2)) (fun b hb=>hb) (by intro n hn;simp at hn;have:=P6.o;have:=P7.o;have:=P8.o;omega) (by have:=N4.o;simp;omega));have LL5:=iU (ns:=[x.dot.node,x.dot.seq,x.dot.pos]) (by intro n hn;simp at hn;have:=P6.o;have:=P7.o;have:=P8.o;omega);simp only [aZ,bf] at LL5
 obtain ⟨e0,e1,e2,e3,e4,e5,e6,e7⟩:=(EB.o.same (G4.o.kept _ ZE.o NE.o)).zero;go_wp2_with fail
 refine K5.o.mono ?_;rintro e u5 ⟨v',rfl,ho,hg⟩;have G5:=zH ((G4.o.keep ((aj _ _).alloc (ah _) _) ZB.o).trans hg);obtain ⟨a5,c5,rfl,-,-,-,-⟩:=ho.parts;have O5:=zH ho;clear ho hg K5;have YL:(Y4++fZ [x.dot.node,x.dot.seq,x.dot.pos]).length<=xl+3064:=by rw [aA];have:=N4.o;omega
 clear LL5;generalize hn:(Y4++fZ [x.dot.node,x.dot.seq,x.dot.pos]).length=n5 at*;generalize hY:Y4++fZ [x.dot.node,x.dot.seq,x.dot.pos]=Y5 at*;have E5:=zH hY.symm;have N5:Hid (Y5.length<=xl+3064):=zH (by rw [hn];exact YL);have M5:=zH hn;clear hn hY YL;clear e0 e1 e2 e3 e4 e5 e6 e7;have OE:Hid (By.jv B u5 _ (Y0++pI x)):=zH (by
  have h:=O5.o;rw [E5.o,E4.o,E3.o,E2.o,E1.o] at h;rw [HPE.o]
  simpa only [aY] using h)
 go_wp2_with fail
 go_ret
 exact ⟨_,rfl,OE.o,GW.o.trans G5.o⟩
theorem YM(b:Bool)(w:World):Calls prog 126 #[.bool b] w fun e w'=>e= .returned (.int .i64 (rX b))/\w'=w:=by
 cases b with
 |true=>
  go_enter func126,ntmps126
  go_wp2_with fail
  go_ret
  exact ⟨rfl,rfl⟩
 |false=>
  go_enter func126,ntmps126
  go_wp2_with fail
  go_ret
  exact ⟨rfl,rfl⟩
end Go.Proofs.YtfgcodcablpdcaaGreat