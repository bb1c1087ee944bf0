import Derived.Test.YtfgcodcablpdcaaGreatTxRds
set_option linter.unusedVariables false
set_option maxRecDepth 100000
set_option maxHeartbeats 64000000
namespace Go.Proofs.YtfgcodcablpdcaaGreat
open Go.Proofs.Tryz
open Go.RowKit Plain
theorem oneStr{vs:List Value}{x:iE}(h:vs=[tv x]):∀ u∈vs,u.oneCell'=true:=by
 subst h;intro u hu;rw [bE.1 hu]
 rfl
theorem infoStr:(prog.info? 9).map (fun i=>(i.zero,i.size,i.bytes))=some (some (.string ByteArray.empty),1,16):=by kernel_rfl
def qP:El iE where
 k:=1
 E:=9
 S:=44
 zero:= .string ByteArray.empty
 bytes:=16
 R:=fun _ _ vs x=>vs=[tv x]
 pos:=by decide
 small:=by decide
 len:=fun h=>by rw [h];rfl
 one:=oneStr
 mono:=fun h _=>h
 agree:=fun h _=>h
 und:=underlying44
 info:=infoStr
 tV:=rfl
structure Grow(B:Nat)(w:World)(v:Value)(w':World)(u:Value):Prop where
 below:Below B w w'
 kept:∀ b,b<w.heap.size ->v.ownBlock≠some b ->w'.heap[b]? =w.heap[b]?
 own:∀ k,u.ownBlock=some k ->v.ownBlock=some k\/w.heap.size<=k
theorem Grow.refl(B:Nat)(w:World)(v:Value):Grow B w v w v:=⟨aj _ _,fun _ _ _=>rfl,fun _ h=> .inl h⟩
theorem Grow.keep{B:Nat}{w w' w'':World}{v u:Value}(h:Grow B w v w' u)(hb:Below w'.heap.size w' w'')(hB:B<=w.heap.size):Grow B w v w'' u:=
 ⟨h.below.trans (hb.mono (ak hB h.below.size)),fun b hl hn=>(hb.block b (ay hl h.below.size)).trans (h.kept b hl hn),h.own⟩
theorem Grow.app{B:Nat}{w w' w'':World}{v u x:Value}(h:Grow B w v w' u)(hg:w'.grownBy w'' u.ownBlock)(hat:x.ownBlock=u.ownBlock\/x.ownBlock=some w'.heap.size)(hu:∀ k,u.ownBlock=some k ->B<=k)(hB:B<=w.heap.size):Grow B w v w'' x:=by
 have hs:=h.below.size;refine ⟨h.below.grown hg (by omega) hu,fun b hl hn=>(hg.block b (by omega) fun e=> ?_).trans (h.kept b hl hn),fun k hk=> ?_⟩
 ·rcases h.own b e.symm with e2|e2
  ·exact hn e2
  ·omega
 ·rcases hat with e|e
  ·rw [e] at hk;exact h.own k hk
  ·rw [e] at hk;cases hk;exact .inr hs
theorem Grow.trans{B:Nat}{w w' w'':World}{v u x:Value}(h:Grow B w v w' u)(k:Grow B w' u w'' x):Grow B w v w'' x:=by
 have hs:=h.below.size;refine ⟨h.below.trans k.below,fun b hl hn=>(k.kept b (by omega) fun e=> ?_).trans (h.kept b hl hn),fun j hj=> ?_⟩
 ·rcases h.own b e with e2|e2
  ·exact hn e2
  ·omega
 ·rcases k.own j hj with e|e
  ·exact h.own j e
  ·exact .inr (by omega)
theorem Grow.size{B:Nat}{w w':World}{v u:Value}(h:Grow B w v w' u):w.heap.size<=w'.heap.size:=h.below.size
def jM(B:Nat)(w:World)(v:Value)(xs:Bytes)(e:Ending)(w':World):Prop:=∃ u,e= .returned u/\By.jv B w' u xs/\Grow B w v w' u
theorem Grow.sq{α:Type}{L:El α}{B:Nat}{w w':World}{v u l:Value}{Q:Nat ->Prop}{xs:List α}(h:Grow B w v w' u)(hl:Sq L Q w l xs)(hQ:∀ b,Q b ->b<w.heap.size/\v.ownBlock≠some b):fM L w' l xs:=
 (hl.agree fun b hb=>h.kept b (hQ b hb).1 (hQ b hb).2).mono fun b hb=>ay (hQ b hb).1 h.size
theorem Ml{α:Type}{L:El α}(w:World)(C:Array Value)(xs:List α)(v:Value)(hr:Rows L (· <w.heap.size) w C.toList xs)(hl:xs.length<=1000000)(hf:Flat L)(hv:∀ k,v.ownBlock=some k ->k<w.heap.size):
  Sq L (fun b=>b<(w.alloc (.cells C L.E)).heap.size/\v.ownBlock≠some b) (w.alloc (.cells C L.E)) (.slice (some ⟨w.heap.size,0,none⟩) xs.length xs.length) xs:=by
 refine ⟨_,xs.length,C.toList,rfl,ah _,by unfold maxLen;omega,(by simp),⟨hr.1,fun j x hj=>hf (hr.2 j x hj)⟩,fun hp=>⟨w.heap.size,0,rfl,⟨by simp,fun e=>by have:=hv _ e;omega⟩,fun i u hi=> ?_⟩⟩;rw [aJ];rw [cB] at hi;simp only [bg,hi]
theorem Ep{α:Type}{L:El α}(hk:L.k=1)(P:Nat ->Prop)(w:World)(f:α ->Value)(hR:∀ x,L.R P w [f x] x):∀ xs:List α,Rows L P w (xs.map f) xs
 |[]=>Rows.nil _ _
 |x::xs=>(Rows.Bc (hR x)).append (Ep hk P w f hR xs)
theorem l9(w:World)(C:Array Value)(ns:List Int)(v:Value)(hC:C.toList=ns.map (.int .i64))(hl:ns.length<=1000000)(hv:∀ k,v.ownBlock=some k ->k<w.heap.size):
  Sq gL (fun b=>b<(w.alloc (.cells C 3)).heap.size/\v.ownBlock≠some b) (w.alloc (.cells C 3)) (.slice (some ⟨w.heap.size,0,none⟩) ns.length ns.length) ns:=
 Ml (L:=gL) w C ns v (by rw [hC];exact Ep rfl _ _ _ (fun _=>rfl) ns) hl gU hv
theorem nT:Flat qP:=fun h=>h
theorem CJ(w:World)(C:Array Value)(ts:List iE)(v:Value)(hC:C.toList=ts.map tv)(hl:ts.length<=1000000)(hv:∀ k,v.ownBlock=some k ->k<w.heap.size):
  Sq qP (fun b=>b<(w.alloc (.cells C 9)).heap.size/\v.ownBlock≠some b) (w.alloc (.cells C 9)) (.slice (some ⟨w.heap.size,0,none⟩) ts.length ts.length) ts:=
 Ml (L:=qP) w C ts v (by rw [hC];exact Ep rfl _ _ _ (fun _=>rfl) ts) hl nT hv
theorem jW{α:Type}[Inhabited α](f:α ->Bytes)(l:List α){k:Nat}(hk:k<l.length):(l.take (k+1)).flatMap f=(l.take k).flatMap f++f (l.getD k default):=by
 rw [oZ hk,List.flatMap_append];simp
theorem j6{α:Type}(f:α ->Bytes)(m:Nat):∀ (l:List α),(∀ x∈l,(f x).length<=m) ->(l.flatMap f).length<=m*l.length
 |[],_=>by simp
 |x::l,h=>by
  rw [List.flatMap_cons,aA,aZ,Nat.mul_succ];have h1:=h x dV;have h2:=j6 f m l fun y hy=>h y (bY _ hy)
  omega
theorem pJ{α:Type}[Inhabited α]{l:List α}{k:Nat}(hk:k<l.length):l.getD k default∈l:=by
 rw [show l.getD k default=l[k] by simp [List.getD,List.getElem?_eq_getElem hk]];exact aU hk
theorem Ro(s:iE):Wh (bt s)=form s.length++wO s:=rfl
theorem qR{B:Nat}{v l:Value}{xs:Bytes}{ns:List Int}{Q:Nat ->Prop}{w:World}(hv:By.jv B w v xs)(hB:B<=w.heap.size)(hl:Sq gL Q w l ns)(hQ:∀ b,Q b ->b<w.heap.size/\v.ownBlock≠some b)(hn:∀ n∈ns,0<=n/\n<72057594037927936)(hx:xs.length+8*ns.length<=900000):
  Calls prog 254 #[v,l] w (jM B w v (xs++fZ ns)):=by
 have HL:Hid (∀ W u,Grow B w v W u ->fM gL W l ns):=zH (fun W u h=>h.sq hl hQ);obtain ⟨la,lc,lvs,rfl,k1,k2,-⟩:=hl;have CB:=zH (fun k (hk:k<ns.length)=>jW (fun n=>form (n:Int).toNat) ns (k:=k) hk);obtain ⟨P,hP⟩:∃ P:Nat ->Bytes,P=fun k=>fZ (ns.take k):=⟨_,rfl⟩
 have PS:Hid (∀ k,k<ns.length ->P (k+1)=P k++(form ((ns.getD k default):Int).toNat)):=zH (fun k hk=>by rw [hP];exact CB.o k hk);have P0:Hid (P 0=[]):=zH (by rw [hP];rfl);have PN:Hid (P ns.length=fZ ns):=zH (by rw [hP];show fZ (ns.take ns.length)=_;rw [bq]);have PL:Hid (∀ k,(P k).length<=8*ns.length):=zH (fun k=>by
  rw [hP];refine ak (j6 (fun n=>form (n:Int).toNat) 8 (ns.take k) fun n h=> ?_) (eO _ (by rw [aO];omega));have:=hn n (bO h);exact gP _ (by omega))
 have HM:=zH (fun k (hk:k<ns.length)=>hn _ (pJ (l:=ns) hk));have HO0:=zH hv;rw [<-PN.o];clear hP CB PN hn hQ;have OU:=zH hv.lt;obtain ⟨va,vc,rfl,-,-,-,-⟩:=hv.parts;have km:maxLen=9223372036854775807:=rfl;rw [km] at k2;clear km;obtain ⟨n,hN⟩:∃ n,ns.length=n:=⟨_,rfl⟩;rw [hN] at hx k1 PS PL HM ⊢;have LN:=zH hN;rw [hN] at HL;clear hv hN;generalize hxl:xs.length=xl at*;have XL:=zH hxl;clear hxl;go_enter func254,ntmps254
 go_wp2_with fail
 go_loopw [0,11] (fun z i wr=>∃ k:Nat,k<=n/\i= .int .i64 k/\By.jv B wr z (xs++P k)/\Grow B w (.slice va xl vc) wr z) (fun _ i _=>n-(intOf i).toNat)
 case atStart=>exact ⟨0,aL _,rfl,by rw [P0.o,aV];exact HO0.o,Grow.refl _ _ _⟩
 case round=>
  obtain ⟨k,hk,rfl,ho,hg⟩:=hrel;have HO:=zH ho;have HG:=zH hg;clear ho hg
  by_cases hlt:k<n
  ·have PK:=zH (PS.o k hlt)
   have LK:=zH (PL.o k);have MK:=HM.o k hlt;have SL:=HL.o _ _ HG.o;obtain ⟨b,o,c,hv,-,-,-,hc⟩:=(gW SL).spot (by rw [LN.o];omega);rw [LN.o] at hv;simp only [aC] at hv
   obtain ⟨rfl,-,rfl⟩:=hv;have c0:=hc k (by rw [LN.o];exact hlt);clear hc;change _=some (Value.int .i64 (ns.getD k default)) at c0;obtain ⟨m,hm⟩:∃ m:Nat,ns.getD k default=(m:Int):=⟨(ns.getD k default).toNat,by omega⟩;rw [hm] at c0 MK PK;clear hm;have hm2:m<72057594037927936:=by omega
   clear MK;clear SL;obtain ⟨za,zc,rfl,-,-,-,-⟩:=HO.o.parts;generalize (xs++P k).length=zl at*;have KP:=zH (By.zF (By.Seq.nil wr) (by simp) m hm2);have FL:=gP m hm2;replace PK:Hid (P (k+1)=P k++form m):=PK;generalize form m=fm at*;go_wp2_with fail
   refine KP.o.mono ?_;rintro e w2 ⟨v2,rfl,ho2,hb2⟩;rw [bJ] at ho2;have O2:=zH (HO.o.below hb2 (ah _));have G2:=zH (HG.o.keep hb2 hB);have S2:=zH ho2.seq;obtain ⟨a2,c2,rfl,-,-,-,-⟩:=ho2.parts;clear ho2 hb2 KP;have FL2:=zH FL;have Z2:=zH G2.o.size;clear FL;generalize hfe:fm.length=fl at*;have FE:=zH hfe;clear hfe;go_wp2_with (at_builtin;refine By.iq rfl (.tmp 20) (.tmp 21) rfl B rfl O2.o rfl S2.o (by rw [aA,XL.o,FE.o];have:=LK.o;have:=FL2.o;omega) (by have:=Z2.o;omega) ?_)
   intro v5 w5 ho5 hgr hat;have O5:=zH ho5;have G5:=zH (G2.o.app hgr hat (fun k hk=>(O2.o.lt k hk).1) hB);clear ho5 hgr hat;go_wp2_with fail
   go_roundw
   case rel=>exact ⟨k+1,by omega,by go_num,by rw [PK.o];exact O5.o,G5.o⟩
   case measure=>simp [intOf]<;>omega
  ·obtain rfl:k=n:=by omega
   go_wp2_with fail
   go_ret
   exact ⟨_,rfl,HO.o,HG.o⟩
theorem JK{B:Nat}{v l:Value}{xs:Bytes}{ns:List iE}{Q:Nat ->Prop}{w:World}(hv:By.jv B w v xs)(hB:B<=w.heap.size)(hl:Sq qP Q w l ns)(hQ:∀ b,Q b ->b<w.heap.size/\v.ownBlock≠some b)(hn:∀ n∈ns,n.length<=1000)(hx:xs.length+1008*ns.length<=900000):
  Calls prog 294 #[v,l] w (jM B w v (xs++iT ns)):=by
 have HL:Hid (∀ W u,Grow B w v W u ->fM qP W l ns):=zH (fun W u h=>h.sq hl hQ);obtain ⟨la,lc,lvs,rfl,k1,k2,-⟩:=hl;have CB:=zH (fun k (hk:k<ns.length)=>jW (fun n=>form (n:iE).length++wO n) ns (k:=k) hk);obtain ⟨P,hP⟩:∃ P:Nat ->Bytes,P=fun k=>iT (ns.take k):=⟨_,rfl⟩
 have PS:Hid (∀ k,k<ns.length ->P (k+1)=P k++(form ((ns.getD k default):iE).length++wO (ns.getD k default))):=zH (fun k hk=>by rw [hP];exact CB.o k hk);have P0:Hid (P 0=[]):=zH (by rw [hP];rfl);have PN:Hid (P ns.length=iT ns):=zH (by rw [hP];show iT (ns.take ns.length)=_;rw [bq]);have PL:Hid (∀ k,(P k).length<=1008*ns.length):=zH (fun k=>by
  rw [hP];refine ak (j6 (fun n=>form (n:iE).length++wO n) 1008 (ns.take k) fun n h=> ?_) (eO _ (by rw [aO];omega));have:=hn n (bO h);rw [aA,oI];have:=gP n.length (by omega);omega)
 have HM:=zH (fun k (hk:k<ns.length)=>hn _ (pJ (l:=ns) hk));have HO0:=zH hv;rw [<-PN.o];clear hP CB PN hn hQ;have OU:=zH hv.lt;obtain ⟨va,vc,rfl,-,-,-,-⟩:=hv.parts;have km:maxLen=9223372036854775807:=rfl;rw [km] at k2;clear km;obtain ⟨n,hN⟩:∃ n,ns.length=n:=⟨_,rfl⟩;rw [hN] at hx k1 PS PL HM ⊢;have LN:=zH hN;rw [hN] at HL;clear hv hN;generalize hxl:xs.length=xl at*;have XL:=zH hxl;clear hxl;go_enter func294,ntmps294
 go_wp2_with fail
 go_loopw [0,11] (fun z i wr=>∃ k:Nat,k<=n/\i= .int .i64 k/\By.jv B wr z (xs++P k)/\Grow B w (.slice va xl vc) wr z) (fun _ i _=>n-(intOf i).toNat)
 case atStart=>exact ⟨0,aL _,rfl,by rw [P0.o,aV];exact HO0.o,Grow.refl _ _ _⟩
 case round=>
  obtain ⟨k,hk,rfl,ho,hg⟩:=hrel;have HO:=zH ho;have HG:=zH hg;clear ho hg
  by_cases hlt:k<n
  ·have PK:=zH (PS.o k hlt)
   have LK:=zH (PL.o k);have MK:=HM.o k hlt;have SL:=HL.o _ _ HG.o;obtain ⟨b,o,c,hv,-,-,-,hc⟩:=SL.spot (by rw [LN.o];omega);rw [LN.o] at hv;simp only [aC] at hv
   obtain ⟨rfl,-,rfl⟩:=hv;obtain ⟨vs,hr,hc0⟩:=hc k _ (getD_at (by rw [LN.o];exact hlt));obtain rfl:vs=[tv (ns.getD k default)]:=hr;have c0:=hc0 0 _ rfl;clear hc hc0;rw [show o+(k*qP.k+0)=o+k by show o+(k*1+0)=o+k;omega] at c0;unfold tv at c0;generalize ns.getD k default=t at*;clear SL;obtain ⟨za,zc,rfl,-,-,-,-⟩:=HO.o.parts;generalize (xs++P k).length=zl at*;have KP:=zH (By.Gy (By.Seq.nil wr) (by simp) (bt t) (show (bt t).size<=65536 by rw [nZ];omega));have FL:(form t.length++wO t).length<=1008:=by rw [aA,oI];have:=gP t.length (by omega);omega
   rw [Ro] at KP;generalize form t.length++wO t=fm at*;have hst:(bt t).size<=1000:=MK;clear MK;go_wp2_with fail
   refine KP.o.mono ?_;rintro e w2 ⟨v2,rfl,ho2,hb2⟩;rw [bJ] at ho2;have O2:=zH (HO.o.below hb2 (ah _));have G2:=zH (HG.o.keep hb2 hB);have S2:=zH ho2.seq;obtain ⟨a2,c2,rfl,-,-,-,-⟩:=ho2.parts;clear ho2 hb2 KP;have FL2:=zH FL;have Z2:=zH G2.o.size;clear FL;generalize hfe:fm.length=fl at*;have FE:=zH hfe;clear hfe;go_wp2_with (at_builtin;refine By.iq rfl (.tmp 20) (.tmp 21) rfl B rfl O2.o rfl S2.o (by rw [aA,XL.o,FE.o];have:=LK.o;have:=FL2.o;omega) (by have:=Z2.o;omega) ?_)
   intro v5 w5 ho5 hgr hat;have O5:=zH ho5;have G5:=zH (G2.o.app hgr hat (fun k hk=>(O2.o.lt k hk).1) hB);clear ho5 hgr hat;go_wp2_with fail
   go_roundw
   case rel=>exact ⟨k+1,by omega,by go_num,by rw [PK.o];exact O5.o,G5.o⟩
   case measure=>simp [intOf]<;>omega
  ·obtain rfl:k=n:=by omega
   go_wp2_with fail
   go_ret
   exact ⟨_,rfl,HO.o,HG.o⟩
theorem pF.same{w w':World}{b o:Nat}{x:gD}{dv:Value}(h:pF w b o x dv)(he:w'.heap[b]? =w.heap[b]?):pF w' b o x dv:=by
 have c:∀ (j:Nat) (v:Value),w.cell? ⟨b,j,none⟩=some v ->w'.cell? ⟨b,j,none⟩=some v:=fun j v g=>(aQ (w:=w) (a:=⟨b,j,none⟩) he).trans g
 exact ⟨c _ _ h.c0,c _ _ h.c1,c _ _ h.c2,c _ _ h.c3,c _ _ h.c4,c _ _ h.c5,c _ _ h.c6⟩
def PutE(x:gD):Prop:=(0<=x.pos/\x.pos<=7)/\x.key.length<=1000/\x.field.length<=1000/\(0<=x.kind/\x.kind<=3)/\x.elem.length<=1000/\Nm.Plain.fits x.n/\x.drops.length<=64/\∀ d∈x.drops,jX d=true
theorem iU{ns:List Int}(h:∀ n∈ns,0<=n/\n<72057594037927936):(fZ ns).length<=8*ns.length:=j6 _ 8 ns fun n hn=>by have:=h n hn;exact gP _ (by omega)
theorem qQ{ns:List iE}(h:∀ n∈ns,n.length<=1000):(iT ns).length<=1008*ns.length:=j6 _ 1008 ns fun n hn=>by have:=h n hn;rw [aA,oI];have:=gP n.length (by omega);omega
theorem JL{ds:List gB}(h:∀ d∈ds,jX d=true):(zx ds).length<=24*ds.length:=j6 _ 24 ds fun d hd=>by
 have:=h d hd;unfold jX at this;rw [decide_eq_true_iff] at this;exact iU (ns:=[d.node,d.seq,d.pos]) (by intro n hn;simp at hn;omega)
theorem peff_len{x:gD}(h:PutE x):(zy x).length<=6000:=by
 obtain ⟨h1,h2,h3,h4,h5,h6,h7,h8⟩:=h;unfold zy;simp only [aA]
 have a1:=iU (ns:=[x.pos]) (by intro n hn;simp at hn;omega);have a2:=qQ (ns:=[x.key,x.field]) (by intro n hn;simp at hn;rcases hn with rfl|rfl<;>omega);have a3:=iU (ns:=[x.kind]) (by intro n hn;simp at hn;omega);have a4:=qQ (ns:=[x.elem]) (by intro n hn;simp at hn;subst hn;omega);have a5:=mV x.n;have a6:=iU (ns:=[(x.drops.length:Int)]) (by intro n hn;simp at hn;omega);have a7:=JL h8;simp at a1 a2 a3 a4 a6
 omega
theorem peff_any{B:Nat}{v:Value}{xs:Bytes}{x:gD}{da:Option Addr}{m dc:Nat}{w:World}(hv:By.jv B w v xs)(hB:B<=w.heap.size)(hd:Sq jI (· <B) w (.slice da m dc) x.drops)(hp:PutE x)(hl:xs.length<=500000):
  Calls prog 255 #[v,.agg #[.int .i64 x.pos,.string (bt x.key),.string (bt x.field),.int .i64 x.kind,.string (bt x.elem),.int .i64 x.n,.slice da m dc]] w (jM B w v (xs++zy x)):=by
 have EB:=zH (mY w x da m dc);have ZE:Hid (w.heap.size<(w.alloc (.cells #[.int .i64 x.pos,.string (bt x.key),.string (bt x.field),.int .i64 x.kind,.string (bt x.elem),.int .i64 x.n,.slice da m dc] 85)).heap.size):=zH (by simp);have ZB:Hid (B<=(w.alloc (.cells #[.int .i64 x.pos,.string (bt x.key),.string (bt x.field),.int .i64 x.kind,.string (bt x.elem),.int .i64 x.n,.slice da m dc] 85)).heap.size):=zH (by simp;omega);have NE:Hid (v.ownBlock≠some w.heap.size):=zH (fun e=>by have:=(hv.lt _ e).2;omega);have GW:Hid (Grow B w v (w.alloc (.cells #[.int .i64 x.pos,.string (bt x.key),.string (bt x.field),.int .i64 x.kind,.string (bt x.elem),.int .i64 x.n,.slice da m dc] 85)) v):=zH ((Grow.refl B w v).keep ((aj _ _).alloc (ah _) _) hB);have O0:=zH (hv.alloc (.cells #[.int .i64 x.pos,.string (bt x.key),.string (bt x.field),.int .i64 x.kind,.string (bt x.elem),.int .i64 x.n,.slice da m dc] 85));have HD:Hid (∀ W u,Grow B (w.alloc (.cells #[.int .i64 x.pos,.string (bt x.key),.string (bt x.field),.int .i64 x.kind,.string (bt x.elem),.int .i64 x.n,.slice da m dc] 85)) v W u ->fM jI W (.slice da m dc) x.drops):=zH (fun W u h=>h.sq (hd.agree fun b hb=>(zB w (.cells #[.int .i64 x.pos,.string (bt x.key),.string (bt x.field),.int .i64 x.kind,.string (bt x.elem),.int .i64 x.n,.slice da m dc] 85)).block b (by omega)) (fun b hb=>⟨by simp;omega,fun e=>by have:=(hv.lt _ e).1;omega⟩));have G0:=zH (Grow.refl B (w.alloc (.cells #[.int .i64 x.pos,.string (bt x.key),.string (bt x.field),.int .i64 x.kind,.string (bt x.elem),.int .i64 x.n,.slice da m dc] 85)) v);obtain ⟨p1,p2,p3,p4,p5,p6,p7,p8⟩:=hp;have P1:=zH p1;have P2:=zH p2;have P3:=zH p3;have P4:=zH p4;have P5:=zH p5;have P6:=zH p6;have P7:=zH p7;have P8:=zH p8;obtain ⟨hdn,hd1,hd2⟩:=(show fM jI w (.slice da m dc) x.drops from hd.mono (Q:=(· <w.heap.size)) fun b hb=>ay hb hB).iY;have HPE:Hid (zy x=fZ [x.pos]++iT [x.key,x.field]++fZ [x.kind]++iT [x.elem]++lI x.n++fZ [(x.drops.length:Int)]++zx x.drops):=zH rfl;have CB:=zH (fun k (hk:k<x.drops.length)=>jW (fun d:gB=>fZ [d.node,d.seq,d.pos]) x.drops (k:=k) hk);obtain ⟨P,hP⟩:∃ P:Nat ->Bytes,P=fun k=>zx (x.drops.take k):=⟨_,rfl⟩
 have PS:Hid (∀ k,k<x.drops.length ->P (k+1)=P k++fZ [(x.drops.getD k default).node,(x.drops.getD k default).seq,(x.drops.getD k default).pos]):=zH (fun k hk=>by rw [hP];exact CB.o k hk);have P0:Hid (P 0=[]):=zH (by rw [hP];rfl);have PN:Hid (P x.drops.length=zx x.drops):=zH (by rw [hP];show zx (x.drops.take x.drops.length)=_;rw [bq]);have PL:Hid (∀ k,(P k).length<=1536):=zH (fun k=>by
  rw [hP];have h1:=JL (ds:=x.drops.take k) (fun d hd=>p8 d (bO hd));have h2:(x.drops.take k).length<=64:=by rw [aO];omega
  exact ak h1 (by omega))
 clear hP CB hd p1 p2 p3 p4 p5 p6 p7 p8;rw [hdn] at HPE PS PN P7;have LM:=zH hdn;clear hdn;obtain ⟨a0,c0,rfl,-,-,-,-⟩:=hv.parts;clear hv;generalize hxl:xs.length=xl at*;have M0:=zH hxl;have N0:Hid (xs.length<=xl+0):=zH (by omega);clear hxl;obtain ⟨Y0,hY0⟩:∃ Y,Y=xs:=⟨_,rfl⟩;rw [<-hY0] at O0 M0 N0 ⊢;clear hY0;obtain ⟨n0,hn0⟩:∃ n,n=xl:=⟨_,rfl⟩;rw [<-hn0] at O0 G0 HD NE GW ⊢;go_enter func255,ntmps255
 go_upto_region 1 with fail
 clear hn0;generalize (w.alloc _)=u0 at*;have K1:Hid (Calls prog 254 #[.slice a0 n0 c0,.slice (some ⟨u0.heap.size,0,none⟩) 1 1] (u0.alloc (.cells #[.int .i64 x.pos] 3)) (jM B (u0.alloc (.cells #[.int .i64 x.pos] 3)) (.slice a0 n0 c0) (Y0++fZ [x.pos]))):=zH (qR (O0.o.alloc _) (by have:=G0.o.size;have:=ZB.o;simp;omega) (l9 u0 #[.int .i64 x.pos] [x.pos] (.slice a0 n0 c0) rfl (by simp) (fun k hk=>(O0.o.lt k hk).2)) (fun b hb=>hb) (by intro n hn;simp at hn;have:=P1.o;omega) (by have:=N0.o;simp;omega));have LL1:=iU (ns:=[x.pos]) (by intro n hn;simp at hn;have:=P1.o;omega);simp only [aZ,bf] at LL1
 obtain ⟨e0,e1,e2,e3,e4,e5,e6⟩:=(EB.o.same (G0.o.kept _ ZE.o NE.o)).zero;go_wp2_with fail
 refine K1.o.mono ?_;rintro e u1 ⟨v',rfl,ho,hg⟩;have G1:=zH ((G0.o.keep ((aj _ _).alloc (ah _) _) ZB.o).trans hg);obtain ⟨a1,c1,rfl,-,-,-,-⟩:=ho.parts;have O1:=zH ho;clear ho hg K1;have YL:(Y0++fZ [x.pos]).length<=xl+8:=by rw [aA];have:=N0.o;omega
 clear LL1;generalize hn:(Y0++fZ [x.pos]).length=n1 at*;generalize hY:Y0++fZ [x.pos]=Y1 at*;have E1:=zH hY.symm;have N1:Hid (Y1.length<=xl+8):=zH (by rw [hn];exact YL);have M1:=zH hn;clear hn hY YL;clear e0 e1 e2 e3 e4 e5 e6;have K2:Hid (Calls prog 294 #[.slice a1 n1 c1,.slice (some ⟨u1.heap.size,0,none⟩) 2 2] (u1.alloc (.cells #[.string (bt x.key),.string (bt x.field)] 9)) (jM B (u1.alloc (.cells #[.string (bt x.key),.string (bt x.field)] 9)) (.slice a1 n1 c1) (Y1++iT [x.key,x.field]))):=zH (JK (O1.o.alloc _) (by have:=G1.o.size;have:=ZB.o;simp;omega) (CJ u1 #[.string (bt x.key),.string (bt x.field)] [x.key,x.field] (.slice a1 n1 c1) rfl (by simp) (fun k hk=>(O1.o.lt k hk).2)) (fun b hb=>hb) (by intro n hn;simp at hn;rcases hn with rfl|rfl;exact P2.o;exact P3.o) (by have:=N1.o;simp;omega));have LL2:=qQ (ns:=[x.key,x.field]) (by intro n hn;simp at hn;rcases hn with rfl|rfl;exact P2.o;exact P3.o);simp only [aZ,bf] at LL2
 obtain ⟨e0,e1,e2,e3,e4,e5,e6⟩:=(EB.o.same (G1.o.kept _ ZE.o NE.o)).zero;go_wp2_with fail
 refine K2.o.mono ?_;rintro e u2 ⟨v',rfl,ho,hg⟩;have G2:=zH ((G1.o.keep ((aj _ _).alloc (ah _) _) ZB.o).trans hg);obtain ⟨a2,c2,rfl,-,-,-,-⟩:=ho.parts;have O2:=zH ho;clear ho hg K2;have YL:(Y1++iT [x.key,x.field]).length<=xl+2024:=by rw [aA];have:=N1.o;omega
 clear LL2;generalize hn:(Y1++iT [x.key,x.field]).length=n2 at*;generalize hY:Y1++iT [x.key,x.field]=Y2 at*;have E2:=zH hY.symm;have N2:Hid (Y2.length<=xl+2024):=zH (by rw [hn];exact YL);have M2:=zH hn;clear hn hY YL;clear e0 e1 e2 e3 e4 e5 e6;have K3:Hid (Calls prog 254 #[.slice a2 n2 c2,.slice (some ⟨u2.heap.size,0,none⟩) 1 1] (u2.alloc (.cells #[.int .i64 x.kind] 3)) (jM B (u2.alloc (.cells #[.int .i64 x.kind] 3)) (.slice a2 n2 c2) (Y2++fZ [x.kind]))):=zH (qR (O2.o.alloc _) (by have:=G2.o.size;have:=ZB.o;simp;omega) (l9 u2 #[.int .i64 x.kind] [x.kind] (.slice a2 n2 c2) rfl (by simp) (fun k hk=>(O2.o.lt k hk).2)) (fun b hb=>hb) (by intro n hn;simp at hn;have:=P4.o;omega) (by have:=N2.o;simp;omega));have LL3:=iU (ns:=[x.kind]) (by intro n hn;simp at hn;have:=P4.o;omega);simp only [aZ,bf] at LL3
 obtain ⟨e0,e1,e2,e3,e4,e5,e6⟩:=(EB.o.same (G2.o.kept _ ZE.o NE.o)).zero;go_wp2_with fail
 refine K3.o.mono ?_;rintro e u3 ⟨v',rfl,ho,hg⟩;have G3:=zH ((G2.o.keep ((aj _ _).alloc (ah _) _) ZB.o).trans hg);obtain ⟨a3,c3,rfl,-,-,-,-⟩:=ho.parts;have O3:=zH ho;clear ho hg K3;have YL:(Y2++fZ [x.kind]).length<=xl+2032:=by rw [aA];have:=N2.o;omega
 clear LL3;generalize hn:(Y2++fZ [x.kind]).length=n3 at*;generalize hY:Y2++fZ [x.kind]=Y3 at*;have E3:=zH hY.symm;have N3:Hid (Y3.length<=xl+2032):=zH (by rw [hn];exact YL);have M3:=zH hn;clear hn hY YL;clear e0 e1 e2 e3 e4 e5 e6;have K4:Hid (Calls prog 294 #[.slice a3 n3 c3,.slice (some ⟨u3.heap.size,0,none⟩) 1 1] (u3.alloc (.cells #[.string (bt x.elem)] 9)) (jM B (u3.alloc (.cells #[.string (bt x.elem)] 9)) (.slice a3 n3 c3) (Y3++iT [x.elem]))):=zH (JK (O3.o.alloc _) (by have:=G3.o.size;have:=ZB.o;simp;omega) (CJ u3 #[.string (bt x.elem)] [x.elem] (.slice a3 n3 c3) rfl (by simp) (fun k hk=>(O3.o.lt k hk).2)) (fun b hb=>hb) (by intro n hn;simp at hn;subst hn;exact P5.o) (by have:=N3.o;simp;omega));have LL4:=qQ (ns:=[x.elem]) (by intro n hn;simp at hn;subst hn;exact P5.o);simp only [aZ,bf] at LL4
 obtain ⟨e0,e1,e2,e3,e4,e5,e6⟩:=(EB.o.same (G3.o.kept _ ZE.o NE.o)).zero;go_wp2_with fail
 refine K4.o.mono ?_;rintro e u4 ⟨v',rfl,ho,hg⟩;have G4:=zH ((G3.o.keep ((aj _ _).alloc (ah _) _) ZB.o).trans hg);obtain ⟨a4,c4,rfl,-,-,-,-⟩:=ho.parts;have O4:=zH ho;clear ho hg K4;have YL:(Y3++iT [x.elem]).length<=xl+3040:=by rw [aA];have:=N3.o;omega
 clear LL4;generalize hn:(Y3++iT [x.elem]).length=n4 at*;generalize hY:Y3++iT [x.elem]=Y4 at*;have E4:=zH hY.symm;have N4:Hid (Y4.length<=xl+3040):=zH (by rw [hn];exact YL);have M4:=zH hn;clear hn hY YL;clear e0 e1 e2 e3 e4 e5 e6;have KI:=zH (By.Gx (By.Seq.nil u4) (by simp) x.n P6.o.1 P6.o.2);obtain ⟨e0,e1,e2,e3,e4,e5,e6⟩:=(EB.o.same (G4.o.kept _ ZE.o NE.o)).zero;go_wp2_with fail
 refine KI.o.mono ?_;rintro e u4b ⟨v2,rfl,ho2,hb2⟩;rw [bJ] at ho2;have O4b:=zH (O4.o.below hb2 (ah _));have G4b:=zH (G4.o.keep hb2 ZB.o);have S4:=zH ho2.seq;have IL:=zH (mV x.n);obtain ⟨a2,c2,rfl,-,-,-,-⟩:=ho2.parts;clear ho2 hb2 KI e0 e1 e2 e3 e4 e5 e6;generalize hil:(lI x.n).length=il at*;clear hil;generalize hIF:lI x.n=IF at*;have IFE:=zH hIF.symm;clear hIF;have ILF:Hid (IF.length=il):=zH (by
  obtain ⟨a,c,hv,-⟩:=S4.o;simp only [aC] at hv
  exact hv.2.1.symm)
 go_wp2_with (at_builtin;refine By.iq rfl (.tmp 29) (.tmp 32) rfl B rfl O4b.o rfl S4.o (by rw [ILF.o];have:=N4.o;have:=IL.o;omega) (by have:=G4b.o.size;have:=ZB.o;omega) ?_)
 intro v5 u5 ho hgr hat;have G5:=zH (G4b.o.app hgr hat (fun k hk=>(O4b.o.lt k hk).1) ZB.o);obtain ⟨a5,c5,rfl,-,-,-,-⟩:=ho.parts;have O5:=zH ho;clear ho hgr hat;have YL:(Y4++IF).length<=xl+3048:=by rw [aA,ILF.o];have:=N4.o;have:=IL.o;omega
 generalize hn:(Y4++IF).length=n5 at*;generalize hY:Y4++IF=Y5 at*;have E5:=zH hY.symm;have N5:Hid (Y5.length<=xl+3048):=zH (by rw [hn];exact YL);have M5:=zH hn;clear hn hY YL IL;have K6:Hid (Calls prog 254 #[.slice a5 n5 c5,.slice (some ⟨u5.heap.size,0,none⟩) 1 1] (u5.alloc (.cells #[.int .i64 (m:Int)] 3)) (jM B (u5.alloc (.cells #[.int .i64 (m:Int)] 3)) (.slice a5 n5 c5) (Y5++fZ [(m:Int)]))):=zH (qR (O5.o.alloc _) (by have:=G5.o.size;have:=ZB.o;simp;omega) (l9 u5 #[.int .i64 (m:Int)] [(m:Int)] (.slice a5 n5 c5) rfl (by simp) (fun k hk=>(O5.o.lt k hk).2)) (fun b hb=>hb) (by intro n hn;simp at hn;have:=P7.o;omega) (by have:=N5.o;simp;omega));have LL6:=iU (ns:=[(m:Int)]) (by intro n hn;simp at hn;have:=P7.o;omega);simp only [aZ,bf] at LL6
 obtain ⟨e0,e1,e2,e3,e4,e5,e6⟩:=(EB.o.same (G5.o.kept _ ZE.o NE.o)).zero;go_wp2_with fail
 refine K6.o.mono ?_;rintro e u6 ⟨v',rfl,ho,hg⟩;have G6:=zH ((G5.o.keep ((aj _ _).alloc (ah _) _) ZB.o).trans hg);obtain ⟨a6,c6,rfl,-,-,-,-⟩:=ho.parts;have O6:=zH ho;clear ho hg K6;have YL:(Y5++fZ [(m:Int)]).length<=xl+3056:=by rw [aA];have:=N5.o;omega
 clear LL6;generalize hn:(Y5++fZ [(m:Int)]).length=n6 at*;generalize hY:Y5++fZ [(m:Int)]=Y6 at*;have E6:=zH hY.symm;have N6:Hid (Y6.length<=xl+3056):=zH (by rw [hn];exact YL);have M6:=zH hn;clear hn hY YL;clear e0 e1 e2 e3 e4 e5 e6;obtain ⟨e0,e1,e2,e3,e4,e5,e6⟩:=(EB.o.same (G6.o.kept _ ZE.o NE.o)).zero;go_wp2_with fail
 clear e0 e1 e2 e3 e4 e5 e6
 go_loopw [0,43] (fun z i wr=>∃ k:Nat,k<=m/\i= .int .i64 k/\By.jv B wr z (Y6++P k)/\Grow B u0 (.slice a0 n0 c0) wr z) (fun _ i _=>m-(intOf i).toNat)
 case atStart=>exact ⟨0,aL _,rfl,by rw [P0.o,aV];exact O6.o,G6.o⟩
 case round=>
  obtain ⟨k,hk,rfl,ho,hg⟩:=hrel;have HO:=zH ho;have HG:=zH hg;clear ho hg
  by_cases hlt:k<m
  ·have PK:=zH (PS.o k hlt)
   have LK:=zH (PL.o k);obtain ⟨b,o,c,hv,-,-,-,hc⟩:=nY (HD.o _ _ HG.o) (by rw [LM.o];omega);rw [LM.o] at hv;simp only [aC] at hv
   obtain ⟨rfl,-,rfl⟩:=hv;obtain ⟨d0,d1,d2⟩:=hc k (by rw [LM.o];exact hlt);have DR:=P8.o _ (pJ (l:=x.drops) (k:=k) (by rw [LM.o];exact hlt));clear hc;generalize x.drops.getD k default=d at*;unfold jX at DR;rw [decide_eq_true_iff] at DR;have DRH:=zH DR;clear DR;obtain ⟨za,zc,rfl,-,-,-,-⟩:=HO.o.parts;generalize hzl:(Y6++P k).length=zl at*;have ZL:=zH hzl;clear hzl;have DB:Hid (pY (wr.alloc (.cells #[.int .i64 d.node,.int .i64 d.seq,.int .i64 d.pos] 77)) wr.heap.size 0 d):=zH ⟨by simp,by simp,by simp⟩;have OB:=zH (HO.o.alloc (.cells #[.int .i64 d.node,.int .i64 d.seq,.int .i64 d.pos] 77));have GB:=zH (HG.o.keep ((aj _ _).alloc (ah _) (.cells #[.int .i64 d.node,.int .i64 d.seq,.int .i64 d.pos] 77)) ZB.o);go_upto_region 10 with fail
   clear d0 d1 d2;generalize (wr.alloc _)=wd at*;obtain ⟨d0,d1,d2⟩:=DB.o;simp only [aJ] at d1 d2
   have K7:Hid (Calls prog 254 #[.slice za zl zc,.slice (some ⟨wd.heap.size,0,none⟩) 3 3] (wd.alloc (.cells #[.int .i64 d.node,.int .i64 d.seq,.int .i64 d.pos] 3)) (jM B (wd.alloc (.cells #[.int .i64 d.node,.int .i64 d.seq,.int .i64 d.pos] 3)) (.slice za zl zc) ((Y6++P k)++fZ [d.node,d.seq,d.pos]))):=zH (qR (OB.o.alloc _) (by have:=GB.o.size;have:=ZB.o;simp;omega) (l9 wd #[.int .i64 d.node,.int .i64 d.seq,.int .i64 d.pos] [d.node,d.seq,d.pos] (.slice za zl zc) rfl (by simp) (fun k hk=>(OB.o.lt k hk).2)) (fun b hb=>hb) (by intro n hn;simp at hn;have:=DRH.o;omega) (by rw [aA];have:=N6.o;have:=LK.o;simp;omega));go_wp2_with fail
   refine K7.o.mono ?_;rintro e u7 ⟨v',rfl,ho,hg⟩;have G7:=zH ((GB.o.keep ((aj _ _).alloc (ah _) _) ZB.o).trans hg);have O7:=zH ho;obtain ⟨a7,c7,rfl,-,-,-,-⟩:=ho.parts;clear ho hg K7 d0 d1 d2;generalize hnn:(Y6++P k++fZ [d.node,d.seq,d.pos]).length=n7 at*;clear hnn;go_wp2_with fail
   go_roundw
   case rel=>exact ⟨k+1,by omega,by go_num,by rw [PK.o,<-aY];exact O7.o,G7.o⟩
   case measure=>simp [intOf]<;>omega
  ·obtain rfl:k=m:=by omega
   have OE:Hid (By.jv B wr _ (Y0++zy x)):=zH (by
    have h:=HO.o;rw [E6.o,E5.o,E4.o,E3.o,E2.o,E1.o,PN.o] at h;rw [HPE.o]
    simpa only [aY] using h)
   go_wp2_with fail
   go_ret
   exact ⟨_,rfl,OE.o,GW.o.trans HG.o⟩
end Go.Proofs.YtfgcodcablpdcaaGreat