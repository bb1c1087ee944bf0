import Derived.Test.YtmknpmamkjjiaaaISets
import Derived.Test.YtmknpmamkjjiaaaEqI
import Derived.Test.YtmknpmamkjjiaaaElSorts
import Derived.Test.YtmknpmamkjjiaaaZIs
set_option linter.unusedVariables false
set_option maxRecDepth 100000
set_option maxHeartbeats 64000000
namespace Go.Proofs.Ytmknpmamkjjiaaa
open Go.Proofs.Try
open Go.RowKit Plain
theorem rJ{B:Nat}{w:World}{v:Value}{xs:List bL}(h:bP B w v xs)(n:Nat):bP B (w.drewN n) v xs:=h.below (below_drewN (ak _ _) n) (aj _)
theorem pJ(xs:List bI):iT xs 0=true:=rfl
theorem pK(xs:List bI)(p:Nat):iT xs (p+1)= !decide ((xs.getD (p+1) default).key=(xs.getD p default).key):=by
 unfold iT;rw [aA (by omega:¬ p+1=0),Bool.false_or]
 rfl
theorem mE{u:Value}{xs:List bI}{w:World}(hu:bJ dQ w u xs)(hx:xs.length<=1000000):Calls prog 40 #[u] w (q9 w (eG xs)):=by
 have HE:=zH (vI xs);rw [<-HE.o];obtain ⟨a,cap,rfl,g1,g2,g0,h⟩:=hu.parts;have HS:=zH h;obtain ⟨n,hN⟩:∃ n,xs.length=n:=⟨_,rfl⟩;rw [hN] at hx g1 ⊢;have LN:=zH hN;have Aj:=zH (gK xs n);clear hu h g0 hN HE;go_enter func40,ntmps40
 go_wp2_with fail
 go_loopw [3,4,8] (fun z _ i wr=>∃ k:Nat,k<=n/\i= .int .i64 k/\bP w.heap.size wr z (cZ xs k)/\Below w.heap.size w wr) (fun _ _ i _=>n-(intOf i).toNat)
 case atStart=>exact ⟨0,aJ _,rfl,bP.nil _ _,ak _ _⟩
 case round=>
  obtain ⟨k,hk,rfl,ho,hb⟩:=hrel;have HB:=zH hb;have hl:=gK xs k;obtain ⟨M,hM⟩:∃ M,(cZ xs k).length=M:=⟨_,rfl⟩;obtain ⟨a2,c2,rfl,g3,g4,ho2⟩:=ho.at M hM;have HO:=zH ho2;have HM:=zH hM;rw [hM] at hl;clear ho ho2 hb hM
  by_cases hlt:k<n
  ·have HK:Hid (k<xs.length):=zH (by rw [LN.o];exact hlt)
   obtain ⟨b,o,c,hv,-,-,-,hc⟩:=iQ (HS.o.below HB.o) (by rw [LN.o];omega);rw [LN.o] at hv;simp only [aG] at hv
   obtain ⟨rfl,-,rfl⟩:=hv;have IX:=zH (hc k HK.o);have S1:=zH (fun (W:World)=>dx.one W (xs.getD k default).key);unfold tv at S1;have PY:=zH (fun h=>nP (xs:=xs) (k:=k) h);have PN:=zH (fun h=>pO (xs:=xs) (k:=k) h)
   by_cases h0:k=0
   ·subst h0
    have HY:=zH (PY.o (pJ xs));clear hc PY PN;generalize xs.getD 0 default=x at*;have O1:=zH (HO.o.alloc (.cells #[.string (bt x.key),.string (bt x.field),.int .i64 x.kind,.string (bt x.elem),.int .i64 x.n,.int .i64 x.dot.node,.int .i64 x.dot.seq,.int .i64 x.dot.pos] 77));have G1:=zH (HB.o.alloc HB.o.size (.cells #[.string (bt x.key),.string (bt x.field),.int .i64 x.kind,.string (bt x.elem),.int .i64 x.n,.int .i64 x.dot.node,.int .i64 x.dot.seq,.int .i64 x.dot.pos] 77));have IB:Hid (dK (wr.alloc (.cells #[.string (bt x.key),.string (bt x.field),.int .i64 x.kind,.string (bt x.elem),.int .i64 x.n,.int .i64 x.dot.node,.int .i64 x.dot.seq,.int .i64 x.dot.pos] 77)) wr.heap.size 0 x):=zH ⟨by simp,by simp,by simp,by simp,by simp,by simp,by simp,by simp⟩;obtain ⟨c0,c1,c2,c3,c4,c5,c6,c7⟩:=IX.o;simp only [Nat.zero_mul,Nat.add_zero] at c0 c1 c2 c3 c4 c5 c6 c7
    go_upto_region 5 with fail
    clear c0 c1 c2 c3 c4 c5 c6 c7;generalize (wr.alloc _)=wb at*;obtain ⟨d0,d1,d2,d3,d4,d5,d6,d7⟩:=IB.o;simp only [aC] at d1 d2 d3 d4 d5 d6 d7
    go_quiet (fail)
    go_wp2_with (at_builtin;refine dM rfl (.tmp 26) (.tmp 29) rfl w.heap.size rfl ((rJ O1.o _).alloc _) rfl (S1.o _) (by rw [HM.o];simp<;>omega) (by have:=G1.o.size;simp;omega) ?_)
    intro v' w2 ho' hgr _;have O2:=zH ho';have G2:Hid (Below w.heap.size w w2):=zH (((below_drewN G1.o _).alloc G1.o.size _).grown hgr (by have:=G1.o.size;simp;omega) (fun j hj=>(O1.o.lt j hj).1));clear ho' hgr;rw [<-HY.o] at O2;go_wp2_with fail
    go_roundw
    case rel=>exact ⟨0+1,by omega,by go_num,O2.o,G2.o⟩
    case measure=>simp [intOf];omega
   ·obtain ⟨p,rfl⟩:∃ p,k=p+1:=⟨k-1,by omega⟩
    have IY:=zH (hc p (by rw [LN.o];omega));have yM:=zH (pK xs p);have t1:=iF (xs.getD (p+1) default).key (xs.getD p default).key;clear hc;generalize xs.getD (p+1) default=x at*;generalize xs.getD p default=y at*;have O1:=zH (HO.o.alloc (.cells #[.string (bt x.key),.string (bt x.field),.int .i64 x.kind,.string (bt x.elem),.int .i64 x.n,.int .i64 x.dot.node,.int .i64 x.dot.seq,.int .i64 x.dot.pos] 77));have G1:=zH (HB.o.alloc HB.o.size (.cells #[.string (bt x.key),.string (bt x.field),.int .i64 x.kind,.string (bt x.elem),.int .i64 x.n,.int .i64 x.dot.node,.int .i64 x.dot.seq,.int .i64 x.dot.pos] 77));have IB:Hid (dK (wr.alloc (.cells #[.string (bt x.key),.string (bt x.field),.int .i64 x.kind,.string (bt x.elem),.int .i64 x.n,.int .i64 x.dot.node,.int .i64 x.dot.seq,.int .i64 x.dot.pos] 77)) wr.heap.size 0 x):=zH ⟨by simp,by simp,by simp,by simp,by simp,by simp,by simp,by simp⟩;have CP:Hid (dK (wr.alloc (.cells #[.string (bt x.key),.string (bt x.field),.int .i64 x.kind,.string (bt x.elem),.int .i64 x.n,.int .i64 x.dot.node,.int .i64 x.dot.seq,.int .i64 x.dot.pos] 77)) b (o+p*8) y):=zH (IY.o.below (zB wr _) IY.o.lt);have q0:(((p+1:Nat):Int)==0)=false:=by simp;omega
    have q1:((p:Int)+1==0)=false:=by simp;omega
    have q2:IntKind.i64.wrap ((p:Int)+1-1)=(p:Int):=by rw [show (p:Int)+1-1=p by omega];exact IntWalk.i64_in _ (by omega)
    obtain ⟨c0,c1,c2,c3,c4,c5,c6,c7⟩:=IX.o;go_upto_region 5 with fail
    clear c0 c1 c2 c3 c4 c5 c6 c7;generalize (wr.alloc _)=wb at*;obtain ⟨d0,d1,d2,d3,d4,d5,d6,d7⟩:=IB.o;simp only [aC] at d1 d2 d3 d4 d5 d6 d7
    obtain ⟨y0,-⟩:=CP.o
    cases hcv:decide (x.key=y.key) with
    |true=>
     rw [hcv] at t1 yM;have HY:=zH (PN.o yM.o);clear hcv PY PN;rw [<-HY.o] at O1
     go_quiet (fail)
     go_wp2_with fail
     go_roundw
     case rel=>exact ⟨p+1+1,by omega,by go_num,rJ O1.o _,below_drewN G1.o _⟩
     case measure=>simp [intOf];omega
    |false=>
     rw [hcv] at t1 yM;have HY:=zH (PY.o yM.o);clear hcv PY PN
     go_quiet (fail)
     go_wp2_with (at_builtin;refine dM rfl (.tmp 26) (.tmp 29) rfl w.heap.size rfl ((rJ O1.o _).alloc _) rfl (S1.o _) (by rw [HM.o];simp<;>omega) (by have:=G1.o.size;simp;omega) ?_)
     intro v' w2 ho' hgr _;have O2:=zH ho';have G2:Hid (Below w.heap.size w w2):=zH (((below_drewN G1.o _).alloc G1.o.size _).grown hgr (by have:=G1.o.size;simp;omega) (fun j hj=>(O1.o.lt j hj).1));clear ho' hgr;rw [<-HY.o] at O2;go_wp2_with fail
     go_roundw
     case rel=>exact ⟨p+1+1,by omega,by go_num,O2.o,G2.o⟩
     case measure=>simp [intOf];omega
  ·obtain rfl:k=n:=by omega
   have KS:=kJ HO.o HB.o HB.o.size (by rw [HM.o];omega);generalize cZ xs k=L at*;go_wp2_with fail
   refine KS.mono ?_;rintro e w2 ⟨rfl,hb,K⟩;go_wp2_with fail
   refine K.mono ?_;rintro e w3 ⟨u3,rfl,hr,hb3⟩;have O:=zH hr.seq;have G:=zH hb3;obtain ⟨a3,c3,rfl,-⟩:=hr.seq.parts;clear hr hb3 hb K KS;go_wp2_with fail
   go_ret
   exact ⟨_,rfl,O.o,G.o⟩
theorem mG{zs:List bL}(hr:cK zs){s:bL}{k:Nat}(h1:∀ j,j<k ->zs.getD j []<s)(h2:∀ j,k<=j ->j<zs.length ->¬ zs.getD j []<s):decide (k<zs.length/\zs.getD k []=s)=decide (s∈zs):=by
 refine decide_eq_decide.2 ⟨fun ⟨g1,g2⟩=>by rw [<-g2];exact pQ g1,fun h=> ?_⟩;obtain ⟨j,hj,e⟩:=vJ h;have hkj:k<=j:=Nat.not_lt.1 fun g=>by have:=h1 j g;rw [e] at this;exact lt_irrefl s this
 have hkl:k<zs.length:=by omega
 refine ⟨hkl,?_⟩
 by_cases he:k=j
 ·rw [he];exact e
 ·have h3:=List.pairwise_iff_getElem.1 hr k j hkl hj (by omega)
  have h4:zs.getD k []<zs.getD j []:=by simpa [List.getD,ah hkl,ah hj] using h3
  rw [e] at h4;exact absurd h4 (h2 k (aj _) hkl)
theorem pR:∀ args w,(callFunc 56 args).run prog w= .ok (.enter 56 args) w:=enters_of func56 (by kernel_rfl) rfl
theorem rM(x:bI){zv:Value}{zs:List bL}(g:Nat)(W:World)(hc:W.cell? ⟨g,0,none⟩=some zv)(hv:dx W zv zs)(hr:cK zs)(hn:zs.length<=1000000):
  Calls prog 56 (#[zy x]++#[.pointer (some ⟨g,0,none⟩)]) W fun e W'=>e= .returned (.bool (!decide (x.key∈zs)))/\Below W.heap.size W W':=by
 show Calls prog 56 #[.agg #[.string (bt x.key),.string (bt x.field),.int .i64 x.kind,.string (bt x.elem),.int .i64 x.n,.int .i64 x.dot.node,.int .i64 x.dot.seq,.int .i64 x.dot.pos],.pointer (some ⟨g,0,none⟩)] W _
 have hb1:=zB W (.cells #[.string (bt x.key),.string (bt x.field),.int .i64 x.kind,.string (bt x.elem),.int .i64 x.n,.int .i64 x.dot.node,.int .i64 x.dot.seq,.int .i64 x.dot.pos] 77);have hlt:=ay W ⟨g,0,none⟩ hc;have hc1:=(hb1.cell (p:=⟨g,0,none⟩) hlt).trans hc;obtain ⟨k,-,h1,h2,K⟩:=gI (hv.below hb1) hr hn x.key;rw [mG hr h1 h2] at K;have IB:Hid (dK (W.alloc (.cells #[.string (bt x.key),.string (bt x.field),.int .i64 x.kind,.string (bt x.elem),.int .i64 x.n,.int .i64 x.dot.node,.int .i64 x.dot.seq,.int .i64 x.dot.pos] 77)) W.heap.size 0 x):=zH ⟨by simp,by simp,by simp,by simp,by simp,by simp,by simp,by simp⟩;have HB:=zH hb1;obtain ⟨a,cap,rfl,-⟩:=hv.parts;clear hc hv h1 h2 hb1 hlt hr hn;generalize decide (x.key∈zs)=r at*;generalize zs.length=n at*;go_enter func56,ntmps56
 go_upto_region 1 with fail
 generalize (W.alloc _)=wb at*;obtain ⟨c0,c1,c2,c3,c4,c5,c6,c7⟩:=IB.o;simp only [aC] at c1 c2 c3 c4 c5 c6 c7
 go_wp2_with fail
 refine K.mono ?_;rintro e w2 ⟨rfl,q,rfl⟩;have G:=zH (below_drewN HB.o q);clear c0 c1 c2 c3 c4 c5 c6 c7 K;go_wp2_with fail
 go_ret
 exact ⟨rfl,G.o⟩
theorem q8{u v:Value}{xs:List bI}{zs:List bL}{w:World}(hu:bJ dQ w u xs)(hv:dx w v zs)(hn:xs.length<=1000000)(hz:zs.length<=1000000):
  Calls prog 41 #[u,v] w (oZ dQ w (gH xs zs)):=by
 have KK:=mE hu hn;have Ai:=mI xs;have KW:=zH (fun (W:World) (kv:Value) (hb:Below w.heap.size w W) (hs:dx W kv (eG xs))=>nQ hs (hv.below hb) (by omega:(eG xs).length<=1000000) hz);have HR:Hid (cK (without (eG xs) zs)):=zH (cu _);have BH:Hid ((without (eG xs) zs).length<=1000000):=zH (by have:=pU (eG xs) zs;omega);have HE:Hid (dF (fun j=> !decide ((xs.getD j default).key∈without (eG xs) zs)) xs xs.length=gH xs zs):=zH (by
  rw [kK (g:=fun j=>covers zs (xs.getD j default).key) xs xs.length (fun j hj=>uj (mem_def hj))];exact mJ (fun x:bI=>covers zs x.key) xs)
 have HP:=zH (fun (W:World) (g:Nat) (zv:Value) (hb:Below w.heap.size w W) (hc:W.cell? ⟨g,0,none⟩=some zv) (hs:dx W zv (without (eG xs) zs))=>
  rO (row:=none) (hu.below hb).old hn (fun j=> !decide ((xs.getD j default).key∈without (eG xs) zs)) (fun _ W'=>Below W.heap.size W W') 56 #[.pointer (some ⟨g,0,none⟩)] pR (fun j hj=>by cases hj) (fun k W' W'' h g=>h.trans g)
   (fun k W' hk h _=>(rM _ g W' ((h.cell (p:=⟨g,0,none⟩) (ay W ⟨g,0,none⟩ hc)).trans hc) (hs.below h) HR.o BH.o).mono fun e W'' ⟨he,g⟩=>⟨he,h.trans (g.mono h.size),kG g⟩) (ak _ _))
 rw [HE.o] at HP;obtain ⟨a,cap,rfl,-⟩:=hu.parts;obtain ⟨a',cap',rfl,-⟩:=hv.parts;generalize without (eG xs) zs=wo at*;generalize gH xs zs=r at*;generalize eG xs=ks at*;generalize xs.length=n at*;generalize zs.length=nz at*;clear hu hv HE hn hz Ai;go_enter func41,ntmps41
 go_wp2_with fail
 refine KK.mono ?_;rintro e w1 ⟨v1,rfl,hs,hb⟩;have K2:=KW.o w1 v1 hb hs;have G1:=zH hb;obtain ⟨a1,c1,rfl,-⟩:=hs.parts;generalize ks.length=nk at*;clear hs hb KK KW;go_wp2_with fail
 refine K2.mono ?_;rintro e w2 ⟨v2,rfl,hs,hb⟩;have G2:Hid (Below w.heap.size w w2):=zH (G1.o.trans (hb.mono G1.o.size));have G3:=zH (G2.o.alloc G2.o.size (.cells #[v2] 60));have K3:=HP.o (w2.alloc (.cells #[v2] 60)) w2.heap.size v2 G3.o (by simp) (hs.dB _);obtain ⟨a2,c2,rfl,-⟩:=hs.parts;clear hs hb K2 HP HR BH;generalize wo.length=nw at*;go_upto_region 2 with fail
 generalize (w2.alloc _)=w3 at*;go_wp2_with fail
 refine K3.mono ?_;rintro e w5 ⟨v5,rfl,ho,hg,-⟩;have O:=zH (ho.mono G3.o.size);have G:Hid (Below w.heap.size w w5):=zH (G3.o.trans ((kF hg).mono G3.o.size));obtain ⟨av,cv,rfl,-⟩:=ho.parts;clear ho hg K3;go_wp2_with fail
 go_ret
 exact ⟨_,rfl,O.o,G.o⟩
theorem sQ(x:bI):zy x= .agg #[.string (bt x.key),.string (bt x.field),.int .i64 x.kind,.string (bt x.elem),.int .i64 x.n,.int .i64 x.dot.node,.int .i64 x.dot.seq,.int .i64 x.dot.pos]:=rfl
theorem vK(d:bW):dv d= .agg #[.int .i64 d.node,.int .i64 d.seq,.int .i64 d.pos]:=rfl
theorem nil_eq(s:bL):((bt s).toList==[])=decide (s.length=0):=by
 have t1:=iF s [];rw [show (bt []).toList=[] from fJ []] at t1;rw [t1];exact decide_eq_decide.2 ⟨fun e=>by rw [e];rfl,aF⟩
theorem um(s:bL):(decide (s.length=0)||iU s)=bZ s:=by
 unfold iU
 cases s with
 |nil=>rfl
 |cons c s=>simp
theorem rP(x:bI):(iU x.key&&(bZ x.field&&((decide (x.elem.length<=32)&&gL x)&&dY x.dot)))=dL x:=by
 unfold dL
 cases iU x.key<;>cases bZ x.field<;>cases decide (x.elem.length<=32)<;>cases gL x<;>cases dY x.dot<;>rfl
theorem rQ(s:bL)(w:World):Calls prog 60 #[.string (bt s)] w fun e w'=>e= .returned (.bool (bZ s))/\w=w':=by
 have K:=pV s w;have t1:=nil_eq s;rw [<-um s];generalize iU s=r at*;generalize bt s=S at*
 by_cases h:s.length=0
 ·rw [aB h] at t1 ⊢
  rw [Bool.true_or];clear h;go_enter func60,ntmps60
  go_wp2_with fail
  go_ret
  exact ⟨rfl,rfl⟩
 ·rw [aA h] at t1 ⊢
  rw [Bool.false_or];clear h;go_enter func60,ntmps60
  go_wp2_with fail
  refine K.mono ?_;rintro e w' ⟨rfl,rfl⟩;go_wp2_with fail
  go_ret
  exact ⟨rfl,rfl⟩
theorem vL(d:bW)(w:World):Calls prog 62 #[dv d] w (bH w (dY d)):=by
 have HB:Hid (dY d=decide (0<=d.node/\d.node<=7/\1<=d.seq/\d.seq<=1073741824/\0<=d.pos/\d.pos<=7)):=zH rfl;have G:=zH (zB w (.cells #[.int .i64 d.node,.int .i64 d.seq,.int .i64 d.pos] 47));rw [vK];generalize dY d=r at*;generalize d.node=a at*;generalize d.seq=b at*;generalize d.pos=c at*
 by_cases h0:(0:Int)<=a
 rotate_left
 ·obtain rfl:r=false:=by rw [HB.o];exact aA (by omega)
  go_enter func62,ntmps62
  go_wp2_with fail
  go_ret
  exact ⟨rfl,G.o⟩
 by_cases h1:a<8
 rotate_left
 ·obtain rfl:r=false:=by rw [HB.o];exact aA (by omega)
  go_enter func62,ntmps62
  go_wp2_with fail
  go_ret
  exact ⟨rfl,G.o⟩
 by_cases h2:(1:Int)<=b
 rotate_left
 ·obtain rfl:r=false:=by rw [HB.o];exact aA (by omega)
  go_enter func62,ntmps62
  go_wp2_with fail
  go_ret
  exact ⟨rfl,G.o⟩
 by_cases h3:b<=1073741824
 rotate_left
 ·obtain rfl:r=false:=by rw [HB.o];exact aA (by omega)
  go_enter func62,ntmps62
  go_wp2_with fail
  go_ret
  exact ⟨rfl,G.o⟩
 by_cases h4:(0:Int)<=c
 rotate_left
 ·obtain rfl:r=false:=by rw [HB.o];exact aA (by omega)
  go_enter func62,ntmps62
  go_wp2_with fail
  go_ret
  exact ⟨rfl,G.o⟩
 by_cases h5:c<8
 rotate_left
 ·obtain rfl:r=false:=by rw [HB.o];exact aA (by omega)
  go_enter func62,ntmps62
  go_wp2_with fail
  go_ret
  exact ⟨rfl,G.o⟩
 obtain rfl:r=true:=by rw [HB.o];exact aB (by omega)
 go_enter func62,ntmps62
 go_wp2_with fail
 go_ret
 exact ⟨rfl,G.o⟩
theorem uo(x:bI)(w:World):Calls prog 61 #[zy x] w (bH w (decide (x.elem.length<=32)&&gL x)):=by
 have HB:Hid ((decide (x.elem.length<=32)&&gL x)=(decide (x.elem.length<=32)&&((decide (x.kind=1\/x.kind=2)&&decide (x.n=0))||(decide (x.kind=3)&&decide (x.elem.length=0))))):=zH rfl;have G:=zH (zB w (.cells #[.string (bt x.key),.string (bt x.field),.int .i64 x.kind,.string (bt x.elem),.int .i64 x.n,.int .i64 x.dot.node,.int .i64 x.dot.seq,.int .i64 x.dot.pos] 77));have t1:=nil_eq x.elem;have z1:=gM x.elem;rw [sQ];generalize (decide (x.elem.length<=32)&&gL x)=r at*;generalize bt x.key=K at*;generalize bt x.field=F at*;generalize bt x.elem=El at*;generalize x.elem.length=m at*;generalize x.kind=kd at*;generalize x.n=nn at*
 by_cases h1:kd=1
 ·subst h1
  by_cases hm:m<=32
  ·have hi:(m:Int)<=32:=by omega
   by_cases hn:nn=0
   ·subst hn
    obtain rfl:r=true:=by rw [HB.o];simp [hm]
    clear hm t1;go_enter func61,ntmps61
    go_wp2_with fail
    go_ret
    exact ⟨rfl,G.o⟩
   ·have b1:(nn==0)=false:=by simpa using hn
    obtain rfl:r=false:=by rw [HB.o];simp [hn]
    clear hm t1;go_enter func61,ntmps61
    go_wp2_with fail
    go_ret
    exact ⟨rfl,G.o⟩
  ·have hi:¬ (m:Int)<=32:=by omega
   obtain rfl:r=false:=by rw [HB.o];simp [hm]
   clear hm t1;go_enter func61,ntmps61
   go_wp2_with fail
   go_ret
   exact ⟨rfl,G.o⟩
 by_cases h2:kd=2
 ·subst h2
  by_cases hm:m<=32
  ·have hi:(m:Int)<=32:=by omega
   by_cases hn:nn=0
   ·subst hn
    obtain rfl:r=true:=by rw [HB.o];simp [hm]
    clear hm t1;go_enter func61,ntmps61
    go_wp2_with fail
    go_ret
    exact ⟨rfl,G.o⟩
   ·have b1:(nn==0)=false:=by simpa using hn
    obtain rfl:r=false:=by rw [HB.o];simp [hn]
    clear hm t1;go_enter func61,ntmps61
    go_wp2_with fail
    go_ret
    exact ⟨rfl,G.o⟩
  ·have hi:¬ (m:Int)<=32:=by omega
   obtain rfl:r=false:=by rw [HB.o];simp [hm]
   clear hm t1;go_enter func61,ntmps61
   go_wp2_with fail
   go_ret
   exact ⟨rfl,G.o⟩
 by_cases h3:kd=3
 ·subst h3
  by_cases hz:m=0
  ·obtain rfl:r=true:=by rw [HB.o];simp [hz]
   rw [aB hz] at t1;clear hz;go_enter func61,ntmps61
   go_wp2_with fail
   go_ret
   exact ⟨rfl,G.o⟩
  ·obtain rfl:r=false:=by rw [HB.o];simp [hz]
   rw [aA hz] at t1;clear hz;go_enter func61,ntmps61
   go_wp2_with fail
   go_ret
   exact ⟨rfl,G.o⟩
 ·obtain rfl:r=false:=by rw [HB.o];simp [h1,h2,h3]
  clear t1;go_enter func61,ntmps61
  go_wp2_with fail
  go_ret
  exact ⟨rfl,G.o⟩
theorem jK(x:bI)(w:World):Calls prog 47 #[zy x] w (bH w (dL x)):=by
 have G:=zH (zB w (.cells #[.string (bt x.key),.string (bt x.field),.int .i64 x.kind,.string (bt x.elem),.int .i64 x.n,.int .i64 x.dot.node,.int .i64 x.dot.seq,.int .i64 x.dot.pos] 77));have IB:Hid (dK (w.alloc (.cells #[.string (bt x.key),.string (bt x.field),.int .i64 x.kind,.string (bt x.elem),.int .i64 x.n,.int .i64 x.dot.node,.int .i64 x.dot.seq,.int .i64 x.dot.pos] 77)) w.heap.size 0 x):=zH ⟨by simp,by simp,by simp,by simp,by simp,by simp,by simp,by simp⟩;have KK:=zH (fun W=>pV x.key W);have KF:=zH (fun W=>rQ x.field W);have KV:=zH (fun W=>uo x W);have KD:=zH (fun W=>vL x.dot W);rw [<-rP x];rw [sQ] at KV ⊢;rw [vK] at KD;generalize (decide (x.elem.length<=32)&&gL x)=r3 at*;generalize iU x.key=r1 at*;generalize bZ x.field=r2 at*;generalize dY x.dot=r4 at*;go_enter func47,ntmps47
 go_upto_region 1 with fail
 generalize (w.alloc _)=wb at*;obtain ⟨c0,c1,c2,c3,c4,c5,c6,c7⟩:=IB.o;simp only [aC] at c1 c2 c3 c4 c5 c6 c7
 go_wp2_with fail
 refine (KK.o _).mono ?_;rintro e w1 ⟨rfl,rfl⟩
 cases r1 with
 |false=>
  rw [aV];go_wp2_with fail
  go_ret
  exact ⟨rfl,G.o⟩
 |true=>
  rw [aN];go_wp2_with fail
  refine (KF.o _).mono ?_;rintro e w1 ⟨rfl,rfl⟩
  cases r2 with
  |false=>
   rw [aV];go_wp2_with fail
   go_ret
   exact ⟨rfl,G.o⟩
  |true=>
   rw [aN];go_wp2_with fail
   refine (KV.o _).mono ?_;rintro e w3 ⟨rfl,hb⟩;have G3:Hid (Below w.heap.size w w3):=zH (G.o.trans (hb.mono G.o.size));have CQ:=zH (IB.o.below hb IB.o.lt);clear hb c0 c1 c2 c3 c4 c5 c6 c7;obtain ⟨c0,c1,c2,c3,c4,c5,c6,c7⟩:=CQ.o;simp only [aC] at c1 c2 c3 c4 c5 c6 c7
   cases r3 with
   |false=>
    rw [aV];go_wp2_with fail
    go_ret
    exact ⟨rfl,G3.o⟩
   |true=>
    rw [aN];go_wp2_with fail
    refine (KD.o _).mono ?_;rintro e w4 ⟨rfl,hb⟩;have G4:Hid (Below w.heap.size w w4):=zH (G3.o.trans (hb.mono G3.o.size));clear hb;go_wp2_with fail
    go_ret
    exact ⟨rfl,G4.o⟩
end Go.Proofs.Ytmknpmamkjjiaaa