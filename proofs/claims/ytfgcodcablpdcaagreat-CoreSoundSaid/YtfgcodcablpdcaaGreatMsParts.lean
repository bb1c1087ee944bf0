import Derived.Test.YtfgcodcablpdcaaGreatMsTake
set_option linter.unusedVariables false
set_option maxRecDepth 100000
set_option maxHeartbeats 64000000
namespace Go.Proofs.YtfgcodcablpdcaaGreat
open Go.Proofs.Tryz
open Go.RowKit Plain
def YP:El Int where
 k:=1
 E:=3
 S:=24
 zero:= .int .i64 0
 bytes:=8
 R:=fun _ _ vs x=>vs=[.int .i64 x]
 pos:=by decide
 small:=by decide
 len:=fun h=>by rw [h];rfl
 one:=oneInt
 mono:=fun h _=>h
 agree:=fun h _=>h
 und:=underlying24
 info:=WT
 tV:=rfl
theorem flat_num:Flat YP:=fun h=>h
theorem WU{w:World}{v:Value}{xs:List iE}(h:fM qP w v xs):kD w v xs:=by
 obtain ⟨a,cap,rfl,h1,h2,h0,h3⟩:=h.parts;refine ⟨a,cap,rfl,h1,h2,h0,fun hp=> ?_⟩;obtain ⟨b,o,c,hv,-,-,-,hc⟩:=h.spot hp;simp only [aC] at hv
 obtain ⟨rfl,-,rfl⟩:=hv;refine ⟨b,o,rfl,fun j hj=> ?_⟩;have e:xs[j]? =some (xs.getD j []):=by simp [List.getD,List.getElem?_eq_getElem hj]
 obtain ⟨vs,hr,hx⟩:=hc j _ e;obtain rfl:vs=[tv (xs.getD j [])]:=hr;have:=hx 0 _ rfl;rw [show o+(j*qP.k+0)=o+j by show o+(j*1+0)=o+j;omega] at this;exact this
theorem WR{w:World}{v:Value}{xs:List iE}(h:kD w v xs):fM qP w v xs:=by
 obtain ⟨a,cap,rfl,h1,h2,h0,h3⟩:=h;refine ⟨a,cap,xs.map tv,rfl,h1,h2,h0,⟨by rw [dH];show _=xs.length*1;omega,fun j x hj=> ?_⟩,fun hp=> ?_⟩
 ·show ((xs.map tv).drop (j*1)).take 1=[tv x]
  obtain ⟨hl,rfl⟩:=aP.1 hj;rw [eY,List.take_one];simp [List.getElem?_eq_getElem hl]
 ·obtain ⟨b,off,rfl,g⟩:=h3 hp
  have hb:b<w.heap.size:=aG w ⟨b,off+0,none⟩ (g 0 hp);refine ⟨b,off,rfl,hb,fun i u hi=> ?_⟩;obtain ⟨hl,e⟩:=aP.1 hi;rw [dH] at hl;rw [g i hl];rw [eT] at e;rw [<-e];simp [List.getD,List.getElem?_eq_getElem hl]
theorem one_num(w:World)(x:Int):fM YP (w.alloc (.cells #[.int .i64 x] 3)) (.slice (some ⟨w.heap.size,0,none⟩) 1 1) [x]:=fM.one (L:=YP) (w:=w) (vs:=[.int .i64 x]) (x:=x) rfl #[.int .i64 x] rfl
theorem one_str(w:World)(x:iE):fM qP (w.alloc (.cells #[.string (bt x)] 9)) (.slice (some ⟨w.heap.size,0,none⟩) 1 1) [x]:=fM.one (L:=qP) (w:=w) (vs:=[tv x]) (x:=x) rfl #[.string (bt x)] rfl
def ts8(w:World)(g:Nat)(v0 v1 v2 v3 v4 v5 v6 v7:Value):World:=(((((((w.setCell ⟨g,0,none⟩ v0).setCell ⟨g,1,none⟩ v1).setCell ⟨g,2,none⟩ v2).setCell ⟨g,3,none⟩ v3).setCell ⟨g,4,none⟩ v4).setCell ⟨g,5,none⟩ v5).setCell ⟨g,6,none⟩ v6).setCell ⟨g,7,none⟩ v7
theorem WV{u:World}{g:Nat}{v0 v1 v2 v3 v4 v5 v6 v7:Value}{t:TypeId}(h:u.heap[g]? =some (.cells #[v0,v1,v2,v3,v4,v5,v6,v7] t (0,0))):
  (u.cell? ⟨g,0,none⟩=some v0/\u.cell? ⟨g,1,none⟩=some v1/\u.cell? ⟨g,2,none⟩=some v2/\u.cell? ⟨g,3,none⟩=some v3/\u.cell? ⟨g,4,none⟩=some v4/\u.cell? ⟨g,5,none⟩=some v5/\u.cell? ⟨g,6,none⟩=some v6/\u.cell? ⟨g,7,none⟩=some v7)/\
  u.frozen? ⟨g,0,none⟩=false/\u.frozen? ⟨g,1,none⟩=false/\u.frozen? ⟨g,2,none⟩=false/\u.frozen? ⟨g,3,none⟩=false/\u.frozen? ⟨g,4,none⟩=false/\u.frozen? ⟨g,5,none⟩=false/\u.frozen? ⟨g,6,none⟩=false/\u.frozen? ⟨g,7,none⟩=false:=by
 refine ⟨⟨?_,?_,?_,?_,?_,?_,?_,?_⟩,?_,?_,?_,?_,?_,?_,?_,?_⟩
 iterate 8 (· simp [World.cell?,h])
 iterate 8 (· unfold World.frozen?;rw [h];simp)
theorem YS{w:World}{g:Nat}{z0 z1 z2 z3 z4 z5 z6 z7 v0 v1 v2 v3 v4 v5 v6 v7:Value}{t:TypeId}(h:w.heap[g]? =some (.cells #[z0,z1,z2,z3,z4,z5,z6,z7] t (0,0))):(ts8 w g v0 v1 v2 v3 v4 v5 v6 v7).heap[g]? =some (.cells #[v0,v1,v2,v3,v4,v5,v6,v7] t (0,0)):=by
 unfold ts8;rw [aB _ g 7 _ _ _ (aB _ g 6 _ _ _ (aB _ g 5 _ _ _ (aB _ g 4 _ _ _ (aB _ g 3 _ _ _ (aB _ g 2 _ _ _ (aB _ g 1 _ _ _ (aB _ g 0 _ _ _ h)))))))]
 rfl
theorem ts8_but{w u:World}{g R:Nat}{v0 v1 v2 v3 v4 v5 v6 v7:Value}(h:But g w u)(hw:g<w.heap.size)(hR:w.heap.size<=R):But g w (ts8 u R v0 v1 v2 v3 v4 v5 v6 v7):=(((((((h.store hw hR).store hw hR).store hw hR).store hw hR).store hw hR).store hw hR).store hw hR).store hw hR
theorem ts8_box{w:World}{g R:Nat}{s:Rb}{v0 v1 v2 v3 v4 v5 v6 v7:Value}(h:iV w g s)(hR:g<R):iV (ts8 w R v0 v1 v2 v3 v4 v5 v6 v7) g s:=(((((((h.store hR).store hR).store hR).store hR).store hR).store hR).store hR).store hR
def vIt(_:World)(v:Value)(x:fK):Prop:=v= .agg #[.string (bt x.key),.string (bt x.field),.int .i64 x.kind,.string (bt x.elem),.int .i64 x.n,.int .i64 x.dot.node,.int .i64 x.dot.seq,.int .i64 x.dot.pos]
theorem YT{w:World}{g:Nat}{s:Rb}(hx:iV w g s)(hl:s.1.length<=500000000):Calls prog 170 #[.pointer (some ⟨g,0,none⟩)] w (lZ vIt w g (nA s)):=by
 have HG:=zH hx.lt;have xA:Hid (w.heap.size≠g):=zH (by have:=hx.lt;omega);have HR:Hid (nA s=(⟨(gK s).1,(gK (gK s).2).1,(gF (gK (gK s).2).2).1,(gK (gF (gK (gK s).2).2).2).1,(Cz (gK (gF (gK (gK s).2).2).2).2).1,⟨(gF (Cz (gK (gF (gK (gK s).2).2).2).2).2).1,(gF (gF (Cz (gK (gF (gK (gK s).2).2).2).2).2).2).1,(gF (gF (gF (Cz (gK (gF (gK (gK s).2).2).2).2).2).2).2).1⟩⟩,(gF (gF (gF (Cz (gK (gF (gK (gK s).2).2).2).2).2).2).2).2)):=zH rfl;have L1:=zH (ak (lY s) hl);have L2:=zH (ak (lY (gK s).2) L1.o);have L3:=zH (ak (kI (gK (gK s).2).2) L2.o);have L4:=zH (ak (lY (gF (gK (gK s).2).2).2) L3.o);have L5:=zH (ak (Q8 (gK (gF (gK (gK s).2).2).2).2) L4.o);have L6:=zH (ak (kI (Cz (gK (gF (gK (gK s).2).2).2).2).2) L5.o);have L7:=zH (ak (kI (gF (Cz (gK (gF (gK (gK s).2).2).2).2).2).2) L6.o);generalize nA s=res at*;have hba:=zB w (.cells #[.string ⟨#[]⟩,.string ⟨#[]⟩,.int .i64 0,.string ⟨#[]⟩,.int .i64 0,.int .i64 0,.int .i64 0,.int .i64 0] 79);have K0:=zH (Ae (hx.below hba) hl);have R0:Hid ((w.alloc (.cells #[.string ⟨#[]⟩,.string ⟨#[]⟩,.int .i64 0,.string ⟨#[]⟩,.int .i64 0,.int .i64 0,.int .i64 0,.int .i64 0] 79)).heap[w.heap.size]? =some (.cells #[.string ⟨#[]⟩,.string ⟨#[]⟩,.int .i64 0,.string ⟨#[]⟩,.int .i64 0,.int .i64 0,.int .i64 0,.int .i64 0] 79 (0,0))):=zH (aM _ _);have Z0:Hid (w.heap.size<(w.alloc (.cells #[.string ⟨#[]⟩,.string ⟨#[]⟩,.int .i64 0,.string ⟨#[]⟩,.int .i64 0,.int .i64 0,.int .i64 0,.int .i64 0] 79)).heap.size):=zH (by simp);have G0:Hid (But g w (w.alloc (.cells #[.string ⟨#[]⟩,.string ⟨#[]⟩,.int .i64 0,.string ⟨#[]⟩,.int .i64 0,.int .i64 0,.int .i64 0,.int .i64 0] 79))):=zH (But.of hba (aT hx.lt));clear hx hl hba;go_enter func170,ntmps170
 go_upto_region 1 with fail
 generalize (w.alloc _)=w0 at*;generalize gK s=q1 at*;go_wp2_with fail
 refine K0.o.mono ?_;rintro e w1 ⟨v,rfl,hv,hx,hb⟩;obtain rfl:v= .string (bt q1.1):=hv;have R1:=zH ((hb.block _ Z0.o xA.o).trans R0.o);have Z1:=zH (ay Z0.o hb.size);have G1:=zH (G0.o.trans hb);have K1:=zH (Ae hx L1.o);generalize gK q1.2=q2 at*;clear hx hb K0;go_wp2_with fail
 refine K1.o.mono ?_;rintro e w2 ⟨v,rfl,hv,hx,hb⟩;obtain rfl:v= .string (bt q2.1):=hv;have R2:=zH ((hb.block _ Z1.o xA.o).trans R1.o);have Z2:=zH (ay Z1.o hb.size);have G2:=zH (G1.o.trans hb);have K2:=zH (rY hx L2.o);generalize gF q2.2=q3 at*;clear hx hb K1;go_wp2_with fail
 refine K2.o.mono ?_;rintro e w3 ⟨v,rfl,hv,hx,hb⟩;obtain rfl:v= .int .i64 q3.1:=hv;have R3:=zH ((hb.block _ Z2.o xA.o).trans R2.o);have Z3:=zH (ay Z2.o hb.size);have G3:=zH (G2.o.trans hb);have K3:=zH (Ae hx L3.o);generalize gK q3.2=q4 at*;clear hx hb K2;go_wp2_with fail
 refine K3.o.mono ?_;rintro e w4 ⟨v,rfl,hv,hx,hb⟩;obtain rfl:v= .string (bt q4.1):=hv;have R4:=zH ((hb.block _ Z3.o xA.o).trans R3.o);have Z4:=zH (ay Z3.o hb.size);have G4:=zH (G3.o.trans hb);have K4:=zH (mint_any hx L4.o);generalize Cz q4.2=q5 at*;clear hx hb K3;go_wp2_with fail
 refine K4.o.mono ?_;rintro e w5 ⟨v,rfl,hv,hx,hb⟩;obtain rfl:v= .int .i64 q5.1:=hv;have R5:=zH ((hb.block _ Z4.o xA.o).trans R4.o);have Z5:=zH (ay Z4.o hb.size);have G5:=zH (G4.o.trans hb);have K5:=zH (rY hx L5.o);generalize gF q5.2=q6 at*;clear hx hb K4;go_wp2_with fail
 refine K5.o.mono ?_;rintro e w6 ⟨v,rfl,hv,hx,hb⟩;obtain rfl:v= .int .i64 q6.1:=hv;have R6:=zH ((hb.block _ Z5.o xA.o).trans R5.o);have Z6:=zH (ay Z5.o hb.size);have G6:=zH (G5.o.trans hb);have K6:=zH (rY hx L6.o);generalize gF q6.2=q7 at*;clear hx hb K5;go_wp2_with fail
 refine K6.o.mono ?_;rintro e w7 ⟨v,rfl,hv,hx,hb⟩;obtain rfl:v= .int .i64 q7.1:=hv;have R7:=zH ((hb.block _ Z6.o xA.o).trans R6.o);have Z7:=zH (ay Z6.o hb.size);have G7:=zH (G6.o.trans hb);have K7:=zH (rY hx L7.o);generalize gF q7.2=q8 at*;clear hx hb K6;go_wp2_with fail
 refine K7.o.mono ?_;rintro e w8 ⟨v,rfl,hv,hx,hb⟩;obtain rfl:v= .int .i64 q8.1:=hv;have R8:=zH ((hb.block _ Z7.o xA.o).trans R7.o);have Z8:=zH (ay Z7.o hb.size);have G8:=zH (G7.o.trans hb);have X8:=zH hx;clear hx hb K7;obtain ⟨⟨y0,y1,y2,y3,y4,y5,y6,y7⟩,f0,f1,f2,f3,f4,f5,f6,f7⟩:=WV R8.o;have FC:=zH (WV (YS (v0:= .string (bt q1.1)) (v1:= .string (bt q2.1)) (v2:= .int .i64 q3.1) (v3:= .string (bt q4.1)) (v4:= .int .i64 q5.1) (v5:= .int .i64 q6.1) (v6:= .int .i64 q7.1) (v7:= .int .i64 q8.1) R8.o)).1;have FG:=zH (ts8_but (v0:= .string (bt q1.1)) (v1:= .string (bt q2.1)) (v2:= .int .i64 q3.1) (v3:= .string (bt q4.1)) (v4:= .int .i64 q5.1) (v5:= .int .i64 q6.1) (v6:= .int .i64 q7.1) (v7:= .int .i64 q8.1) G8.o HG.o (ah _));have FX:=zH (ts8_box (v0:= .string (bt q1.1)) (v1:= .string (bt q2.1)) (v2:= .int .i64 q3.1) (v3:= .string (bt q4.1)) (v4:= .int .i64 q5.1) (v5:= .int .i64 q6.1) (v6:= .int .i64 q7.1) (v7:= .int .i64 q8.1) X8.o HG.o);unfold ts8 at FC FG FX;go_wp2_with fail
 obtain ⟨g0,g1,g2,g3,g4,g5,g6,g7⟩:=FC.o;refine bodyPost_ret (v:= .agg #[.string (bt q1.1),.string (bt q2.1),.int .i64 q3.1,.string (bt q4.1),.int .i64 q5.1,.int .i64 q6.1,.int .i64 q7.1,.int .i64 q8.1]) (by simp [results,results170,go_sem,g0,g1,g2,g3,g4,g5,g6,g7]) rfl ?_;rw [HR.o];exact ⟨_,rfl,rfl,FX.o,FG.o⟩
def lenOf:Value ->Nat
 | .slice _ n _=>n
 |_=>0
theorem YU{w:World}{g:Nat}{s:Rb}(hx:iV w g s)(hl:s.1.length<=500000000)(k:Nat)(hk:k<=100000):Calls prog 229 #[.pointer (some ⟨g,0,none⟩),.int .i64 k,.func (.func 165) #[.pointer (some ⟨g,0,none⟩)] #[]] w (lZ (fun W v l=>gy YP w.heap.size W v l) w g (gJ gF k s)):=by
 have HG:=zH hx.lt;have K0:=zH (um hx hl k);have HC:=zH (zY k s);have HT0:=zH (ak (o8 k s) hl);have HR:Hid (gJ gF k s=mN gF (ig k s).1 (ig k s).2):=zH rfl;have HK:=zH hk;have eg:∀ args w,(callFunc 165 args).run prog w= .ok (.enter 165 args) w:=enters_of func165 (by kernel_rfl) rfl;clear hx hl hk;generalize gJ gF k s=res at*;generalize ig k s=q0 at*;obtain ⟨n,s0⟩:=q0;go_enter func229,ntmps229
 go_wp2_with fail
 refine K0.o.mono ?_;rintro e w1 ⟨v,rfl,hv,hx1,hb1⟩;obtain rfl:v= .int .i64 n:=hv;have uo:=zH hx1;have HB1:=zH hb1;have HN:Hid (n<=100000):=zH (ak HC.o HK.o);clear hx1 hb1 K0;go_wp2_with fail
 go_loopw [8] (fun z wr=>∃ (l:List Int) (j:Nat) (t:Rb),l.length+j=n/\Aside (res=(l++(mN gF j t).1,(mN gF j t).2))/\Aside (t.1.length<=500000000)/\gy YP w.heap.size wr z l/\iV wr g t/\But g w wr) (fun z _=>n-lenOf z)
 case atStart=>exact ⟨[],n,s0,by simp,by rw [bJ];exact HR.o,HT0.o,gy.nil _ _,uo.o,HB1.o⟩
 case round=>
  obtain ⟨l,j,t,hlj,Gg,HT,ho,hx,hb⟩:=hrel;have HO:=zH ho;have HX:=zH hx;have HB:=zH hb;have HLJ:=zH hlj;obtain ⟨la,lc,rfl,h1,h2,-,-⟩:=ho.parts;obtain ⟨ra,rn,rc,-,-,-,-,hh,-,-⟩:=hx.parts;obtain ⟨x0,x1,-,-⟩:=jE hh;clear ho hx hb hh;obtain ⟨b,bad⟩:=t;change wr.cell? ⟨g,1,none⟩=some (.bool bad) at x1;obtain ⟨ll,hll⟩:∃ m,l.length=m:=⟨_,rfl⟩;rw [hll] at hlj h1 HO;have LL:=zH hll;have Iq:=HN.o
  by_cases hlt:ll<n
  ·have hlt2:(ll:Int)<(n:Int):=by omega
   cases bad with
   |true=>
    rw [hll];go_wp2_with fail
    go_ret
    rw [Gg.out,I9,aV];exact ⟨_,rfl,HO.o,HX.o,HB.o⟩
   |false=>
    obtain ⟨i,rfl⟩:∃ i,j=i+1:=⟨j-1,by omega⟩;have HRM:Hid (res=(l++[(gF (b,false)).1]++(mN gF i (gF (b,false)).2).1,(mN gF i (gF (b,false)).2).2)):=zH (by rw [Gg.out,Cy,aY];rfl);have HT1:=zH (ak (kI (b,false)) HT.out);have KN:=zH (rY HX.o HT.out);clear Gg;generalize gF (b,false)=q at*;rw [hll];go_wp2_with (first
     |(go_at_fn 165;refine KN.o.mono ?_;rintro e w2 ⟨v,rfl,hv,hx2,hb2⟩;obtain rfl:v= .int .i64 q.1:=hv
       have O2:=zH (HO.o.but flat_num hb2 HG.o);have G2:=zH (HB.o.trans hb2);have X2:=zH hx2;have S1:=zH (one_num w2 q.1);clear hx2 hb2 KN)
     |(at_builtin;refine gT YP rfl (.tmp 23) (.tmp 26) rfl w.heap.size rfl (O2.o.alloc _) rfl S1.o (fun _ _ h=>h) (by rw [LL.o];simp;omega) (by have:=G2.o.size;simp;omega) ?_))
    intro v' w5 ho' hgr _;have O5:=zH ho';have G5:=zH ((G2.o.alloc HG.o _).grown hgr HG.o (fun j hj=>(O2.o.lt j hj).1));have X5:=zH ((X2.o.below ((aj _ _).alloc (ah _) _)).grown hgr (fun j hj=>ay HG.o (O2.o.lt j hj).1));obtain ⟨na,nc,hnv,hn1,hn2⟩:∃ na nc,v'= .slice na (ll+1) nc/\(ll+1:Int)<=(nc:Int)/\(nc:Int)<=9223372036854775807:=by
     obtain ⟨a,c,e,k1,k2,-⟩:=ho'.parts;rw [aA,LL.o] at e k1;exact ⟨a,c,e,by simp at k1;omega,by omega⟩
    clear ho' hgr x0 x1;subst hnv;go_wp2_with fail
    go_roundw
    case rel=>exact ⟨l++[q.1],i,q.2,by rw [aA,LL.o];simp;omega,HRM.o,HT1.o,O5.o,X5.o,G5.o⟩
    case measure=>simp [lenOf]<;>omega
  ·have hlt2:¬ (ll:Int)<(n:Int):=by omega
   obtain rfl:j=0:=by omega
   rw [hll];go_wp2_with fail
   go_ret
   rw [Gg.out,Gn,aV];exact ⟨_,rfl,HO.o,HX.o,HB.o⟩
theorem Vb{w:World}{g:Nat}{s:Rb}(hx:iV w g s)(hl:s.1.length<=500000000)(k:Nat)(hk:k<=100000):Calls prog 230 #[.pointer (some ⟨g,0,none⟩),.int .i64 k,.func (.func 231) #[.pointer (some ⟨g,0,none⟩)] #[]] w (lZ (fun W v l=>gy qP w.heap.size W v l) w g (gJ gK k s)):=by
 have HG:=zH hx.lt;have K0:=zH (um hx hl k);have HC:=zH (zY k s);have HT0:=zH (ak (o8 k s) hl);have HR:Hid (gJ gK k s=mN gK (ig k s).1 (ig k s).2):=zH rfl;have HK:=zH hk;have eg:∀ args w,(callFunc 231 args).run prog w= .ok (.enter 231 args) w:=enters_of func231 (by kernel_rfl) rfl;clear hx hl hk;generalize gJ gK k s=res at*;generalize ig k s=q0 at*;obtain ⟨n,s0⟩:=q0;go_enter func230,ntmps230
 go_wp2_with fail
 refine K0.o.mono ?_;rintro e w1 ⟨v,rfl,hv,hx1,hb1⟩;obtain rfl:v= .int .i64 n:=hv;have uo:=zH hx1;have HB1:=zH hb1;have HN:Hid (n<=100000):=zH (ak HC.o HK.o);clear hx1 hb1 K0;go_wp2_with fail
 go_loopw [8] (fun z wr=>∃ (l:List iE) (j:Nat) (t:Rb),l.length+j=n/\Aside (res=(l++(mN gK j t).1,(mN gK j t).2))/\Aside (t.1.length<=500000000)/\gy qP w.heap.size wr z l/\iV wr g t/\But g w wr) (fun z _=>n-lenOf z)
 case atStart=>exact ⟨[],n,s0,by simp,by rw [bJ];exact HR.o,HT0.o,gy.nil _ _,uo.o,HB1.o⟩
 case round=>
  obtain ⟨l,j,t,hlj,Gg,HT,ho,hx,hb⟩:=hrel;have HO:=zH ho;have HX:=zH hx;have HB:=zH hb;have HLJ:=zH hlj;obtain ⟨la,lc,rfl,h1,h2,-,-⟩:=ho.parts;obtain ⟨ra,rn,rc,-,-,-,-,hh,-,-⟩:=hx.parts;obtain ⟨x0,x1,-,-⟩:=jE hh;clear ho hx hb hh;obtain ⟨b,bad⟩:=t;change wr.cell? ⟨g,1,none⟩=some (.bool bad) at x1;obtain ⟨ll,hll⟩:∃ m,l.length=m:=⟨_,rfl⟩;rw [hll] at hlj h1 HO;have LL:=zH hll;have Iq:=HN.o
  by_cases hlt:ll<n
  ·have hlt2:(ll:Int)<(n:Int):=by omega
   cases bad with
   |true=>
    rw [hll];go_wp2_with fail
    go_ret
    rw [Gg.out,I9,aV];exact ⟨_,rfl,HO.o,HX.o,HB.o⟩
   |false=>
    obtain ⟨i,rfl⟩:∃ i,j=i+1:=⟨j-1,by omega⟩;have HRM:Hid (res=(l++[(gK (b,false)).1]++(mN gK i (gK (b,false)).2).1,(mN gK i (gK (b,false)).2).2)):=zH (by rw [Gg.out,Cy,aY];rfl);have HT1:=zH (ak (lY (b,false)) HT.out);have KN:=zH (Ae HX.o HT.out);clear Gg;generalize gK (b,false)=q at*;rw [hll];go_wp2_with (first
     |(go_at_fn 231;refine KN.o.mono ?_;rintro e w2 ⟨v,rfl,hv,hx2,hb2⟩;obtain rfl:v= .string (bt q.1):=hv
       have O2:=zH (HO.o.but nT hb2 HG.o);have G2:=zH (HB.o.trans hb2);have X2:=zH hx2;have S1:=zH (one_str w2 q.1);clear hx2 hb2 KN)
     |(at_builtin;refine gT qP rfl (.tmp 23) (.tmp 26) rfl w.heap.size rfl (O2.o.alloc _) rfl S1.o (fun _ _ h=>h) (by rw [LL.o];simp;omega) (by have:=G2.o.size;simp;omega) ?_))
    intro v' w5 ho' hgr _;have O5:=zH ho';have G5:=zH ((G2.o.alloc HG.o _).grown hgr HG.o (fun j hj=>(O2.o.lt j hj).1));have X5:=zH ((X2.o.below ((aj _ _).alloc (ah _) _)).grown hgr (fun j hj=>ay HG.o (O2.o.lt j hj).1));obtain ⟨na,nc,hnv,hn1,hn2⟩:∃ na nc,v'= .slice na (ll+1) nc/\(ll+1:Int)<=(nc:Int)/\(nc:Int)<=9223372036854775807:=by
     obtain ⟨a,c,e,k1,k2,-⟩:=ho'.parts;rw [aA,LL.o] at e k1;exact ⟨a,c,e,by simp at k1;omega,by omega⟩
    clear ho' hgr x0 x1;subst hnv;go_wp2_with fail
    go_roundw
    case rel=>exact ⟨l++[q.1],i,q.2,by rw [aA,LL.o];simp;omega,HRM.o,HT1.o,O5.o,X5.o,G5.o⟩
    case measure=>simp [lenOf]<;>omega
  ·have hlt2:¬ (ll:Int)<(n:Int):=by omega
   obtain rfl:j=0:=by omega
   rw [hll];go_wp2_with fail
   go_ret
   rw [Gg.out,Gn,aV];exact ⟨_,rfl,HO.o,HX.o,HB.o⟩
theorem Va{w:World}{g:Nat}{s:Rb}(hx:iV w g s)(hl:s.1.length<=500000000)(k:Nat)(hk:k<=100000):Calls prog 169 #[.pointer (some ⟨g,0,none⟩),.int .i64 k,.func (.func 170) #[.pointer (some ⟨g,0,none⟩)] #[]] w (lZ (fun W v l=>gy gG w.heap.size W v l) w g (gJ nA k s)):=by
 have HG:=zH hx.lt;have K0:=zH (um hx hl k);have HC:=zH (zY k s);have HT0:=zH (ak (o8 k s) hl);have HR:Hid (gJ nA k s=mN nA (ig k s).1 (ig k s).2):=zH rfl;have HK:=zH hk;have eg:∀ args w,(callFunc 170 args).run prog w= .ok (.enter 170 args) w:=enters_of func170 (by kernel_rfl) rfl;clear hx hl hk;generalize gJ nA k s=res at*;generalize ig k s=q0 at*;obtain ⟨n,s0⟩:=q0;go_enter func169,ntmps169
 go_wp2_with fail
 refine K0.o.mono ?_;rintro e w1 ⟨v,rfl,hv,hx1,hb1⟩;obtain rfl:v= .int .i64 n:=hv;have uo:=zH hx1;have HB1:=zH hb1;have HN:Hid (n<=100000):=zH (ak HC.o HK.o);clear hx1 hb1 K0;go_wp2_with fail
 go_loopw [8] (fun z wr=>∃ (l:List fK) (j:Nat) (t:Rb),l.length+j=n/\Aside (res=(l++(mN nA j t).1,(mN nA j t).2))/\Aside (t.1.length<=500000000)/\gy gG w.heap.size wr z l/\iV wr g t/\But g w wr) (fun z _=>n-lenOf z)
 case atStart=>exact ⟨[],n,s0,by simp,by rw [bJ];exact HR.o,HT0.o,gy.nil _ _,uo.o,HB1.o⟩
 case round=>
  obtain ⟨l,j,t,hlj,Gg,HT,ho,hx,hb⟩:=hrel;have HO:=zH ho;have HX:=zH hx;have HB:=zH hb;have HLJ:=zH hlj;obtain ⟨la,lc,rfl,h1,h2,-,-⟩:=ho.parts;obtain ⟨ra,rn,rc,-,-,-,-,hh,-,-⟩:=hx.parts;obtain ⟨x0,x1,-,-⟩:=jE hh;clear ho hx hb hh;obtain ⟨b,bad⟩:=t;change wr.cell? ⟨g,1,none⟩=some (.bool bad) at x1;obtain ⟨ll,hll⟩:∃ m,l.length=m:=⟨_,rfl⟩;rw [hll] at hlj h1 HO;have LL:=zH hll;have Iq:=HN.o
  by_cases hlt:ll<n
  ·have hlt2:(ll:Int)<(n:Int):=by omega
   cases bad with
   |true=>
    rw [hll];go_wp2_with fail
    go_ret
    rw [Gg.out,I9,aV];exact ⟨_,rfl,HO.o,HX.o,HB.o⟩
   |false=>
    obtain ⟨i,rfl⟩:∃ i,j=i+1:=⟨j-1,by omega⟩;have HRM:Hid (res=(l++[(nA (b,false)).1]++(mN nA i (nA (b,false)).2).1,(mN nA i (nA (b,false)).2).2)):=zH (by rw [Gg.out,Cy,aY];rfl);have HT1:=zH (ak (Ed (b,false)) HT.out);have KN:=zH (YT HX.o HT.out);clear Gg;generalize nA (b,false)=q at*;rw [hll];go_wp2_with (first
     |(go_at_fn 170;refine KN.o.mono ?_;rintro e w2 ⟨v,rfl,hv,hx2,hb2⟩;obtain rfl:v= .agg #[.string (bt q.1.key),.string (bt q.1.field),.int .i64 q.1.kind,.string (bt q.1.elem),.int .i64 q.1.n,.int .i64 q.1.dot.node,.int .i64 q.1.dot.seq,.int .i64 q.1.dot.pos]:=hv
       have O2:=zH (HO.o.but jR hb2 HG.o);have G2:=zH (HB.o.trans hb2);have X2:=zH hx2;have S1:=zH (Im w2 q.1);clear hx2 hb2 KN)
     |(at_builtin;refine gT gG rfl (.tmp 23) (.tmp 26) rfl w.heap.size rfl (O2.o.alloc _) rfl S1.o (fun _ _ h=>h) (by rw [LL.o];simp;omega) (by have:=G2.o.size;simp;omega) ?_))
    intro v' w5 ho' hgr _;have O5:=zH ho';have G5:=zH ((G2.o.alloc HG.o _).grown hgr HG.o (fun j hj=>(O2.o.lt j hj).1));have X5:=zH ((X2.o.below ((aj _ _).alloc (ah _) _)).grown hgr (fun j hj=>ay HG.o (O2.o.lt j hj).1));obtain ⟨na,nc,hnv,hn1,hn2⟩:∃ na nc,v'= .slice na (ll+1) nc/\(ll+1:Int)<=(nc:Int)/\(nc:Int)<=9223372036854775807:=by
     obtain ⟨a,c,e,k1,k2,-⟩:=ho'.parts;rw [aA,LL.o] at e k1;exact ⟨a,c,e,by simp at k1;omega,by omega⟩
    clear ho' hgr x0 x1;subst hnv;go_wp2_with fail
    go_roundw
    case rel=>exact ⟨l++[q.1],i,q.2,by rw [aA,LL.o];simp;omega,HRM.o,HT1.o,O5.o,X5.o,G5.o⟩
    case measure=>simp [lenOf]<;>omega
  ·have hlt2:¬ (ll:Int)<(n:Int):=by omega
   obtain rfl:j=0:=by omega
   rw [hll];go_wp2_with fail
   go_ret
   rw [Gg.out,Gn,aV];exact ⟨_,rfl,HO.o,HX.o,HB.o⟩
end Go.Proofs.YtfgcodcablpdcaaGreat