import Derived.Test.YtmknpmamkjjiaaaQuHeard
set_option linter.unusedVariables false
set_option maxRecDepth 100000
set_option maxHeartbeats 64000000
namespace Go.Proofs.Ytmknpmamkjjiaaa
open Go.Proofs.Try
open Go.RowKit Plain
structure kX(w:World)(m:Int)(a:Option Addr)(n c:Nat)(p s:Int)(dv ev:Value)(u:World):Prop where
 low:Below w.heap.size w u
 pb:dA w.heap.size m a n c u
 tb:u.heap[w.heap.size+1]? =some (.cells #[.int .i64 p,.int .i64 s,dv,ev] 34 (0,0))
 rb:dA (w.heap.size+1+1) 0 none 0 0 u
section
variable {w u u':World} {m:Int} {a:Option Addr} {n c:Nat} {p s:Int} {dv ev:Value}
theorem kX.keep(h:kX w m a n c p s dv ev u)(hl:Below w.heap.size w u')(hb:∀ b,w.heap.size<=b ->b<=w.heap.size+2 ->u'.heap[b]? =u.heap[b]?):kX w m a n c p s dv ev u':=
 ⟨hl,h.pb.eq (hb _ (by omega) (by omega)),(hb _ (by omega) (by omega)).trans h.tb,h.rb.eq (hb _ (by omega) (by omega))⟩
theorem kX.below(h:kX w m a n c p s dv ev u)(hb:Below u.heap.size u u'):kX w m a n c p s dv ev u':=
 h.keep (h.low.trans (hb.mono h.low.size)) fun b _ h2=>hb.block b (by have:=h.rb.lt;omega)
theorem kX.tc(h:kX w m a n c p s dv ev u):u.cell? ⟨w.heap.size+1,0,none⟩=some (.int .i64 p)/\u.cell? ⟨w.heap.size+1,1,none⟩=some (.int .i64 s)/\u.cell? ⟨w.heap.size+1,2,none⟩=some dv/\u.cell? ⟨w.heap.size+1,3,none⟩=some ev:=(bY h.tb).1
def tc4(p s:Int)(dv ev:Value):Obj:= .cells #[.int .i64 p,.int .i64 s,dv,ev] 34
theorem lX(w:World)(m:Int)(a:Option Addr)(n c:Nat)(p s:Int)(dv ev:Value):(((w.alloc (.cells #[.int .i64 m,.slice a n c] 26)).alloc (.cells #[.int .i64 p,.int .i64 s,dv,ev] 34)).cell? ⟨w.heap.size,0,none⟩=some (.int .i64 m)/\((w.alloc (.cells #[.int .i64 m,.slice a n c] 26)).alloc (.cells #[.int .i64 p,.int .i64 s,dv,ev] 34)).cell? ⟨w.heap.size,1,none⟩=some (.slice a n c))/\((w.alloc (.cells #[.int .i64 m,.slice a n c] 26)).alloc (.cells #[.int .i64 p,.int .i64 s,dv,ev] 34)).cell? ⟨w.heap.size+1,0,none⟩=some (.int .i64 p)/\((w.alloc (.cells #[.int .i64 m,.slice a n c] 26)).alloc (.cells #[.int .i64 p,.int .i64 s,dv,ev] 34)).cell? ⟨w.heap.size+1,1,none⟩=some (.int .i64 s):=by
 show ((((w.alloc (qc m a n c)).alloc (tc4 p s dv ev)).cell? ⟨w.heap.size,0,none⟩=some (.int .i64 m)/\((w.alloc (qc m a n c)).alloc (tc4 p s dv ev)).cell? ⟨w.heap.size,1,none⟩=some (.slice a n c))/\((w.alloc (qc m a n c)).alloc (tc4 p s dv ev)).cell? ⟨w.heap.size+1,0,none⟩=some (.int .i64 p)/\((w.alloc (qc m a n c)).alloc (tc4 p s dv ev)).cell? ⟨w.heap.size+1,1,none⟩=some (.int .i64 s))
 have z1:(w.alloc (qc m a n c)).heap.size=w.heap.size+1:=by simp
 have b1:=aR (w.alloc (qc m a n c)) (tc4 p s dv ev);rw [z1] at b1;exact ⟨(dA.below (dD w m a n c) ((ak _ _).alloc (aj _) (tc4 p s dv ev))).c.1,(bY b1).1.1,(bY b1).1.2.1⟩
theorem wz(w:World)(m:Int)(a:Option Addr)(n c:Nat)(p s:Int)(dv ev:Value):kX w m a n c p s dv ev (((w.alloc (.cells #[.int .i64 m,.slice a n c] 26)).alloc (.cells #[.int .i64 p,.int .i64 s,dv,ev] 34)).alloc (.cells #[.int .i64 0,.slice none 0 0] 26)):=by
 show kX w m a n c p s dv ev (((w.alloc (qc m a n c)).alloc (tc4 p s dv ev)).alloc (qc 0 none 0 0))
 have z1:(w.alloc (qc m a n c)).heap.size=w.heap.size+1:=by simp
 have z2:((w.alloc (qc m a n c)).alloc (tc4 p s dv ev)).heap.size=w.heap.size+1+1:=by simp
 have b1:=aR (w.alloc (qc m a n c)) (tc4 p s dv ev);have b2:=dD ((w.alloc (qc m a n c)).alloc (tc4 p s dv ev)) 0 none 0 0;have hb:Below (w.heap.size+1+1) ((w.alloc (qc m a n c)).alloc (tc4 p s dv ev)) (((w.alloc (qc m a n c)).alloc (tc4 p s dv ev)).alloc (qc 0 none 0 0)):=(ak _ _).alloc (by omega) _;rw [z1] at b1;rw [z2] at b2;exact ⟨((zB w _).alloc (by simp) _).alloc (by simp;omega) _,dA.eq (dA.below (dD w m a n c) ((ak _ _).alloc (aj _) (tc4 p s dv ev))) (hb.block _ (by omega)),(hb.block _ (by omega)).trans b1,b2⟩
end
theorem uL{l:List bK}{t:bK}(h:l.length=0):eT l t=true:=by unfold eT;rw [aB h,Bool.true_or]
theorem su{l:List bK}{t:bK}(h:¬ l.length=0)(h1:¬ t.node=(nY l).node):eT l t=false:=by unfold eT;rw [aA h,aA h1,Bool.false_or,aV]
theorem wI{l:List bK}{t:bK}(h:¬ l.length=0)(h1:t.node=(nY l).node):eT l t=decide (t.seq-1=(nY l).seq):=by unfold eT;rw [aA h,aB h1,Bool.false_or,aN]
def uM(m:Int):Bool:=decide (m<0)||decide (16<m)
def qw(m:Int):bM:=if uM m=true then ⟨0,[]⟩ else ⟨m,[]⟩
def iH(m:Int):Int:=if uM m=true then 1 else 0
theorem kY{m:Int}(h:m<0\/16<m):qw m=⟨0,[]⟩/\iH m=1:=by
 have e:uM m=true:=by unfold uM;rcases h with h|h<;>simp [h]
 unfold qw iH;rw [e];exact ⟨rfl,rfl⟩
theorem tC{m:Int}(h1:¬ m<0)(h2:¬ 16<m):qw m=⟨m,[]⟩/\iH m=0:=by
 have e:uM m=false:=by unfold uM;simp [h1,h2]
 unfold qw iH;rw [e];exact ⟨rfl,rfl⟩
theorem ni(m:Int)(w:World):Calls prog 6 #[.int .i64 m] w (qx w (qw m) (iH m)):=by
 have QB:=zH (dD w 0 none 0 0);have LB:=zH (zB w (.cells #[.int .i64 0,.slice none 0 0] 26));go_enter func6,ntmps6
 go_upto_region 1 with fail
 generalize (w.alloc _)=w0 at*;obtain ⟨⟨c0,c1⟩,f0,f1⟩:=QB.o.c;have Z0:=zH ((QB.o.put 0 none 0 0).c.1);have Z1:=zH ((QB.o.put m none 0 0).c.1);have B0:=zH ((LB.o.setCell (aj _) _).setCell (aj _) _:Below w.heap.size w ((w0.setCell ⟨w.heap.size,0,none⟩ (.int .i64 0)).setCell ⟨w.heap.size,1,none⟩ (.slice none 0 0)));have B1:=zH ((LB.o.setCell (aj _) _).setCell (aj _) _:Below w.heap.size w ((w0.setCell ⟨w.heap.size,0,none⟩ (.int .i64 m)).setCell ⟨w.heap.size,1,none⟩ (.slice none 0 0)))
 by_cases h1:m<0
 ·have HE:=zH (kY (.inl h1))
  go_wp2_with fail
  obtain ⟨z0,z1⟩:=Z0.o;refine bodyPost_ret (v:= .tuple #[.agg #[.int .i64 0,.slice none 0 0],.int .i64 1]) (by simp [results,results6,go_sem,z0,z1]) rfl ?_;rw [HE.o.1,HE.o.2];exact ⟨none,0,0,rfl,rfl,bT.nil _ _ _,B0.o⟩
 ·by_cases h2:16<m
  ·have HE:=zH (kY (.inr h2))
   go_wp2_with fail
   obtain ⟨z0,z1⟩:=Z0.o;refine bodyPost_ret (v:= .tuple #[.agg #[.int .i64 0,.slice none 0 0],.int .i64 1]) (by simp [results,results6,go_sem,z0,z1]) rfl ?_;rw [HE.o.1,HE.o.2];exact ⟨none,0,0,rfl,rfl,bT.nil _ _ _,B0.o⟩
  ·have HE:=zH (tC h1 h2)
   go_wp2_with fail
   obtain ⟨z0,z1⟩:=Z1.o;refine bodyPost_ret (v:= .tuple #[.agg #[.int .i64 m,.slice none 0 0],.int .i64 0]) (by simp [results,results6,go_sem,z0,z1]) rfl ?_;rw [HE.o.1,HE.o.2];exact ⟨none,0,0,rfl,rfl,bT.nil _ _ _,B1.o⟩
theorem lY{v tv:Value}{q:bM}{t:bK}{w:World}(h:dw w v q)(ht:dU w tv t)(hs:1<=t.seq)(hs2:t.seq<=1073741824):Calls prog 17 #[v,tv] w (bH w (eT q.list t)):=by
 obtain ⟨la,n,lc,rfl,hn,h1⟩:=h;obtain ⟨da,dn,dc,ea,en,ec,rfl,k1,k2⟩:=ht.parts;have hW:=qh hs (by omega);have hB:Below w.heap.size w ((w.alloc (.cells #[.int .i64 q.most,.slice la n lc] 26)).alloc (.cells #[.int .i64 t.node,.int .i64 t.seq,.slice da dn dc,.slice ea en ec] 34)):=(zB w _).alloc (by simp) _;have GA:=zH hB;have C0:=zH (lX w q.most la n lc t.node t.seq (.slice da dn dc) (.slice ea en ec));have HD:=bJ.gy (L:=dJ) (show bJ dJ w (.slice la n lc) q.list from h1);have HS:=zH h1;have HN:=zH hn;have hnl:(n:Int)<=lc:=by have:=HD.2;omega
 have AQ:(lc:Int)<=9223372036854775807:=by have:=HD.2;omega
 clear ht hn k1 k2 hB h1 HD hs hs2;generalize q.most=qm at*;go_enter func17,ntmps17
 by_cases hz:n=0
 ·subst hz
  have HR:Hid (eT q.list t=true):=zH (uL (by rw [<-HN.o]));go_upto_region 1 with fail
  generalize ((w.alloc _).alloc _)=w0 at*;obtain ⟨⟨c0,c1⟩,c2,c3⟩:=C0.o;go_wp2_with fail
  go_ret
  rw [HR.o];exact ⟨rfl,GA.o⟩
 ·obtain ⟨lb,lo,rfl,hlb,hc'⟩:=jm (fun b h=>h) HS.o (by omega)
  obtain ⟨xa,xn,xc,ya,yn,yc,hW2⟩:=hc' (n-1) (by omega);have hI:(n:Int)-1=((n-1:Nat):Int):=by omega
  have hz2:((n:Int)==0)=false:=by simp;omega
  have hz3:((n-1:Nat):Int)<n:=by omega
  have HL:Hid (¬ q.list.length=0):=zH (by have:=HN.o;omega);have HX:=zH (fun u (hb:Below w.heap.size w u)=>(hW2 u hb).1);rw [show dW q.list (n-1)=nY q.list by unfold nY;rw [<-HN.o]] at HX;have RN:=zH (su (l:=q.list) (t:=t) HL.o);have RA:=zH (wI (l:=q.list) (t:=t) HL.o);clear hc' hW2 hlb HS HN HL;generalize nY q.list=a at*;generalize eT q.list t=r at*;go_upto_region 1 with fail
  generalize ((w.alloc _).alloc _)=w0 at*;obtain ⟨⟨c0,c1⟩,c2,c3⟩:=C0.o;obtain ⟨x0,x1,x2,x3⟩:=HX.o _ GA.o;have hW3:IntKind.i64.wrap ((n:Int)-1)=((n-1:Nat):Int):=by rw [hI];exact ng (by omega)
  generalize n-1=n1 at*;have hb:=zB w0 (.cells #[.int .i64 a.node,.int .i64 a.seq,.slice xa xn xc,.slice ya yn yc] 34);have A0:=zH (bY (aR w0 (.cells #[.int .i64 a.node,.int .i64 a.seq,.slice xa xn xc,.slice ya yn yc] 34))).1;have C1:=zH (And.intro ((hb.cell (p:=⟨w.heap.size+1,0,none⟩) (show w.heap.size+1<_ from ay w0 ⟨w.heap.size+1,0,none⟩ c2)).trans c2) ((hb.cell (p:=⟨w.heap.size+1,1,none⟩) (show w.heap.size+1<_ from ay w0 ⟨w.heap.size+1,1,none⟩ c3)).trans c3));have G1:=zH (GA.o.trans (hb.mono GA.o.size));clear hb C0 HX GA;go_upto_region 4 with fail
  clear c0 c1 c2 c3 x0 x1 x2 x3;generalize (w0.alloc _)=w1 at*;generalize w0.heap.size=ga at*;obtain ⟨a0,a1,a2,a3⟩:=A0.o;obtain ⟨c2,c3⟩:=C1.o
  by_cases e1:t.node=a.node
  ·have b1:(t.node==a.node)=true:=by simp [e1]
   have HR:=zH (RA.o e1)
   by_cases e2:t.seq-1=a.seq
   ·have b2:(t.seq-1==a.seq)=true:=by simp [e2]
    have HR2:Hid (r=true):=zH (HR.o.trans (aB e2));clear HR RA RN e1 e2;go_wp2_with fail
    go_ret
    rw [HR2.o];exact ⟨rfl,G1.o⟩
   ·have b2:(t.seq-1==a.seq)=false:=by simp [e2]
    have HR2:Hid (r=false):=zH (HR.o.trans (aA e2));clear HR RA RN e1 e2;go_wp2_with fail
    go_ret
    rw [HR2.o];exact ⟨rfl,G1.o⟩
  ·have b1:(t.node==a.node)=false:=by simp [e1]
   have HR2:=zH (RN.o e1);clear RA RN e1;go_wp2_with fail
   go_ret
   rw [HR2.o];exact ⟨rfl,G1.o⟩
theorem iX{v tv:Value}{q:bM}{t:bK}{w:World}(h:dw w v q)(ht:dU w tv t)(hl:q.list.length<=1000000)(hf:∀ t∈q.list,iy t)(hft:iy t):Calls prog 9 #[v,tv] w (qx w (fF q t) (fT q t)):=by
 obtain ⟨la,n,lc,rfl,hn,h1⟩:=h;obtain ⟨da,dn,dc,ea,en,ec,rfl,k1,k2⟩:=ht.parts;have R0:Hid (kX w q.most la n lc t.node t.seq (.slice da dn dc) (.slice ea en ec) (((w.alloc (.cells #[.int .i64 q.most,.slice la n lc] 26)).alloc (.cells #[.int .i64 t.node,.int .i64 t.seq,.slice da dn dc,.slice ea en ec] 34)).alloc (.cells #[.int .i64 0,.slice none 0 0] 26))):=zH (wz w q.most la n lc t.node t.seq (.slice da dn dc) (.slice ea en ec));have KT:=zH (fun u (hb:Below w.heap.size w u)=>(⟨_,_,rfl,k1.below hb,k2.below hb⟩:dU u (.agg #[.int .i64 t.node,.int .i64 t.seq,.slice da dn dc,.slice ea en ec]) t));have KQ:=zH (fun u (hb:Below w.heap.size w u)=>(dw.below (v:= .agg #[.int .i64 q.most,.slice la n lc]) (q:=q) ⟨la,n,lc,rfl,hn,h1⟩ hb));have BO:=zH (fun u (hb:Below w.heap.size w u) r hr=>uN (KT.o u hb) hft r hr);have KW:=zH (fun u (hb:Below w.heap.size w u)=>lY (KQ.o u hb) (KT.o u hb));have KH:Hid (∀ u,Below w.heap.size w u ->Calls prog 8 #[.agg #[.int .i64 q.most,.slice la n lc],.slice none 0 0] u (oo u q.most q.list)):=zH (fun u hb=>by have h:=iA (vv:= .slice none 0 0) (KQ.o u hb) (bX.nil u) hl hf;rw [kU] at h;exact h);have KA:=zH (fun u (hb:Below w.heap.size w u)=>jT (KT.o u hb) hft);have E1:=zH (fun h=>uE (q:=q) (t:=t) h);have E2:=zH (fun h h1=>vZ (q:=q) (t:=t) h h1);have E3:=zH (fun h h1 h2=>uF (q:=q) (t:=t) h h1 h2);have E4:=zH (fun h h1 h2=>sZ (q:=q) (t:=t) h h1 h2);have AU:=zH (fun h=>fG (t:=t) h);have HN:=zH hn;have HL:=zH hl;clear ht hl hf hft h1 hn k1 k2 KT KQ;rw [<-HN.o] at E3 E4;generalize fT q t=er at*;generalize fF q t=res at*;obtain ⟨fb,Am⟩:∃ b,bN t=b:=⟨_,rfl⟩;obtain ⟨nb,hnb⟩:∃ b,eT q.list t=b:=⟨_,rfl⟩;have Dw:=zH Am;have KF:=zH (fun u hb=>BO.o u hb fb Am);rw [hnb] at KW E2 E3 E4;rw [Am] at E1 E2 E3 E4 AU;clear Am hnb BO;generalize q.list=l at*;generalize q.most=qm at*;go_enter func9,ntmps9
 go_upto_region 1 with fail
 generalize (((w.alloc _).alloc _).alloc _)=w0 at*;obtain ⟨c0,c1,c2,c3⟩:=R0.o.tc;have K1:=zH (KF.o _ R0.o.low);go_wp2_with fail
 refine K1.o.mono ?_;rintro e w1 ⟨rfl,hb⟩;have R1:=zH (R0.o.below hb);clear hb R0 K1 KF c0 c1 c2 c3
 cases fb with
 |false=>
  have HE:=zH (E1.o (by trivial));obtain ⟨⟨y0,y1⟩,f0,f1⟩:=R1.o.rb.c;have Z:=zH (R1.o.rb.put 0 none 0 0).c.1;have ZB:Hid (Below w.heap.size w ((w1.setCell ⟨w.heap.size+1+1,0,none⟩ (.int .i64 0)).setCell ⟨w.heap.size+1+1,1,none⟩ (.slice none 0 0))):=zH ((R1.o.low.setCell (by show w.heap.size<=w.heap.size+1+1;omega) _).setCell (by show w.heap.size<=w.heap.size+1+1;omega) _);go_wp2_with fail
  obtain ⟨z0,z1⟩:=Z.o;refine bodyPost_ret (v:= .tuple #[.agg #[.int .i64 0,.slice none 0 0],.int .i64 2]) (by simp [results,results9,go_sem,z0,z1]) rfl ?_;rw [HE.o.1,HE.o.2];exact ⟨none,0,0,rfl,rfl,bT.nil _ _ _,ZB.o⟩
 |true=>
  obtain ⟨c0,c1,c2,c3⟩:=R1.o.tc;obtain ⟨⟨d0,d1⟩,-⟩:=R1.o.pb.c;have K2:=zH (KW.o _ R1.o.low (AU.o (by trivial)).2.2.1 (AU.o (by trivial)).2.2.2);go_wp2_with fail
  refine K2.o.mono ?_;rintro e w2 ⟨rfl,hb⟩;have R2:=zH (R1.o.below hb);clear hb R1 K2 KW c0 c1 c2 c3 d0 d1
  cases nb with
  |false=>
   have HE:=zH (E2.o (by trivial) (by trivial));obtain ⟨⟨y0,y1⟩,f0,f1⟩:=R2.o.rb.c;have Z:=zH (R2.o.rb.put 0 none 0 0).c.1;have ZB:Hid (Below w.heap.size w ((w2.setCell ⟨w.heap.size+1+1,0,none⟩ (.int .i64 0)).setCell ⟨w.heap.size+1+1,1,none⟩ (.slice none 0 0))):=zH ((R2.o.low.setCell (by show w.heap.size<=w.heap.size+1+1;omega) _).setCell (by show w.heap.size<=w.heap.size+1+1;omega) _);go_wp2_with fail
   obtain ⟨z0,z1⟩:=Z.o;refine bodyPost_ret (v:= .tuple #[.agg #[.int .i64 0,.slice none 0 0],.int .i64 9]) (by simp [results,results9,go_sem,z0,z1]) rfl ?_;rw [HE.o.1,HE.o.2];exact ⟨none,0,0,rfl,rfl,bT.nil _ _ _,ZB.o⟩
  |true=>
   obtain ⟨⟨d0,d1⟩,-⟩:=R2.o.pb.c
   by_cases hfull:qm<=(n:Int)
   ·have HE:=zH (E3.o (by trivial) (by trivial) hfull)
    obtain ⟨⟨y0,y1⟩,f0,f1⟩:=R2.o.rb.c;have Z:=zH (R2.o.rb.put 0 none 0 0).c.1;have ZB:Hid (Below w.heap.size w ((w2.setCell ⟨w.heap.size+1+1,0,none⟩ (.int .i64 0)).setCell ⟨w.heap.size+1+1,1,none⟩ (.slice none 0 0))):=zH ((R2.o.low.setCell (by show w.heap.size<=w.heap.size+1+1;omega) _).setCell (by show w.heap.size<=w.heap.size+1+1;omega) _);go_wp2_with fail
    obtain ⟨z0,z1⟩:=Z.o;refine bodyPost_ret (v:= .tuple #[.agg #[.int .i64 0,.slice none 0 0],.int .i64 6]) (by simp [results,results9,go_sem,z0,z1]) rfl ?_;rw [HE.o.1,HE.o.2];exact ⟨none,0,0,rfl,rfl,bT.nil _ _ _,ZB.o⟩
   ·have HE:=zH (E4.o (by trivial) (by trivial) (by omega))
    have K3:=zH (KH.o _ R2.o.low);go_upto_region 7 with fail
    go_wp2_with fail
    refine K3.o.mono ?_;rintro e wJ ⟨ra,rn,rc,rfl,hrn,ho,hb⟩;obtain rfl:rn=n:=hrn.symm.trans HN.o.symm;have hbq:=zB wJ (.cells #[.int .i64 qm,.slice ra rn rc] 26);have lQ:Hid (w.heap.size+3<=w2.heap.size):=zH R2.o.rb.lt;have ZV:Hid (w2.heap.size<=wJ.heap.size):=zH hb.size;have VL:Hid (wJ.heap.size<(wJ.alloc (.cells #[.int .i64 qm,.slice ra rn rc] 26)).heap.size):=zH (by simp);have R3:=zH ((R2.o.below hb).below hbq);have L3:=zH (dD wJ qm ra rn rc);have O3:Hid (bT (fun b=>w2.heap.size<=b/\b≠wJ.heap.size) dJ w2.heap.size (wJ.alloc (.cells #[.int .i64 qm,.slice ra rn rc] 26)) (.slice ra rn rc) l):=zH ((ho.lower.imp fun b h=>(⟨h.1,by have:=h.2;omega⟩:w2.heap.size<=b/\b≠wJ.heap.size)).below hbq (aj _));have OL:Hid (∀ j,(Value.slice ra rn rc).ownBlock=some j ->j<wJ.heap.size):=zH (fun j h=>(ho.lt j h).2);have KL:Hid (l.length=rn):=zH HN.o.symm;clear hb hbq ho R2 K3 KH d0 d1 hrn;go_upto_region 8 with fail
    generalize hwb:(wJ.alloc _)=wb at*;generalize wJ.heap.size=gv at*;have BU:Hid (Below w.heap.size w wb.drew):=zH (R3.o.low.trans ((ak _ _).drew.mono R3.o.low.size));have TU:Hid (wb.drew.heap[w.heap.size+1]? =some (.cells #[.int .i64 t.node,.int .i64 t.seq,.slice da dn dc,.slice ea en ec] 34 (0,0))):=zH R3.o.tb;have LU:Hid (dA gv qm ra rn rc wb.drew):=zH ⟨L3.o.b⟩;have OU:Hid (bT (fun b=>w2.heap.size<=b/\b≠gv) dJ w2.heap.size wb.drew (.slice ra rn rc) l):=zH (O3.o.below (ak _ _).drew (aj _));have KF:Hid (∀ u:World,Below w.heap.size w u ->u.heap[w.heap.size+1]? =some (.cells #[.int .i64 t.node,.int .i64 t.seq,.slice da dn dc,.slice ea en ec] 34 (0,0)) ->Below w.heap.size w u/\(u.cell? ⟨w.heap.size+1,0,none⟩=some (.int .i64 t.node)/\u.cell? ⟨w.heap.size+1,1,none⟩=some (.int .i64 t.seq)/\u.cell? ⟨w.heap.size+1,2,none⟩=some (.slice da dn dc)/\u.cell? ⟨w.heap.size+1,3,none⟩=some (.slice ea en ec))):=zH (fun u hb h=>⟨hb,(bY h).1⟩);have ZU:Hid (w2.heap.size<=wb.heap.size):=zH (by have:=VL.o;have:=ZV.o;omega);have NW:Hid (w.heap.size<=w2.heap.size):=zH (by have:=lQ.o;omega);have JN:Hid (∀ b,wb.heap.size<=b ->w2.heap.size<=b/\b≠gv):=zH (fun b h=>by have:=VL.o;have:=ZV.o;omega);have GN:Hid (some (w.heap.size+1)≠(Value.slice ra rn rc).ownBlock):=zH (fun e=>by have:=(O3.o.lt _ e.symm).1;have:=lQ.o;omega);have GV:Hid (w.heap.size+1≠gv):=zH (by have:=lQ.o;have:=ZV.o;omega);have VN:Hid (¬ (w2.heap.size<=gv/\gv≠gv)/\(Value.slice ra rn rc).ownBlock≠some gv):=zH ⟨fun h=>h.2 rfl,fun e=>by have:=OL.o _ e;omega⟩;replace OL:Hid (∀ j,(Value.slice ra rn rc).ownBlock=some j ->j<wb.heap.size):=zH (fun j h=>(O3.o.lt j h).2);have VW:Hid (w.heap.size<=gv):=zH (by have:=lQ.o;have:=ZV.o;omega);have BD:Hid (wb.heap.size<=wb.drew.heap.size):=zH (aj _);have BK:Hid (Below w2.heap.size wb wb.drew):=zH (ak _ _).drew;have yY:=HL;clear O3 L3;refine wp_region_held_drew (S:=fun u'=>Below w.heap.size w u'/\(u'.cell? ⟨(w.heap.size+1),0,none⟩=some (.int .i64 t.node)/\u'.cell? ⟨(w.heap.size+1),1,none⟩=some (.int .i64 t.seq)/\u'.cell? ⟨(w.heap.size+1),2,none⟩=some (.slice da dn dc)/\u'.cell? ⟨(w.heap.size+1),3,none⟩=some (.slice ea en ec))) (by kernel_rfl) ?_ (fun hH=> ?_)
    ·(exact KF.o _ BU.o TU.o)
    simp only [zS,aC,Nat.reduceAdd]
    refine bF 0 hH ?_;refine bF 2 hH ?_;refine wpAnyH_ready (rs:=[1,3]) (by kernel_rfl) (by simp) ?_;refine AllReadyH.cons rfl (fun K hK=> ?_) (AllReadyH.cons rfl (fun K hK=> ?_) AllReadyH.nil)
    ·skip
     obtain ⟨⟨y0,y1⟩,-⟩:=LU.o.c
     go_simp
     refine hK.out _ _ (KF.o _ BU.o TU.o) (fun hH=> ?_);clear hK K y0 y1;refine rd 3 fun K hK=> ?_
     go_simp
     refine (KA.o _ BU.o).mono ?_;rintro e u1 ⟨ua,rfl,hu,hb⟩;obtain ⟨a1,n1,e1,a2,n2,e2,rfl,hu⟩:=hu.parts;have UU:Hid (bV (fun b=>wb.heap.size<=b/\b<u1.heap.size) u1 (.agg #[.int .i64 t.node,.int .i64 t.seq,.slice a1 n1 e1,.slice a2 n2 e2]) t):=zH (hu.mono fun b h=>⟨aD BD.o h.1,h.2⟩);replace BD:=zH (aD BD.o hb.size);replace TU:=zH ((hb.block _ (au.1 TU.o).1).trans TU.o);replace LU:=zH (LU.o.below hb);replace OU:=zH (OU.o.below hb (aj _));replace BU:=zH (BU.o.trans (hb.mono BU.o.size));replace BK:=zH (BK.o.trans (hb.mono (aD ZU.o BK.o.size)));clear hu hb KA;refine hK.out _ _ (KF.o _ BU.o TU.o) (fun hH=> ?_);clear hK K;refine rd 4 fun K hK=> ?_
     go_simp
     have hb:=zB u1 (.cells #[.int .i64 t.node,.int .i64 t.seq,.slice a1 n1 e1,.slice a2 n2 e2] 34);have LX:=zH (gD (J:=(fun b=>w2.heap.size<=b/\b≠gv)) (N:=fun b=>wb.heap.size<=b/\b<u1.heap.size) (W:=u1) (x:=t) (ov:= .slice ra rn rc) UU.o.deps UU.o.dh (fun b h=>h.2) (fun b h=>JN.o b h.1) (JN.o _ BD.o) (fun q hq=>by have h1:=OL.o q hq;have h2:=BD.o;exact ⟨fun h=>by omega,by omega⟩));have LZ:Hid ((u1.alloc (.cells #[.int .i64 t.node,.int .i64 t.seq,.slice a1 n1 e1,.slice a2 n2 e2] 34)).heap.size=u1.heap.size+1):=zH (by simp);replace BD:=zH (aD BD.o hb.size);replace TU:=zH ((hb.block _ (au.1 TU.o).1).trans TU.o);replace LU:=zH (LU.o.below hb);replace OU:=zH (OU.o.below hb (aj _));replace BU:=zH (BU.o.trans (hb.mono BU.o.size));replace BK:=zH (BK.o.trans (hb.mono (aD ZU.o BK.o.size)));clear hb UU;refine hK.out _ _ (KF.o _ BU.o TU.o) (fun hH=> ?_);clear hK K LZ;generalize u1.heap.size=bk at*;generalize (u1.alloc _)=u2 at*;refine rd 5 fun K hK=> ?_
     refine dG ((fun b=>w2.heap.size<=b/\b≠gv)) dJ (by rfl) (.tmp 29) (.tmp 32) (by rfl) (w2.heap.size) (by rfl) OU.o (by rfl) LX.o (fun vs x h=>h) (by have:=KL.o;have:=yY.o;simp;omega) (by have:=ZU.o;have:=BD.o;omega) ?_;intro v2 u3 ho hg hat;obtain ⟨a3,c3,rfl,-,-,ho⟩:=ho.at (rn+1) (by have:=KL.o;simp;omega);replace TU:=zH ((hg.block _ (au.1 TU.o).1 GN.o).trans TU.o);replace LU:=zH (LU.o.eq (hg.block _ LU.o.lt (fun e=>VN.o.2 e.symm)));replace BU:=zH (BU.o.grown hg BU.o.size (fun j hj=>by have:=OU.o.lt j hj;have:=NW.o;omega));replace BK:=zH (BK.o.grown hg (aD ZU.o BK.o.size) (fun j hj=>(OU.o.lt j hj).1));have VA:Hid (∀ j,(Value.slice a3 (rn+1) c3).ownBlock=some j ->j≠gv):=zH (fun j e=>by rcases hat with h|h;exact fun e2=>VN.o.2 (by rw [<-h,e,e2]);have h2:=bg (e.symm.trans h);have:=VL.o;have:=BD.o;omega);replace OU:=zH ho;replace BD:=zH (aD BD.o hg.size);clear ho hg hat LX;refine hK.out _ _ (KF.o _ BU.o TU.o) (fun hH=> ?_);clear hK K;refine bF 6 hH ?_;obtain ⟨⟨y0,y1⟩,g0,g1⟩:=LU.o.c;refine rd 7 fun K hK=> ?_
     go_simp
     have hbs:Below w.heap.size w (u3.setCell ⟨gv,1,none⟩ (.slice a3 (rn+1) c3)):=BU.o.setCell VW.o _;have hto:∀ b,b≠gv ->(u3.setCell ⟨gv,1,none⟩ (.slice a3 (rn+1) c3)).heap[b]? =u3.heap[b]? :=fun b h=>aH _ _ _ _ h
     refine hK.out _ _ (KF.o _ hbs ((hto _ GV.o).trans TU.o)) (fun hH=> ?_);replace LU:=zH (LU.o.uD a3 (rn+1) c3);replace OU:=zH (OU.o.mZ (w':=u3.setCell ⟨gv,1,none⟩ (.slice a3 (rn+1) c3)) (by simp [World.setCell]) (fun b hb h=>hto b (by rcases h with h|h;exact fun e=>(by subst e;exact VN.o.1 h);exact VA.o b h)));replace BU:=zH hbs;have vY:=zH hto;clear hK K y0 y1 g0 g1 hbs hto VA;refine wpAnyH_done (by kernel_rfl) ?_ _;clear hH KF TU;have RU:=zH (R3.o.keep BU.o (fun b h1 h2=>(vY.o b (by have:=ZV.o;have:=lQ.o;omega)).trans (BK.o.block b (by have:=lQ.o;omega))));obtain ⟨⟨y0,y1⟩,f0,f1⟩:=RU.o.rb.c;obtain ⟨⟨v0,v1⟩,-⟩:=LU.o.c;generalize (u3.setCell _ _)=u4 at*;have Z:=zH (RU.o.rb.put qm a3 (rn+1) c3).c.1;have ZB:Hid (Below w.heap.size w ((u4.setCell ⟨w.heap.size+1+1,0,none⟩ (.int .i64 qm)).setCell ⟨w.heap.size+1+1,1,none⟩ (.slice a3 (rn+1) c3))):=zH ((BU.o.setCell (by show w.heap.size<=w.heap.size+1+1;omega) _).setCell (by show w.heap.size<=w.heap.size+1+1;omega) _);have ZO:Hid (bT (fun b=>w.heap.size<=b) dJ w.heap.size ((u4.setCell ⟨w.heap.size+1+1,0,none⟩ (.int .i64 qm)).setCell ⟨w.heap.size+1+1,1,none⟩ (.slice a3 (rn+1) c3)) (.slice a3 (rn+1) c3) (l++[t])):=zH (by
      have h:=OU.o.kept (w':=(u4.setCell ⟨w.heap.size+1+1,0,none⟩ (.int .i64 qm)).setCell ⟨w.heap.size+1+1,1,none⟩ (.slice a3 (rn+1) c3)) (by simp [World.setCell]) fun b hb h=>(aH _ _ _ _ (by have h2:(w2.heap.size<=b/\b≠gv)\/w2.heap.size<=b:=h;have:=lQ.o;show b≠w.heap.size+1+1;omega)).trans (aH _ _ _ _ (by have h2:(w2.heap.size<=b/\b≠gv)\/w2.heap.size<=b:=h;have:=lQ.o;show b≠w.heap.size+1+1;omega))
      exact (h.mono (by have:=lQ.o;omega)).imp fun b hb=>by have h2:w2.heap.size<=b/\b≠gv:=hb;have:=lQ.o;omega)
     clear RU;go_wp2_with fail
     obtain ⟨z0,z1⟩:=Z.o;refine bodyPost_ret (v:= .tuple #[.agg #[.int .i64 qm,.slice a3 (rn+1) c3],.int .i64 0]) (by simp [results,results9,go_sem,z0,z1]) rfl ?_;rw [HE.o.1,HE.o.2];exact ⟨a3,rn+1,c3,rfl,by rw [aP,<-HN.o];rfl,ZO.o,ZB.o⟩
    ·skip
     go_simp
     refine (KA.o _ BU.o).mono ?_;rintro e u1 ⟨ua,rfl,hu,hb⟩;obtain ⟨a1,n1,e1,a2,n2,e2,rfl,hu⟩:=hu.parts;have UU:Hid (bV (fun b=>wb.heap.size<=b/\b<u1.heap.size) u1 (.agg #[.int .i64 t.node,.int .i64 t.seq,.slice a1 n1 e1,.slice a2 n2 e2]) t):=zH (hu.mono fun b h=>⟨aD BD.o h.1,h.2⟩);replace BD:=zH (aD BD.o hb.size);replace TU:=zH ((hb.block _ (au.1 TU.o).1).trans TU.o);replace LU:=zH (LU.o.below hb);replace OU:=zH (OU.o.below hb (aj _));replace BU:=zH (BU.o.trans (hb.mono BU.o.size));replace BK:=zH (BK.o.trans (hb.mono (aD ZU.o BK.o.size)));clear hu hb KA;refine hK.out _ _ (KF.o _ BU.o TU.o) (fun hH=> ?_);clear hK K;refine wpAnyH_ready (rs:=[1,4]) (by kernel_rfl) (by simp) ?_;refine AllReadyH.cons rfl (fun K hK=> ?_) (AllReadyH.cons rfl (fun K hK=> ?_) AllReadyH.nil)
     ·skip
      obtain ⟨⟨y0,y1⟩,-⟩:=LU.o.c
      go_simp
      refine hK.out _ _ (KF.o _ BU.o TU.o) (fun hH=> ?_);clear hK K y0 y1;refine rd 4 fun K hK=> ?_
      go_simp
      have hb:=zB u1 (.cells #[.int .i64 t.node,.int .i64 t.seq,.slice a1 n1 e1,.slice a2 n2 e2] 34);have LX:=zH (gD (J:=(fun b=>w2.heap.size<=b/\b≠gv)) (N:=fun b=>wb.heap.size<=b/\b<u1.heap.size) (W:=u1) (x:=t) (ov:= .slice ra rn rc) UU.o.deps UU.o.dh (fun b h=>h.2) (fun b h=>JN.o b h.1) (JN.o _ BD.o) (fun q hq=>by have h1:=OL.o q hq;have h2:=BD.o;exact ⟨fun h=>by omega,by omega⟩));have LZ:Hid ((u1.alloc (.cells #[.int .i64 t.node,.int .i64 t.seq,.slice a1 n1 e1,.slice a2 n2 e2] 34)).heap.size=u1.heap.size+1):=zH (by simp);replace BD:=zH (aD BD.o hb.size);replace TU:=zH ((hb.block _ (au.1 TU.o).1).trans TU.o);replace LU:=zH (LU.o.below hb);replace OU:=zH (OU.o.below hb (aj _));replace BU:=zH (BU.o.trans (hb.mono BU.o.size));replace BK:=zH (BK.o.trans (hb.mono (aD ZU.o BK.o.size)));clear hb UU;refine hK.out _ _ (KF.o _ BU.o TU.o) (fun hH=> ?_);clear hK K LZ;generalize u1.heap.size=bk at*;generalize (u1.alloc _)=u2 at*;refine rd 5 fun K hK=> ?_
      refine dG ((fun b=>w2.heap.size<=b/\b≠gv)) dJ (by rfl) (.tmp 29) (.tmp 32) (by rfl) (w2.heap.size) (by rfl) OU.o (by rfl) LX.o (fun vs x h=>h) (by have:=KL.o;have:=yY.o;simp;omega) (by have:=ZU.o;have:=BD.o;omega) ?_;intro v2 u3 ho hg hat;obtain ⟨a3,c3,rfl,-,-,ho⟩:=ho.at (rn+1) (by have:=KL.o;simp;omega);replace TU:=zH ((hg.block _ (au.1 TU.o).1 GN.o).trans TU.o);replace LU:=zH (LU.o.eq (hg.block _ LU.o.lt (fun e=>VN.o.2 e.symm)));replace BU:=zH (BU.o.grown hg BU.o.size (fun j hj=>by have:=OU.o.lt j hj;have:=NW.o;omega));replace BK:=zH (BK.o.grown hg (aD ZU.o BK.o.size) (fun j hj=>(OU.o.lt j hj).1));have VA:Hid (∀ j,(Value.slice a3 (rn+1) c3).ownBlock=some j ->j≠gv):=zH (fun j e=>by rcases hat with h|h;exact fun e2=>VN.o.2 (by rw [<-h,e,e2]);have h2:=bg (e.symm.trans h);have:=VL.o;have:=BD.o;omega);replace OU:=zH ho;replace BD:=zH (aD BD.o hg.size);clear ho hg hat LX;refine hK.out _ _ (KF.o _ BU.o TU.o) (fun hH=> ?_);clear hK K;refine bF 6 hH ?_;obtain ⟨⟨y0,y1⟩,g0,g1⟩:=LU.o.c;refine rd 7 fun K hK=> ?_
      go_simp
      have hbs:Below w.heap.size w (u3.setCell ⟨gv,1,none⟩ (.slice a3 (rn+1) c3)):=BU.o.setCell VW.o _;have hto:∀ b,b≠gv ->(u3.setCell ⟨gv,1,none⟩ (.slice a3 (rn+1) c3)).heap[b]? =u3.heap[b]? :=fun b h=>aH _ _ _ _ h
      refine hK.out _ _ (KF.o _ hbs ((hto _ GV.o).trans TU.o)) (fun hH=> ?_);replace LU:=zH (LU.o.uD a3 (rn+1) c3);replace OU:=zH (OU.o.mZ (w':=u3.setCell ⟨gv,1,none⟩ (.slice a3 (rn+1) c3)) (by simp [World.setCell]) (fun b hb h=>hto b (by rcases h with h|h;exact fun e=>(by subst e;exact VN.o.1 h);exact VA.o b h)));replace BU:=zH hbs;have vY:=zH hto;clear hK K y0 y1 g0 g1 hbs hto VA;refine wpAnyH_done (by kernel_rfl) ?_ _;clear hH KF TU;have RU:=zH (R3.o.keep BU.o (fun b h1 h2=>(vY.o b (by have:=ZV.o;have:=lQ.o;omega)).trans (BK.o.block b (by have:=lQ.o;omega))));obtain ⟨⟨y0,y1⟩,f0,f1⟩:=RU.o.rb.c;obtain ⟨⟨v0,v1⟩,-⟩:=LU.o.c;generalize (u3.setCell _ _)=u4 at*;have Z:=zH (RU.o.rb.put qm a3 (rn+1) c3).c.1;have ZB:Hid (Below w.heap.size w ((u4.setCell ⟨w.heap.size+1+1,0,none⟩ (.int .i64 qm)).setCell ⟨w.heap.size+1+1,1,none⟩ (.slice a3 (rn+1) c3))):=zH ((BU.o.setCell (by show w.heap.size<=w.heap.size+1+1;omega) _).setCell (by show w.heap.size<=w.heap.size+1+1;omega) _);have ZO:Hid (bT (fun b=>w.heap.size<=b) dJ w.heap.size ((u4.setCell ⟨w.heap.size+1+1,0,none⟩ (.int .i64 qm)).setCell ⟨w.heap.size+1+1,1,none⟩ (.slice a3 (rn+1) c3)) (.slice a3 (rn+1) c3) (l++[t])):=zH (by
       have h:=OU.o.kept (w':=(u4.setCell ⟨w.heap.size+1+1,0,none⟩ (.int .i64 qm)).setCell ⟨w.heap.size+1+1,1,none⟩ (.slice a3 (rn+1) c3)) (by simp [World.setCell]) fun b hb h=>(aH _ _ _ _ (by have h2:(w2.heap.size<=b/\b≠gv)\/w2.heap.size<=b:=h;have:=lQ.o;show b≠w.heap.size+1+1;omega)).trans (aH _ _ _ _ (by have h2:(w2.heap.size<=b/\b≠gv)\/w2.heap.size<=b:=h;have:=lQ.o;show b≠w.heap.size+1+1;omega))
       exact (h.mono (by have:=lQ.o;omega)).imp fun b hb=>by have h2:w2.heap.size<=b/\b≠gv:=hb;have:=lQ.o;omega)
      clear RU;go_wp2_with fail
      obtain ⟨z0,z1⟩:=Z.o;refine bodyPost_ret (v:= .tuple #[.agg #[.int .i64 qm,.slice a3 (rn+1) c3],.int .i64 0]) (by simp [results,results9,go_sem,z0,z1]) rfl ?_;rw [HE.o.1,HE.o.2];exact ⟨a3,rn+1,c3,rfl,by rw [aP,<-HN.o];rfl,ZO.o,ZB.o⟩
     ·skip
      go_simp
      have hb:=zB u1 (.cells #[.int .i64 t.node,.int .i64 t.seq,.slice a1 n1 e1,.slice a2 n2 e2] 34);have LX:=zH (gD (J:=(fun b=>w2.heap.size<=b/\b≠gv)) (N:=fun b=>wb.heap.size<=b/\b<u1.heap.size) (W:=u1) (x:=t) (ov:= .slice ra rn rc) UU.o.deps UU.o.dh (fun b h=>h.2) (fun b h=>JN.o b h.1) (JN.o _ BD.o) (fun q hq=>by have h1:=OL.o q hq;have h2:=BD.o;exact ⟨fun h=>by omega,by omega⟩));have LZ:Hid ((u1.alloc (.cells #[.int .i64 t.node,.int .i64 t.seq,.slice a1 n1 e1,.slice a2 n2 e2] 34)).heap.size=u1.heap.size+1):=zH (by simp);replace BD:=zH (aD BD.o hb.size);replace TU:=zH ((hb.block _ (au.1 TU.o).1).trans TU.o);replace LU:=zH (LU.o.below hb);replace OU:=zH (OU.o.below hb (aj _));replace BU:=zH (BU.o.trans (hb.mono BU.o.size));replace BK:=zH (BK.o.trans (hb.mono (aD ZU.o BK.o.size)));clear hb UU;refine hK.out _ _ (KF.o _ BU.o TU.o) (fun hH=> ?_);clear hK K LZ;generalize u1.heap.size=bk at*;generalize (u1.alloc _)=u2 at*;refine rd 1 fun K hK=> ?_
      obtain ⟨⟨y0,y1⟩,-⟩:=LU.o.c
      go_simp
      refine hK.out _ _ (KF.o _ BU.o TU.o) (fun hH=> ?_);clear hK K y0 y1;refine rd 5 fun K hK=> ?_
      refine dG ((fun b=>w2.heap.size<=b/\b≠gv)) dJ (by rfl) (.tmp 29) (.tmp 32) (by rfl) (w2.heap.size) (by rfl) OU.o (by rfl) LX.o (fun vs x h=>h) (by have:=KL.o;have:=yY.o;simp;omega) (by have:=ZU.o;have:=BD.o;omega) ?_;intro v2 u3 ho hg hat;obtain ⟨a3,c3,rfl,-,-,ho⟩:=ho.at (rn+1) (by have:=KL.o;simp;omega);replace TU:=zH ((hg.block _ (au.1 TU.o).1 GN.o).trans TU.o);replace LU:=zH (LU.o.eq (hg.block _ LU.o.lt (fun e=>VN.o.2 e.symm)));replace BU:=zH (BU.o.grown hg BU.o.size (fun j hj=>by have:=OU.o.lt j hj;have:=NW.o;omega));replace BK:=zH (BK.o.grown hg (aD ZU.o BK.o.size) (fun j hj=>(OU.o.lt j hj).1));have VA:Hid (∀ j,(Value.slice a3 (rn+1) c3).ownBlock=some j ->j≠gv):=zH (fun j e=>by rcases hat with h|h;exact fun e2=>VN.o.2 (by rw [<-h,e,e2]);have h2:=bg (e.symm.trans h);have:=VL.o;have:=BD.o;omega);replace OU:=zH ho;replace BD:=zH (aD BD.o hg.size);clear ho hg hat LX;refine hK.out _ _ (KF.o _ BU.o TU.o) (fun hH=> ?_);clear hK K;refine bF 6 hH ?_;obtain ⟨⟨y0,y1⟩,g0,g1⟩:=LU.o.c;refine rd 7 fun K hK=> ?_
      go_simp
      have hbs:Below w.heap.size w (u3.setCell ⟨gv,1,none⟩ (.slice a3 (rn+1) c3)):=BU.o.setCell VW.o _;have hto:∀ b,b≠gv ->(u3.setCell ⟨gv,1,none⟩ (.slice a3 (rn+1) c3)).heap[b]? =u3.heap[b]? :=fun b h=>aH _ _ _ _ h
      refine hK.out _ _ (KF.o _ hbs ((hto _ GV.o).trans TU.o)) (fun hH=> ?_);replace LU:=zH (LU.o.uD a3 (rn+1) c3);replace OU:=zH (OU.o.mZ (w':=u3.setCell ⟨gv,1,none⟩ (.slice a3 (rn+1) c3)) (by simp [World.setCell]) (fun b hb h=>hto b (by rcases h with h|h;exact fun e=>(by subst e;exact VN.o.1 h);exact VA.o b h)));replace BU:=zH hbs;have vY:=zH hto;clear hK K y0 y1 g0 g1 hbs hto VA;refine wpAnyH_done (by kernel_rfl) ?_ _;clear hH KF TU;have RU:=zH (R3.o.keep BU.o (fun b h1 h2=>(vY.o b (by have:=ZV.o;have:=lQ.o;omega)).trans (BK.o.block b (by have:=lQ.o;omega))));obtain ⟨⟨y0,y1⟩,f0,f1⟩:=RU.o.rb.c;obtain ⟨⟨v0,v1⟩,-⟩:=LU.o.c;generalize (u3.setCell _ _)=u4 at*;have Z:=zH (RU.o.rb.put qm a3 (rn+1) c3).c.1;have ZB:Hid (Below w.heap.size w ((u4.setCell ⟨w.heap.size+1+1,0,none⟩ (.int .i64 qm)).setCell ⟨w.heap.size+1+1,1,none⟩ (.slice a3 (rn+1) c3))):=zH ((BU.o.setCell (by show w.heap.size<=w.heap.size+1+1;omega) _).setCell (by show w.heap.size<=w.heap.size+1+1;omega) _);have ZO:Hid (bT (fun b=>w.heap.size<=b) dJ w.heap.size ((u4.setCell ⟨w.heap.size+1+1,0,none⟩ (.int .i64 qm)).setCell ⟨w.heap.size+1+1,1,none⟩ (.slice a3 (rn+1) c3)) (.slice a3 (rn+1) c3) (l++[t])):=zH (by
       have h:=OU.o.kept (w':=(u4.setCell ⟨w.heap.size+1+1,0,none⟩ (.int .i64 qm)).setCell ⟨w.heap.size+1+1,1,none⟩ (.slice a3 (rn+1) c3)) (by simp [World.setCell]) fun b hb h=>(aH _ _ _ _ (by have h2:(w2.heap.size<=b/\b≠gv)\/w2.heap.size<=b:=h;have:=lQ.o;show b≠w.heap.size+1+1;omega)).trans (aH _ _ _ _ (by have h2:(w2.heap.size<=b/\b≠gv)\/w2.heap.size<=b:=h;have:=lQ.o;show b≠w.heap.size+1+1;omega))
       exact (h.mono (by have:=lQ.o;omega)).imp fun b hb=>by have h2:w2.heap.size<=b/\b≠gv:=hb;have:=lQ.o;omega)
      clear RU;go_wp2_with fail
      obtain ⟨z0,z1⟩:=Z.o;refine bodyPost_ret (v:= .tuple #[.agg #[.int .i64 qm,.slice a3 (rn+1) c3],.int .i64 0]) (by simp [results,results9,go_sem,z0,z1]) rfl ?_;rw [HE.o.1,HE.o.2];exact ⟨a3,rn+1,c3,rfl,by rw [aP,<-HN.o];rfl,ZO.o,ZB.o⟩
end Go.Proofs.Ytmknpmamkjjiaaa