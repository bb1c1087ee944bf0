/-
  For any numbers, records and record the law CoreAgain answers true: a record that is done once more changes nothing. No condition.
  (The frame was written by the guide's proof-skeleton.mjs, turned for records; the walk is ours, written by gen-walks.py.)
-/
import Derived.Test.YtfgcodcablpdcaaGreatRows
import Derived.WalkKit
import Derived.ProofKit
import Derived.OpenShut
import Derived.ShutString
import Derived.ChangeOld
import Derived.Below
import Derived.Test.YtfgcodcablpdcaaGreatCpUse
import Derived.JoinedOf
namespace Go.Proofs.YtfgcodcablpdcaaGreat.coreAgain
open Go.ChangeShapes Go.WideShapes Go.ChangeAt Go.RowKit
open Go.ChangeMaps (open_string shut_string)
set_option linter.unusedVariables false

theorem own : ownKnob Tryz.prog.godebug = none := by kernel_rfl
theorem laidOut : laidOutB Tryz.prog = true := by kernel_rfl

set_option maxRecDepth 100000
set_option maxHeartbeats 64000000
open Plain

theorem open2 {H:Type} {enc:TypeId×Value ->H} {W:World} {r:Reach} {b:Nat} {v:Value} {d:DataW H} {p:List MemPlace} (hv:Value.okWide Tryz.prog W r b 22 v) (h:DataW.Trod enc Tryz.prog W 0 (fun _=>true) true 22 v d p):Cc W v:=Cg hv h
theorem open3 {H:Type} {enc:TypeId×Value ->H} {W:World} {r:Reach} {b:Nat} {v:Value} {d:DataW H} {p:List MemPlace} (hv:Value.okWide Tryz.prog W r b 48 v) (h:DataW.Trod enc Tryz.prog W 0 (fun _=>true) true 48 v d p):Um W v:=Qj hv h

theorem walk (me:Int) (cores:Int) (v2:Value) (v3:Value) (w:World) (w0:(Lit.int .i64 me).wf=true) (w1:(Lit.int .i64 cores).wf=true) (w2:Cc w v2) (w3:Um w v3):
    Calls Tryz.prog 8 #[.int .i64 me,.int .i64 cores,v2,v3] w fun e w'=>e= .returned (.bool true)/\Below w.heap.size w w':=by
  obtain ⟨l,hl,ok⟩:=w2;obtain ⟨rn,m,hr,hn,hm⟩:=w3;obtain ⟨va,vn,vc,fa2,fn2,fc2,za,zn,zc,wa,wn,wc2,ja,jm,jc,ta,tn,tc,rfl,H⟩:=hr.slices;have KM:=zH (fun u (hb:Below w.heap.size w u)=>Qp (me:=me) (cores:=cores) (hl.below hb) ok);have OK:=zH ok;have OKR:=zH (show Cb (rn,m) from ⟨hn,hm⟩);have G:=zH (zB w (.cells #[.int .i64 rn,.int .i64 m.kind,.int .i64 m.ticket,.bool m.whole,.slice va vn vc,.slice fa2 fn2 fc2,.slice za zn zc,.slice wa wn wc2,.slice ja jm jc,.slice ta tn tc] 48));have R0:=Kt (n:=rn) H;unfold lD at R0;have RB:Hid (xQ w.heap.size rn m ⟨va,vn,vc,fa2,fn2,fc2,za,zn,zc,wa,wn,wc2,ja,jm,jc,ta,tn,tc⟩ (w.alloc (.cells #[.int .i64 rn,.int .i64 m.kind,.int .i64 m.ticket,.bool m.whole,.slice va vn vc,.slice fa2 fn2 fc2,.slice za zn zc,.slice wa wn wc2,.slice ja jm jc,.slice ta tn tc] 48))):=zH R0;clear hl ok w0 w1 hr hn hm H R0;go_enter Tryz.func8,Tryz.ntmps8
  go_upto_region 1 with fail
  generalize (w.alloc _)=wB at*;go_wp2_with fail
  refine (EH _).mono ?_;rintro e wK ⟨rfl,hb⟩;have GK:=zH (G.o.trans (hb.mono G.o.size));replace RB:=zH (RB.o.below hb);clear hb G;go_upto_region 4 with (go_at_call 17;refine (KM.o _ GK.o).mono ?_;rintro e wL ⟨c,⟨ha,hn,hc,ia,im,ic,fa,fn,fc,la,ln,lc,ka,kn,kc⟩,b,rfl,hA,hb,hB⟩;have A1:=zH (hA.mono fun b h=>h.2);have G1:=zH (GK.o.trans (hb.mono GK.o.size));replace RB:=zH (RB.o.below hb);have HB:=zH hB;clear hA hb hB;unfold fP)
  have hbx:=zB wL (.cells #[.int .i64 c.me,.int .i64 c.cores,.slice ha hn hc,.slice ia im ic,.slice fa fn fc,.slice la ln lc,.slice ka kn kc] 34);have X0:=mX A1.o;unfold fP at X0;have X:=zH X0;have G:=zH (G1.o.trans (hbx.mono G1.o.size));replace RB:=zH (RB.o.below hbx);clear X0 hbx A1 G1 GK;generalize (wL.alloc _)=wM at*;generalize wL.heap.size=g at*
  cases b
  · clear KM HB X RB
    go_wp2_with fail
    go_ret
    exact ⟨rfl,G.o⟩
  have CF:=zH ((HB.o rfl).fit OK.o);clear HB KM OK;have hbs:=zB wM (.cells #[.int .i64 rn,.int .i64 m.kind,.int .i64 m.ticket,.bool m.whole,.slice va vn vc,.slice fa2 fn2 fc2,.slice za zn zc,.slice wa wn wc2,.slice ja jm jc,.slice ta tn tc] 48);have IR:=one_rec (n:=rn) RB.o.at_;unfold lD at IR;obtain ⟨sh,hsh⟩:∃ b,pV (rn,m)=b:=⟨_,rfl⟩;have KS:=zH (Qe IR sh (by rw [Uy];exact hsh));have X2:=zH (X.o.below hbs);have R2:=zH (RB.o.below hbs);have G2:=zH (G.o.trans (hbs.mono G.o.size));have HSH:=zH hsh;clear hbs IR hsh;obtain ⟨c0,c1,c2,c3,c4,c5,c6⟩:=X.o.cl;obtain ⟨d0,d1,d2,d3,d4,d5,d6,d7,d8,d9⟩:=RB.o.cl
  cases sh
  · clear X2 R2
    go_upto_region 5 with (go_at_call 13;refine KS.o.mono ?_;rintro e w3 ⟨rfl,hb⟩;have GE:=zH (G2.o.trans (hb.mono G2.o.size));clear hb KS c0 c1 c2 c3 c4 c5 c6 d0 d1 d2 d3 d4 d5 d6 d7 d8 d9)
    go_wp2_with fail
    go_ret
    exact ⟨rfl,GE.o⟩
  have RF:=zH (Wz HSH.o OKR.o);go_upto_region 6 with (go_at_call 13;refine KS.o.mono ?_;rintro e w3 ⟨rfl,hb⟩;have G3:=zH (G2.o.trans (hb.mono G2.o.size));have X3:=zH (X2.o.below hb);have R3:=zH (R2.o.below hb);clear hb KS c0 c1 c2 c3 c4 c5 c6 d0 d1 d2 d3 d4 d5 d6 d7 d8 d9)
  clear X X2 R2 RB G G2 HSH OKR;obtain ⟨d,hd⟩:∃ d,d=(rM c rn m).1:=⟨_,rfl⟩;obtain ⟨er,he⟩:∃ e,e=(rM c rn m).2:=⟨_,rfl⟩;have HD:=zH (cK hd he);clear hd he;have KE:Hid (∀ u,Below w3.heap.size w3 u ->Below w3.heap.size w3 u/\(u.cell? ⟨g,0,none⟩=some (Value.int .i64 c.me)/\u.cell? ⟨g,1,none⟩=some (Value.int .i64 c.cores)/\u.cell? ⟨g,2,none⟩=some (Value.slice ha hn hc)/\u.cell? ⟨g,3,none⟩=some (Value.slice ia im ic)/\u.cell? ⟨g,4,none⟩=some (Value.slice fa fn fc)/\u.cell? ⟨g,5,none⟩=some (Value.slice la ln lc)/\u.cell? ⟨g,6,none⟩=some (Value.slice ka kn kc))/\u.cell? ⟨w.heap.size,0,none⟩=some (Value.int .i64 rn)/\u.cell? ⟨w.heap.size,1,none⟩=some (Value.int .i64 m.kind)/\u.cell? ⟨w.heap.size,2,none⟩=some (Value.int .i64 m.ticket)/\u.cell? ⟨w.heap.size,3,none⟩=some (Value.bool m.whole)/\u.cell? ⟨w.heap.size,4,none⟩=some (Value.slice va vn vc)/\u.cell? ⟨w.heap.size,5,none⟩=some (Value.slice fa2 fn2 fc2)/\u.cell? ⟨w.heap.size,6,none⟩=some (Value.slice za zn zc)/\u.cell? ⟨w.heap.size,7,none⟩=some (Value.slice wa wn wc2)/\u.cell? ⟨w.heap.size,8,none⟩=some (Value.slice ja jm jc)/\u.cell? ⟨w.heap.size,9,none⟩=some (Value.slice ta tn tc)):=zH (fun u hb=>⟨hb,(X3.o.below hb).cl,(R3.o.below hb).cl⟩);have KB:=zH (fun u (hb:Below w3.heap.size w3 u)=>Dt (v:= .agg #[.int .i64 rn,.int .i64 m.kind,.int .i64 m.ticket,.bool m.whole,.slice va vn vc,.slice fa2 fn2 fc2,.slice za zn zc,.slice wa wn wc2,.slice ja jm jc,.slice ta tn tc]) (r:=(rn,m)) ⟨⟨va,vn,vc,fa2,fn2,fc2,za,zn,zc,wa,wn,wc2,ja,jm,jc,ta,tn,tc⟩,rfl,(R3.o.below hb).at_⟩ RF.o);have Ii:=fun u bv (hb:Below w3.heap.size w3 u) (hs:By.Seq u bv (jY rn m))=>yG (r:=(rn,m)) (v:= .agg #[.int .i64 c.me,.int .i64 c.cores,.slice ha hn hc,.slice ia im ic,.slice fa fn fc,.slice la ln lc,.slice ka kn kc]) ⟨⟨ha,hn,hc,ia,im,ic,fa,fn,fc,la,ln,lc,ka,kn,kc⟩,rfl,(X3.o.below hb).seq⟩ hs CF.o (by decide) RF.o
  simp only at Ii KB
  rw [<-HD.o.1,<-HD.o.2] at Ii;have KD:=zH Ii;clear Ii;generalize jY rn m=rb at*
  go_cut [11,12] (fun sX sY wx=>∃ (nb:Nat) (xa:Option Addr) (hx xc:Nat) (ya:Option Addr) (iy yc:Nat) (za:Option Addr) (fz zc:Nat) (qa:Option Addr) (lq qc:Nat) (pa:Option Addr) (kp pc:Nat),sX= .pointer (some ⟨nb,0,none⟩)/\sY= .int .i64 er/\FQ w3 nb d ⟨xa,hx,xc,ya,iy,yc,za,fz,zc,qa,lq,qc,pa,kp,pc⟩ wx)
  case first=>
    refine wp_region_held_drew (S:=fun u'=>Below w3.heap.size w3 u'/\(u'.cell? ⟨g,0,none⟩=some (Value.int .i64 c.me)/\u'.cell? ⟨g,1,none⟩=some (Value.int .i64 c.cores)/\u'.cell? ⟨g,2,none⟩=some (Value.slice ha hn hc)/\u'.cell? ⟨g,3,none⟩=some (Value.slice ia im ic)/\u'.cell? ⟨g,4,none⟩=some (Value.slice fa fn fc)/\u'.cell? ⟨g,5,none⟩=some (Value.slice la ln lc)/\u'.cell? ⟨g,6,none⟩=some (Value.slice ka kn kc))/\u'.cell? ⟨w.heap.size,0,none⟩=some (Value.int .i64 rn)/\u'.cell? ⟨w.heap.size,1,none⟩=some (Value.int .i64 m.kind)/\u'.cell? ⟨w.heap.size,2,none⟩=some (Value.int .i64 m.ticket)/\u'.cell? ⟨w.heap.size,3,none⟩=some (Value.bool m.whole)/\u'.cell? ⟨w.heap.size,4,none⟩=some (Value.slice va vn vc)/\u'.cell? ⟨w.heap.size,5,none⟩=some (Value.slice fa2 fn2 fc2)/\u'.cell? ⟨w.heap.size,6,none⟩=some (Value.slice za zn zc)/\u'.cell? ⟨w.heap.size,7,none⟩=some (Value.slice wa wn wc2)/\u'.cell? ⟨w.heap.size,8,none⟩=some (Value.slice ja jm jc)/\u'.cell? ⟨w.heap.size,9,none⟩=some (Value.slice ta tn tc)) (by kernel_rfl) ?_ (fun hH=> ?_)
    · (exact KE.o _ (aj _ _).drew)
    simp only [zS,aJ,Nat.reduceAdd]
    refine fJ 0 hH ?_;refine fJ 1 hH ?_;refine wpAnyH_ready (rs:=[2,7]) (by kernel_rfl) (by simp) ?_;refine bC rfl (fun K hK=> ?_) (bC rfl (fun K hK=> ?_) dA)
    · skip
      go_simp
      have BH:=zH hH.1;refine (KB.o _ BH.o).mono ?_;rintro e s1 ⟨bv,rfl,hs,hb⟩;have BS:=zH hs;have B1:=zH (BH.o.trans (hb.mono BH.o.size));clear hs hb BH;refine hK.out _ _ (KE.o _ B1.o) (fun hH=> ?_);clear hK K;refine wpAnyH_ready (rs:=[3,7]) (by kernel_rfl) (by simp) ?_;refine bC rfl (fun K hK=> ?_) (bC rfl (fun K hK=> ?_) dA)
      · skip
        go_simp
        have BH:=zH hH.1;refine (KD.o _ bv BH.o BS.o).mono ?_;rintro e s2 ⟨⟨xa,hx,xc,ya,iy,yc,za,fz,zc,qa,lq,qc,pa,kp,pc⟩,rfl,hA,hb⟩;have B2:=zH (BH.o.trans (hb.mono BH.o.size));have ZH:=zH BH.o.size;have A2:=zH (hA.mono fun b h=>(⟨by have:=ZH.o;have:=h.1;omega,h.2⟩:w3.heap.size<=b/\b<s2.heap.size));clear hA hb BH KD KB;unfold fP;refine hK.out _ _ (KE.o _ B2.o) (fun hH=> ?_);clear hK K;refine fJ 4 hH ?_;refine fJ 5 hH ?_;refine fJ 6 hH ?_;refine rd 7 fun K hK=> ?_
        go_simp
        have ZQ:=zH hH.1.size;have DQ:Hid ((s2.alloc (.cells #[.int .i64 0,.int .i64 0,.slice none 0 0,.slice none 0 0,.slice none 0 0,.slice none 0 0,.slice none 0 0] 34)).heap[s2.heap.size]? =some (.cells ji 34 (0,0))):=zH (aM s2 _);have DL:Hid (s2.heap.size<(s2.alloc (.cells #[.int .i64 0,.int .i64 0,.slice none 0 0,.slice none 0 0,.slice none 0 0,.slice none 0 0,.slice none 0 0] 34)).heap.size):=zH (show s2.heap.size<(s2.alloc (.cells #[.int .i64 0,.int .i64 0,.slice none 0 0,.slice none 0 0,.slice none 0 0,.slice none 0 0,.slice none 0 0] 34)).heap.size from by simp);have A3:=zH ((A2.o.agree fun b h=>(zB s2 (.cells #[.int .i64 0,.int .i64 0,.slice none 0 0,.slice none 0 0,.slice none 0 0,.slice none 0 0,.slice none 0 0] 34)).block b h.2).mono fun b h=>(⟨h.1,by have:=DL.o;have:=h.2;omega,by have:=h.2;omega⟩:w3.heap.size<=b/\b<(s2.alloc (.cells #[.int .i64 0,.int .i64 0,.slice none 0 0,.slice none 0 0,.slice none 0 0,.slice none 0 0,.slice none 0 0] 34)).heap.size/\b≠s2.heap.size));clear A2;refine hK.out _ _ (KE.o _ (hH.1.alloc hH.1.size _)) (fun hH=> ?_);clear hK K;generalize hNB:s2.heap.size=nb at*;generalize (s2.alloc _)=sA at*;have ZN:Hid (w3.heap.size<=nb):=zH (by have:=ZQ.o;omega);have NX:=zH (pW DQ.o ZN.o hH.1 A3.o);unfold kQ at NX;have hzb:=DQ.o;unfold ji at hzb;have FR:=zH (fun i=>iI hzb i);obtain ⟨z0,z1,z2,z3,z4,z5,z6⟩:=gM hzb;obtain ⟨f0,f1,f2,f3,f4,f5,f6⟩:=(⟨FR.o 0,FR.o 1,FR.o 2,FR.o 3,FR.o 4,FR.o 5,FR.o 6⟩:_/\_/\_/\_/\_/\_/\_);clear hzb FR;refine rd 8 fun K hK=> ?_
        go_simp
        refine hK.out _ _ (KE.o _ NX.o.low) (fun hH=> ?_);clear hK K z0 z1 z2 z3 z4 z5 z6 f0 f1 f2 f3 f4 f5 f6;refine fJ 9 hH ?_;refine wpAnyH_done (by kernel_rfl) ?_ _;clear hH;go_wp2_with fail
        go_meet
        exact ⟨nb,xa,hx,xc,ya,iy,yc,za,fz,zc,qa,lq,qc,pa,kp,pc,rfl,rfl,NX.o⟩
      · skip
        go_simp
        have ZQ:=zH hH.1.size;have DQ:Hid ((s1.alloc (.cells #[.int .i64 0,.int .i64 0,.slice none 0 0,.slice none 0 0,.slice none 0 0,.slice none 0 0,.slice none 0 0] 34)).heap[s1.heap.size]? =some (.cells ji 34 (0,0))):=zH (aM s1 _);have DL:Hid (s1.heap.size<(s1.alloc (.cells #[.int .i64 0,.int .i64 0,.slice none 0 0,.slice none 0 0,.slice none 0 0,.slice none 0 0,.slice none 0 0] 34)).heap.size):=zH (show s1.heap.size<(s1.alloc (.cells #[.int .i64 0,.int .i64 0,.slice none 0 0,.slice none 0 0,.slice none 0 0,.slice none 0 0,.slice none 0 0] 34)).heap.size from by simp);replace BS:=zH (BS.o.below (zB s1 (.cells #[.int .i64 0,.int .i64 0,.slice none 0 0,.slice none 0 0,.slice none 0 0,.slice none 0 0,.slice none 0 0] 34)));refine hK.out _ _ (KE.o _ (hH.1.alloc hH.1.size _)) (fun hH=> ?_);clear hK K;generalize hNB:s1.heap.size=nb at*;generalize (s1.alloc _)=sA at*;refine rd 3 fun K hK=> ?_
        go_simp
        have BH:=zH hH.1;refine (KD.o _ bv BH.o BS.o).mono ?_;rintro e s2 ⟨⟨xa,hx,xc,ya,iy,yc,za,fz,zc,qa,lq,qc,pa,kp,pc⟩,rfl,hA,hb⟩;have B2:=zH (BH.o.trans (hb.mono BH.o.size));have ZH:=zH BH.o.size;replace DQ:=zH ((hb.block _ DL.o).trans DQ.o);have A3:=zH (hA.mono fun b h=>(⟨by have:=ZH.o;have:=h.1;omega,h.2,by have:=DL.o;have:=h.1;omega⟩:w3.heap.size<=b/\b<s2.heap.size/\b≠nb));clear DL;clear hA hb BH KD KB;unfold fP;refine hK.out _ _ (KE.o _ B2.o) (fun hH=> ?_);clear hK K;refine fJ 4 hH ?_;refine fJ 5 hH ?_;refine fJ 6 hH ?_;have ZN:Hid (w3.heap.size<=nb):=zH (by have:=ZQ.o;omega);have NX:=zH (pW DQ.o ZN.o hH.1 A3.o);unfold kQ at NX;have hzb:=DQ.o;unfold ji at hzb;have FR:=zH (fun i=>iI hzb i);obtain ⟨z0,z1,z2,z3,z4,z5,z6⟩:=gM hzb;obtain ⟨f0,f1,f2,f3,f4,f5,f6⟩:=(⟨FR.o 0,FR.o 1,FR.o 2,FR.o 3,FR.o 4,FR.o 5,FR.o 6⟩:_/\_/\_/\_/\_/\_/\_);clear hzb FR;refine rd 8 fun K hK=> ?_
        go_simp
        refine hK.out _ _ (KE.o _ NX.o.low) (fun hH=> ?_);clear hK K z0 z1 z2 z3 z4 z5 z6 f0 f1 f2 f3 f4 f5 f6;refine fJ 9 hH ?_;refine wpAnyH_done (by kernel_rfl) ?_ _;clear hH;go_wp2_with fail
        go_meet
        exact ⟨nb,xa,hx,xc,ya,iy,yc,za,fz,zc,qa,lq,qc,pa,kp,pc,rfl,rfl,NX.o⟩
    · skip
      go_simp
      have ZQ:=zH hH.1.size;have DQ:Hid ((w3.alloc (.cells #[.int .i64 0,.int .i64 0,.slice none 0 0,.slice none 0 0,.slice none 0 0,.slice none 0 0,.slice none 0 0] 34)).drew.heap[w3.heap.size]? =some (.cells ji 34 (0,0))):=zH (aM w3 _);have DL:Hid (w3.heap.size<(w3.alloc (.cells #[.int .i64 0,.int .i64 0,.slice none 0 0,.slice none 0 0,.slice none 0 0,.slice none 0 0,.slice none 0 0] 34)).drew.heap.size):=zH (show w3.heap.size<(w3.alloc (.cells #[.int .i64 0,.int .i64 0,.slice none 0 0,.slice none 0 0,.slice none 0 0,.slice none 0 0,.slice none 0 0] 34)).heap.size from by simp);refine hK.out _ _ (KE.o _ (hH.1.alloc hH.1.size _)) (fun hH=> ?_);clear hK K;generalize (w3.alloc _).drew=sA at*;refine rd 2 fun K hK=> ?_
      go_simp
      have BH:=zH hH.1;refine (KB.o _ BH.o).mono ?_;rintro e s1 ⟨bv,rfl,hs,hb⟩;have BS:=zH hs;have B1:=zH (BH.o.trans (hb.mono BH.o.size));replace DQ:=zH ((hb.block _ DL.o).trans DQ.o);replace DL:=zH (ay DL.o hb.size);clear hs hb BH;refine hK.out _ _ (KE.o _ B1.o) (fun hH=> ?_);clear hK K;refine rd 3 fun K hK=> ?_
      go_simp
      have BH:=zH hH.1;refine (KD.o _ bv BH.o BS.o).mono ?_;rintro e s2 ⟨⟨xa,hx,xc,ya,iy,yc,za,fz,zc,qa,lq,qc,pa,kp,pc⟩,rfl,hA,hb⟩;have B2:=zH (BH.o.trans (hb.mono BH.o.size));have ZH:=zH BH.o.size;replace DQ:=zH ((hb.block _ DL.o).trans DQ.o);have A3:=zH (hA.mono fun b h=>(⟨by have:=ZH.o;have:=h.1;omega,h.2,by have:=DL.o;have:=h.1;omega⟩:w3.heap.size<=b/\b<s2.heap.size/\b≠w3.heap.size));clear DL;clear hA hb BH KD KB;unfold fP;refine hK.out _ _ (KE.o _ B2.o) (fun hH=> ?_);clear hK K;refine fJ 4 hH ?_;refine fJ 5 hH ?_;refine fJ 6 hH ?_;have ZN:Hid (w3.heap.size<=w3.heap.size):=zH (by exact ah _);have NX:=zH (pW DQ.o ZN.o hH.1 A3.o);unfold kQ at NX;have hzb:=DQ.o;unfold ji at hzb;have FR:=zH (fun i=>iI hzb i);obtain ⟨z0,z1,z2,z3,z4,z5,z6⟩:=gM hzb;obtain ⟨f0,f1,f2,f3,f4,f5,f6⟩:=(⟨FR.o 0,FR.o 1,FR.o 2,FR.o 3,FR.o 4,FR.o 5,FR.o 6⟩:_/\_/\_/\_/\_/\_/\_);clear hzb FR;refine rd 8 fun K hK=> ?_
      go_simp
      refine hK.out _ _ (KE.o _ NX.o.low) (fun hH=> ?_);clear hK K z0 z1 z2 z3 z4 z5 z6 f0 f1 f2 f3 f4 f5 f6;refine fJ 9 hH ?_;refine wpAnyH_done (by kernel_rfl) ?_ _;clear hH;go_wp2_with fail
      go_meet
      exact ⟨w3.heap.size,xa,hx,xc,ya,iy,yc,za,fz,zc,qa,lq,qc,pa,kp,pc,rfl,rfl,NX.o⟩
  case rest=>
    obtain ⟨nb,xa1,hx1,xc1,ya1,iy1,yc1,za1,fz1,zc1,qa1,lq1,qc1,pa1,kp1,pc1,rfl,rfl,Uo⟩:=hcut;have NX:=zH Uo;have R4:=zH (R3.o.below Uo.low);have G4:=zH (G3.o.trans (Uo.low.mono G3.o.size));have hdc:=Qy c rn m;rw [<-HD.o.1,<-HD.o.2] at hdc;clear Uo KB KD KE X3 R3 G3 HD
    rcases hdc with ⟨rfl,hdo⟩|⟨rfl,rfl,hdo⟩
    rotate_left
    · have KQ:=zH (Wx NX.o.box.is (Yc wc) (by simp [oQ]) (by simp [oQ]) true (by simp))
      unfold fP at KQ;obtain ⟨c0,c1,c2,c3,c4,c5,c6⟩:=NX.o.box.cl;clear hdo NX R4;go_wp2_with fail
      refine KQ.o.mono ?_;rintro e w5 ⟨rfl,hb⟩;have GE:=zH (G4.o.trans (hb.mono G4.o.size));clear hb KQ c0 c1 c2 c3 c4 c5 c6;go_wp2_with fail
      go_ret
      exact ⟨rfl,GE.o⟩
    have CF2:=zH (WC CF.o RF.o.m hdo);have DG:=zH (oU (XH CF.o.snd hdo));have X4:=zH NX.o.box;clear hdo CF;obtain ⟨c0,c1,c2,c3,c4,c5,c6⟩:=X4.o.cl;go_upto_region 9 with fail
    clear c0 c1 c2 c3 c4 c5 c6;obtain ⟨wb,hwb⟩:∃ x,x=wc:=⟨_,rfl⟩;rw [<-hwb] at X4 R4 G4 NX ⊢;clear hwb NX;have KE:Hid (∀ u,Below wb.heap.size wb u ->Below wb.heap.size wb u/\(u.cell? ⟨nb,0,none⟩=some (Value.int .i64 d.me)/\u.cell? ⟨nb,1,none⟩=some (Value.int .i64 d.cores)/\u.cell? ⟨nb,2,none⟩=some (Value.slice xa1 hx1 xc1)/\u.cell? ⟨nb,3,none⟩=some (Value.slice ya1 iy1 yc1)/\u.cell? ⟨nb,4,none⟩=some (Value.slice za1 fz1 zc1)/\u.cell? ⟨nb,5,none⟩=some (Value.slice qa1 lq1 qc1)/\u.cell? ⟨nb,6,none⟩=some (Value.slice pa1 kp1 pc1))/\u.cell? ⟨w.heap.size,0,none⟩=some (Value.int .i64 rn)/\u.cell? ⟨w.heap.size,1,none⟩=some (Value.int .i64 m.kind)/\u.cell? ⟨w.heap.size,2,none⟩=some (Value.int .i64 m.ticket)/\u.cell? ⟨w.heap.size,3,none⟩=some (Value.bool m.whole)/\u.cell? ⟨w.heap.size,4,none⟩=some (Value.slice va vn vc)/\u.cell? ⟨w.heap.size,5,none⟩=some (Value.slice fa2 fn2 fc2)/\u.cell? ⟨w.heap.size,6,none⟩=some (Value.slice za zn zc)/\u.cell? ⟨w.heap.size,7,none⟩=some (Value.slice wa wn wc2)/\u.cell? ⟨w.heap.size,8,none⟩=some (Value.slice ja jm jc)/\u.cell? ⟨w.heap.size,9,none⟩=some (Value.slice ta tn tc)):=zH (fun u hb=>⟨hb,(X4.o.below hb).cl,(R4.o.below hb).cl⟩);have KB:=zH (fun u (hb:Below wb.heap.size wb u)=>Dt (v:= .agg #[.int .i64 rn,.int .i64 m.kind,.int .i64 m.ticket,.bool m.whole,.slice va vn vc,.slice fa2 fn2 fc2,.slice za zn zc,.slice wa wn wc2,.slice ja jm jc,.slice ta tn tc]) (r:=(rn,m)) ⟨⟨va,vn,vc,fa2,fn2,fc2,za,zn,zc,wa,wn,wc2,ja,jm,jc,ta,tn,tc⟩,rfl,(R4.o.below hb).at_⟩ RF.o);have Ii:=fun u bv (hb:Below wb.heap.size wb u) (hs:By.Seq u bv (jY rn m))=>yG (r:=(rn,m)) (v:= .agg #[.int .i64 d.me,.int .i64 d.cores,.slice xa1 hx1 xc1,.slice ya1 iy1 yc1,.slice za1 fz1 zc1,.slice qa1 lq1 qc1,.slice pa1 kp1 pc1]) ⟨⟨xa1,hx1,xc1,ya1,iy1,yc1,za1,fz1,zc1,qa1,lq1,qc1,pa1,kp1,pc1⟩,rfl,(X4.o.below hb).seq⟩ hs CF2.o (by decide) RF.o
    simp only at Ii KB
    rw [DG.o] at Ii;have KD:=zH Ii;clear Ii;generalize jY rn m=rb at*
    go_cut [13,14] (fun sX sY wx=>∃ (nb:Nat) (xa:Option Addr) (hx xc:Nat) (ya:Option Addr) (iy yc:Nat) (za:Option Addr) (fz zc:Nat) (qa:Option Addr) (lq qc:Nat) (pa:Option Addr) (kp pc:Nat),sX= .pointer (some ⟨nb,0,none⟩)/\sY= .int .i64 0/\FQ wb nb d ⟨xa,hx,xc,ya,iy,yc,za,fz,zc,qa,lq,qc,pa,kp,pc⟩ wx)
    case first=>
      refine wp_region_held_drew (S:=fun u'=>Below wb.heap.size wb u'/\(u'.cell? ⟨nb,0,none⟩=some (Value.int .i64 d.me)/\u'.cell? ⟨nb,1,none⟩=some (Value.int .i64 d.cores)/\u'.cell? ⟨nb,2,none⟩=some (Value.slice xa1 hx1 xc1)/\u'.cell? ⟨nb,3,none⟩=some (Value.slice ya1 iy1 yc1)/\u'.cell? ⟨nb,4,none⟩=some (Value.slice za1 fz1 zc1)/\u'.cell? ⟨nb,5,none⟩=some (Value.slice qa1 lq1 qc1)/\u'.cell? ⟨nb,6,none⟩=some (Value.slice pa1 kp1 pc1))/\u'.cell? ⟨w.heap.size,0,none⟩=some (Value.int .i64 rn)/\u'.cell? ⟨w.heap.size,1,none⟩=some (Value.int .i64 m.kind)/\u'.cell? ⟨w.heap.size,2,none⟩=some (Value.int .i64 m.ticket)/\u'.cell? ⟨w.heap.size,3,none⟩=some (Value.bool m.whole)/\u'.cell? ⟨w.heap.size,4,none⟩=some (Value.slice va vn vc)/\u'.cell? ⟨w.heap.size,5,none⟩=some (Value.slice fa2 fn2 fc2)/\u'.cell? ⟨w.heap.size,6,none⟩=some (Value.slice za zn zc)/\u'.cell? ⟨w.heap.size,7,none⟩=some (Value.slice wa wn wc2)/\u'.cell? ⟨w.heap.size,8,none⟩=some (Value.slice ja jm jc)/\u'.cell? ⟨w.heap.size,9,none⟩=some (Value.slice ta tn tc)) (by kernel_rfl) ?_ (fun hH=> ?_)
      · (exact KE.o _ (aj _ _).drew)
      simp only [zS,aJ,Nat.reduceAdd]
      refine fJ 0 hH ?_;refine fJ 1 hH ?_;refine wpAnyH_ready (rs:=[2,7]) (by kernel_rfl) (by simp) ?_;refine bC rfl (fun K hK=> ?_) (bC rfl (fun K hK=> ?_) dA)
      · skip
        go_simp
        have BH:=zH hH.1;refine (KB.o _ BH.o).mono ?_;rintro e s1 ⟨bv,rfl,hs,hb⟩;have BS:=zH hs;have B1:=zH (BH.o.trans (hb.mono BH.o.size));clear hs hb BH;refine hK.out _ _ (KE.o _ B1.o) (fun hH=> ?_);clear hK K;refine wpAnyH_ready (rs:=[3,7]) (by kernel_rfl) (by simp) ?_;refine bC rfl (fun K hK=> ?_) (bC rfl (fun K hK=> ?_) dA)
        · skip
          go_simp
          have BH:=zH hH.1;refine (KD.o _ bv BH.o BS.o).mono ?_;rintro e s2 ⟨⟨xa,hx,xc,ya,iy,yc,za,fz,zc,qa,lq,qc,pa,kp,pc⟩,rfl,hA,hb⟩;have B2:=zH (BH.o.trans (hb.mono BH.o.size));have ZH:=zH BH.o.size;have A2:=zH (hA.mono fun b h=>(⟨by have:=ZH.o;have:=h.1;omega,h.2⟩:wb.heap.size<=b/\b<s2.heap.size));clear hA hb BH KD KB;unfold fP;refine hK.out _ _ (KE.o _ B2.o) (fun hH=> ?_);clear hK K;refine fJ 4 hH ?_;refine fJ 5 hH ?_;refine fJ 6 hH ?_;refine rd 7 fun K hK=> ?_
          go_simp
          have ZQ:=zH hH.1.size;have DQ:Hid ((s2.alloc (.cells #[.int .i64 0,.int .i64 0,.slice none 0 0,.slice none 0 0,.slice none 0 0,.slice none 0 0,.slice none 0 0] 34)).heap[s2.heap.size]? =some (.cells ji 34 (0,0))):=zH (aM s2 _);have DL:Hid (s2.heap.size<(s2.alloc (.cells #[.int .i64 0,.int .i64 0,.slice none 0 0,.slice none 0 0,.slice none 0 0,.slice none 0 0,.slice none 0 0] 34)).heap.size):=zH (show s2.heap.size<(s2.alloc (.cells #[.int .i64 0,.int .i64 0,.slice none 0 0,.slice none 0 0,.slice none 0 0,.slice none 0 0,.slice none 0 0] 34)).heap.size from by simp);have A3:=zH ((A2.o.agree fun b h=>(zB s2 (.cells #[.int .i64 0,.int .i64 0,.slice none 0 0,.slice none 0 0,.slice none 0 0,.slice none 0 0,.slice none 0 0] 34)).block b h.2).mono fun b h=>(⟨h.1,by have:=DL.o;have:=h.2;omega,by have:=h.2;omega⟩:wb.heap.size<=b/\b<(s2.alloc (.cells #[.int .i64 0,.int .i64 0,.slice none 0 0,.slice none 0 0,.slice none 0 0,.slice none 0 0,.slice none 0 0] 34)).heap.size/\b≠s2.heap.size));clear A2;refine hK.out _ _ (KE.o _ (hH.1.alloc hH.1.size _)) (fun hH=> ?_);clear hK K;generalize hNB:s2.heap.size=nb at*;generalize (s2.alloc _)=sA at*;have ZN:Hid (wb.heap.size<=nb):=zH (by have:=ZQ.o;omega);have NX:=zH (pW DQ.o ZN.o hH.1 A3.o);unfold kQ at NX;have hzb:=DQ.o;unfold ji at hzb;have FR:=zH (fun i=>iI hzb i);obtain ⟨z0,z1,z2,z3,z4,z5,z6⟩:=gM hzb;obtain ⟨f0,f1,f2,f3,f4,f5,f6⟩:=(⟨FR.o 0,FR.o 1,FR.o 2,FR.o 3,FR.o 4,FR.o 5,FR.o 6⟩:_/\_/\_/\_/\_/\_/\_);clear hzb FR;refine rd 8 fun K hK=> ?_
          go_simp
          refine hK.out _ _ (KE.o _ NX.o.low) (fun hH=> ?_);clear hK K z0 z1 z2 z3 z4 z5 z6 f0 f1 f2 f3 f4 f5 f6;refine fJ 9 hH ?_;refine wpAnyH_done (by kernel_rfl) ?_ _;clear hH;go_wp2_with fail
          go_meet
          exact ⟨nb,xa,hx,xc,ya,iy,yc,za,fz,zc,qa,lq,qc,pa,kp,pc,rfl,rfl,NX.o⟩
        · skip
          go_simp
          have ZQ:=zH hH.1.size;have DQ:Hid ((s1.alloc (.cells #[.int .i64 0,.int .i64 0,.slice none 0 0,.slice none 0 0,.slice none 0 0,.slice none 0 0,.slice none 0 0] 34)).heap[s1.heap.size]? =some (.cells ji 34 (0,0))):=zH (aM s1 _);have DL:Hid (s1.heap.size<(s1.alloc (.cells #[.int .i64 0,.int .i64 0,.slice none 0 0,.slice none 0 0,.slice none 0 0,.slice none 0 0,.slice none 0 0] 34)).heap.size):=zH (show s1.heap.size<(s1.alloc (.cells #[.int .i64 0,.int .i64 0,.slice none 0 0,.slice none 0 0,.slice none 0 0,.slice none 0 0,.slice none 0 0] 34)).heap.size from by simp);replace BS:=zH (BS.o.below (zB s1 (.cells #[.int .i64 0,.int .i64 0,.slice none 0 0,.slice none 0 0,.slice none 0 0,.slice none 0 0,.slice none 0 0] 34)));refine hK.out _ _ (KE.o _ (hH.1.alloc hH.1.size _)) (fun hH=> ?_);clear hK K;generalize hNB:s1.heap.size=nb at*;generalize (s1.alloc _)=sA at*;refine rd 3 fun K hK=> ?_
          go_simp
          have BH:=zH hH.1;refine (KD.o _ bv BH.o BS.o).mono ?_;rintro e s2 ⟨⟨xa,hx,xc,ya,iy,yc,za,fz,zc,qa,lq,qc,pa,kp,pc⟩,rfl,hA,hb⟩;have B2:=zH (BH.o.trans (hb.mono BH.o.size));have ZH:=zH BH.o.size;replace DQ:=zH ((hb.block _ DL.o).trans DQ.o);have A3:=zH (hA.mono fun b h=>(⟨by have:=ZH.o;have:=h.1;omega,h.2,by have:=DL.o;have:=h.1;omega⟩:wb.heap.size<=b/\b<s2.heap.size/\b≠nb));clear DL;clear hA hb BH KD KB;unfold fP;refine hK.out _ _ (KE.o _ B2.o) (fun hH=> ?_);clear hK K;refine fJ 4 hH ?_;refine fJ 5 hH ?_;refine fJ 6 hH ?_;have ZN:Hid (wb.heap.size<=nb):=zH (by have:=ZQ.o;omega);have NX:=zH (pW DQ.o ZN.o hH.1 A3.o);unfold kQ at NX;have hzb:=DQ.o;unfold ji at hzb;have FR:=zH (fun i=>iI hzb i);obtain ⟨z0,z1,z2,z3,z4,z5,z6⟩:=gM hzb;obtain ⟨f0,f1,f2,f3,f4,f5,f6⟩:=(⟨FR.o 0,FR.o 1,FR.o 2,FR.o 3,FR.o 4,FR.o 5,FR.o 6⟩:_/\_/\_/\_/\_/\_/\_);clear hzb FR;refine rd 8 fun K hK=> ?_
          go_simp
          refine hK.out _ _ (KE.o _ NX.o.low) (fun hH=> ?_);clear hK K z0 z1 z2 z3 z4 z5 z6 f0 f1 f2 f3 f4 f5 f6;refine fJ 9 hH ?_;refine wpAnyH_done (by kernel_rfl) ?_ _;clear hH;go_wp2_with fail
          go_meet
          exact ⟨nb,xa,hx,xc,ya,iy,yc,za,fz,zc,qa,lq,qc,pa,kp,pc,rfl,rfl,NX.o⟩
      · skip
        go_simp
        have ZQ:=zH hH.1.size;have DQ:Hid ((wb.alloc (.cells #[.int .i64 0,.int .i64 0,.slice none 0 0,.slice none 0 0,.slice none 0 0,.slice none 0 0,.slice none 0 0] 34)).drew.heap[wb.heap.size]? =some (.cells ji 34 (0,0))):=zH (aM wb _);have DL:Hid (wb.heap.size<(wb.alloc (.cells #[.int .i64 0,.int .i64 0,.slice none 0 0,.slice none 0 0,.slice none 0 0,.slice none 0 0,.slice none 0 0] 34)).drew.heap.size):=zH (show wb.heap.size<(wb.alloc (.cells #[.int .i64 0,.int .i64 0,.slice none 0 0,.slice none 0 0,.slice none 0 0,.slice none 0 0,.slice none 0 0] 34)).heap.size from by simp);refine hK.out _ _ (KE.o _ (hH.1.alloc hH.1.size _)) (fun hH=> ?_);clear hK K;generalize (wb.alloc _).drew=sA at*;refine rd 2 fun K hK=> ?_
        go_simp
        have BH:=zH hH.1;refine (KB.o _ BH.o).mono ?_;rintro e s1 ⟨bv,rfl,hs,hb⟩;have BS:=zH hs;have B1:=zH (BH.o.trans (hb.mono BH.o.size));replace DQ:=zH ((hb.block _ DL.o).trans DQ.o);replace DL:=zH (ay DL.o hb.size);clear hs hb BH;refine hK.out _ _ (KE.o _ B1.o) (fun hH=> ?_);clear hK K;refine rd 3 fun K hK=> ?_
        go_simp
        have BH:=zH hH.1;refine (KD.o _ bv BH.o BS.o).mono ?_;rintro e s2 ⟨⟨xa,hx,xc,ya,iy,yc,za,fz,zc,qa,lq,qc,pa,kp,pc⟩,rfl,hA,hb⟩;have B2:=zH (BH.o.trans (hb.mono BH.o.size));have ZH:=zH BH.o.size;replace DQ:=zH ((hb.block _ DL.o).trans DQ.o);have A3:=zH (hA.mono fun b h=>(⟨by have:=ZH.o;have:=h.1;omega,h.2,by have:=DL.o;have:=h.1;omega⟩:wb.heap.size<=b/\b<s2.heap.size/\b≠wb.heap.size));clear DL;clear hA hb BH KD KB;unfold fP;refine hK.out _ _ (KE.o _ B2.o) (fun hH=> ?_);clear hK K;refine fJ 4 hH ?_;refine fJ 5 hH ?_;refine fJ 6 hH ?_;have ZN:Hid (wb.heap.size<=wb.heap.size):=zH (by exact ah _);have NX:=zH (pW DQ.o ZN.o hH.1 A3.o);unfold kQ at NX;have hzb:=DQ.o;unfold ji at hzb;have FR:=zH (fun i=>iI hzb i);obtain ⟨z0,z1,z2,z3,z4,z5,z6⟩:=gM hzb;obtain ⟨f0,f1,f2,f3,f4,f5,f6⟩:=(⟨FR.o 0,FR.o 1,FR.o 2,FR.o 3,FR.o 4,FR.o 5,FR.o 6⟩:_/\_/\_/\_/\_/\_/\_);clear hzb FR;refine rd 8 fun K hK=> ?_
        go_simp
        refine hK.out _ _ (KE.o _ NX.o.low) (fun hH=> ?_);clear hK K z0 z1 z2 z3 z4 z5 z6 f0 f1 f2 f3 f4 f5 f6;refine fJ 9 hH ?_;refine wpAnyH_done (by kernel_rfl) ?_ _;clear hH;go_wp2_with fail
        go_meet
        exact ⟨wb.heap.size,xa,hx,xc,ya,iy,yc,za,fz,zc,qa,lq,qc,pa,kp,pc,rfl,rfl,NX.o⟩
    case rest=>
      obtain ⟨nb2,xa2,hx2,xc2,ya2,iy2,yc2,za2,fz2,zc2,qa2,lq2,qc2,pa2,kp2,pc2,rfl,rfl,Uo⟩:=hcut;have KQ:=zH (Wx (X4.o.below Uo.low).is Uo.box.is (by have:=CF2.o.list;omega) (by have:=CF2.o.XY;omega) true (by simp));unfold fP at KQ;have X5:=zH (X4.o.below Uo.low);have G5:=zH (G4.o.trans (Uo.low.mono G4.o.size));obtain ⟨c0,c1,c2,c3,c4,c5,c6⟩:=X5.o.cl;obtain ⟨t0,t1,t2,t3,t4,t5,t6⟩:=Uo.box.cl;clear Uo KB KD KE X4 R4 G4;go_wp2_with fail
      refine KQ.o.mono ?_;rintro e w7 ⟨rfl,hb⟩;have GE:=zH (G5.o.trans (hb.mono G5.o.size));clear hb KQ c0 c1 c2 c3 c4 c5 c6 t0 t1 t2 t3 t4 t5 t6;go_wp2_with fail
      go_ret
      exact ⟨rfl,GE.o⟩

set_option maxRecDepth 100000 in
theorem lifted (os : Os) (started : os.Started) (H : Type) (enc : TypeId × Value → H) :
    ReturnsInHanded {} Tryz.checked os 8 .any (Rows.coreAgainSpec.pre6 enc Tryz.prog Tryz.f8 Rows.coreAgainRow.domain false) (Rows.coreAgainSpec.post enc Tryz.prog Tryz.f8 false true false false) := by
  refine returnsInHanded_of_change (C := Tryz.checked) own started (by kernel_rfl) Tryz.func8
    (ChangeSpec.witness6 (enc := enc) (C := Tryz.checked) false ⟨#[], #[.int .i64 0, .int .i64 0, .slice none 0 0, .agg #[.int .i64 0, .int .i64 0, .int .i64 0, .bool false, .slice none 0 0, .slice none 0 0, .slice none 0 0, .slice none 0 0, .slice none 0 0, .slice none 0 0]], []⟩ 8 (by kernel_rfl) (by kernel_rfl) (by kernel_rfl) (by kernel_rfl)) ?_
  intro W base args ds gs before hval0 hW hcnd _
  have hval : ∀ (j : Nat) t v, Tryz.f8.params[j]? = some t → args[j]? = some v → Value.okWide Tryz.prog W .any base t v := hval0
  have hW' := hW
  obtain ⟨p, q, hA0, hV, rfl, hfz, hnd⟩ := hW
  have hA : DataW.TrodAll enc Tryz.prog W 0 (fun _ => true) true Tryz.f8.params.toList args.toList ds p := hA0
  rw [Tryz.params8] at hA hval
  obtain ⟨v0, vs0, d0, ds0, p0, q0, hargs, rfl, rfl, h0, r0⟩ := trodAll_cons hA
  obtain ⟨v1, vs1, d1, ds1, p1, q1, rfl, rfl, rfl, h1, r1⟩ := trodAll_cons r0
  obtain ⟨v2, vs2, d2, ds2, p2, q2, rfl, rfl, rfl, h2, r2⟩ := trodAll_cons r1
  obtain ⟨v3, vs3, d3, ds3, p3, q3, rfl, rfl, rfl, h3, r3⟩ := trodAll_cons r2
  obtain ⟨rfl, rfl, rfl⟩ := trodAll_nil r3
  obtain rfl : args = #[v0, v1, v2, v3] := by cases args; simp_all
  obtain ⟨rfl, rfl⟩ := trodVars_none hV
  obtain ⟨a0, rfl, rfl, rfl, w0⟩ := open_int Tryz.underlying3 (hval 0 3 v0 rfl rfl) h0
  obtain ⟨a1, rfl, rfl, rfl, w1⟩ := open_int Tryz.underlying3 (hval 1 3 v1 rfl rfl) h1
  have k2 := h2
  have lt2 : ∀ x ∈ p2, x.block < W.heap.size := by obtain ⟨m, hm⟩ := k2; exact DataW.trod_lt m _ _ _ hm
  have w2 := open2 (hval 2 22 v2 rfl rfl) h2
  have k3 := h3
  have lt3 : ∀ x ∈ p3, x.block < W.heap.size := by obtain ⟨m, hm⟩ := k3; exact DataW.trod_lt m _ _ _ hm
  have w3 := open3 (hval 3 48 v3 rfl rfl) h3
  clear hA0 hval0
  refine (walk a0 a1 v2 v3 W w0 w1 w2 w3).mono fun e W' ⟨he, bel⟩ => ?_
  subst he
  exact ⟨_, rfl, _, _, _, [], _, [], hW', trodAll_mk1 (shut_bool Tryz.underlying4 _), (trodAll_cons_mk (shut_int Tryz.underlying3 w0) (trodAll_cons_mk (shut_int Tryz.underlying3 w1) (trodAll_cons_mk (Below.trod laidOut (by kernel_rfl) (of_decide_eq_true (by kernel_rfl)) k2 bel lt2) (trodAll_cons_mk (Below.trod laidOut (by kernel_rfl) (of_decide_eq_true (by kernel_rfl)) k3 bel lt3) trodAll_mk0)))), rfl, bel.frame _, fun h => by cases h⟩

set_option maxHeartbeats 8000000 in
theorem over : Rows.coreAgainRow.holds Tryz.pinned (OpenSpec.ofChange Rows.coreAgainSpec) :=
  OpenClaim.holds_of_wide 8 Tryz.f8 rfl rfl rfl rfl rfl rfl rfl ⟨rfl, rfl, rfl, rfl, rfl⟩ rfl rfl rfl rfl rfl (by kernel_rfl) Tryz.func8 (by unfold joinedFacts; simp only [Bool.and_eq_true]; and_intros <;> as_aux_lemma => kernel_rfl)
    (of_decide_eq_true (by kernel_rfl)) (by unfold Func.isWrapper; first | (rw [if_pos (by decide +kernel)]; kernel_rfl) | (rw [if_neg (by decide +kernel)]; exact ⟨rfl, rfl⟩))
    (fun os started H enc _ => lifted os started H enc)

/-- the given statement -/
theorem proved : Rows.CoreAgainSaid := over
#print axioms proved
end Go.Proofs.YtfgcodcablpdcaaGreat.coreAgain
