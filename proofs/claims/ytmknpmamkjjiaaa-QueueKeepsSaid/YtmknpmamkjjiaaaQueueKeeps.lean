/-
  For any number and any script the law QueueKeeps answers true: what waits is transactions of one node, one number after the other, within the bound; what was heard, from the first on, waits no more. No condition.
  (The frame was written by the guide's proof-skeleton.mjs, turned for queues; the walk is ours.)
-/
import Derived.Test.YtmknpmamkjjiaaaRows
import Derived.WalkKit
import Derived.ProofKit
import Derived.OpenShut
import Derived.ShutString
import Derived.ChangeOld
import Derived.Below
import Derived.Test.YtmknpmamkjjiaaaQuOps
namespace Go.Proofs.Ytmknpmamkjjiaaa.queueKeeps
open Go.ChangeShapes Go.WideShapes Go.ChangeAt Go.RowKit
open Go.ChangeMaps (open_string shut_string)
set_option linter.unusedVariables false

theorem own : ownKnob Try.prog.godebug = none := by kernel_rfl
theorem laidOut : laidOutB Try.prog = true := by kernel_rfl

set_option maxRecDepth 100000
set_option maxHeartbeats 64000000
open Plain

theorem open1 {H:Type} {enc:TypeId×Value ->H} {W:World} {r:Reach} {b:Nat} {v:Value} {d:DataW H} {p:List MemPlace} (hv:Value.okWide Try.prog W r b 22 v) (h:DataW.Trod enc Try.prog W 0 (fun _=>true) true 22 v d p):sj W v:=oh hv h
theorem walk (mo:Int) (v1:Value) (w:World) (w0:(Lit.int .i64 mo).wf=true) (w1:sj w v1):
    Calls Try.prog 3 #[.int .i64 mo,v1] w fun e w'=>e= .returned (.bool true)/\Below w.heap.size w w':=by
  obtain ⟨ops,hv,hok⟩:=w1;obtain ⟨a,cap,rfl,g1,g2,-,hs⟩:=hv.parts;obtain ⟨n,hN⟩:∃ n,ops.length=n:=⟨_,rfl⟩;rw [hN] at g1 hs ⊢;have LN:=zH hN;have OS:=zH hs;have OK:=zH hok;have n1:(n:Int)<=cap:=by omega
  have n2:(cap:Int)<=9223372036854775807:=by omega
  have KN:=zH (fun u=>ni mo u);clear hv hok hs hN g1 g2 w0;go_enter Try.func3,Try.ntmps3
  go_wp2_with fail
  refine (jV _).mono ?_;rintro e u1 ⟨rfl,hb1⟩;have G1:=zH hb1;have K1:=zH (KN.o u1);clear hb1 KN
  by_cases hbad:mo<0\/16<mo
  · have hE:=(kY hbad).2
    rw [hE] at K1;have bne:((1:Int) !=0)=true:=by decide
    go_wp2_with fail
    refine K1.o.mono ?_;rintro e u2 ⟨va,vn,vc,rfl,-,-,hb⟩;have G2:=zH ((G1.o.trans (hb.mono G1.o.size)).alloc (aD G1.o.size hb.size) (.cells #[.int .i64 (qw mo).most,.slice va vn vc] 26));clear hb K1 hE
    by_cases h1:mo<0
    · go_wp2_with fail
      go_ret
      exact ⟨rfl,G2.o⟩
    · have h2:16<mo:=by omega
      go_wp2_with fail
      go_ret
      exact ⟨rfl,G2.o⟩
  have hE:=tC (m:=mo) (by omega) (by omega);rw [hE.2] at K1;have bne:((0:Int) !=0)=false:=by decide
  go_wp2_with fail
  refine K1.o.mono ?_;rintro e u2 ⟨va,vn,vc,rfl,hn,ho,hb⟩;have N0:Hid (j3 w u2.heap.size mo ⟨mo,[]⟩ va vn vc (u2.alloc (.cells #[.int .i64 (qw mo).most,.slice va vn vc] 26))):=zH (by
    rw [hE.1] at hn ho ⊢;have hq:dw u2 (.agg #[.int .i64 mo,.slice va vn vc]) ⟨mo,[]⟩:=⟨va,vn,vc,rfl,hn.symm,ho.nu.mono fun b h=>h.2⟩;exact ⟨iI (q:=⟨mo,[]⟩) hq,(G1.o.trans (hb.mono G1.o.size)).alloc (aD G1.o.size hb.size) _,aD G1.o.size hb.size,fu.nil,rfl,by show (0:Int)<=mo;omega,fun t h=>by cases h⟩)
  have m0:0<=mo:=by omega
  have m16:mo<=16:=by omega
  clear hn ho hb K1 G1 hE hbad;go_upto_region 6 with fail
  generalize (u2.alloc _)=u3 at*;generalize u2.heap.size=g at*;clear u2;go_wp2_with fail
  go_loopg [7] n (fun gg iv wr=>∃ (k:Nat) (q:bM) (qa:Option Addr) (qn qc:Nat),k<=n/\iv= .int .i64 k/\Aside (j3 w g mo q qa qn qc wr/\n-k<=gg))
  case atStart=>exact ⟨0,_,_,_,_,aJ _,rfl,N0.o,aj _⟩
  clear N0
  case round=>
    obtain ⟨k,q,qa,qn,qc,hk,rfl,hrel⟩:=hrel;obtain ⟨hQ,hgg⟩:=Aside.out hrel;have QK:=zH hQ;have Aq:=zH hgg;clear hrel hQ hgg
    by_cases hin:k<n/\k<40
    rotate_left
    · by_cases hkn:k<n
      · have h1:(k:Int)<n:=by omega
        have h2:¬ (k:Int)<40:=by omega
        clear hin hkn;go_wp2_with fail
        go_ret
        exact ⟨rfl,QK.o.low⟩
      · have h1:¬ (k:Int)<n:=by omega
        clear hin hkn;go_wp2_with fail
        go_ret
        exact ⟨rfl,QK.o.low⟩
    obtain ⟨hkn,Ba⟩:=hin;have k1:(k:Int)<n:=by omega
    have k2:(k:Int)<40:=by omega
    obtain ⟨lb,lo,rfl,hc⟩:=xX OS.o (by omega);obtain ⟨da,dn,dc,ea,en,ec,hW⟩:=hc k hkn;have HT:=zH (fun u (hb:Below w.heap.size w u)=>(hW u hb).2);obtain ⟨x0,x1,x2,x3,x4,x5⟩:=(hW wr QK.o.low).1;have OX:Hid (tu (om ops k)):=zH (OK.o _ (by unfold om;have:=LN.o;rw [show ops.getD k default=ops[k]'(by omega) by simp [List.getD,ah (show k<ops.length by omega)]];exact aS _));clear hc hW Ba;generalize (om ops k).hears=he at*;generalize hnn:(om ops k).n=nn at*;generalize Ck:(om ops k).t=t at*;have OT:Hid (jU t):=zH (by rw [<-Ck];exact OX.o.2);clear hnn Ck OX;have hb:=zB wr (.cells #[.bool he,.int .i64 nn,.int .i64 t.node,.int .i64 t.seq,.slice da dn dc,.slice ea en ec] 36);have B6:=zH (aR wr (.cells #[.bool he,.int .i64 nn,.int .i64 t.node,.int .i64 t.seq,.slice da dn dc,.slice ea en ec] 36));have Q1:=zH (QK.o.below hb);have GL:Hid (g<wr.heap.size):=zH QK.o.v.box.lt;clear hb QK;go_upto_region 10 with fail
    clear x0 x1 x2 x3 x4 x5;generalize (wr.alloc _)=wA at*;generalize wr.heap.size=g6 at*;clear wr;obtain ⟨sh,hsh⟩:∃ b,gu [t]=b:=⟨_,rfl⟩;have Cm:=zH hsh;have hb1:=zB wA (.cells #[.int .i64 t.node,.int .i64 t.seq,.slice da dn dc,.slice ea en ec] 34);have Q2:=zH (Q1.o.below hb1);have B7:=zH ((hb1.block g6 (au.1 B6.o).1).trans B6.o);have KS:=zH (jy (wu (HT.o wA Q1.o.low)) sh hsh);obtain ⟨c0,c1,c2,c3,c4,c5⟩:=iG B6.o;clear hb1 hsh;go_wp2_with fail
    generalize (wA.alloc _)=wB at*;refine KS.o.mono ?_;rintro e wC ⟨rfl,hb⟩;have Q3:=zH (Q2.o.below hb);have B8:=zH ((hb.block g6 (au.1 B7.o).1).trans B7.o);clear hb Q1 Q2 B6 B7 KS c0 c1 c2 c3 c4 c5
    cases sh with
    |false=>
      go_wp2_with fail
      go_ret
      exact ⟨rfl,Q3.o.low⟩
    |true=>
    have FT:=zH (qy Cm.o OT.o);obtain ⟨c0,c1,c2,c3,c4,c5⟩:=iG B8.o;obtain ⟨⟨d0,d1⟩,f0,f1⟩:=Q3.o.v.box.c;obtain ⟨hl1,hl2,hl3⟩:=Q3.o.gy;have q1:(qn:Int)<=qc:=by omega
    have q2:(qc:Int)<=9223372036854775807:=by omega
    have Di:(qn:Int)<=mo:=by have:=Q3.o.le;omega
    have LQ:=zH hl1;clear hl1 hl2 hl3 Cm
    go_upto_if 52 with fail
    go_cut [9,10,11,12] (fun s9 s10 s11 s12 wx=>∃ (q':bM) (Dj:Option Addr) (Dk Dl:Nat),j3 w g mo q' Dj Dk Dl wx)
    case first=>
      cases he with
      |true=>
        by_cases z1:qn=0
        · subst z1
          go_wp2_with fail
          go_roundg (n-(k+1))
          case measure=>have:=Aq.o;omega
          case rel=>exact ⟨k+1,q,qa,0,qc,by omega,by go_num,Q3.o,aj _⟩
        have e1:((qn:Int)==0)=false:=by simp;omega
        by_cases z2:nn<0
        · skip
          go_wp2_with fail
          go_roundg (n-(k+1))
          case measure=>have:=Aq.o;omega
          case rel=>exact ⟨k+1,q,qa,qn,qc,by omega,by go_num,Q3.o,aj _⟩
        by_cases z3:(qn:Int)<nn
        · skip
          go_wp2_with fail
          go_roundg (n-(k+1))
          case measure=>have:=Aq.o;omega
          case rel=>exact ⟨k+1,q,qa,qn,qc,by omega,by go_num,Q3.o,aj _⟩
        obtain ⟨h,rfl⟩:∃ h:Nat,nn=h:=⟨nn.toNat,by omega⟩;obtain ⟨b,o,rfl,hbl,hc'⟩:=jm (fun b h=>h.1) Q3.o.v.sq (by omega);obtain ⟨pa,pn,pc,ra,rn,rc,hW⟩:=hc' 0 (by omega);have HC:Hid (∀ u,Below wC.heap.size wC u ->u.cell? ⟨b,o,none⟩=some (.int .i64 (dW q.list 0).node)/\u.cell? ⟨b,o+1,none⟩=some (.int .i64 (dW q.list 0).seq)):=zH (fun u hb=>by
          obtain ⟨h0,h1,-,-⟩:=(hW u hb).1;simp only [Nat.zero_mul,Nat.add_zero] at h0 h1
          exact ⟨h0,h1⟩)
        have FM:=zH (fG (Q3.o.ch.form _ (show dW q.list 0∈q.list by rw [fq (by have:=LQ.o;omega)];exact aS _)));obtain ⟨hnd,hn7,hs1,hs2⟩:=FM.o;obtain ⟨x0,x1⟩:=HC.o wC (ak _ _);have Bb:=zH (fun v hv=>Q3.o.ch.heard v h (by have:=LQ.o;omega) hv);clear hW hc';generalize dW q.list 0=t0 at*;obtain ⟨nd,zx⟩:∃ nd:Nat,t0.node=nd:=⟨t0.node.toNat,by omega⟩;rw [zx] at x0 HC Bb FM;have Dy:=zH zx;clear hnd hn7 zx z2;generalize t0.seq=sq at*;have nd8:nd<=7:=by have:=FM.o;omega
        have wr1:IntKind.i64.wrap ((nd:Int)+1)=((nd+1:Nat):Int):=by rw [show (nd:Int)+1=((nd+1:Nat):Int) by omega];exact ng (by omega)
        have wr2:IntKind.i64.wrap (sq-1)=sq-1:=qh hs1 (by omega);have wr3:IntKind.i64.wrap (sq-1+(h:Int))=sq-1+h:=by
          rw [show sq-1+(h:Int)=(((sq-1+h).toNat:Nat):Int) by omega];exact ng (by omega)
        go_wp2_with (at_make;refine gV rfl (.tmp 71) rfl ((nd+1:Nat):Int) (nd+1) (by first|rfl|(show Value.int _ _=_;rw [wr1])) rfl (by omega) ?_)
        intro wD ho hb;have Q4:=zH (Q3.o.below hb);have B9:=zH ((hb.block g6 (au.1 B8.o).1).trans B8.o);have Cn:=zH (fun u (hb2:Below wD.heap.size wD u)=>HC.o u (hb.trans (hb2.mono hb.size)));have O1:=zH ho;have GV:Hid (g<wC.heap.size):=zH Q3.o.v.box.lt;have Co:Hid (b<wC.heap.size):=zH hbl;have Dm:Hid (w.heap.size<=wC.heap.size):=zH Q3.o.low.size;have Cq:=zH Q3.o.v;have Dn:Hid (Sq dJ (fun x=>x<wC.heap.size/\x≠g) wC (.slice (some ⟨b,o,none⟩) qn qc) q.list):=zH Q3.o.v.sq;have Cr:=zH (fun x (hx:x<wC.heap.size)=>hb.block x hx);have Dp:Hid (wC.heap.size<=wD.heap.size):=zH hb.size;have G6:Hid (g6<wC.heap.size):=zH (au.1 B8.o).1;clear hb ho HC hbl c0 c1 c2 c3 c4 c5 d0 d1 f0 f1 x0 x1;generalize wC.heap.size=gv at*;go_upto_region 16 with fail
        have KE:Hid (∀ u,Below w.heap.size w u ->(∀ b,b<gv ->u.heap[b]? =wD.heap[b]?) ->Below w.heap.size w u/\(u.cell? ⟨g,0,none⟩=some (.int .i64 q.most)/\u.cell? ⟨g,1,none⟩=some (.slice (some ⟨b,o,none⟩) qn qc))/\u.cell? ⟨g6,1,none⟩=some (.int .i64 (h:Int))/\u.cell? ⟨b,o,none⟩=some (.int .i64 (nd:Int))/\u.cell? ⟨b,o+1,none⟩=some (.int .i64 sq)):=zH (fun u hl hb=>⟨hl,(Q4.o.v.box.eq (hb g GV.o)).c.1,by
          have h1:=(hb g6 G6.o).trans B9.o;exact (iG h1).2.1,by
          obtain ⟨h1,h2⟩:=Cn.o wD (ak _ _);exact ⟨(World.cell?_of_block (a:=⟨b,o,none⟩) (hb b Co.o)).trans h1,(World.cell?_of_block (a:=⟨b,o+1,none⟩) (hb b Co.o)).trans h2⟩⟩)
        have Dq:=zH (O1.o.set nd (sq-1+h));have LD:Hid (Below w.heap.size w wD.drew):=zH (Q4.o.low.trans ((ak _ _).drew.mono Q4.o.low.size));have hnl:(nd:Int)<((nd+1:Nat):Int):=by omega
        have hq0:0<qn:=by omega
        have AQ:(nd:Int)<(nd:Int)+1:=by omega
        have Bc:=O1.o.cell nd (by simp);have hfr:=O1.o.free nd;refine wp_region_held_drew (S:=fun u'=>Below w.heap.size w u'/\(u'.cell? ⟨g,0,none⟩=some (.int .i64 q.most)/\u'.cell? ⟨g,1,none⟩=some (.slice (some ⟨b,o,none⟩) qn qc))/\u'.cell? ⟨g6,1,none⟩=some (.int .i64 (h:Int))/\u'.cell? ⟨b,o,none⟩=some (.int .i64 (nd:Int))/\u'.cell? ⟨b,o+1,none⟩=some (.int .i64 sq)) (by kernel_rfl) ?_ (fun hH=> ?_)
        · (exact KE.o _ LD.o (fun b h=>rfl))
        simp only [zS,aC,Nat.reduceAdd]
        refine bF 0 hH ?_;refine bF 1 hH ?_;refine bF 2 hH ?_;refine bF 3 hH ?_;refine bF 4 hH ?_;refine bF 5 hH ?_;refine bF 6 hH ?_;refine bF 7 hH ?_;refine bF 8 hH ?_;refine bF 9 hH ?_;refine bF 10 hH ?_;refine bF 11 hH ?_;refine bF 12 hH ?_;refine bF 13 hH ?_;refine bF 14 hH ?_;refine bF 15 hH ?_;refine rd 16 fun K hK=> ?_
        go_simp
        have xu:Below w.heap.size w (wD.setCell ⟨gv,nd,none⟩ (.int .i64 (sq-1+h))):=Q4.o.low.setCell (show w.heap.size<=gv from Dm.o) _;have hlow:Below w.heap.size w (wD.setCell ⟨gv,nd,none⟩ (.int .i64 (sq-1+h))).drew:=xu.trans ((ak _ _).drew.mono xu.size);clear xu;refine hK.out _ _ (KE.o _ hlow (fun x h=>(aH _ _ _ _ (show x≠gv from Nat.ne_of_lt h)).trans rfl)) (fun hH=> ?_);clear hK K;refine wpAnyH_done (by kernel_rfl) ?_ _;clear hH;have Q5:Hid (j3 w g mo q (some ⟨b,o,none⟩) qn qc (wD.setCell ⟨gv,nd,none⟩ (.int .i64 (sq-1+h))).drew):=zH (by
          have hk:∀ x,x≠gv ->(wD.setCell ⟨gv,nd,none⟩ (.int .i64 (sq-1+h))).drew.heap[x]? =wD.heap[x]? :=fun x hx=>(aH _ _ _ _ hx).trans rfl
          have hg:=GV.o;exact ⟨⟨Cq.o.box.eq ((hk g (by omega)).trans (Cr.o g hg)),Cq.o.len,(Dn.o.agree fun x k=>(hk x (by have:=k.1;omega)).trans (Cr.o x k.1)).mono fun x k=>⟨by have h2:=k.1;have h3:=Dp.o;simp [World.setCell];omega,k.2⟩⟩,hlow,Q4.o.gl,Q4.o.ch,Q4.o.most,Q4.o.le,Q4.o.fit⟩)
        have Ct:Hid (bX (wD.setCell ⟨gv,nd,none⟩ (.int .i64 (sq-1+h))).drew (.slice (some ⟨gv,0,none⟩) (nd+1) (nd+1)) ((List.replicate (nd+1) (0:Int)).set nd (sq-1+h))):=zH (bR.seq ((bR.set O1.o nd (sq-1+h)).below (ak _ _).drew (aj _)));have B10:Hid (((wD.setCell ⟨gv,nd,none⟩ (.int .i64 (sq-1+h))).drew).heap[g6]? =some (.cells #[.bool true,.int .i64 (h:Int),.int .i64 t.node,.int .i64 t.seq,.slice da dn dc,.slice ea en ec] 36 (0,0))):=zH ((aH _ _ _ _ (by have:=G6.o;show g6≠gv;omega)).trans B9.o);have HH:=Bb.o ((List.replicate (nd+1) (0:Int)).set nd (sq-1+h)) (fun _=>(zY nd (sq-1+h) (by have:=FM.o;omega)));have HX:=zH HH;clear HH hlow Bc hfr Dq LD KE Q4 O1 B9 Cn;generalize (wD.setCell _ _).drew=wE at*;generalize ((List.replicate (nd+1) (0:Int)).set nd (sq-1+h))=xv at*;have K7:=zH (fV Q5.o.v.is Ct.o ⟨by have:=LQ.o;have:=Q5.o.le;omega,Q5.o.fit⟩);obtain ⟨⟨d0,d1⟩,f0,f1⟩:=Q5.o.v.box.c;go_upto_region 18 with (go_at_call 8;refine K7.o.mono ?_;rintro e wF ⟨ha,hn,hc,rfl,-,hs,hb⟩;have B11:=zH ((hb.block g6 (au.1 B10.o).1).trans B10.o);have Q6:=zH (Q5.o.below hb);have S6:=zH (hs.mono fun x k=>(⟨k.2,by have:=Q5.o.v.box.lt;have:=k.1;omega⟩:x<wF.heap.size/\x≠g));clear hb hs K7 Q5 Ct B10 d0 d1 f0 f1;obtain ⟨⟨d0,d1⟩,f0,f1⟩:=Q6.o.v.box.c)
        have HL:Hid ((bS q xv).list=q.list.drop h):=zH HX.o;have Bd:Hid ((bS q xv).list.length=qn-h):=zH (by rw [HL.o,List.length_drop,LQ.o]);obtain ⟨a5,c5,e5⟩:=yu S6.o;simp only [aG] at e5
        obtain ⟨-,e5,-⟩:=e5;obtain rfl:hn=qn-h:=e5.trans Bd.o;have V7:=zH (Q6.o.v.put (q':=bS q xv) Bd.o S6.o);have Q7:Hid (j3 w g mo (bS q xv) ha (qn-h) hc ((wF.setCell ⟨g,0,none⟩ (.int .i64 (bS q xv).most)).setCell ⟨g,1,none⟩ (.slice ha (qn-h) hc))):=zH ⟨V7.o,(Q6.o.low.setCell Q6.o.gl _).setCell Q6.o.gl _,Q6.o.gl,by rw [HL.o];exact Q6.o.ch.drop h,Q6.o.most,by have:=Bd.o;have:=LQ.o;have:=Q6.o.le;omega,fun t ht=>Q6.o.fit t (qj ht)⟩;have Dr:Hid (((wF.setCell ⟨g,0,none⟩ (.int .i64 (bS q xv).most)).setCell ⟨g,1,none⟩ (.slice ha (qn-h) hc)).heap[g6]? =some (.cells #[.bool true,.int .i64 (h:Int),.int .i64 t.node,.int .i64 t.seq,.slice da dn dc,.slice ea en ec] 36 (0,0))):=zH ((aH _ _ _ _ (by have:=GL.o;show g6≠g;omega)).trans ((aH _ _ _ _ (by have:=GL.o;show g6≠g;omega)).trans B11.o));clear Q6 S6 V7 d0 d1 f0 f1 HX Bb B11;generalize ((wF.setCell _ _).setCell _ _)=wG at*;have wr4:IntKind.i64.wrap ((qn:Int)-(h:Int))=((qn-h:Nat):Int):=by rw [show (qn:Int)-(h:Int)=((qn-h:Nat):Int) by omega];exact ng (by omega)
        have bn8:(((qn-h:Nat):Int) !=((qn-h:Nat):Int))=false:=by simp
        obtain ⟨⟨d0,d1⟩,-⟩:=Q7.o.v.box.c;obtain ⟨c0,c1,-⟩:=iG Dr.o;go_wp2_with fail
        go_meet
        exact ⟨_,_,_,_,Q7.o⟩
      |false=>
        have K7:=zH (iX Q3.o.v.is (HT.o wC Q3.o.low) (by have:=LQ.o;omega) Q3.o.fit FT.o)
        by_cases e0:fT q t=0
        · have HZ:=zH (uK e0)
          rw [e0] at K7;have HP:Hid (fF q t=⟨q.most,q.list++[t]⟩):=zH (sZ HZ.o.1 HZ.o.2.1 HZ.o.2.2).2;rw [HP.o] at K7;have bz:((0:Int)==0)=true:=by decide
          go_upto_region 21 with (go_at_call 9;refine K7.o.mono ?_;rintro e wF ⟨ha,hn,hc,rfl,hnl,ho,hb⟩;have Q6:=zH (Q3.o.below hb);have S6:=zH ho.nu;have Z6:=zH hb.size;have N6:=zH hnl;clear hb ho hnl K7 d0 d1 f0 f1)
          have hbx:=zB wF (.cells #[.int .i64 q.most,.slice ha hn hc] 26);have Q7:=zH (Q6.o.below hbx);have S7:=zH ((Sq.agree S6.o fun b k=>hbx.block b k.2).mono fun b k=>(⟨aK k.2 hbx.size,by have:=Q3.o.v.box.lt;have:=k.1;omega⟩:b<(wF.alloc (.cells #[.int .i64 q.most,.slice ha hn hc] 26)).heap.size/\b≠g));have X7:=zH (dD wF q.most ha hn hc);clear hbx Q6 S6 Z6;generalize (wF.alloc _)=wH at*;generalize wF.heap.size=g11 at*;obtain ⟨⟨y0,y1⟩,-⟩:=X7.o.c;obtain ⟨⟨d0,d1⟩,f0,f1⟩:=Q7.o.v.box.c;have V8:=zH (Q7.o.v.put (q':=⟨q.most,q.list++[t]⟩) N6.o S7.o);obtain rfl:hn=qn+1:=by rw [<-N6.o,aP,LQ.o];rfl
          have Q8:Hid (j3 w g mo ⟨q.most,q.list++[t]⟩ ha (qn+1) hc ((wH.setCell ⟨g,0,none⟩ (.int .i64 q.most)).setCell ⟨g,1,none⟩ (.slice ha (qn+1) hc))):=zH ⟨V8.o,(Q7.o.low.setCell Q7.o.gl _).setCell Q7.o.gl _,Q7.o.gl,Q7.o.ch.push HZ.o.1 HZ.o.2.1,Q7.o.most,by have:=HZ.o.2.2;have:=Q7.o.most;show ((q.list++[t]).length:Int)<=mo;rw [aP];simp;omega,fun x hx=>by
            rcases List.mem_append.1 hx with h|h
            · exact Q7.o.fit x h
            · rw [bf.1 h];exact FT.o⟩
          clear Q7 S7 V8 X7;go_upto_region 23 with fail
          clear d0 d1 f0 f1 y0 y1;generalize ((wH.setCell _ _).setCell _ _)=wG at*;have wr4:IntKind.i64.wrap ((qn:Int)+1)=((qn+1:Nat):Int):=by rw [show (qn:Int)+1=((qn+1:Nat):Int) by omega];exact ng (by omega)
          have bn8:(((qn+1:Nat):Int) !=((qn+1:Nat):Int))=false:=by simp
          obtain ⟨⟨d0,d1⟩,-⟩:=Q8.o.v.box.c;go_wp2_with fail
          go_meet
          exact ⟨_,_,_,_,Q8.o⟩
        · have bz:(fT q t==0)=false:=by simp [e0]
          go_wp2_with (go_at_call 9;refine K7.o.mono ?_;rintro e wF ⟨ha,hn,hc,rfl,hnl,ho,hb⟩;have Q6:=zH ((Q3.o.below hb).below (zB wF (.cells #[.int .i64 (fF q t).most,.slice ha hn hc] 26)));clear hb ho hnl K7 d0 d1 f0 f1)
          go_meet
          exact ⟨_,_,_,_,Q6.o⟩
    case rest=>
      clear Q3 B8 LQ FT HT OT c0 c1 c2 c3 c4 c5 d0 d1 f0 f1 q1 q2 Di;obtain ⟨p,pa,pn,pc,hQ⟩:=hcut;have QR:=zH hQ;obtain ⟨hl1,hl2,hl3⟩:=hQ.gy;have r1:(pn:Int)<=pc:=by omega
      have r2:(pc:Int)<=9223372036854775807:=by omega
      have r3:¬ mo<(pn:Int):=by have:=hQ.le;omega
      have r4:pn<=16:=by omega
      have LP:=zH hl1;clear hQ hl1 hl2 hl3;obtain ⟨⟨d0,d1⟩,-⟩:=QR.o.v.box.c;go_wp2_with fail
      clear d0 d1
      go_loopg [13] pn (fun g2 jv wo=>∃ (j:Nat),1<=j/\jv= .int .i64 j/\Aside (j3 w g mo p pa pn pc wo/\pn-j<=g2))
      case atStart=>exact ⟨1,aj _,rfl,QR.o,by omega⟩
      case round=>
        clear QR;obtain ⟨j,hj1,rfl,yK⟩:=hrel;obtain ⟨hQ,hg2⟩:=Aside.out yK;have QR:=zH hQ;have HG2:=zH hg2;clear yK hQ hg2;obtain ⟨⟨d0,d1⟩,-⟩:=QR.o.v.box.c
        by_cases hjp:j<pn
        rotate_left
        · have s1:¬ (j:Int)<pn:=by omega
          go_wp2_with fail
          go_roundg (n-(k+1))
          case measure=>have:=Aq.o;omega
          case rel=>exact ⟨k+1,p,pa,pn,pc,by omega,by go_num,QR.o,aj _⟩
        have s1:(j:Int)<pn:=by omega
        have s2:0<pn:=by omega
        obtain ⟨b,o,rfl,hbl,hc'⟩:=jm (fun b h=>h.1) QR.o.v.sq (by omega);obtain ⟨pa0,pn0,pc0,ra0,rn0,rc0,hW0⟩:=hc' 0 (by omega);obtain ⟨pa1,pn1,pc1,ra1,rn1,rc1,hW1⟩:=hc' j hjp;have FM:=zH (fG (QR.o.ch.form _ (show dW p.list 0∈p.list by rw [fq (by have:=LP.o;omega)];exact aS _)));have HX:Hid (∀ u,Below wr.heap.size wr u ->(u.cell? ⟨b,o,none⟩=some (.int .i64 (dW p.list 0).node)/\u.cell? ⟨b,o+1,none⟩=some (.int .i64 (dW p.list 0).seq))/\u.cell? ⟨b,o+j*4,none⟩=some (.int .i64 (dW p.list 0).node)/\u.cell? ⟨b,o+j*4+1,none⟩=some (.int .i64 ((dW p.list 0).seq+j))):=zH (fun u hb=>by
          obtain ⟨h0,h1,-,-⟩:=(hW0 u hb).1;obtain ⟨k0,k1,-,-⟩:=(hW1 u hb).1;simp only [Nat.zero_mul,Nat.add_zero] at h0 h1
          rw [QR.o.ch.node j (by rw [LP.o];exact hjp)] at k0;rw [QR.o.ch.seq j (by rw [LP.o];exact hjp)] at k1;exact ⟨⟨h0,h1⟩,k0,k1⟩)
        clear hW0 hW1 hc' hbl;generalize (dW p.list 0).node=nd at*;generalize (dW p.list 0).seq=sq at*;have wr5:IntKind.i64.wrap (sq+(j:Int))=sq+j:=by
          have:=FM.o;rw [show sq+(j:Int)=(((sq+j).toNat:Nat):Int) by omega];exact ng (by omega)
        have bq1:(nd !=nd)=false:=by simp
        have bq2:(sq+(j:Int) !=sq+(j:Int))=false:=by simp
        go_upto_region 30 with fail
        clear d0 d1;have KE:Hid (∀ u,Below wr.heap.size wr u ->Below wr.heap.size wr u/\(u.cell? ⟨g,0,none⟩=some (.int .i64 p.most)/\u.cell? ⟨g,1,none⟩=some (.slice (some ⟨b,o,none⟩) pn pc))/\(u.cell? ⟨b,o,none⟩=some (.int .i64 nd)/\u.cell? ⟨b,o+1,none⟩=some (.int .i64 sq))/\u.cell? ⟨b,o+j*4,none⟩=some (.int .i64 nd)/\u.cell? ⟨b,o+j*4+1,none⟩=some (.int .i64 (sq+j))):=zH (fun u hb=>⟨hb,(QR.o.v.below hb).box.c.1,HX.o u hb⟩);refine wp_region_held_drew (S:=fun u'=>Below wr.heap.size wr u'/\(u'.cell? ⟨g,0,none⟩=some (.int .i64 p.most)/\u'.cell? ⟨g,1,none⟩=some (.slice (some ⟨b,o,none⟩) pn pc))/\(u'.cell? ⟨b,o,none⟩=some (.int .i64 nd)/\u'.cell? ⟨b,o+1,none⟩=some (.int .i64 sq))/\u'.cell? ⟨b,o+j*4,none⟩=some (.int .i64 nd)/\u'.cell? ⟨b,o+j*4+1,none⟩=some (.int .i64 (sq+j))) (by kernel_rfl) ?_ (fun hH=> ?_)
        · (exact KE.o _ (ak _ _).drew)
        simp only [zS,aC,Nat.reduceAdd]
        refine bF 0 hH ?_;refine bF 1 hH ?_;refine bF 2 hH ?_;refine bF 3 hH ?_;refine bF 4 hH ?_;refine bF 5 hH ?_;refine bF 6 hH ?_;refine bF 7 hH ?_;refine bF 8 hH ?_;refine bF 9 hH ?_;refine bF 10 hH ?_;refine bF 11 hH ?_;refine bF 12 hH ?_;refine bF 13 hH ?_;refine bF 14 hH ?_;refine bF 15 hH ?_;refine bF 16 hH ?_;refine bF 17 hH ?_;refine bF 18 hH ?_;refine bF 19 hH ?_;refine bF 20 hH ?_;refine bF 21 hH ?_;refine bF 22 hH ?_;refine bF 23 hH ?_;refine bF 24 hH ?_;refine bF 25 hH ?_;refine bF 26 hH ?_;refine bF 27 hH ?_;refine wpAnyH_done (by kernel_rfl) ?_ _;have Q9:=zH (QR.o.below hH.1);clear hH KE HX QR;go_wp2_with fail
        go_roundg (pn-(j+1))
        case measure=>have:=HG2.o;omega
        case rel=>exact ⟨j+1,by omega,by go_num,Q9.o,aj _⟩

set_option maxRecDepth 100000 in
theorem lifted (os : Os) (started : os.Started) (H : Type) (enc : TypeId × Value → H) :
    ReturnsInHanded {} Try.checked os 3 .any (Rows.queueKeepsSpec.pre6 enc Try.prog Try.f3 Rows.queueKeepsRow.domain false) (Rows.queueKeepsSpec.post enc Try.prog Try.f3 false true false false) := by
  refine returnsInHanded_of_change (C := Try.checked) own started (by kernel_rfl) Try.func3
    (ChangeSpec.witness6 (enc := enc) (C := Try.checked) false ⟨#[], #[.int .i64 0, .slice none 0 0], []⟩ 8 (by kernel_rfl) (by kernel_rfl) (by kernel_rfl) (by kernel_rfl)) ?_
  intro W base args ds gs before hval0 hW hcnd _
  have hval : ∀ (j : Nat) t v, Try.f3.params[j]? = some t → args[j]? = some v → Value.okWide Try.prog W .any base t v := hval0
  have hW' := hW
  obtain ⟨p, q, hA0, hV, rfl, hfz, hnd⟩ := hW
  have hA : DataW.TrodAll enc Try.prog W 0 (fun _ => true) true Try.f3.params.toList args.toList ds p := hA0
  rw [Try.params3] at hA hval
  obtain ⟨v0, vs0, d0, ds0, p0, q0, hargs, rfl, rfl, h0, r0⟩ := trodAll_cons hA
  obtain ⟨v1, vs1, d1, ds1, p1, q1, rfl, rfl, rfl, h1, r1⟩ := trodAll_cons r0
  obtain ⟨rfl, rfl, rfl⟩ := trodAll_nil r1
  obtain rfl : args = #[v0, v1] := by cases args; simp_all
  obtain ⟨rfl, rfl⟩ := trodVars_none hV
  obtain ⟨a0, rfl, rfl, rfl, w0⟩ := open_int Try.underlying3 (hval 0 3 v0 rfl rfl) h0
  have k1 := h1
  have lt1 : ∀ x ∈ p1, x.block < W.heap.size := by obtain ⟨m, hm⟩ := k1; exact DataW.trod_lt m _ _ _ hm
  have w1 := open1 (hval 1 22 v1 rfl rfl) h1
  clear hA0 hval0
  refine (walk a0 v1 W w0 w1).mono fun e W' ⟨he, bel⟩ => ?_
  subst he
  exact ⟨_, rfl, _, _, _, [], _, [], hW', trodAll_mk1 (shut_bool Try.underlying4 _), (trodAll_cons_mk (shut_int Try.underlying3 w0) (trodAll_cons_mk (Below.trod laidOut (by kernel_rfl) (of_decide_eq_true (by kernel_rfl)) k1 bel lt1) trodAll_mk0)), rfl, bel.frame _, fun h => by cases h⟩

theorem over : Rows.queueKeepsRow.holds Try.pinned (OpenSpec.ofChange Rows.queueKeepsSpec) :=
  OpenClaim.holds_of_wide 3 Try.f3 rfl rfl rfl rfl rfl rfl rfl ⟨rfl, rfl, rfl, rfl, rfl⟩ rfl rfl rfl rfl rfl (by kernel_rfl) Try.func3 (by kernel_rfl)
    (of_decide_eq_true (by kernel_rfl)) (by unfold Func.isWrapper; first | (rw [if_pos (by decide +kernel)]; kernel_rfl) | (rw [if_neg (by decide +kernel)]; exact ⟨rfl, rfl⟩))
    (fun os started H enc _ => lifted os started H enc)

/-- the given statement -/
theorem proved : Rows.QueueKeepsSaid := over
#print axioms proved
end Go.Proofs.Ytmknpmamkjjiaaa.queueKeeps
