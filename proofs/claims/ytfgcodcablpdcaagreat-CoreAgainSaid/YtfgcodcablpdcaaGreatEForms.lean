import Derived.Test.YtfgcodcablpdcaaGreatEMades
import Derived.Test.YtfgcodcablpdcaaGreatIKeyF
set_option linter.unusedVariables false
set_option maxRecDepth 100000
set_option maxHeartbeats 64000000
namespace Go.Proofs.YtfgcodcablpdcaaGreat
open Go.Proofs.Tryz
open Go.RowKit Plain
theorem sV(w:World)(X Y:Array Value)(t u:TypeId)(i:Nat):
  ((w.alloc (.cells X t)).alloc (.cells Y u)).cell? ⟨w.heap.size,i,none⟩=X[i]? /\((w.alloc (.cells X t)).alloc (.cells Y u)).cell? ⟨w.heap.size+1,i,none⟩=Y[i]? :=by
 have s1:(w.alloc (.cells X t)).heap.size=w.heap.size+1:=by simp
 have h1:=bg w X t i;have h2:=bg (w.alloc (.cells X t)) Y u i;rw [s1] at h2;have b2:=(aj (w.heap.size+1) (w.alloc (.cells X t))).alloc (by rw [s1];exact ah _) (.cells Y u);exact ⟨(b2.cell (p:=⟨w.heap.size,i,none⟩) (show w.heap.size<w.heap.size+1 by omega)).trans h1,h2⟩
theorem Nj(a b:gB)(w:World):Calls prog 313 #[.agg #[.int .i64 a.node,.int .i64 a.seq,.int .i64 a.pos],.agg #[.int .i64 b.node,.int .i64 b.seq,.int .i64 b.pos]] w fun e w'=>e= .returned (.int .i64 (Yg a b))/\Below w.heap.size w w':=by
 have HX:Hid (pY ((w.alloc (.cells #[.int .i64 a.node,.int .i64 a.seq,.int .i64 a.pos] 77)).alloc (.cells #[.int .i64 b.node,.int .i64 b.seq,.int .i64 b.pos] 77)) w.heap.size 0 a):=zH ⟨(sV w _ _ _ _ 0).1,(sV w _ _ _ _ 1).1,(sV w _ _ _ _ 2).1⟩;have HY:Hid (pY ((w.alloc (.cells #[.int .i64 a.node,.int .i64 a.seq,.int .i64 a.pos] 77)).alloc (.cells #[.int .i64 b.node,.int .i64 b.seq,.int .i64 b.pos] 77)) (w.heap.size+1) 0 b):=zH ⟨(sV w _ _ _ _ 0).2,(sV w _ _ _ _ 1).2,(sV w _ _ _ _ 2).2⟩;have HB:Hid (Below w.heap.size w ((w.alloc (.cells #[.int .i64 a.node,.int .i64 a.seq,.int .i64 a.pos] 77)).alloc (.cells #[.int .i64 b.node,.int .i64 b.seq,.int .i64 b.pos] 77))):=zH (((aj _ _).alloc (ah _) _).alloc (by simp) _);have K3:=zH (fun W=>Tryz.cmp_Compare_int_f214 a.node b.node W);have K4:=zH (fun W=>Tryz.cmp_Compare_int_f214 a.seq b.seq W);have K5:=zH (fun W=>Tryz.cmp_Compare_int_f214 a.pos b.pos W);have HI:Hid (Yg a b=kF (WK a b)):=zH rfl;rw [HI.o];unfold WK;clear HI;generalize Lib.compareInt a.node b.node=r0 at*;generalize Lib.compareInt a.seq b.seq=r1 at*;generalize Lib.compareInt a.pos b.pos=r2 at*;obtain ⟨r,hr⟩:∃ r,kF [r0,r1,r2]=r:=⟨_,rfl⟩;rw [hr];have HR:=zH hr;clear hr;go_enter func313,ntmps313
 go_upto_region 1 with fail
 generalize ((w.alloc _).alloc _)=W2 at*;have KO:=zH (WL [r0,r1,r2] 3 W2.heap.size (W2.alloc (.cells #[.int .i64 r0,.int .i64 r1,.int .i64 r2] 3)).drew rfl (by omega) (fun j hj=>by
  have e:(W2.alloc (.cells #[.int .i64 r0,.int .i64 r1,.int .i64 r2] 3)).drew.cell? ⟨W2.heap.size,j,none⟩=(#[.int .i64 r0,.int .i64 r1,.int .i64 r2]:Array Value)[j]? :=bg W2 #[.int .i64 r0,.int .i64 r1,.int .i64 r2] 3 j;rw [e]
  match j,hj with
  |0,_=>rfl
  |1,_=>rfl
  |2,_=>rfl))
 rw [HR.o] at KO;have KE:Hid (∀ u,Below W2.heap.size W2 u ->(u.cell? ⟨w.heap.size,0,none⟩=some (.int .i64 a.node)/\u.cell? ⟨w.heap.size,1,none⟩=some (.int .i64 a.seq)/\u.cell? ⟨w.heap.size,2,none⟩=some (.int .i64 a.pos))/\(u.cell? ⟨w.heap.size+1,0,none⟩=some (.int .i64 b.node)/\u.cell? ⟨w.heap.size+1,1,none⟩=some (.int .i64 b.seq)/\u.cell? ⟨w.heap.size+1,2,none⟩=some (.int .i64 b.pos))):=zH (fun u hu=>by
  obtain ⟨c0,c1,c2⟩:=HX.o.below hu HX.o.lt;obtain ⟨d0,d1,d2⟩:=HY.o.below hu HY.o.lt;simp only [aJ] at c1 c2 d1 d2
  exact ⟨⟨c0,c1,c2⟩,⟨d0,d1,d2⟩⟩)
 generalize a.node=xnode at*;generalize a.seq=xseq at*;generalize a.pos=xpos at*;generalize b.node=ynode at*;generalize b.seq=yseq at*;generalize b.pos=ypos at*
 go_region_held3 (fun u=>(u.cell? ⟨w.heap.size,0,none⟩=some (.int .i64 xnode)/\u.cell? ⟨w.heap.size,1,none⟩=some (.int .i64 xseq)/\u.cell? ⟨w.heap.size,2,none⟩=some (.int .i64 xpos))/\(u.cell? ⟨w.heap.size+1,0,none⟩=some (.int .i64 ynode)/\u.cell? ⟨w.heap.size+1,1,none⟩=some (.int .i64 yseq)/\u.cell? ⟨w.heap.size+1,2,none⟩=some (.int .i64 ypos)))
  (first|(exact KE.o _ (aj _ _).drew)|(exact KE.o _ ((aj _ _).alloc (ah _) _).drew))
  (first
   |(go_at_call 214;(with_reducible refine (K3.o _).mono ?_);rintro e w' ⟨rfl,rfl⟩)
   |(go_at_call 214;(with_reducible refine (K4.o _).mono ?_);rintro e w' ⟨rfl,rfl⟩)
   |(go_at_call 214;(with_reducible refine (K5.o _).mono ?_);rintro e w' ⟨rfl,rfl⟩)
   |(go_at_call 212;(with_reducible refine KO.o.mono ?_);rintro e w' ⟨rfl,rfl⟩))
 go_wp2_with fail
 go_ret
 exact ⟨rfl,(HB.o.alloc HB.o.size _).drew⟩
def dotI(d:gB):fK:=⟨[97],[],1,[],0,d⟩
theorem Uz(d:gB)(w:World):Calls prog 312 #[.agg #[.int .i64 d.node,.int .i64 d.seq,.int .i64 d.pos]] w (fO w (jX d)):=by
 have K:Hid (∀ W,Calls prog 153 #[.agg #[.string ⟨#[97]⟩,.string ⟨#[]⟩,.int .i64 1,.string ⟨#[]⟩,.int .i64 0,.int .i64 d.node,.int .i64 d.seq,.int .i64 d.pos]] W (fO W (jX d))):=zH (fun W=>by
  have:=uN (dotI d) W;rw [show iH (dotI d)=jX d from ask_dot d] at this;exact this)
 have DB:Hid (pY (w.alloc (.cells #[.int .i64 d.node,.int .i64 d.seq,.int .i64 d.pos] 77)) w.heap.size 0 d):=zH ⟨by simp,by simp,by simp⟩;have G:=zH (zB w (.cells #[.int .i64 d.node,.int .i64 d.seq,.int .i64 d.pos] 77));generalize jX d=r at*;go_enter func312,ntmps312
 go_upto_region 1 with fail
 generalize (w.alloc _)=w1 at*;obtain ⟨c0,c1,c2⟩:=DB.o;simp only [aJ] at c1 c2
 go_wp2_with fail
 refine (K.o _).mono ?_;rintro e w2 ⟨rfl,hb⟩;have G2:=zH (G.o.trans (hb.mono G.o.size));clear hb c0 c1 c2;go_wp2_with fail
 go_ret
 exact ⟨rfl,G2.o⟩
theorem Ir{v:Value}{ds:List gB}{w:World}(hv:fM jI w v ds):
  Calls prog 278 #[v] w (fO w (uE ds)):=by
 have HBI:=zH (Iu (l:=ds));have HA0:Hid (uE ds=(decide (ds.length<=64)&&qL ds)):=zH rfl;obtain ⟨a,cap,rfl,g1,g2,g0,h⟩:=hv.parts;have HS:=zH h;clear hv h g0;obtain ⟨n,hN⟩:∃ n,ds.length=n:=⟨_,rfl⟩;rw [hN] at g1 HS HBI HA0 ⊢;have LN:=zH hN;clear hN;generalize uE ds=r at*
 by_cases hn:n<=64
 rotate_left
 ·have hn1:(64:Int)<(n:Int):=by omega
  rw [aF hn,bU] at HA0;obtain rfl:=HA0.o;clear hn;go_enter func278,ntmps278
  go_wp2_with fail
  go_ret
  exact ⟨rfl,aj _ _⟩
 have hn1:¬ (64:Int)<(n:Int):=by omega
 rw [aI hn,aS] at HA0;have HY:Hid ((∀ j,j<n ->jX (ds.getD j default)=true/\(0<j ->oV (ds.getD (j-1) default) (ds.getD j default)=true)) ->r=true):=zH (fun h=>by rw [HA0.o];exact HBI.o.2 h);have HN1:Hid (∀ j,j<n ->jX (ds.getD j default)=false ->r=false):=zH (fun j hj h=>by
  rw [HA0.o,bH];intro e;have:=(HBI.o.1 e j hj).1;rw [h] at this
  cases this)
 have HN2:Hid (∀ j,j<n ->0<j ->oV (ds.getD (j-1) default) (ds.getD j default)=false ->r=false):=zH (fun j hj hp h=>by
  rw [HA0.o,bH];intro e;have:=(HBI.o.1 e j hj).2 hp;rw [h] at this
  cases this)
 clear HBI HA0;go_enter func278,ntmps278
 go_wp2_with fail
 go_loopw [3,10] (fun _ i wr=>∃ k:Nat,k<=n/\i= .int .i64 k/\(∀ j,j<k ->jX (ds.getD j default)=true/\(0<j ->oV (ds.getD (j-1) default) (ds.getD j default)=true))/\Below w.heap.size w wr) (fun _ i _=>n-(intOf i).toNat)
 case atStart=>exact ⟨0,aL _,rfl,fun j hj=>absurd hj (by omega),aj _ _⟩
 case round=>
  obtain ⟨k,hk,rfl,hall,hb⟩:=hrel;have HA:=zH hall;have HB0:=zH hb;clear hall hb
  by_cases hlt:k<n
  ·obtain ⟨b,o,c,hv,-,-,-,hc⟩:=nY (HS.o.below HB0.o) (by rw [LN.o];omega)
   rw [LN.o] at hv;simp only [aC] at hv
   obtain ⟨rfl,-,rfl⟩:=hv;have HN1K:=zH (HN1.o k hlt);have HN2K:=zH (HN2.o k hlt);have JV:Hid (jX (ds.getD k default)=true ->(0<k ->oV (ds.getD (k-1) default) (ds.getD k default)=true) ->∀ j,j<k+1 ->jX (ds.getD j default)=true/\(0<j ->oV (ds.getD (j-1) default) (ds.getD j default)=true)):=zH (fun h1 h2 j hj=>by
    by_cases e:j=k
    ·rw [e];exact ⟨h1,h2⟩
    ·exact HA.o j (by omega))
   have DX:=zH (hc k (by rw [LN.o];exact hlt));have Ii:=zH (fun W=>Uz (ds.getD k default) W)
   by_cases h0:k=0
   ·subst h0
    have Tq:Hid (jX (ds.getD 0 default)=true ->∀ j,j<0+1 ->jX (ds.getD j default)=true/\(0<j ->oV (ds.getD (j-1) default) (ds.getD j default)=true)):=zH (fun h=>JV.o h (fun k=>absurd k (by omega)));clear hc JV;generalize ds.getD 0 default=d at*;have B1:=zB wr (.cells #[.int .i64 d.node,.int .i64 d.seq,.int .i64 d.pos] 77);have HB:Hid (Below w.heap.size w (wr.alloc (.cells #[.int .i64 d.node,.int .i64 d.seq,.int .i64 d.pos] 77))):=zH (HB0.o.trans (B1.mono HB0.o.size));have DB:Hid (pY (wr.alloc (.cells #[.int .i64 d.node,.int .i64 d.seq,.int .i64 d.pos] 77)) wr.heap.size 0 d):=zH ⟨by simp,by simp,by simp⟩;clear B1;obtain ⟨c0,c1,c2⟩:=DX.o;simp only [Nat.zero_mul,fF] at c0 c1 c2
    go_upto_region 6 with fail
    clear c0 c1 c2;generalize (wr.alloc _)=wb at*;have KE:Hid (∀ u,Below wb.heap.size wb u ->Below wb.heap.size wb u/\(u.cell? ⟨wr.heap.size,0,none⟩=some (.int .i64 d.node)/\u.cell? ⟨wr.heap.size,1,none⟩=some (.int .i64 d.seq)/\u.cell? ⟨wr.heap.size,2,none⟩=some (.int .i64 d.pos))):=zH (fun u hu=>⟨hu,by
     obtain ⟨c0,c1,c2⟩:=DB.o.below hu DB.o.lt;simp only [aJ] at c1 c2
     exact ⟨c0,c1,c2⟩⟩)
    cases hd:jX d with
    |false=>
     have KD:=Ii;rw [hd] at KD;obtain rfl:r=false:=HN1K.o hd;clear hd;refine wp_region_held_drew (S:=fun u'=>Below wb.heap.size wb u'/\(u'.cell? ⟨wr.heap.size,0,none⟩=some (.int .i64 d.node)/\u'.cell? ⟨wr.heap.size,1,none⟩=some (.int .i64 d.seq)/\u'.cell? ⟨wr.heap.size,2,none⟩=some (.int .i64 d.pos))) (by kernel_rfl) ?_ (fun hHeld=> ?_)
     ·(exact KE.o _ (aj _ _).drew)
     simp only [zS,aJ,Nat.reduceAdd]
     refine fJ 0 hHeld ?_;refine rd 1 fun K hK=> ?_
     go_simp
     refine (KD.o _).mono ?_;rintro e s1 ⟨rfl,hb⟩;refine hK.out _ _ (KE.o _ (iM hHeld hb)) (fun hHeld=> ?_);clear hK K hb;refine fJ 2 hHeld ?_;refine fJ 3 hHeld ?_;refine gq 4 hHeld ?_;refine gq 5 hHeld ?_;refine gq 6 hHeld ?_;refine gq 7 hHeld ?_;refine gq 8 hHeld ?_;refine gq 9 hHeld ?_;refine gq 10 hHeld ?_;refine gq 11 hHeld ?_;refine gq 12 hHeld ?_;refine gq 13 hHeld ?_;refine gq 14 hHeld ?_;refine gq 15 hHeld ?_;refine fJ 16 hHeld ?_;refine wpAnyH_done (by kernel_rfl) ?_ _;have GJ:Hid (Below w.heap.size w s1):=zH (HB.o.trans (hHeld.1.mono HB.o.size));clear hHeld;go_wp2_with fail
     go_ret
     exact ⟨rfl,GJ.o⟩
    |true=>
     have KD:=Ii;rw [hd] at KD;have HX:=zH (Tq.o hd);clear hd;refine wp_region_held_drew (S:=fun u'=>Below wb.heap.size wb u'/\(u'.cell? ⟨wr.heap.size,0,none⟩=some (.int .i64 d.node)/\u'.cell? ⟨wr.heap.size,1,none⟩=some (.int .i64 d.seq)/\u'.cell? ⟨wr.heap.size,2,none⟩=some (.int .i64 d.pos))) (by kernel_rfl) ?_ (fun hHeld=> ?_)
     ·(exact KE.o _ (aj _ _).drew)
     simp only [zS,aJ,Nat.reduceAdd]
     refine fJ 0 hHeld ?_;refine rd 1 fun K hK=> ?_
     go_simp
     refine (KD.o _).mono ?_;rintro e s1 ⟨rfl,hb⟩;refine hK.out _ _ (KE.o _ (iM hHeld hb)) (fun hHeld=> ?_);clear hK K hb;refine fJ 2 hHeld ?_;refine fJ 3 hHeld ?_;refine fJ 4 hHeld ?_;refine fJ 5 hHeld ?_;refine fJ 6 hHeld ?_;refine gq 7 hHeld ?_;refine gq 8 hHeld ?_;refine gq 9 hHeld ?_;refine gq 10 hHeld ?_;refine gq 11 hHeld ?_;refine gq 12 hHeld ?_;refine gq 13 hHeld ?_;refine gq 14 hHeld ?_;refine fJ 15 hHeld ?_;refine fJ 16 hHeld ?_;refine wpAnyH_done (by kernel_rfl) ?_ _;have GJ:Hid (Below w.heap.size w s1):=zH (HB.o.trans (hHeld.1.mono HB.o.size));clear hHeld;go_wp2_with fail
     go_roundw
     case rel=>exact ⟨0+1,by omega,by go_num,HX.o,GJ.o⟩
     case measure=>simp [intOf];omega
   ·obtain ⟨p,rfl⟩:∃ p,k=p+1:=⟨k-1,by omega⟩
    have DY:=zH (hc p (by rw [LN.o];omega));have KC0:=zH (fun W=>Nj (ds.getD p default) (ds.getD (p+1) default) W);have HGE:=zH (dcmp_ge (ds.getD p default) (ds.getD (p+1) default));replace HN2K:Hid (oV (ds.getD p default) (ds.getD (p+1) default)=false ->r=false):=zH (fun h=>HN2K.o (by omega) h);have Tq:Hid (jX (ds.getD (p+1) default)=true ->oV (ds.getD p default) (ds.getD (p+1) default)=true ->∀ j,j<p+1+1 ->jX (ds.getD j default)=true/\(0<j ->oV (ds.getD (j-1) default) (ds.getD j default)=true)):=zH (fun h g=>JV.o h (fun _=>g));clear hc JV;generalize ds.getD (p+1) default=d at*;generalize ds.getD p default=y at*;have B1:=zB wr (.cells #[.int .i64 d.node,.int .i64 d.seq,.int .i64 d.pos] 77);have HB:Hid (Below w.heap.size w (wr.alloc (.cells #[.int .i64 d.node,.int .i64 d.seq,.int .i64 d.pos] 77))):=zH (HB0.o.trans (B1.mono HB0.o.size));have DB:Hid (pY (wr.alloc (.cells #[.int .i64 d.node,.int .i64 d.seq,.int .i64 d.pos] 77)) wr.heap.size 0 d):=zH ⟨by simp,by simp,by simp⟩;have DP:Hid (pY (wr.alloc (.cells #[.int .i64 d.node,.int .i64 d.seq,.int .i64 d.pos] 77)) b (o+p*3) y):=zH (DY.o.below B1 DY.o.lt);clear B1;have q1:(0:Int)<(p:Int)+1:=by omega
    have q2:IntKind.i64.wrap ((p:Int)+1-1)=(p:Int):=by rw [show (p:Int)+1-1=p by omega];exact fD _ (by omega)
    have q4:IntKind.i64.wrap (p:Int)=(p:Int):=fD _ (by omega);have q3:(p:Int)<(n:Int):=by omega
    obtain ⟨c0,c1,c2⟩:=DX.o;go_upto_region 6 with fail
    clear c0 c1 c2;generalize (wr.alloc _)=wb at*;have KE:Hid (∀ u,Below wb.heap.size wb u ->Below wb.heap.size wb u/\(u.cell? ⟨wr.heap.size,0,none⟩=some (.int .i64 d.node)/\u.cell? ⟨wr.heap.size,1,none⟩=some (.int .i64 d.seq)/\u.cell? ⟨wr.heap.size,2,none⟩=some (.int .i64 d.pos))/\(u.cell? ⟨b,o+p*3,none⟩=some (.int .i64 y.node)/\u.cell? ⟨b,o+p*3+1,none⟩=some (.int .i64 y.seq)/\u.cell? ⟨b,o+p*3+2,none⟩=some (.int .i64 y.pos))):=zH (fun u hu=>⟨hu,by
     obtain ⟨c0,c1,c2⟩:=DB.o.below hu DB.o.lt;simp only [aJ] at c1 c2
     obtain ⟨d0,d1,d2⟩:=DP.o.below hu DP.o.lt;exact ⟨⟨c0,c1,c2⟩,⟨d0,d1,d2⟩⟩⟩)
    cases hd:jX d with
    |false=>
     have KD:=Ii;rw [hd] at KD;obtain rfl:r=false:=HN1K.o hd;clear hd;refine wp_region_held_drew (S:=fun u'=>Below wb.heap.size wb u'/\(u'.cell? ⟨wr.heap.size,0,none⟩=some (.int .i64 d.node)/\u'.cell? ⟨wr.heap.size,1,none⟩=some (.int .i64 d.seq)/\u'.cell? ⟨wr.heap.size,2,none⟩=some (.int .i64 d.pos))/\(u'.cell? ⟨b,o+p*3,none⟩=some (.int .i64 y.node)/\u'.cell? ⟨b,o+p*3+1,none⟩=some (.int .i64 y.seq)/\u'.cell? ⟨b,o+p*3+2,none⟩=some (.int .i64 y.pos))) (by kernel_rfl) ?_ (fun hHeld=> ?_)
     ·(exact KE.o _ (aj _ _).drew)
     simp only [zS,aJ,Nat.reduceAdd]
     refine fJ 0 hHeld ?_;refine rd 1 fun K hK=> ?_
     go_simp
     refine (KD.o _).mono ?_;rintro e s1 ⟨rfl,hb⟩;refine hK.out _ _ (KE.o _ (iM hHeld hb)) (fun hHeld=> ?_);clear hK K hb;refine fJ 2 hHeld ?_;refine fJ 3 hHeld ?_;refine gq 4 hHeld ?_;refine gq 5 hHeld ?_;refine gq 6 hHeld ?_;refine gq 7 hHeld ?_;refine gq 8 hHeld ?_;refine gq 9 hHeld ?_;refine gq 10 hHeld ?_;refine gq 11 hHeld ?_;refine gq 12 hHeld ?_;refine gq 13 hHeld ?_;refine gq 14 hHeld ?_;refine gq 15 hHeld ?_;refine fJ 16 hHeld ?_;refine wpAnyH_done (by kernel_rfl) ?_ _;have GJ:Hid (Below w.heap.size w s1):=zH (HB.o.trans (hHeld.1.mono HB.o.size));clear hHeld;go_wp2_with fail
     go_ret
     exact ⟨rfl,GJ.o⟩
    |true=>
     have KD:=Ii;rw [hd] at KD;have KC:=KC0;generalize Yg y d=cv at*
     cases hl:oV y d with
     |false=>
      obtain rfl:r=false:=HN2K.o hl;have t1:=HGE.o;rw [hl] at t1;clear hd hl;refine wp_region_held_drew (S:=fun u'=>Below wb.heap.size wb u'/\(u'.cell? ⟨wr.heap.size,0,none⟩=some (.int .i64 d.node)/\u'.cell? ⟨wr.heap.size,1,none⟩=some (.int .i64 d.seq)/\u'.cell? ⟨wr.heap.size,2,none⟩=some (.int .i64 d.pos))/\(u'.cell? ⟨b,o+p*3,none⟩=some (.int .i64 y.node)/\u'.cell? ⟨b,o+p*3+1,none⟩=some (.int .i64 y.seq)/\u'.cell? ⟨b,o+p*3+2,none⟩=some (.int .i64 y.pos))) (by kernel_rfl) ?_ (fun hHeld=> ?_)
      ·(exact KE.o _ (aj _ _).drew)
      simp only [zS,aJ,Nat.reduceAdd]
      refine fJ 0 hHeld ?_;refine rd 1 fun K hK=> ?_
      go_simp
      refine (KD.o _).mono ?_;rintro e s1 ⟨rfl,hb⟩;refine hK.out _ _ (KE.o _ (iM hHeld hb)) (fun hHeld=> ?_);clear hK K hb;refine fJ 2 hHeld ?_;refine fJ 3 hHeld ?_;refine fJ 4 hHeld ?_;refine fJ 5 hHeld ?_;refine fJ 6 hHeld ?_;refine fJ 7 hHeld ?_;refine fJ 8 hHeld ?_;refine fJ 9 hHeld ?_;refine fJ 10 hHeld ?_;refine fJ 11 hHeld ?_;refine fJ 12 hHeld ?_;refine rd 13 fun K hK=> ?_
      go_simp
      refine (KC.o _).mono ?_;rintro e s2 ⟨rfl,hb⟩;refine hK.out _ _ (KE.o _ (iM hHeld hb)) (fun hHeld=> ?_);clear hK K hb;refine fJ 14 hHeld ?_;refine fJ 15 hHeld ?_;refine fJ 16 hHeld ?_;refine wpAnyH_done (by kernel_rfl) ?_ _;have GJ:Hid (Below w.heap.size w s2):=zH (HB.o.trans (hHeld.1.mono HB.o.size));clear hHeld;go_wp2_with fail
      go_ret
      exact ⟨rfl,GJ.o⟩
     |true=>
      have HX:=zH (Tq.o hd hl);have t1:=HGE.o;rw [hl] at t1;clear hd hl;refine wp_region_held_drew (S:=fun u'=>Below wb.heap.size wb u'/\(u'.cell? ⟨wr.heap.size,0,none⟩=some (.int .i64 d.node)/\u'.cell? ⟨wr.heap.size,1,none⟩=some (.int .i64 d.seq)/\u'.cell? ⟨wr.heap.size,2,none⟩=some (.int .i64 d.pos))/\(u'.cell? ⟨b,o+p*3,none⟩=some (.int .i64 y.node)/\u'.cell? ⟨b,o+p*3+1,none⟩=some (.int .i64 y.seq)/\u'.cell? ⟨b,o+p*3+2,none⟩=some (.int .i64 y.pos))) (by kernel_rfl) ?_ (fun hHeld=> ?_)
      ·(exact KE.o _ (aj _ _).drew)
      simp only [zS,aJ,Nat.reduceAdd]
      refine fJ 0 hHeld ?_;refine rd 1 fun K hK=> ?_
      go_simp
      refine (KD.o _).mono ?_;rintro e s1 ⟨rfl,hb⟩;refine hK.out _ _ (KE.o _ (iM hHeld hb)) (fun hHeld=> ?_);clear hK K hb;refine fJ 2 hHeld ?_;refine fJ 3 hHeld ?_;refine fJ 4 hHeld ?_;refine fJ 5 hHeld ?_;refine fJ 6 hHeld ?_;refine fJ 7 hHeld ?_;refine fJ 8 hHeld ?_;refine fJ 9 hHeld ?_;refine fJ 10 hHeld ?_;refine fJ 11 hHeld ?_;refine fJ 12 hHeld ?_;refine rd 13 fun K hK=> ?_
      go_simp
      refine (KC.o _).mono ?_;rintro e s2 ⟨rfl,hb⟩;refine hK.out _ _ (KE.o _ (iM hHeld hb)) (fun hHeld=> ?_);clear hK K hb;refine fJ 14 hHeld ?_;refine fJ 15 hHeld ?_;refine fJ 16 hHeld ?_;refine wpAnyH_done (by kernel_rfl) ?_ _;have GJ:Hid (Below w.heap.size w s2):=zH (HB.o.trans (hHeld.1.mono HB.o.size));clear hHeld;go_wp2_with fail
      go_roundw
      case rel=>exact ⟨p+1+1,by omega,by go_num,HX.o,GJ.o⟩
      case measure=>simp [intOf];omega
  ·obtain rfl:k=n:=by omega
   obtain rfl:r=true:=HY.o HA.o;go_wp2_with fail
   go_ret
   exact ⟨rfl,HB0.o⟩
theorem mY(w:World)(x:gD)(a:Option Addr)(n c:Nat):pF (w.alloc (.cells #[.int .i64 x.pos,.string (bt x.key),.string (bt x.field),.int .i64 x.kind,.string (bt x.elem),.int .i64 x.n,.slice a n c] 85)) w.heap.size 0 x (.slice a n c):=⟨by simp,by simp,by simp,by simp,by simp,by simp,by simp⟩
theorem pF.zero{w:World}{b:Nat}{x:gD}{dv:Value}(h:pF w b 0 x dv):w.cell? ⟨b,0,none⟩=some (.int .i64 x.pos)/\w.cell? ⟨b,1,none⟩=some (.string (bt x.key))/\w.cell? ⟨b,2,none⟩=some (.string (bt x.field))/\w.cell? ⟨b,3,none⟩=some (.int .i64 x.kind)/\w.cell? ⟨b,4,none⟩=some (.string (bt x.elem))/\w.cell? ⟨b,5,none⟩=some (.int .i64 x.n)/\w.cell? ⟨b,6,none⟩=some dv:=by
 obtain ⟨c0,c1,c2,c3,c4,c5,c6⟩:=h;simp only [aJ] at c1 c2 c3 c4 c5 c6
 exact ⟨c0,c1,c2,c3,c4,c5,c6⟩
theorem jS.zero{w:World}{b:Nat}{x:fK}(h:jS w b 0 x):w.cell? ⟨b,0,none⟩=some (.string (bt x.key))/\w.cell? ⟨b,1,none⟩=some (.string (bt x.field))/\w.cell? ⟨b,2,none⟩=some (.int .i64 x.kind)/\w.cell? ⟨b,3,none⟩=some (.string (bt x.elem))/\w.cell? ⟨b,4,none⟩=some (.int .i64 x.n)/\w.cell? ⟨b,5,none⟩=some (.int .i64 x.dot.node)/\w.cell? ⟨b,6,none⟩=some (.int .i64 x.dot.seq)/\w.cell? ⟨b,7,none⟩=some (.int .i64 x.dot.pos):=by
 obtain ⟨c0,c1,c2,c3,c4,c5,c6,c7⟩:=h;simp only [aJ] at c1 c2 c3 c4 c5 c6 c7
 exact ⟨c0,c1,c2,c3,c4,c5,c6,c7⟩
theorem tO(w:World)(x:fK):jS (w.alloc (.cells #[.string (bt x.key),.string (bt x.field),.int .i64 x.kind,.string (bt x.elem),.int .i64 x.n,.int .i64 x.dot.node,.int .i64 x.dot.seq,.int .i64 x.dot.pos] 79)) w.heap.size 0 x:=⟨by simp,by simp,by simp,by simp,by simp,by simp,by simp,by simp⟩
theorem jS.kind{w:World}{b:Nat}{x:fK}(h:jS w b 0 x)(k:Int):jS (w.setCell ⟨b,2,none⟩ (.int .i64 k)) b 0 ⟨x.key,x.field,k,x.elem,x.n,x.dot⟩:=by
 obtain ⟨c0,c1,c2,c3,c4,c5,c6,c7⟩:=h;simp only [aJ] at c1 c2 c3 c4 c5 c6 c7
 exact ⟨(bZ _ _ _ _ (by simp)).trans c0,(bZ _ _ _ _ (by simp)).trans c1,World.cell?_setCell_same _ _ _ c2,(bZ _ _ _ _ (by simp)).trans c3,(bZ _ _ _ _ (by simp)).trans c4,(bZ _ _ _ _ (by simp)).trans c5,(bZ _ _ _ _ (by simp)).trans c6,(bZ _ _ _ _ (by simp)).trans c7⟩
theorem EI(node seq:Int)(x:gD){a:Option Addr}{n c:Nat}{w:World}(hs:fM jI w (.slice a n c) x.drops):
  Calls prog 222 #[.int .i64 node,.int .i64 seq,.agg #[.int .i64 x.pos,.string (bt x.key),.string (bt x.field),.int .i64 x.kind,.string (bt x.elem),.int .i64 x.n,.slice a n c]] w (fO w (iD node seq x)):=by
 have E1:=zH (mY w x a n c);have G1:=zH (zB w (.cells #[.int .i64 x.pos,.string (bt x.key),.string (bt x.field),.int .i64 x.kind,.string (bt x.elem),.int .i64 x.n,.slice a n c] 85));have HS1:=zH (hs.iB (.cells #[.int .i64 x.pos,.string (bt x.key),.string (bt x.field),.int .i64 x.kind,.string (bt x.elem),.int .i64 x.n,.slice a n c] 85));have KM:=zH (fun W=>Lc node seq x a n c W);have KF:Hid (∀ (y:fK) W,Calls prog 153 #[.agg #[.string (bt y.key),.string (bt y.field),.int .i64 y.kind,.string (bt y.elem),.int .i64 y.n,.int .i64 y.dot.node,.int .i64 y.dot.seq,.int .i64 y.dot.pos]] W (fO W (iH y))):=zH (fun y W=>uN y W);have HD:=zH hs.iY.1;have t1:=nil_eq x.elem;have F1:=zH (fun h1 h2 h3=>Nk (node:=node) (seq:=seq) (e:=x) h1 h2 h3);have F2:=zH (fun h1 h2=>Nl (node:=node) (seq:=seq) (e:=x) h1 h2);have F3:=zH (fun h1 h2=>Nn (node:=node) (seq:=seq) (e:=x) h1 h2);have F4:=zH (fun h=>Np (node:=node) (seq:=seq) (e:=x) h);clear hs;generalize iD node seq x=r at*;go_enter func222,ntmps222
 go_upto_region 1 with fail
 generalize (w.alloc _)=w1 at*;obtain ⟨e0,e1,e2,e3,e4,e5,e6⟩:=E1.o.zero;go_wp2_with fail
 refine (KM.o _).mono ?_;rintro e w2 ⟨rfl,hb⟩;have G2:=zH (G1.o.trans (hb.mono G1.o.size));have E2:=zH (E1.o.below hb E1.o.lt);have HS2:=zH (HS1.o.below hb);clear hb e0 e1 e2 e3 e4 e5 e6 HS1 E1 KM;have B3:=zB w2 (.cells #[.string (bt x.key),.string (bt x.field),.int .i64 x.kind,.string (bt x.elem),.int .i64 x.n,.int .i64 node,.int .i64 seq,.int .i64 x.pos] 79);have G3:Hid (Below w.heap.size w (w2.alloc (.cells #[.string (bt x.key),.string (bt x.field),.int .i64 x.kind,.string (bt x.elem),.int .i64 x.n,.int .i64 node,.int .i64 seq,.int .i64 x.pos] 79))):=zH (G2.o.trans (B3.mono G2.o.size));have E3:=zH (E2.o.below B3 E2.o.lt);have HS3:=zH (HS2.o.below B3);have I3:Hid (jS (w2.alloc (.cells #[.string (bt x.key),.string (bt x.field),.int .i64 x.kind,.string (bt x.elem),.int .i64 x.n,.int .i64 node,.int .i64 seq,.int .i64 x.pos] 79)) w2.heap.size 0 (lV node seq x)):=zH (tO w2 (lV node seq x));have Z3:Hid ((w2.alloc (.cells #[.string (bt x.key),.string (bt x.field),.int .i64 x.kind,.string (bt x.elem),.int .i64 x.n,.int .i64 node,.int .i64 seq,.int .i64 x.pos] 79)).frozen? ⟨w2.heap.size,2,none⟩=false):=zH (by simp);have N3:Hid (w.heap.size<w2.heap.size):=zH (E2.o.lt);have NW:Hid (w.heap.size<=w2.heap.size):=zH G2.o.size;have B3':=zH B3;have HSO:Hid (∀ W,Below w2.heap.size w2 W ->fM jI W (.slice a n c) x.drops):=zH (fun W hb=>HS2.o.below hb);clear B3 E2 HS2;go_upto_region 2 with fail
 generalize (w2.alloc _)=w3 at*;obtain ⟨e0,e1,e2,e3,e4,e5,e6⟩:=E3.o.zero;obtain ⟨c0,c1,c2,c3,c4,c5,c6,c7⟩:=I3.o.zero
 by_cases hk:x.kind=0
 ·have q1:(x.kind==0)=true:=by simp [hk]
  by_cases he:x.elem.length=0
  ·rw [aI he] at t1
   by_cases hn:x.drops.length=0
   ·obtain rfl:r=false:=F3.o hk hn
    have q2:((n:Int)==0)=true:=by rw [<-HD.o,hn];rfl
    clear hk he hn F1 F2 F3 F4;go_wp2_with fail
    go_ret
    exact ⟨rfl,G3.o⟩
   ·have q2:((n:Int)==0)=false:=by rw [<-HD.o];exact beq_false_of_ne (by omega)
    have FF:=F1.o hk he (by omega);have KA:∀ W,Calls prog 153 #[.agg #[.string (bt x.key),.string (bt x.field),.int .i64 1,.string (bt x.elem),.int .i64 x.n,.int .i64 node,.int .i64 seq,.int .i64 x.pos]] W (fO W (iH (Yh node seq x))):=KF.o (Yh node seq x);have z3:=Z3.o;clear hk he hn F1 F2 F3 F4 KF c0 c1 c3 c4 c5 c6 c7;have I5:Hid (jS (w3.setCell ⟨w2.heap.size,2,none⟩ (.int .i64 1)) w2.heap.size 0 (Yh node seq x)):=zH (I3.o.kind 1);have B5:Below w2.heap.size w3 (w3.setCell ⟨w2.heap.size,2,none⟩ (.int .i64 1)):=(aj w2.heap.size w3).setCell (ah _) _;have G5:Hid (Below w.heap.size w (w3.setCell ⟨w2.heap.size,2,none⟩ (.int .i64 1))):=zH (G3.o.setCell NW.o _);have E5:Hid (pF (w3.setCell ⟨w2.heap.size,2,none⟩ (.int .i64 1)) w.heap.size 0 x (.slice a n c)):=zH (E3.o.below B5 N3.o);have HS5:Hid (fM jI (w3.setCell ⟨w2.heap.size,2,none⟩ (.int .i64 1)) (.slice a n c) x.drops):=zH (HSO.o _ (B3'.o.trans B5));clear B5;go_upto_region 6 with fail
    generalize (w3.setCell _ _)=w5 at*;obtain ⟨d0,d1,d2,d3,d4,d5,d6,d7⟩:=(show w5.cell? ⟨w2.heap.size,0,none⟩=some (.string (bt x.key))/\w5.cell? ⟨w2.heap.size,1,none⟩=some (.string (bt x.field))/\w5.cell? ⟨w2.heap.size,2,none⟩=some (.int .i64 1)/\w5.cell? ⟨w2.heap.size,3,none⟩=some (.string (bt x.elem))/\w5.cell? ⟨w2.heap.size,4,none⟩=some (.int .i64 x.n)/\w5.cell? ⟨w2.heap.size,5,none⟩=some (.int .i64 node)/\w5.cell? ⟨w2.heap.size,6,none⟩=some (.int .i64 seq)/\w5.cell? ⟨w2.heap.size,7,none⟩=some (.int .i64 x.pos) from I5.o.zero);clear e0 e1 e2 e3 e4 e5 e6 c2 z3;obtain ⟨e0,e1,e2,e3,e4,e5,e6⟩:=E5.o.zero
    cases hf:iH (Yh node seq x) with
    |false=>
     rw [hf] at KA;obtain rfl:r=false:=by rw [FF,hf,bU]
     clear FF;clear hf e0 e1 e2 e3 e4 e5 e6;go_wp2_with fail
     refine (KA _).mono ?_;rintro e w6 ⟨rfl,hb⟩;have G6:=zH (G5.o.trans (hb.mono G5.o.size));clear hb d0 d1 d2 d3 d4 d5 d6 d7;go_wp2_with fail
     go_ret
     exact ⟨rfl,G6.o⟩
    |true=>
     rw [hf] at KA;have HR:=zH (show r=uE x.drops by rw [FF,hf,aS]);clear FF;clear hf;go_wp2_with fail
     refine (KA _).mono ?_;rintro e w6 ⟨rfl,hb⟩;have G6:=zH (G5.o.trans (hb.mono G5.o.size));have KD:=Ir (HS5.o.below hb);have m6:=(hb.cell (aG w5 _ e6)).trans e6;clear hb d0 d1 d2 d3 d4 d5 d6 d7 e0 e1 e2 e3 e4 e5 e6;rw [<-HR.o] at KD;go_wp2_with fail
     refine KD.mono ?_;rintro e w7 ⟨rfl,hb⟩;have G7:=zH (G6.o.trans (hb.mono G6.o.size));clear hb m6 KD;go_wp2_with fail
     go_ret
     exact ⟨rfl,G7.o⟩
  ·rw [aF he] at t1
   obtain rfl:r=false:=F2.o hk he;clear hk he F1 F2 F3 F4;go_wp2_with fail
   go_ret
   exact ⟨rfl,G3.o⟩
 ·have q1:(x.kind==0)=false:=by simp [hk]
  have FF:=F4.o hk;have KA:∀ W,Calls prog 153 #[.agg #[.string (bt x.key),.string (bt x.field),.int .i64 x.kind,.string (bt x.elem),.int .i64 x.n,.int .i64 node,.int .i64 seq,.int .i64 x.pos]] W (fO W (iH (lV node seq x))):=KF.o (lV node seq x);have KD:=Ir HS3.o;clear hk F1 F2 F3 F4 KF e0 e1 e2 e4 e5
  cases hf:iH (lV node seq x) with
  |false=>
   rw [hf] at KA;obtain rfl:r=false:=by rw [FF,hf,bU]
   clear FF;clear hf;go_wp2_with fail
   refine (KA _).mono ?_;rintro e w5 ⟨rfl,hb⟩;have G5:=zH (G3.o.trans (hb.mono G3.o.size));clear hb c0 c1 c2 c3 c4 c5 c6 c7;go_wp2_with fail
   go_ret
   exact ⟨rfl,G5.o⟩
  |true=>
   rw [hf] at KA;have HR:=zH (show r=uE x.drops by rw [FF,hf,aS]);clear FF;clear hf;go_wp2_with fail
   refine (KA _).mono ?_;rintro e w5 ⟨rfl,hb⟩;have G5:=zH (G3.o.trans (hb.mono G3.o.size));have KD:=Ir (HS3.o.below hb);have m6:=(hb.cell (aG w3 _ e6)).trans e6;clear hb c0 c1 c2 c3 c4 c5 c6 c7 e3 e6;rw [<-HR.o] at KD;go_wp2_with fail
   refine KD.mono ?_;rintro e w6 ⟨rfl,hb⟩;have G6:=zH (G5.o.trans (hb.mono G5.o.size));clear hb m6 KD;go_wp2_with fail
   go_ret
   exact ⟨rfl,G6.o⟩
theorem UA(node seq:Int){v:Value}{l:List gD}{w:World}(hv:fM jo w v l)(hn:l.length<=1000000)(hd:∀ e∈l,e.drops.length<=1000000):
  Calls prog 157 #[.int .i64 node,.int .i64 seq,v] w (fO w (nN node seq l)):=by
 have HI:=zH (UC (node:=node) (seq:=seq) (l:=l));have Tt:=zH (fun k hk=>hd _ (rR (l:=l) (k:=k) hk));obtain ⟨a,cap,rfl,g1,g2,g0,h⟩:=hv.parts;have HS:=zH h;clear hv h g0 hd;obtain ⟨n,hN⟩:∃ n,l.length=n:=⟨_,rfl⟩;rw [hN] at g1 hn HS HI Tt ⊢;have LN:=zH hN;clear hN;generalize nN node seq l=r at*;have HY:Hid ((∀ j,j<n ->(0<j ->(l.getD (j-1) default).pos<(l.getD j default).pos)/\iD node seq (l.getD j default)=true/\(l.getD j default).drops.any (lF node seq (l.getD j default).pos)=false) ->r=true):=zH (fun h=>HI.o.2 fun j hj=>⟨(h j hj).1,(h j hj).2.1,by rw [QA,(h j hj).2.2];rfl⟩);have HN1:Hid (∀ j,j<n ->iD node seq (l.getD j default)=false ->r=false):=zH (fun j hj h=>by
  rw [bH];intro e;have:=(HI.o.1 e j hj).2.1;rw [h] at this
  cases this)
 have HN2:Hid (∀ j,j<n ->(l.getD j default).drops.any (lF node seq (l.getD j default).pos)=true ->r=false):=zH (fun j hj h=>by
  rw [bH];intro e;have:=(HI.o.1 e j hj).2.2;rw [QA,h] at this
  cases this)
 have HN3:Hid (∀ j,j<n ->0<j ->¬ (l.getD (j-1) default).pos<(l.getD j default).pos ->r=false):=zH (fun j hj hp h=>by
  rw [bH];intro e;exact h ((HI.o.1 e j hj).1 hp))
 clear HI;go_enter func157,ntmps157
 go_wp2_with fail
 go_loopw [7,11] (fun _ i wr=>∃ k:Nat,k<=n/\i= .int .i64 k/\(∀ j,j<k ->(0<j ->(l.getD (j-1) default).pos<(l.getD j default).pos)/\iD node seq (l.getD j default)=true/\(l.getD j default).drops.any (lF node seq (l.getD j default).pos)=false)/\Below w.heap.size w wr) (fun _ i _=>n-(intOf i).toNat)
 case atStart=>exact ⟨0,aL _,rfl,fun j hj=>absurd hj (by omega),aj _ _⟩
 case round=>
  obtain ⟨k,hk,rfl,hall,hb⟩:=hrel;have HA:=zH hall;have HB0:=zH hb;clear hall hb
  by_cases hlt:k<n
  ·obtain ⟨b,o,c,hv,-,-,-,hc⟩:=mZ (HS.o.below HB0.o) (by rw [LN.o];omega)
   rw [LN.o] at hv;simp only [aC] at hv
   obtain ⟨rfl,-,rfl⟩:=hv;have HNF:=zH (HN1.o k hlt);have HNP:=zH (HN2.o k hlt);have HNR:=zH (HN3.o k hlt);have JV:Hid ((0<k ->(l.getD (k-1) default).pos<(l.getD k default).pos) ->iD node seq (l.getD k default)=true ->(l.getD k default).drops.any (lF node seq (l.getD k default).pos)=false ->(∀ j,j<k+1 ->(0<j ->(l.getD (j-1) default).pos<(l.getD j default).pos)/\iD node seq (l.getD j default)=true/\(l.getD j default).drops.any (lF node seq (l.getD j default).pos)=false)):=zH (fun h1 h2 h3 j hj=>by
    by_cases e:j=k
    ·rw [e];exact ⟨h1,h2,h3⟩
    ·exact HA.o j (by omega))
   have HM:=zH (Tt.o k hlt);obtain ⟨dv,EX0,hsd⟩:=hc k (by rw [LN.o];exact hlt);obtain ⟨da,dc,rfl,-,-,-,hsd⟩:=hsd.parts;have EX:=zH EX0;clear EX0
   by_cases h0:k=0
   ·subst h0
    have Tq:=zH (JV.o (fun k=>absurd k (by omega)));clear hc JV HNR;generalize l.getD 0 default=x at*;have KU0:=zH (fun (W:World) (a:Option Addr) (n c:Nat) (hs:fM jI W (.slice a n c) x.drops)=>EJ node seq x hs HM.o);generalize x.drops.length=m at*;have B1:=zB wr (.cells #[.int .i64 x.pos,.string (bt x.key),.string (bt x.field),.int .i64 x.kind,.string (bt x.elem),.int .i64 x.n,.slice da m dc] 85);have HB:Hid (Below w.heap.size w (wr.alloc (.cells #[.int .i64 x.pos,.string (bt x.key),.string (bt x.field),.int .i64 x.kind,.string (bt x.elem),.int .i64 x.n,.slice da m dc] 85))):=zH (HB0.o.trans (B1.mono HB0.o.size));have EB:Hid (pF (wr.alloc (.cells #[.int .i64 x.pos,.string (bt x.key),.string (bt x.field),.int .i64 x.kind,.string (bt x.elem),.int .i64 x.n,.slice da m dc] 85)) wr.heap.size 0 x (.slice da m dc)):=zH (mY wr x da m dc);have SB:Hid (fM jI (wr.alloc (.cells #[.int .i64 x.pos,.string (bt x.key),.string (bt x.field),.int .i64 x.kind,.string (bt x.elem),.int .i64 x.n,.slice da m dc] 85)) (.slice da m dc) x.drops):=zH (hsd.iB _);clear B1 hsd;obtain ⟨c0,c1,c2,c3,c4,c5,c6⟩:=EX.o;simp only [Nat.zero_mul,fF] at c0 c1 c2 c3 c4 c5 c6
    go_upto_region 4 with fail
    clear c0 c1 c2 c3 c4 c5 c6;generalize (wr.alloc _)=wb at*;obtain ⟨c0,c1,c2,c3,c4,c5,c6⟩:=EB.o.zero
    go_quiet (fail)
    have W4:=zH (below_drewN HB.o nq);have S4:=zH (SB.o.drawn nq);have E4:=zH (EB.o.below (below_drewN (aj wb.heap.size wb) nq) EB.o.lt);clear c0 c1 c2 c3 c4 c5 c6;generalize wb.drewN nq=w4 at*;obtain ⟨c0,c1,c2,c3,c4,c5,c6⟩:=E4.o.zero;have KF:=EI node seq x S4.o
    cases hf:iD node seq x with
    |false=>
     rw [hf] at KF;obtain rfl:r=false:=HNF.o hf;clear hf;go_wp2_with fail
     refine KF.mono ?_;rintro e w5 ⟨rfl,hb⟩;have G5:=zH (W4.o.trans (hb.mono W4.o.size));clear hb c0 c1 c2 c3 c4 c5 c6 KF;go_wp2_with fail
     go_ret
     exact ⟨rfl,G5.o⟩
    |true=>
     rw [hf] at KF;go_wp2_with fail
     refine KF.mono ?_;rintro e w5 ⟨rfl,hb⟩;have G5:=zH (W4.o.trans (hb.mono W4.o.size));have E5:=zH (E4.o.below hb E4.o.lt);have KU:=KU0.o _ _ _ _ (S4.o.below hb);clear hb c0 c1 c2 c3 c4 c5 c6 KF;obtain ⟨c0,c1,c2,c3,c4,c5,c6⟩:=E5.o.zero
     cases hu:x.drops.any (lF node seq x.pos) with
     |true=>
      rw [hu] at KU;obtain rfl:r=false:=HNP.o hu;clear hu hf;go_wp2_with fail
      refine KU.mono ?_;rintro e w6 ⟨rfl,hb⟩;have G6:=zH (G5.o.trans (hb.mono G5.o.size));clear hb c0 c1 c2 c3 c4 c5 c6 KU;go_wp2_with fail
      go_ret
      exact ⟨rfl,G6.o⟩
     |false=>
      rw [hu] at KU;have HX:=zH (Tq.o hf hu);clear hu hf;go_wp2_with fail
      refine KU.mono ?_;rintro e w6 ⟨rfl,hb⟩;have G6:=zH (G5.o.trans (hb.mono G5.o.size));clear hb c0 c1 c2 c3 c4 c5 c6 KU;go_wp2_with fail
      go_roundw
      case rel=>exact ⟨0+1,by omega,by go_num,HX.o,G6.o⟩
      case measure=>simp [intOf];omega
   ·obtain ⟨p,rfl⟩:∃ p,k=p+1:=⟨k-1,by omega⟩
    obtain ⟨dv',EY0,-⟩:=hc p (by rw [LN.o];omega);have EY:=zH EY0;clear EY0;replace HNR:Hid (¬ (l.getD p default).pos<(l.getD (p+1) default).pos ->r=false):=zH (fun h=>HNR.o (by omega) (by rw [Nat.add_sub_cancel];omega));have HXP:Hid ((l.getD p default).pos<(l.getD (p+1) default).pos ->iD node seq (l.getD (p+1) default)=true ->(l.getD (p+1) default).drops.any (lF node seq (l.getD (p+1) default).pos)=false ->(∀ j,j<p+1+1 ->(0<j ->(l.getD (j-1) default).pos<(l.getD j default).pos)/\iD node seq (l.getD j default)=true/\(l.getD j default).drops.any (lF node seq (l.getD j default).pos)=false)):=zH (fun h=>JV.o (fun _=>h));clear hc JV;generalize l.getD (p+1) default=x at*;generalize l.getD p default=y at*;have KU0:=zH (fun (W:World) (a:Option Addr) (n c:Nat) (hs:fM jI W (.slice a n c) x.drops)=>EJ node seq x hs HM.o);generalize x.drops.length=m at*;have B1:=zB wr (.cells #[.int .i64 x.pos,.string (bt x.key),.string (bt x.field),.int .i64 x.kind,.string (bt x.elem),.int .i64 x.n,.slice da m dc] 85);have HB:Hid (Below w.heap.size w (wr.alloc (.cells #[.int .i64 x.pos,.string (bt x.key),.string (bt x.field),.int .i64 x.kind,.string (bt x.elem),.int .i64 x.n,.slice da m dc] 85))):=zH (HB0.o.trans (B1.mono HB0.o.size));have EB:Hid (pF (wr.alloc (.cells #[.int .i64 x.pos,.string (bt x.key),.string (bt x.field),.int .i64 x.kind,.string (bt x.elem),.int .i64 x.n,.slice da m dc] 85)) wr.heap.size 0 x (.slice da m dc)):=zH (mY wr x da m dc);have SB:Hid (fM jI (wr.alloc (.cells #[.int .i64 x.pos,.string (bt x.key),.string (bt x.field),.int .i64 x.kind,.string (bt x.elem),.int .i64 x.n,.slice da m dc] 85)) (.slice da m dc) x.drops):=zH (hsd.iB _);have EP:Hid ((wr.alloc (.cells #[.int .i64 x.pos,.string (bt x.key),.string (bt x.field),.int .i64 x.kind,.string (bt x.elem),.int .i64 x.n,.slice da m dc] 85)).cell? ⟨b,o+p*7,none⟩=some (.int .i64 y.pos)):=zH ((B1.cell (p:=⟨b,o+p*7,none⟩) EY.o.lt).trans EY.o.c0);clear B1 hsd;have q1:(0:Int)<(p:Int)+1:=by omega
    have q2:IntKind.i64.wrap ((p:Int)+1-1)=(p:Int):=by rw [show (p:Int)+1-1=p by omega];exact fD _ (by omega)
    have q4:IntKind.i64.wrap (p:Int)=(p:Int):=fD _ (by omega);have q3:(p:Int)<(n:Int):=by omega
    obtain ⟨c0,c1,c2,c3,c4,c5,c6⟩:=EX.o;go_upto_region 4 with fail
    clear c0 c1 c2 c3 c4 c5 c6;generalize (wr.alloc _)=wb at*;obtain ⟨c0,c1,c2,c3,c4,c5,c6⟩:=EB.o.zero;have yp:=EP.o
    by_cases hr:y.pos<x.pos
    ·have Tq:=zH (HXP.o hr)
     have hr1:¬ x.pos<=y.pos:=by omega
     clear hr
     go_quiet (fail)
     clear yp hr1;have W4:=zH (below_drewN HB.o nq);have S4:=zH (SB.o.drawn nq);have E4:=zH (EB.o.below (below_drewN (aj wb.heap.size wb) nq) EB.o.lt);clear c0 c1 c2 c3 c4 c5 c6;generalize wb.drewN nq=w4 at*;obtain ⟨c0,c1,c2,c3,c4,c5,c6⟩:=E4.o.zero;have KF:=EI node seq x S4.o
     cases hf:iD node seq x with
     |false=>
      rw [hf] at KF;obtain rfl:r=false:=HNF.o hf;clear hf;go_wp2_with fail
      refine KF.mono ?_;rintro e w5 ⟨rfl,hb⟩;have G5:=zH (W4.o.trans (hb.mono W4.o.size));clear hb c0 c1 c2 c3 c4 c5 c6 KF;go_wp2_with fail
      go_ret
      exact ⟨rfl,G5.o⟩
     |true=>
      rw [hf] at KF;go_wp2_with fail
      refine KF.mono ?_;rintro e w5 ⟨rfl,hb⟩;have G5:=zH (W4.o.trans (hb.mono W4.o.size));have E5:=zH (E4.o.below hb E4.o.lt);have KU:=KU0.o _ _ _ _ (S4.o.below hb);clear hb c0 c1 c2 c3 c4 c5 c6 KF;obtain ⟨c0,c1,c2,c3,c4,c5,c6⟩:=E5.o.zero
      cases hu:x.drops.any (lF node seq x.pos) with
      |true=>
       rw [hu] at KU;obtain rfl:r=false:=HNP.o hu;clear hu hf;go_wp2_with fail
       refine KU.mono ?_;rintro e w6 ⟨rfl,hb⟩;have G6:=zH (G5.o.trans (hb.mono G5.o.size));clear hb c0 c1 c2 c3 c4 c5 c6 KU;go_wp2_with fail
       go_ret
       exact ⟨rfl,G6.o⟩
      |false=>
       rw [hu] at KU;have HX:=zH (Tq.o hf hu);clear hu hf;go_wp2_with fail
       refine KU.mono ?_;rintro e w6 ⟨rfl,hb⟩;have G6:=zH (G5.o.trans (hb.mono G5.o.size));clear hb c0 c1 c2 c3 c4 c5 c6 KU;go_wp2_with fail
       go_roundw
       case rel=>exact ⟨p+1+1,by omega,by go_num,HX.o,G6.o⟩
       case measure=>simp [intOf];omega
    ·obtain rfl:r=false:=HNR.o hr
     have hr1:x.pos<=y.pos:=by omega
     clear hr
     go_quiet (fail)
     go_wp2_with fail
     go_ret
     exact ⟨rfl,below_drewN HB.o _⟩
  ·obtain rfl:k=n:=by omega
   obtain rfl:r=true:=HY.o HA.o;go_wp2_with fail
   go_ret
   exact ⟨rfl,HB0.o⟩
end Go.Proofs.YtfgcodcablpdcaaGreat