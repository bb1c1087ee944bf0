import Derived.Test.YtmknpmamkjjiaaaEff
import Derived.Test.YtmknpmamkjjiaaaEqI
import Derived.Test.YtmknpmamkjjiaaaGives
import Derived.Deep.DeepCutAuto
set_option linter.unusedVariables false
set_option maxRecDepth 100000
set_option maxHeartbeats 64000000
namespace Go.Proofs.Ytmknpmamkjjiaaa
open Go.Proofs.Try
open Go.RowKit Plain
theorem yh(d e:bW)(w:World):(binOp .neq 47 (.agg #[.int .i64 d.node,.int .i64 d.seq,.int .i64 d.pos]) (.agg #[.int .i64 e.node,.int .i64 e.seq,.int .i64 e.pos])).run prog w= .ok (.bool (!decide (d=e))) w:=by
 rw [run_neq_struct,yT 9998]
 rfl
theorem sD{u v:Value}{xs ys:List bW}{w:World}(hu:bJ eP w u xs)(hv:bJ eP w v ys):
  Calls prog 51 #[u,v] w fun e w'=>e= .returned (.bool (decide (xs=ys)))/\∃ n,w'=w.drewN n:=by
 obtain ⟨a,cap,rfl,g1,g2,g0,h⟩:=hu.parts;obtain ⟨a',cap',rfl,e1,e2,e0,h'⟩:=hv.parts
 by_cases hl:xs.length=ys.length
 ·obtain ⟨n,hN⟩:∃ n,xs.length=n:=⟨_,rfl⟩
  have hM:ys.length=n:=by omega
  have hT:(∀ j,j<n ->xs.getD j default=ys.getD j default) ->decide (xs=ys)=true:=fun hall=>aB (by
   apply bE hl
   intro j h1 h2;have:=hall j (by omega)
   simpa [List.getD,ah h1,ah h2] using this)
  have hF:∀ j,¬ xs.getD j default=ys.getD j default ->decide (xs=ys)=false:=fun j hne=>aA (by
   intro e;subst e;exact hne rfl)
  have HT:=zH hT;have HF:=zH hF;generalize decide (xs=ys)=r at*;rw [hN] at h g1 ⊢;rw [hM] at h' e1 ⊢;have HS:=zH h;have AV:=zH h';have LN:=zH hN;have LM:=zH hM;clear hu hv h h' g0 e0 hl hT hF hN hM;go_enter func51,ntmps51
  go_wp2_with fail
  go_loopw [5] (fun i wr=>∃ k:Nat,k<=n/\i= .int .i64 k/\(∀ j,j<k ->xs.getD j default=ys.getD j default)/\∃ q,wr=w.drewN q) (fun i _=>n-(intOf i).toNat)
  case atStart=>exact ⟨0,aJ _,rfl,(fun j hj=>absurd hj (by omega)),0,rfl⟩
  case round=>
   obtain ⟨k,hk,rfl,hall,q,rfl⟩:=hrel;have je:=zH hall;clear hall
   by_cases hlt:k<n
   ·obtain ⟨b,o,c,hv,-,-,-,hc⟩:=iE HS.o (by rw [LN.o];omega)
    rw [LN.o] at hv;simp only [aG] at hv
    obtain ⟨rfl,-,rfl⟩:=hv;obtain ⟨b',o',c',hv',-,-,-,hc'⟩:=iE AV.o (by rw [LM.o];omega);rw [LM.o] at hv';simp only [aG] at hv'
    obtain ⟨rfl,-,rfl⟩:=hv';obtain ⟨c0,c1,c2⟩:=hc k (by rw [LN.o];exact hlt);obtain ⟨d0,d1,d2⟩:=hc' k (by rw [LM.o];exact hlt);have j4:=zH (HF.o k);have uQ:Hid (xs.getD k default=ys.getD k default ->∀ j,j<k+1 ->xs.getD j default=ys.getD j default):=zH (fun he j hj=>by
     by_cases e:j=k
     ·rw [e];exact he
     ·exact je.o j (by omega))
    clear hc hc';generalize xs.getD k default=x at*;generalize ys.getD k default=y at*;have hq:=yh x y
    by_cases he:x=y
    ·have HX:=zH (uQ.o he)
     rw [aB he] at hq;clear he uQ j4;go_wp2_with fail
     go_quiet (fail)
     go_wp2_with fail
     go_roundw
     case rel=>exact ⟨k+1,by omega,by go_num,HX.o,_,rfl⟩
     case measure=>simp [intOf];omega
    ·obtain rfl:r=false:=j4.o he
     rw [aA he] at hq;clear he uQ j4;go_wp2_with fail
     go_quiet (fail)
     go_wp2_with fail
     go_ret
     exact ⟨rfl,_,World.drewN_drewN _ _ _⟩
   ·obtain rfl:k=n:=by omega
    obtain rfl:r=true:=HT.o je.o;go_wp2_with fail
    go_ret
    exact ⟨rfl,_,rfl⟩
 ·have hne:((xs.length:Int)==(ys.length:Int))=false:=by simp;omega
  rw [aA (by intro e;subst e;exact hl rfl)];clear hu hv h h' g0 e0 g1 g2 e1 e2;generalize xs.length=n at*;generalize ys.length=m at*;go_enter func51,ntmps51
  go_wp2_with fail
  go_ret
  exact ⟨rfl,0,rfl⟩
theorem yj{u v:Value}{xs ys:List bW}{w:World}{r:Bool}(hu:bJ eP w u xs)(hv:bJ eP w v ys)(e:decide (xs=ys)=r):Calls prog 51 #[u,v] w (bH w r):=by
 rw [<-e];exact (sD hu hv).mono fun _ _ ⟨h,hw⟩=>⟨h,iw hw⟩
theorem sF{u v:Value}{xs ys:List bO}{w:World}(hu:bJ d9 w u xs)(hv:bJ d9 w v ys):
  Calls prog 39 #[u,v] w (bH w (decide (xs=ys))):=by
 obtain ⟨a,cap,rfl,g1,g2,g0,h⟩:=hu.parts;obtain ⟨a',cap',rfl,e1,e2,e0,h'⟩:=hv.parts
 by_cases hl:xs.length=ys.length
 rotate_left
 ·have hne:((xs.length:Int)==(ys.length:Int))=false:=by simp;omega
  rw [aA (by intro e;subst e;exact hl rfl)];clear hu hv h h' g0 e0 g1 g2 e1 e2;generalize xs.length=n at*;generalize ys.length=m at*;go_enter func39,ntmps39
  go_wp2_with fail
  go_ret
  exact ⟨rfl,ak _ _⟩
 obtain ⟨n,hN⟩:∃ n,xs.length=n:=⟨_,rfl⟩;have hM:ys.length=n:=by omega
 have hT:(∀ j,j<n ->xs.getD j default=ys.getD j default) ->decide (xs=ys)=true:=fun hall=>aB (by
  apply bE hl
  intro j h1 h2;have:=hall j (by omega)
  simpa [List.getD,ah h1,ah h2] using this)
 have hF:∀ j,¬ xs.getD j default=ys.getD j default ->decide (xs=ys)=false:=fun j hne=>aA (by
  intro e;subst e;exact hne rfl)
 have HT:=zH hT;have HF:=zH hF;generalize decide (xs=ys)=r at*;rw [hN] at h g1 ⊢;rw [hM] at h' e1 ⊢;have HS:=zH h;have AV:=zH h';have LN:=zH hN;have LM:=zH hM;clear hu hv h h' g0 e0 hl hT hF hN hM;go_enter func39,ntmps39
 go_wp2_with fail
 go_loopw [5,6,7] (fun i _ _ wr=>∃ k:Nat,k<=n/\i= .int .i64 k/\(∀ j,j<k ->xs.getD j default=ys.getD j default)/\Below w.heap.size w wr) (fun i _ _ _=>n-(intOf i).toNat)
 case atStart=>exact ⟨0,aJ _,rfl,(fun j hj=>absurd hj (by omega)),ak _ _⟩
 case round=>
  obtain ⟨k,hk,rfl,hall,hb⟩:=hrel;have je:=zH hall;have HB:=zH hb;clear hall hb
  by_cases hlt:k<n
  rotate_left
  ·obtain rfl:k=n:=by omega
   obtain rfl:r=true:=HT.o je.o;go_wp2_with fail
   go_ret
   exact ⟨rfl,HB.o⟩
  obtain ⟨b,o,c,hv,-,-,-,hc⟩:=eX (HS.o.below HB.o) (by rw [LN.o];omega);rw [LN.o] at hv;simp only [aG] at hv
  obtain ⟨rfl,-,rfl⟩:=hv;obtain ⟨b2,o2,c',hv',-,-,-,hc'⟩:=eX (AV.o.below HB.o) (by rw [LM.o];omega);rw [LM.o] at hv';simp only [aG] at hv'
  obtain ⟨rfl,-,rfl⟩:=hv';obtain ⟨dv,EA,SD⟩:=hc k (by rw [LN.o];exact hlt);obtain ⟨ev,EB,SE⟩:=hc' k (by rw [LM.o];exact hlt);have j4:=zH (HF.o k);have uQ:Hid (xs.getD k default=ys.getD k default ->∀ j,j<k+1 ->xs.getD j default=ys.getD j default):=zH (fun he j hj=>by
   by_cases e:j=k
   ·rw [e];exact he
   ·exact je.o j (by omega))
  clear hc hc';generalize xs.getD k default=x at*;generalize ys.getD k default=y at*;obtain ⟨da,dn,dc,rfl⟩:∃ a n c,dv= .slice a n c:=by obtain ⟨a,c,h,-⟩:=SD.parts;exact ⟨a,_,c,h⟩
  obtain ⟨ea,en,ec,rfl⟩:∃ a n c,ev= .slice a n c:=by obtain ⟨a,c,h,-⟩:=SE.parts;exact ⟨a,_,c,h⟩
  have Ao:=zH EA;have Ap:=zH EB;have BS:=zH SD;have BZ:=zH SE;clear EA EB SD SE;have KE:Hid (∀ U,Below wr.heap.size wr U ->Below wr.heap.size wr U/\(U.cell? ⟨b,o+k*7,none⟩=some (.int .i64 x.pos)/\U.cell? ⟨b,o+k*7+1,none⟩=some (.string (bt x.key))/\U.cell? ⟨b,o+k*7+2,none⟩=some (.string (bt x.field))/\U.cell? ⟨b,o+k*7+3,none⟩=some (.int .i64 x.kind)/\U.cell? ⟨b,o+k*7+4,none⟩=some (.string (bt x.elem))/\U.cell? ⟨b,o+k*7+5,none⟩=some (.int .i64 x.n)/\U.cell? ⟨b,o+k*7+6,none⟩=some ((.slice da dn dc)))/\(U.cell? ⟨b2,o2+k*7,none⟩=some (.int .i64 y.pos)/\U.cell? ⟨b2,o2+k*7+1,none⟩=some (.string (bt y.key))/\U.cell? ⟨b2,o2+k*7+2,none⟩=some (.string (bt y.field))/\U.cell? ⟨b2,o2+k*7+3,none⟩=some (.int .i64 y.kind)/\U.cell? ⟨b2,o2+k*7+4,none⟩=some (.string (bt y.elem))/\U.cell? ⟨b2,o2+k*7+5,none⟩=some (.int .i64 y.n)/\U.cell? ⟨b2,o2+k*7+6,none⟩=some ((.slice ea en ec)))):=zH (fun U hU=>⟨hU,by obtain ⟨c0,c1,c2,c3,c4,c5,c6⟩:=Ao.o.below hU Ao.o.lt;exact ⟨c0,c1,c2,c3,c4,c5,c6⟩,by obtain ⟨c0,c1,c2,c3,c4,c5,c6⟩:=Ap.o.below hU Ap.o.lt;exact ⟨c0,c1,c2,c3,c4,c5,c6⟩⟩);obtain ⟨c0,c1,c2,c3,c4,c5,c6⟩:=Ao.o;obtain ⟨d0,d1,d2,d3,d4,d5,d6⟩:=Ap.o;go_upto_region 6 with fail
  clear c0 c1 c2 c3 c4 c5 c6 d0 d1 d2 d3 d4 d5 d6
  go_cut [6,7] (fun s6 s7 wx=>∃ (g h:Nat),s6= .pointer (some ⟨g,0,none⟩)/\s7= .pointer (some ⟨h,0,none⟩)/\eF wx g 0 x (.slice da dn dc)/\eF wx h 0 y (.slice ea en ec)/\Below wr.heap.size wr wx)
  case first=>
   refine wp_region_held_drew (S:=fun U=>Below wr.heap.size wr U/\(U.cell? ⟨b,o+k*7,none⟩=some (.int .i64 x.pos)/\U.cell? ⟨b,o+k*7+1,none⟩=some (.string (bt x.key))/\U.cell? ⟨b,o+k*7+2,none⟩=some (.string (bt x.field))/\U.cell? ⟨b,o+k*7+3,none⟩=some (.int .i64 x.kind)/\U.cell? ⟨b,o+k*7+4,none⟩=some (.string (bt x.elem))/\U.cell? ⟨b,o+k*7+5,none⟩=some (.int .i64 x.n)/\U.cell? ⟨b,o+k*7+6,none⟩=some ((.slice da dn dc)))/\(U.cell? ⟨b2,o2+k*7,none⟩=some (.int .i64 y.pos)/\U.cell? ⟨b2,o2+k*7+1,none⟩=some (.string (bt y.key))/\U.cell? ⟨b2,o2+k*7+2,none⟩=some (.string (bt y.field))/\U.cell? ⟨b2,o2+k*7+3,none⟩=some (.int .i64 y.kind)/\U.cell? ⟨b2,o2+k*7+4,none⟩=some (.string (bt y.elem))/\U.cell? ⟨b2,o2+k*7+5,none⟩=some (.int .i64 y.n)/\U.cell? ⟨b2,o2+k*7+6,none⟩=some ((.slice ea en ec)))) (by kernel_rfl) ?_ (fun hH=> ?_)
   ·(exact KE.o _ (ak _ _).drew)
   simp only [zS,aC,Nat.reduceAdd]
   refine bF 0 hH ?_;refine bF 1 hH ?_;refine bF 2 hH ?_;refine bF 3 hH ?_;refine bF 4 hH ?_;refine bF 5 hH ?_;refine bF 6 hH ?_;refine bF 7 hH ?_;refine wpAnyH_ready (rs:=[8,9]) (by kernel_rfl) (by simp) ?_;refine AllReadyH.cons rfl (fun K hK=> ?_) (AllReadyH.cons rfl (fun K hK=> ?_) AllReadyH.nil)
   ·go_simp
    refine hK.out _ _ (KE.o _ ((zB wr _).drew)) (fun hH=> ?_);clear hK K;refine rd 9 fun K hK=> ?_
    go_simp
    refine hK.out _ _ (KE.o _ (((zB wr _).alloc (by simp) _).drew)) (fun hH=> ?_);clear hK K;refine rd 10 fun K hK=> ?_
    go_simp
    refine hK.out _ _ (KE.o _ (((zB wr _).alloc (by simp) _).drew)) (fun hH=> ?_);clear hK K;refine rd 11 fun K hK=> ?_
    go_simp
    refine hK.out _ _ (KE.o _ (((zB wr _).alloc (by simp) _).drew)) (fun hH=> ?_);clear hK K;refine wpAnyH_done (by kernel_rfl) ?_ _;go_wp2_with fail
    go_meet
    refine ⟨wr.heap.size,wr.heap.size+1,rfl,rfl,?_,?_,(((zB wr _).alloc (by simp) _).drew)⟩
    ·constructor<;>simp
    ·constructor<;>simp
   ·go_simp
    refine hK.out _ _ (KE.o _ ((zB wr _).drew)) (fun hH=> ?_);clear hK K;refine rd 8 fun K hK=> ?_
    go_simp
    refine hK.out _ _ (KE.o _ (((zB wr _).alloc (by simp) _).drew)) (fun hH=> ?_);clear hK K;refine rd 10 fun K hK=> ?_
    go_simp
    refine hK.out _ _ (KE.o _ (((zB wr _).alloc (by simp) _).drew)) (fun hH=> ?_);clear hK K;refine rd 11 fun K hK=> ?_
    go_simp
    refine hK.out _ _ (KE.o _ (((zB wr _).alloc (by simp) _).drew)) (fun hH=> ?_);clear hK K;refine wpAnyH_done (by kernel_rfl) ?_ _;go_wp2_with fail
    go_meet
    refine ⟨wr.heap.size+1,wr.heap.size,rfl,rfl,?_,?_,(((zB wr _).alloc (by simp) _).drew)⟩
    ·constructor<;>simp
    ·constructor<;>simp
  case rest=>
   obtain ⟨g,h,rfl,rfl,EX,EY,hb⟩:=hcut;have xB:=zH (HB.o.trans (hb.mono HB.o.size));have C8:=zH (BS.o.below hb);have C9:=zH (BZ.o.below hb);obtain ⟨x0,x1,x2,x3,x4,x5,x6⟩:=EX;obtain ⟨y0,y1,y2,y3,y4,y5,y6⟩:=EY;clear hb Ao Ap BS BZ KE;simp only [aC] at x1 x2 x3 x4 x5 x6 y1 y2 y3 y4 y5 y6
   have t1:=iF x.key y.key;have t2:=iF x.field y.field;have t3:=iF x.elem y.elem
   by_cases gX:x.pos=y.pos
   rotate_left
   ·obtain rfl:r=false:=j4.o (fun e=>gX (by rw [e]))
    have b_pos:(x.pos !=y.pos)=true:=bne_iff_ne.2 gX;clear j4 uQ gX;go_wp2_with fail
    go_ret
    exact ⟨rfl,xB.o⟩
   have b_pos:(x.pos !=y.pos)=false:=by rw [gX];simp
   by_cases iB:x.key=y.key
   rotate_left
   ·obtain rfl:r=false:=j4.o (fun e=>iB (by rw [e]))
    rw [aA iB] at t1;clear j4 uQ gX iB;go_wp2_with fail
    go_ret
    exact ⟨rfl,xB.o⟩
   rw [aB iB] at t1
   by_cases fB:x.field=y.field
   rotate_left
   ·obtain rfl:r=false:=j4.o (fun e=>fB (by rw [e]))
    rw [aA fB] at t2;clear j4 uQ gX iB fB;go_wp2_with fail
    go_ret
    exact ⟨rfl,xB.o⟩
   rw [aB fB] at t2
   by_cases gU:x.kind=y.kind
   rotate_left
   ·obtain rfl:r=false:=j4.o (fun e=>gU (by rw [e]))
    have ze:(x.kind !=y.kind)=true:=bne_iff_ne.2 gU;clear j4 uQ gX iB fB gU;go_wp2_with fail
    go_ret
    exact ⟨rfl,xB.o⟩
   have ze:(x.kind !=y.kind)=false:=by rw [gU];simp
   by_cases iC:x.elem=y.elem
   rotate_left
   ·obtain rfl:r=false:=j4.o (fun e=>iC (by rw [e]))
    rw [aA iC] at t3;clear j4 uQ gX iB fB gU iC;go_wp2_with fail
    go_ret
    exact ⟨rfl,xB.o⟩
   rw [aB iC] at t3
   by_cases zf:x.n=y.n
   rotate_left
   ·obtain rfl:r=false:=j4.o (fun e=>zf (by rw [e]))
    have b_n:(x.n !=y.n)=true:=bne_iff_ne.2 zf;clear j4 uQ gX iB fB gU iC zf;go_wp2_with fail
    go_ret
    exact ⟨rfl,xB.o⟩
   have b_n:(x.n !=y.n)=false:=by rw [zf];simp
   have K:=yj C8.o C9.o rfl
   cases hd:decide (x.drops=y.drops) with
   |false=>
    obtain rfl:r=false:=j4.o (fun e=>by rw [e,aB rfl] at hd;cases hd);rw [hd] at K;clear j4 uQ hd gX iB fB gU iC zf;go_wp2_with fail
    refine K.mono ?_;rintro e w3 ⟨rfl,hb⟩;have G3:=zH (xB.o.trans (hb.mono xB.o.size));clear hb K;go_wp2_with fail
    go_ret
    exact ⟨rfl,G3.o⟩
   |true=>
    have HU:=zH (uQ.o (qb gX iB fB gU iC zf (of_decide_eq_true hd)));rw [hd] at K;clear j4 uQ hd gX iB fB gU iC zf;go_wp2_with fail
    refine K.mono ?_;rintro e w3 ⟨rfl,hb⟩;have G3:=zH (xB.o.trans (hb.mono xB.o.size));clear hb K;go_wp2_with fail
    go_roundw
    case rel=>exact ⟨k+1,by omega,by go_num,HU.o,G3.o⟩
    case measure=>simp [intOf];omega
theorem yt{u v:Value}{xs ys:List bO}{w:World}{r:Bool}(hu:bJ d9 w u xs)(hv:bJ d9 w v ys)(e:decide (xs=ys)=r):Calls prog 39 #[u,v] w (bH w r):=by
 rw [<-e];exact sF hu hv
end Go.Proofs.Ytmknpmamkjjiaaa