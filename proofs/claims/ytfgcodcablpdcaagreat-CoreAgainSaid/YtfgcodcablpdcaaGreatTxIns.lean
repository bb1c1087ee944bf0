import Derived.Deep.DeepCutAuto
import Derived.Test.YtfgcodcablpdcaaGreatTxFrmA
set_option linter.unusedVariables false
set_option maxRecDepth 100000
set_option maxHeartbeats 64000000
namespace Go.Proofs.YtfgcodcablpdcaaGreat
open Go.Proofs.Tryz
open Go.RowKit Plain
theorem neq_dot(d e:gB)(w:World):(binOp .neq 77 (.agg #[.int .i64 d.node,.int .i64 d.seq,.int .i64 d.pos]) (.agg #[.int .i64 e.node,.int .i64 e.seq,.int .i64 e.pos])).run prog w= .ok (.bool (!decide (d=e))) w:=by
 rw [run_neq_struct,eq_dot 9998]
 rfl
theorem VY{u v:Value}{xs ys:List gB}{w:World}(hu:fM jI w u xs)(hv:fM jI w v ys):
  Calls prog 245 #[u,v] w fun e w'=>e= .returned (.bool (decide (xs=ys)))/\∃ n,w'=w.drewN n:=by
 obtain ⟨a,cap,rfl,g1,g2,g0,h⟩:=hu.parts;obtain ⟨a',cap',rfl,e1,e2,e0,h'⟩:=hv.parts
 by_cases hl:xs.length=ys.length
 ·obtain ⟨n,hN⟩:∃ n,xs.length=n:=⟨_,rfl⟩
  have hM:ys.length=n:=by omega
  have hT:(∀ j,j<n ->xs.getD j default=ys.getD j default) ->decide (xs=ys)=true:=fun hall=>aI (by
   apply bT hl
   intro j h1 h2;have:=hall j (by omega)
   simpa [List.getD,List.getElem?_eq_getElem h1,List.getElem?_eq_getElem h2] using this)
  have hF:∀ j,¬ xs.getD j default=ys.getD j default ->decide (xs=ys)=false:=fun j hne=>aF (by
   intro e;subst e;exact hne rfl)
  have HT:=zH hT;have HF:=zH hF;generalize decide (xs=ys)=r at*;rw [hN] at h g1 ⊢;rw [hM] at h' e1 ⊢;have HS:=zH h;have HS':=zH h';have LN:=zH hN;have LM:=zH hM;clear hu hv h h' g0 e0 hl hT hF hN hM;go_enter func245,ntmps245
  go_wp2_with fail
  go_loopw [5] (fun i wr=>∃ k:Nat,k<=n/\i= .int .i64 k/\(∀ j,j<k ->xs.getD j default=ys.getD j default)/\∃ q,wr=w.drewN q) (fun i _=>n-(intOf i).toNat)
  case atStart=>exact ⟨0,aL _,rfl,(fun j hj=>absurd hj (by omega)),0,rfl⟩
  case round=>
   obtain ⟨k,hk,rfl,hall,q,rfl⟩:=hrel;have qb:=zH hall;clear hall
   by_cases hlt:k<n
   ·obtain ⟨b,o,c,hv,-,-,-,hc⟩:=nY HS.o (by rw [LN.o];omega)
    rw [LN.o] at hv;simp only [aC] at hv
    obtain ⟨rfl,-,rfl⟩:=hv;obtain ⟨b',o',c',hv',-,-,-,hc'⟩:=nY HS'.o (by rw [LM.o];omega);rw [LM.o] at hv';simp only [aC] at hv'
    obtain ⟨rfl,-,rfl⟩:=hv';obtain ⟨c0,c1,c2⟩:=hc k (by rw [LN.o];exact hlt);obtain ⟨d0,d1,d2⟩:=hc' k (by rw [LM.o];exact hlt);have xP:=zH (HF.o k);have EZ:Hid (xs.getD k default=ys.getD k default ->∀ j,j<k+1 ->xs.getD j default=ys.getD j default):=zH (fun he j hj=>by
     by_cases e:j=k
     ·rw [e];exact he
     ·exact qb.o j (by omega))
    clear hc hc';generalize xs.getD k default=x at*;generalize ys.getD k default=y at*;have hq:=neq_dot x y
    by_cases he:x=y
    ·have HX:=zH (EZ.o he)
     rw [aI he] at hq;clear he EZ xP;go_wp2_with fail
     go_quiet (fail)
     go_wp2_with fail
     go_roundw
     case rel=>exact ⟨k+1,by omega,by go_num,HX.o,_,rfl⟩
     case measure=>simp [intOf];omega
    ·obtain rfl:r=false:=xP.o he
     rw [aF he] at hq;clear he EZ xP;go_wp2_with fail
     go_quiet (fail)
     go_wp2_with fail
     go_ret
     exact ⟨rfl,_,fA _ _ _⟩
   ·obtain rfl:k=n:=by omega
    obtain rfl:r=true:=HT.o qb.o;go_wp2_with fail
    go_ret
    exact ⟨rfl,_,rfl⟩
 ·have hne:((xs.length:Int)==(ys.length:Int))=false:=by simp;omega
  rw [aF (by intro e;subst e;exact hl rfl)];clear hu hv h h' g0 e0 g1 g2 e1 e2;generalize xs.length=n at*;generalize ys.length=m at*;go_enter func245,ntmps245
  go_wp2_with fail
  go_ret
  exact ⟨rfl,0,rfl⟩
theorem rsameDR{u v:Value}{xs ys:List gB}{w:World}{r:Bool}(hu:fM jI w u xs)(hv:fM jI w v ys)(e:decide (xs=ys)=r):Calls prog 245 #[u,v] w (fO w r):=by
 rw [<-e];exact (VY hu hv).mono fun _ _ ⟨h,hw⟩=>⟨h,nI hw⟩
theorem V3{u v:Value}{xs ys:List gD}{w:World}(hu:fM jo w u xs)(hv:fM jo w v ys):
  Calls prog 186 #[u,v] w (fO w (decide (xs=ys))):=by
 obtain ⟨a,cap,rfl,g1,g2,g0,h⟩:=hu.parts;obtain ⟨a',cap',rfl,e1,e2,e0,h'⟩:=hv.parts
 by_cases hl:xs.length=ys.length
 rotate_left
 ·have hne:((xs.length:Int)==(ys.length:Int))=false:=by simp;omega
  rw [aF (by intro e;subst e;exact hl rfl)];clear hu hv h h' g0 e0 g1 g2 e1 e2;generalize xs.length=n at*;generalize ys.length=m at*;go_enter func186,ntmps186
  go_wp2_with fail
  go_ret
  exact ⟨rfl,aj _ _⟩
 obtain ⟨n,hN⟩:∃ n,xs.length=n:=⟨_,rfl⟩;have hM:ys.length=n:=by omega
 have hT:(∀ j,j<n ->xs.getD j default=ys.getD j default) ->decide (xs=ys)=true:=fun hall=>aI (by
  apply bT hl
  intro j h1 h2;have:=hall j (by omega)
  simpa [List.getD,List.getElem?_eq_getElem h1,List.getElem?_eq_getElem h2] using this)
 have hF:∀ j,¬ xs.getD j default=ys.getD j default ->decide (xs=ys)=false:=fun j hne=>aF (by
  intro e;subst e;exact hne rfl)
 have HT:=zH hT;have HF:=zH hF;generalize decide (xs=ys)=r at*;rw [hN] at h g1 ⊢;rw [hM] at h' e1 ⊢;have HS:=zH h;have HS':=zH h';have LN:=zH hN;have LM:=zH hM;clear hu hv h h' g0 e0 hl hT hF hN hM;go_enter func186,ntmps186
 go_wp2_with fail
 go_loopw [5,6,7] (fun i _ _ wr=>∃ k:Nat,k<=n/\i= .int .i64 k/\(∀ j,j<k ->xs.getD j default=ys.getD j default)/\Below w.heap.size w wr) (fun i _ _ _=>n-(intOf i).toNat)
 case atStart=>exact ⟨0,aL _,rfl,(fun j hj=>absurd hj (by omega)),aj _ _⟩
 case round=>
  obtain ⟨k,hk,rfl,hall,hb⟩:=hrel;have qb:=zH hall;have HB:=zH hb;clear hall hb
  by_cases hlt:k<n
  rotate_left
  ·obtain rfl:k=n:=by omega
   obtain rfl:r=true:=HT.o qb.o;go_wp2_with fail
   go_ret
   exact ⟨rfl,HB.o⟩
  obtain ⟨b,o,c,hv,-,-,-,hc⟩:=mZ (HS.o.below HB.o) (by rw [LN.o];omega);rw [LN.o] at hv;simp only [aC] at hv
  obtain ⟨rfl,-,rfl⟩:=hv;obtain ⟨b2,o2,c',hv',-,-,-,hc'⟩:=mZ (HS'.o.below HB.o) (by rw [LM.o];omega);rw [LM.o] at hv';simp only [aC] at hv'
  obtain ⟨rfl,-,rfl⟩:=hv';obtain ⟨dv,EA,SD⟩:=hc k (by rw [LN.o];exact hlt);obtain ⟨ev,EB,SE⟩:=hc' k (by rw [LM.o];exact hlt);have xP:=zH (HF.o k);have EZ:Hid (xs.getD k default=ys.getD k default ->∀ j,j<k+1 ->xs.getD j default=ys.getD j default):=zH (fun he j hj=>by
   by_cases e:j=k
   ·rw [e];exact he
   ·exact qb.o j (by omega))
  clear hc hc';generalize xs.getD k default=x at*;generalize ys.getD k default=y at*;obtain ⟨da,dn,dc,rfl⟩:∃ a n c,dv= .slice a n c:=by obtain ⟨a,c,h,-⟩:=SD.parts;exact ⟨a,_,c,h⟩
  obtain ⟨ea,en,ec,rfl⟩:∃ a n c,ev= .slice a n c:=by obtain ⟨a,c,h,-⟩:=SE.parts;exact ⟨a,_,c,h⟩
  have EAH:=zH EA;have EBH:=zH EB;have SDH:=zH SD;have SEH:=zH SE;clear EA EB SD SE;have KE:Hid (∀ U,Below wr.heap.size wr U ->Below wr.heap.size wr U/\(U.cell? ⟨b,o+k*7,none⟩=some (.int .i64 x.pos)/\U.cell? ⟨b,o+k*7+1,none⟩=some (.string (bt x.key))/\U.cell? ⟨b,o+k*7+2,none⟩=some (.string (bt x.field))/\U.cell? ⟨b,o+k*7+3,none⟩=some (.int .i64 x.kind)/\U.cell? ⟨b,o+k*7+4,none⟩=some (.string (bt x.elem))/\U.cell? ⟨b,o+k*7+5,none⟩=some (.int .i64 x.n)/\U.cell? ⟨b,o+k*7+6,none⟩=some ((.slice da dn dc)))/\(U.cell? ⟨b2,o2+k*7,none⟩=some (.int .i64 y.pos)/\U.cell? ⟨b2,o2+k*7+1,none⟩=some (.string (bt y.key))/\U.cell? ⟨b2,o2+k*7+2,none⟩=some (.string (bt y.field))/\U.cell? ⟨b2,o2+k*7+3,none⟩=some (.int .i64 y.kind)/\U.cell? ⟨b2,o2+k*7+4,none⟩=some (.string (bt y.elem))/\U.cell? ⟨b2,o2+k*7+5,none⟩=some (.int .i64 y.n)/\U.cell? ⟨b2,o2+k*7+6,none⟩=some ((.slice ea en ec)))):=zH (fun U hU=>⟨hU,by obtain ⟨c0,c1,c2,c3,c4,c5,c6⟩:=EAH.o.below hU EAH.o.lt;exact ⟨c0,c1,c2,c3,c4,c5,c6⟩,by obtain ⟨c0,c1,c2,c3,c4,c5,c6⟩:=EBH.o.below hU EBH.o.lt;exact ⟨c0,c1,c2,c3,c4,c5,c6⟩⟩);obtain ⟨c0,c1,c2,c3,c4,c5,c6⟩:=EAH.o;obtain ⟨d0,d1,d2,d3,d4,d5,d6⟩:=EBH.o;go_upto_region 6 with fail
  clear c0 c1 c2 c3 c4 c5 c6 d0 d1 d2 d3 d4 d5 d6
  go_cut [6,7] (fun s6 s7 wx=>∃ (g h:Nat),s6= .pointer (some ⟨g,0,none⟩)/\s7= .pointer (some ⟨h,0,none⟩)/\pF wx g 0 x (.slice da dn dc)/\pF wx h 0 y (.slice ea en ec)/\Below wr.heap.size wr wx)
  case first=>
   refine wp_region_held_drew (S:=fun U=>Below wr.heap.size wr U/\(U.cell? ⟨b,o+k*7,none⟩=some (.int .i64 x.pos)/\U.cell? ⟨b,o+k*7+1,none⟩=some (.string (bt x.key))/\U.cell? ⟨b,o+k*7+2,none⟩=some (.string (bt x.field))/\U.cell? ⟨b,o+k*7+3,none⟩=some (.int .i64 x.kind)/\U.cell? ⟨b,o+k*7+4,none⟩=some (.string (bt x.elem))/\U.cell? ⟨b,o+k*7+5,none⟩=some (.int .i64 x.n)/\U.cell? ⟨b,o+k*7+6,none⟩=some ((.slice da dn dc)))/\(U.cell? ⟨b2,o2+k*7,none⟩=some (.int .i64 y.pos)/\U.cell? ⟨b2,o2+k*7+1,none⟩=some (.string (bt y.key))/\U.cell? ⟨b2,o2+k*7+2,none⟩=some (.string (bt y.field))/\U.cell? ⟨b2,o2+k*7+3,none⟩=some (.int .i64 y.kind)/\U.cell? ⟨b2,o2+k*7+4,none⟩=some (.string (bt y.elem))/\U.cell? ⟨b2,o2+k*7+5,none⟩=some (.int .i64 y.n)/\U.cell? ⟨b2,o2+k*7+6,none⟩=some ((.slice ea en ec)))) (by kernel_rfl) ?_ (fun hH=> ?_)
   ·(exact KE.o _ (aj _ _).drew)
   simp only [zS,aJ,Nat.reduceAdd]
   refine fJ 0 hH ?_;refine fJ 1 hH ?_;refine fJ 2 hH ?_;refine fJ 3 hH ?_;refine fJ 4 hH ?_;refine fJ 5 hH ?_;refine fJ 6 hH ?_;refine fJ 7 hH ?_;refine wpAnyH_ready (rs:=[8,9]) (by kernel_rfl) (by simp) ?_;refine bC rfl (fun K hK=> ?_) (bC rfl (fun K hK=> ?_) dA)
   ·go_simp
    refine hK.out _ _ (KE.o _ ((zB wr _).drew)) (fun hH=> ?_);clear hK K;refine rd 9 fun K hK=> ?_
    go_simp
    refine hK.out _ _ (KE.o _ (((zB wr _).alloc (by simp) _).drew)) (fun hH=> ?_);clear hK K;refine rd 10 fun K hK=> ?_
    go_simp
    refine hK.out _ _ (KE.o _ (((zB wr _).alloc (by simp) _).drew)) (fun hH=> ?_);clear hK K;refine rd 11 fun K hK=> ?_
    go_simp
    refine hK.out _ _ (KE.o _ (((zB wr _).alloc (by simp) _).drew)) (fun hH=> ?_);clear hK K;refine wpAnyH_done (by kernel_rfl) ?_ _;go_wp2_with fail
    go_meet
    refine ⟨wr.heap.size,wr.heap.size+1,rfl,rfl,?_,?_,(((zB wr _).alloc (by simp) _).drew)⟩
    ·constructor<;>simp
    ·constructor<;>simp
   ·go_simp
    refine hK.out _ _ (KE.o _ ((zB wr _).drew)) (fun hH=> ?_);clear hK K;refine rd 8 fun K hK=> ?_
    go_simp
    refine hK.out _ _ (KE.o _ (((zB wr _).alloc (by simp) _).drew)) (fun hH=> ?_);clear hK K;refine rd 10 fun K hK=> ?_
    go_simp
    refine hK.out _ _ (KE.o _ (((zB wr _).alloc (by simp) _).drew)) (fun hH=> ?_);clear hK K;refine rd 11 fun K hK=> ?_
    go_simp
    refine hK.out _ _ (KE.o _ (((zB wr _).alloc (by simp) _).drew)) (fun hH=> ?_);clear hK K;refine wpAnyH_done (by kernel_rfl) ?_ _;go_wp2_with fail
    go_meet
    refine ⟨wr.heap.size+1,wr.heap.size,rfl,rfl,?_,?_,(((zB wr _).alloc (by simp) _).drew)⟩
    ·constructor<;>simp
    ·constructor<;>simp
  case rest=>
   obtain ⟨g,h,rfl,rfl,EX,EY,hb⟩:=hcut;have HBc:=zH (HB.o.trans (hb.mono HB.o.size));have SDc:=zH (SDH.o.below hb);have SEc:=zH (SEH.o.below hb);obtain ⟨x0,x1,x2,x3,x4,x5,x6⟩:=EX;obtain ⟨y0,y1,y2,y3,y4,y5,y6⟩:=EY;clear hb EAH EBH SDH SEH KE;simp only [aJ] at x1 x2 x3 x4 x5 x6 y1 y2 y3 y4 y5 y6
   have t1:=zP x.key y.key;have t2:=zP x.field y.field;have t3:=zP x.elem y.elem
   by_cases xW:x.pos=y.pos
   rotate_left
   ·obtain rfl:r=false:=xP.o (fun e=>xW (by rw [e]))
    have b_pos:(x.pos !=y.pos)=true:=bne_iff_ne.2 xW;clear xP EZ xW;go_wp2_with fail
    go_ret
    exact ⟨rfl,HBc.o⟩
   have b_pos:(x.pos !=y.pos)=false:=by rw [xW];simp
   by_cases zu:x.key=y.key
   rotate_left
   ·obtain rfl:r=false:=xP.o (fun e=>zu (by rw [e]))
    rw [aF zu] at t1;clear xP EZ xW zu;go_wp2_with fail
    go_ret
    exact ⟨rfl,HBc.o⟩
   rw [aI zu] at t1
   by_cases rD:x.field=y.field
   rotate_left
   ·obtain rfl:r=false:=xP.o (fun e=>rD (by rw [e]))
    rw [aF rD] at t2;clear xP EZ xW zu rD;go_wp2_with fail
    go_ret
    exact ⟨rfl,HBc.o⟩
   rw [aI rD] at t2
   by_cases xJ:x.kind=y.kind
   rotate_left
   ·obtain rfl:r=false:=xP.o (fun e=>xJ (by rw [e]))
    have b_kind:(x.kind !=y.kind)=true:=bne_iff_ne.2 xJ;clear xP EZ xW zu rD xJ;go_wp2_with fail
    go_ret
    exact ⟨rfl,HBc.o⟩
   have b_kind:(x.kind !=y.kind)=false:=by rw [xJ];simp
   by_cases zw:x.elem=y.elem
   rotate_left
   ·obtain rfl:r=false:=xP.o (fun e=>zw (by rw [e]))
    rw [aF zw] at t3;clear xP EZ xW zu rD xJ zw;go_wp2_with fail
    go_ret
    exact ⟨rfl,HBc.o⟩
   rw [aI zw] at t3
   by_cases q_n:x.n=y.n
   rotate_left
   ·obtain rfl:r=false:=xP.o (fun e=>q_n (by rw [e]))
    have b_n:(x.n !=y.n)=true:=bne_iff_ne.2 q_n;clear xP EZ xW zu rD xJ zw q_n;go_wp2_with fail
    go_ret
    exact ⟨rfl,HBc.o⟩
   have b_n:(x.n !=y.n)=false:=by rw [q_n];simp
   have K:=rsameDR SDc.o SEc.o rfl
   cases hd:decide (x.drops=y.drops) with
   |false=>
    obtain rfl:r=false:=xP.o (fun e=>by rw [e,aI rfl] at hd;cases hd);rw [hd] at K;clear xP EZ hd xW zu rD xJ zw q_n;go_wp2_with fail
    refine K.mono ?_;rintro e w3 ⟨rfl,hb⟩;have G3:=zH (HBc.o.trans (hb.mono HBc.o.size));clear hb K;go_wp2_with fail
    go_ret
    exact ⟨rfl,G3.o⟩
   |true=>
    have HU:=zH (EZ.o (QW xW zu rD xJ zw q_n (bR hd)));rw [hd] at K;clear xP EZ hd xW zu rD xJ zw q_n;go_wp2_with fail
    refine K.mono ?_;rintro e w3 ⟨rfl,hb⟩;have G3:=zH (HBc.o.trans (hb.mono HBc.o.size));clear hb K;go_wp2_with fail
    go_roundw
    case rel=>exact ⟨k+1,by omega,by go_num,HU.o,G3.o⟩
    case measure=>simp [intOf];omega
theorem rsameER{u v:Value}{xs ys:List gD}{w:World}{r:Bool}(hu:fM jo w u xs)(hv:fM jo w v ys)(e:decide (xs=ys)=r):Calls prog 186 #[u,v] w (fO w r):=by
 rw [<-e];exact V3 hu hv
end Go.Proofs.YtfgcodcablpdcaaGreat
set_option maxRecDepth 100000
set_option maxHeartbeats 64000000
namespace Go.Proofs.YtfgcodcablpdcaaGreat
open Go.Proofs.Tryz
open Go.RowKit Plain
def mK(t:fI):Bool:=decide (t.deps.length<=60)&&sF t.effs
def ny(l:List fI):Bool:=decide (l.length<=24)&&l.all mK
theorem Kh{α:Type}[Inhabited α]{p:α ->Bool}{l:List α}(h:∀ j,j<l.length ->p (l.getD j default)=true):l.all p=true:=by
 rw [aR];intro x hx;obtain ⟨j,hj,rfl⟩:=bF hx;have:=h j hj
 simpa [List.getD,List.getElem?_eq_getElem hj] using this
theorem JJ{α:Type}[Inhabited α]{p:α ->Bool}{l:List α}{j:Nat}(hj:j<l.length)(h:p (l.getD j default)=false):l.all p=false:=by
 rw [List.all_eq_false];refine ⟨l[j],aU hj,?_⟩;have e:l.getD j default=l[j]:=by simp [List.getD,List.getElem?_eq_getElem hj]
 rw [e] at h;rw [h]
 decide
theorem MR{v:Value}{l:List fI}{w:World}(hv:fM gV w v l)(r:Bool)(hr:ny l=r):Calls prog 53 #[v] w (fO w r):=by
 have HF:=zH (fun j (hj:j<l.length) h=>JJ (p:=mK) hj h);have HT:=zH (fun h=>Kh (p:=mK) (l:=l) h);have RR:Hid ((decide (l.length<=24)&&l.all mK)=r):=zH hr;obtain ⟨a,cap,rfl,g1,g2,g0,h⟩:=hv.parts;have HS:=zH h;obtain ⟨n,hN⟩:∃ n,l.length=n:=⟨_,rfl⟩;rw [hN] at HS g1 HF HT RR ⊢;have LN:=zH hN;clear hv h g0 hN hr;go_enter func53,ntmps53
 by_cases h24:n<=24
 rotate_left
 ·have hb:(24:Int)<(n:Int):=by omega
  obtain rfl:r=false:=by rw [<-RR.o,aF h24];rfl
  clear RR h24;go_wp2_with fail
  go_ret
  exact ⟨rfl,aj _ _⟩
 rw [aI h24,aS] at RR;have hb:¬ (24:Int)<(n:Int):=by omega
 go_wp2_with fail
 go_loopw [3] (fun i wr=>∃ k:Nat,k<=n/\i= .int .i64 k/\(∀ j,j<k ->mK (l.getD j default)=true)/\Below w.heap.size w wr) (fun i _=>n-(intOf i).toNat)
 case atStart=>exact ⟨0,aL _,rfl,fun j hj=>absurd hj (by omega),aj _ _⟩
 case round=>
  obtain ⟨k,hk,rfl,hall,hb2⟩:=hrel;have HA:=zH hall;have HB:=zH hb2;clear hall hb2
  by_cases hlt:k<n
  ·obtain ⟨b,o,c,hv,-,-,-,hc⟩:=wh (HS.o.below HB.o) (by rw [LN.o];omega)
   rw [LN.o] at hv;simp only [aC] at hv
   obtain ⟨rfl,-,rfl⟩:=hv;obtain ⟨dv,ev,TA,SD,SE⟩:=hc k (by rw [LN.o];exact hlt);have xP:=zH (HF.o k hlt);have HX:Hid (mK (l.getD k default)=true ->∀ j,j<k+1 ->mK (l.getD j default)=true):=zH (fun h j hj=>by
    by_cases e:j=k
    ·rw [e];exact h
    ·exact HA.o j (by omega))
   have HD:Hid (mK (l.getD k default)=(decide ((l.getD k default).deps.length<=60)&&sF (l.getD k default).effs)):=zH rfl;clear hc;generalize mK (l.getD k default)=st at*;generalize l.getD k default=x at*;obtain ⟨da,dc,rfl,gd1,gd2,-,-⟩:=SD.parts;obtain ⟨ea,ec,rfl,-,-,-,-⟩:=SE.parts;have K:=QC SE;obtain ⟨c0,c1,c2,c3⟩:=TA;clear SD SE;generalize x.deps.length=dn at*;generalize x.effs.length=en at*
   by_cases h60:dn<=60
   rotate_left
   ·have hg:(60:Int)<(dn:Int):=by omega
    have HU:=xP.o (by rw [HD.o,aF h60];rfl);obtain rfl:r=false:=by rw [<-RR.o];exact HU
    clear HU RR xP HX HD K h60;go_wp2_with fail
    go_ret
    exact ⟨rfl,HB.o⟩
   have hg:¬ (60:Int)<(dn:Int):=by omega
   rw [aI h60,aS] at HD
   cases hE:sF x.effs with
   |false=>
    have HU:=xP.o (by rw [HD.o,hE]);obtain rfl:r=false:=by rw [<-RR.o];exact HU
    rw [hE] at K;clear HU RR xP HX HD hE;go_wp2_with fail
    refine K.mono ?_;rintro e w2 ⟨rfl,hw⟩;subst hw;go_wp2_with fail
    go_ret
    exact ⟨rfl,HB.o⟩
   |true=>
    have HU:=zH (HX.o (by rw [HD.o,hE]));rw [hE] at K;clear RR xP HX HD hE;go_wp2_with fail
    refine K.mono ?_;rintro e w2 ⟨rfl,hw⟩;subst hw;go_wp2_with fail
    go_roundw
    case rel=>exact ⟨k+1,by omega,by go_num,HU.o,HB.o⟩
    case measure=>simp [intOf];omega
  ·obtain rfl:k=n:=by omega
   obtain rfl:r=true:=by rw [<-RR.o];exact HT.o HA.o
   clear RR HF HT;go_wp2_with fail
   go_ret
   exact ⟨rfl,HB.o⟩
theorem ptxn_dec(p q:fI):decide (p=q)=(decide (p.node=q.node)&&(decide (p.seq=q.seq)&&(decide (p.deps=q.deps)&&decide (p.effs=q.effs)))):=by
 rw [dO];simp only [aD,decide_eq_true_iff]
 exact ⟨fun h=>by subst h;exact ⟨rfl,rfl,rfl,rfl⟩,fun ⟨h1,h2,h3,h4⟩=>SQ h1 h2 h3 h4⟩
theorem Tk(w:World)(X Y:Array Value)(t u:TypeId)(i:Nat):
  ((w.alloc (.cells X t)).alloc (.cells Y u)).cell? ⟨w.heap.size,i,none⟩=X[i]? /\((w.alloc (.cells X t)).alloc (.cells Y u)).cell? ⟨w.heap.size+1,i,none⟩=Y[i]? :=by
 have s1:(w.alloc (.cells X t)).heap.size=w.heap.size+1:=by simp
 have h1:=bg w X t i;have h2:=bg (w.alloc (.cells X t)) Y u i;rw [s1] at h2;have b2:=(aj (w.heap.size+1) (w.alloc (.cells X t))).alloc (by rw [s1];exact ah _) (.cells Y u);exact ⟨(b2.cell (p:=⟨w.heap.size,i,none⟩) (show w.heap.size<w.heap.size+1 by omega)).trans h1,h2⟩
theorem rsameTx{u v:Value}{p q:fI}{w:World}(hu:kN w u p)(hv:kN w v q)(r:Bool)(hr:decide (p=q)=r):Calls prog 111 #[u,v] w (fO w r):=by
 have HD:=zH (hr.symm.trans (ptxn_dec p q));obtain ⟨dv,ev,rfl,sd,se⟩:=hu;obtain ⟨dv',ev',rfl,sd',se'⟩:=hv;obtain ⟨da,dn,dc,rfl⟩:∃ a n c,dv= .slice a n c:=by obtain ⟨a,c,h,-⟩:=sd.parts;exact ⟨a,_,c,h⟩
 obtain ⟨ea,en,ec,rfl⟩:∃ a n c,ev= .slice a n c:=by obtain ⟨a,c,h,-⟩:=se.parts;exact ⟨a,_,c,h⟩
 obtain ⟨fa,fn,fc,rfl⟩:∃ a n c,dv'= .slice a n c:=by obtain ⟨a,c,h,-⟩:=sd'.parts;exact ⟨a,_,c,h⟩
 obtain ⟨ga,gn,gc,rfl⟩:∃ a n c,ev'= .slice a n c:=by obtain ⟨a,c,h,-⟩:=se'.parts;exact ⟨a,_,c,h⟩
 have hb:=(zB w (.cells #[.int .i64 p.node,.int .i64 p.seq,.slice da dn dc,.slice ea en ec] 82)).alloc (by simp) (.cells #[.int .i64 q.node,.int .i64 q.seq,.slice fa fn fc,.slice ga gn gc] 82);have PC:=fun i=>Tk w #[.int .i64 p.node,.int .i64 p.seq,.slice da dn dc,.slice ea en ec] #[.int .i64 q.node,.int .i64 q.seq,.slice fa fn fc,.slice ga gn gc] 82 82 i
 have XB:Hid (xU ((w.alloc (.cells #[.int .i64 p.node,.int .i64 p.seq,.slice da dn dc,.slice ea en ec] 82)).alloc (.cells #[.int .i64 q.node,.int .i64 q.seq,.slice fa fn fc,.slice ga gn gc] 82)) w.heap.size 0 p (.slice da dn dc) (.slice ea en ec)):=zH ⟨(PC 0).1,(PC 1).1,(PC 2).1,(PC 3).1⟩;have YB:Hid (xU ((w.alloc (.cells #[.int .i64 p.node,.int .i64 p.seq,.slice da dn dc,.slice ea en ec] 82)).alloc (.cells #[.int .i64 q.node,.int .i64 q.seq,.slice fa fn fc,.slice ga gn gc] 82)) (w.heap.size+1) 0 q (.slice fa fn fc) (.slice ga gn gc)):=zH ⟨(PC 0).2,(PC 1).2,(PC 2).2,(PC 3).2⟩;have G:=zH hb;have SD:=zH (gW (sd.below hb));have SD':=zH (gW (sd'.below hb));have SE:=zH (se.below hb);have SE':=zH (se'.below hb);clear sd se sd' se' PC hb hr;go_enter func111,ntmps111
 go_upto_region 1 with fail
 generalize ((w.alloc _).alloc _)=w1 at*;obtain ⟨x0,x1,x2,x3⟩:=XB.o;obtain ⟨y0,y1,y2,y3⟩:=YB.o;simp only [aJ] at x1 x2 x3 y1 y2 y3
 by_cases h1:p.node=q.node
 rotate_left
 ·have b1:(p.node==q.node)=false:=beq_false_of_ne h1
  obtain rfl:r=false:=by rw [HD.o,aF h1];rfl
  clear HD h1;go_wp2_with fail
  go_ret
  exact ⟨rfl,G.o⟩
 have b1:(p.node==q.node)=true:=beq_iff_eq.2 h1;rw [aI h1,aS] at HD
 by_cases h2:p.seq=q.seq
 rotate_left
 ·have b2:(p.seq==q.seq)=false:=beq_false_of_ne h2
  obtain rfl:r=false:=by rw [HD.o,aF h2];rfl
  clear HD h1 h2;go_wp2_with fail
  go_ret
  exact ⟨rfl,G.o⟩
 have b2:(p.seq==q.seq)=true:=beq_iff_eq.2 h2;rw [aI h2,aS] at HD;have K:=qX SD.o SD'.o;clear h1 h2
 cases h3:decide (p.deps=q.deps) with
 |false=>
  rw [h3] at K;obtain rfl:r=false:=by rw [HD.o,h3];rfl
  clear HD h3;go_wp2_with fail
  refine K.mono ?_;rintro e w2 ⟨rfl,nq,rfl⟩;go_wp2_with fail
  go_ret
  exact ⟨rfl,below_drewN G.o _⟩
 |true=>
  rw [h3] at K;rw [h3,aS] at HD;clear h3;go_wp2_with fail
  refine K.mono ?_;rintro e w2 ⟨rfl,hdr⟩;have hb:=nI hdr;have z3:=(hb.cell (aG w1 _ x3)).trans x3;have u3:=(hb.cell (aG w1 _ y3)).trans y3;have K2:=rsameER (SE.o.below hb) (SE'.o.below hb) HD.o.symm;have G2:=zH (G.o.trans (hb.mono G.o.size));clear hdr hb K x0 x1 x2 x3 y0 y1 y2 y3 HD;go_wp2_with fail
  refine K2.mono ?_;rintro e w3 ⟨rfl,hb⟩;have G3:=zH (G2.o.trans (hb.mono G2.o.size));clear hb K2;go_wp2_with fail
  go_ret
  exact ⟨rfl,G3.o⟩
def om(Q:Nat ->Prop)(w:World)(v:Value)(t:fI):Prop:=∃ dv ev,v= .agg #[.int .i64 t.node,.int .i64 t.seq,dv,ev]/\Sq gL Q w dv t.deps/\Sq jo Q w ev t.effs
theorem kN.all{w:World}{v:Value}{t:fI}(h:kN w v t):om (· <w.heap.size) w v t:=h
theorem om.mono{P Q:Nat ->Prop}{w:World}{v:Value}{t:fI}(h:om P w v t)(hq:∀ b,P b ->Q b):om Q w v t:=by
 obtain ⟨dv,ev,rfl,h1,h2⟩:=h;exact ⟨dv,ev,rfl,h1.mono hq,h2.mono hq⟩
theorem om.agree{Q:Nat ->Prop}{w w':World}{v:Value}{t:fI}(h:om Q w v t)(hq:∀ b,Q b ->w'.heap[b]? =w.heap[b]?):om Q w' v t:=by
 obtain ⟨dv,ev,rfl,h1,h2⟩:=h;exact ⟨dv,ev,rfl,h1.agree hq,h2.agree hq⟩
theorem om.below{Q:Nat ->Prop}{w w':World}{v:Value}{t:fI}(h:om Q w v t)(hb:Below w.heap.size w w')(hq:∀ b,Q b ->b<w.heap.size):om Q w' v t:=h.agree fun b hQ=>hb.block b (hq b hQ)
def st4(w:World)(g:Nat)(v0 v1 v2 v3:Value):World:=(((w.setCell ⟨g,0,none⟩ v0).setCell ⟨g,1,none⟩ v1).setCell ⟨g,2,none⟩ v2).setCell ⟨g,3,none⟩ v3
theorem Y9(w:World)(g:Nat)(v0 v1 v2 v3:Value)(b:Nat)(h:b≠g):(st4 w g v0 v1 v2 v3).heap[b]? =w.heap[b]? :=by
 unfold st4;rw [aN _ _ _ _ h,aN _ _ _ _ h,aN _ _ _ _ h,aN _ _ _ _ h]
theorem Ag{B:Nat}{w u:World}{g:Nat}{v0 v1 v2 v3:Value}(h:Below B w u)(hg:B<=g):Below B w (st4 u g v0 v1 v2 v3):=(((h.setCell hg _).setCell hg _).setCell hg _).setCell hg _
theorem oh{w:World}{g:Nat}{z0 z1 z2 z3 v0 v1 v2 v3:Value}{t:TypeId}(h:w.heap[g]? =some (.cells #[z0,z1,z2,z3] t (0,0))):(st4 w g v0 v1 v2 v3).heap[g]? =some (.cells #[v0,v1,v2,v3] t (0,0)):=by
 unfold st4;rw [aB _ g 3 _ _ _ (aB _ g 2 _ _ _ (aB _ g 1 _ _ _ (aB _ g 0 _ _ _ h)))]
 rfl
theorem iR{w:World}{g:Nat}{z0 z1 z2 z3:Value}{t:TypeId}(h:w.heap[g]? =some (.cells #[z0,z1,z2,z3] t (0,0))):
  (w.cell? ⟨g,0,none⟩=some z0/\w.cell? ⟨g,1,none⟩=some z1/\w.cell? ⟨g,2,none⟩=some z2/\w.cell? ⟨g,3,none⟩=some z3)/\
  w.frozen? ⟨g,0,none⟩=false/\w.frozen? ⟨g,1,none⟩=false/\w.frozen? ⟨g,2,none⟩=false/\w.frozen? ⟨g,3,none⟩=false:=by
 refine ⟨⟨?_,?_,?_,?_⟩,?_,?_,?_,?_⟩
 ·simp [World.cell?,h]
 ·simp [World.cell?,h]
 ·simp [World.cell?,h]
 ·simp [World.cell?,h]
 ·unfold World.frozen?;rw [h];simp
 ·unfold World.frozen?;rw [h];simp
 ·unfold World.frozen?;rw [h];simp
 ·unfold World.frozen?;rw [h];simp
theorem om.parts{Q:Nat ->Prop}{w:World}{v:Value}{t:fI}(h:om Q w v t):∃ da dn dc ea en ec,v= .agg #[.int .i64 t.node,.int .i64 t.seq,.slice da dn dc,.slice ea en ec]/\om Q w (.agg #[.int .i64 t.node,.int .i64 t.seq,.slice da dn dc,.slice ea en ec]) t:=by
 obtain ⟨dv,ev,rfl,h1,h2⟩:=h;obtain ⟨a1,c1,v1,rfl,r1⟩:=h1;obtain ⟨a2,c2,v2,rfl,r2⟩:=h2;exact ⟨_,_,_,_,_,_,rfl,_,_,rfl,⟨a1,c1,v1,rfl,r1⟩,⟨a2,c2,v2,rfl,r2⟩⟩
section
open Go.ChangeShapes Go.WideShapes Go.Joins
set_option maxRecDepth 100000
end
end Go.Proofs.YtfgcodcablpdcaaGreat