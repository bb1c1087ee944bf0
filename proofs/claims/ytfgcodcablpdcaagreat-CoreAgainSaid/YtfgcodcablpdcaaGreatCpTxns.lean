import Derived.Test.YtfgcodcablpdcaaGreatPaAlone
set_option linter.unusedVariables false
set_option maxRecDepth 100000
set_option maxHeartbeats 64000000
namespace Go.Proofs.YtfgcodcablpdcaaGreat
open Go.Proofs.Tryz
open Go.RowKit Plain
theorem lJ.w{t:fI}(h:lJ t):Dp t:=⟨by have:=h.deps;omega,by have:=h.effs;omega,fun e he=>by have:=h.drops e he;omega,h.ok⟩
theorem lJ.alone{l:List fI}(h:∀ t∈l,lJ t):∀ t∈l,t.deps.length<=1000000/\t.effs.length<=1000000/\∀ e∈t.effs,e.drops.length<=1000000:=fun t ht=>⟨(h t ht).w.deps,(h t ht).w.effs,(h t ht).w.drops⟩
theorem paEnters:∀ args w,(callFunc 240 args).run prog w= .ok (.enter 240 args) w:=enters_of func240 (by kernel_rfl) rfl
theorem paHeard{W:World}{g:Nat}{vv tv:Value}{v:Ints}{t:fI}(hc:W.cell? ⟨g,0,none⟩=some vv)(hv:gQ W vv v)(ht:kN W tv t):Calls prog 240 (#[tv]++#[.pointer (some ⟨g,0,none⟩)]) W (fO W (oN v t)):=by
 obtain ⟨da,dn,dc,ea,en,ec,rfl,k1,k2⟩:=ht.parts
 show Calls prog 240 #[.agg #[.int .i64 t.node,.int .i64 t.seq,.slice da dn dc,.slice ea en ec],.pointer (some ⟨g,0,none⟩)] W _
 have BE:=zH (zB W (.cells #[.int .i64 t.node,.int .i64 t.seq,.slice da dn dc,.slice ea en ec] 82));have TB:=zH (kZ (w:=W) (t:=t) k1 k2);have hlt:=aG W ⟨g,0,none⟩ hc;have CG:=zH ((BE.o.cell (p:=⟨g,0,none⟩) hlt).trans hc);have KH:Hid (∀ u,Below (W.alloc (.cells #[.int .i64 t.node,.int .i64 t.seq,.slice da dn dc,.slice ea en ec] 82)).heap.size (W.alloc (.cells #[.int .i64 t.node,.int .i64 t.seq,.slice da dn dc,.slice ea en ec] 82)) u ->Calls prog 154 #[vv,.agg #[.int .i64 t.node,.int .i64 t.seq,.int .i64 0]] u (fO u (oN v t))):=zH (fun u hb=>tN ((hv.below BE.o).below hb) t.node t.seq 0);obtain ⟨va,vc,rfl,-⟩:=hv.parts;have KE:Hid (∀ u,Below (W.alloc (.cells #[.int .i64 t.node,.int .i64 t.seq,.slice da dn dc,.slice ea en ec] 82)).heap.size (W.alloc (.cells #[.int .i64 t.node,.int .i64 t.seq,.slice da dn dc,.slice ea en ec] 82)) u ->Below (W.alloc (.cells #[.int .i64 t.node,.int .i64 t.seq,.slice da dn dc,.slice ea en ec] 82)).heap.size (W.alloc (.cells #[.int .i64 t.node,.int .i64 t.seq,.slice da dn dc,.slice ea en ec] 82)) u/\u.cell? ⟨g,0,none⟩=some (.slice va v.length vc)/\(u.cell? ⟨W.heap.size,0,none⟩=some (.int .i64 t.node)/\u.cell? ⟨W.heap.size,1,none⟩=some (.int .i64 t.seq)/\u.cell? ⟨W.heap.size,2,none⟩=some (.slice da dn dc)/\u.cell? ⟨W.heap.size,3,none⟩=some (.slice ea en ec))):=zH (fun u hb=>⟨hb,(hb.cell (aG _ _ CG.o)).trans CG.o,(TB.o.below hb).c⟩);clear hc hv ht k1 k2 hlt;generalize oN v t=r at*;generalize v.length=vn at*;go_enter func240,ntmps240
 go_upto_region 1 with fail
 generalize (W.alloc _)=wd at*;refine wp_region_held_drew (S:=fun u'=>Below wd.heap.size wd u'/\u'.cell? ⟨g,0,none⟩=some (.slice va vn vc)/\(u'.cell? ⟨W.heap.size,0,none⟩=some (.int .i64 t.node)/\u'.cell? ⟨W.heap.size,1,none⟩=some (.int .i64 t.seq)/\u'.cell? ⟨W.heap.size,2,none⟩=some (.slice da dn dc)/\u'.cell? ⟨W.heap.size,3,none⟩=some (.slice ea en ec))) (by kernel_rfl) ?_ (fun hH=> ?_)
 ·(exact KE.o _ (aj _ _).drew)
 simp only [zS,aJ,Nat.reduceAdd]
 refine fJ 0 hH ?_;refine fJ 1 hH ?_;refine rd 2 fun K hK=> ?_
 go_simp
 refine (txdotP).mono ?_;rintro e s1 ⟨rfl,hb⟩;refine hK.out _ _ (KE.o _ (iM hH hb)) (fun hH=> ?_);clear hK K hb;refine rd 3 fun K hK=> ?_
 go_simp
 refine (KH.o _ hH.1).mono ?_;rintro e s2 ⟨rfl,hb⟩;refine hK.out _ _ (KE.o _ (iM hH hb)) (fun hH=> ?_);clear hK K hb;refine fJ 4 hH ?_;refine wpAnyH_done (by kernel_rfl) ?_ _;have GZ:=zH hH.1;clear hH;go_wp2_with fail
 go_ret
 exact ⟨rfl,BE.o.trans (GZ.o.mono BE.o.size)⟩
def Qu(w:World)(l:List fI)(e:Ending)(w':World):Prop:=∃ la ln lc,e= .returned (.slice la ln lc)/\iO (fun b=>w.heap.size<=b) gV w.heap.size w' (.slice la ln lc) l/\Below w.heap.size w w'
theorem Nc{lv vv:Value}{l:List fI}{v:Ints}{w:World}(hlv:fM gV w lv l)(hv:gQ w vv v)(hn:l.length<=1000000)(hf:∀ t∈l,lJ t):Calls prog 177 #[lv,vv] w (Qu w (oq l v)):=by
 obtain ⟨la,lc,rfl,-⟩:=hlv.parts;obtain ⟨va,vc,rfl,-,-,-,hv'⟩:=hv.parts;have BE:=zH (zB w (.cells #[.slice va v.length vc] 25));have CG:=zH (aM w (.cells #[.slice va v.length vc] 25));have ZB:Hid ((w.alloc (.cells #[.slice va v.length vc] 25)).heap.size=w.heap.size+1):=zH (by simp);have HV:=zH (hv'.below BE.o);have KC:=zH (yJ (fM.below hlv BE.o) (fun b hb=>hb) hn);have HF:=zH hf;have HN:=zH hn;clear hlv hv hv' hn hf;obtain ⟨ln,hln⟩:∃ n,n=l.length:=⟨_,rfl⟩;have HLN:=zH hln;rw [<-hln] at KC ⊢;generalize v.length=vn at*;clear hln;go_enter func177,ntmps177
 go_upto_region 1 with fail
 generalize (w.alloc _)=wb at*;have WG:Hid (wb.cell? ⟨w.heap.size,0,none⟩=some (.slice va vn vc)):=zH (cell_of_row _ _ 0 _ _ _ CG.o);go_wp2_with fail
 refine KC.o.mono ?_;rintro e w2 ⟨v2,rfl,ho,hb⟩;have KD:=zH (Ci (N:=wb.heap.size) ho.own hb.size (by rw [<-HLN.o];exact (by have:=HN.o;have:=HLN.o;omega)) (oN v) 240 #[.pointer (some ⟨w.heap.size,0,none⟩)] paEnters (fun W d tv hd hw ht=>paHeard (((hb.trans hw).cell (p:=⟨w.heap.size,0,none⟩) (by have:=ZB.o;show w.heap.size<wb.heap.size;omega)).trans WG.o) (HV.o.below' (hb.trans hw) (ah _)) ht));have G2:=zH hb;obtain ⟨a2,c2,rfl,-,-,-,-⟩:=ho.own.parts;clear ho hb KC;go_wp2_with fail
 refine KD.o.mono ?_;rintro e w3 ⟨v3,rfl,ho,hb⟩;have KA:=zH (Nf (N:=wb.heap.size) ho (ak G2.o.size hb.size) (fun t ht=>lJ.alone HF.o t (List.mem_filter.1 ht).1));have G3:=zH (G2.o.trans hb);obtain ⟨a3,c3,rfl,-,-,-,-⟩:=ho.parts;clear ho hb KD G2;go_wp2_with fail
 refine KA.o.mono ?_;rintro e w4 ⟨a4,n4,c4,rfl,ho,-,hb⟩;have O4:Hid (iO (fun b=>w.heap.size<=b) gV w.heap.size w4 (.slice a4 n4 c4) (oq l v)):=zH ((ho.imp fun b h=>by have:=ZB.o;omega).mono (by have:=ZB.o;omega));have G4:=zH (BE.o.trans ((G3.o.trans hb).mono (by have:=ZB.o;omega)));clear ho hb KA;go_wp2_with fail
 go_ret
 exact ⟨_,_,_,rfl,O4.o,G4.o⟩
theorem Qr{lv vv:Value}{l:List fI}{v:Ints}{w:World}(hlv:fM gV w lv l)(hv:gQ w vv v)(hn:l.length<=1000000)(hf:∀ t∈l,lJ t):Calls prog 177 #[lv,vv] w (WB w (oq l v)):=
 (Nc hlv hv hn hf).mono fun _ _ ⟨la,ln,lc,e,h1,h3⟩=>⟨la,ln,lc,e,h1.sq fun b h _=>h,h3⟩
end Go.Proofs.YtfgcodcablpdcaaGreat
set_option maxRecDepth 100000
set_option maxHeartbeats 64000000
namespace Go.Proofs.YtfgcodcablpdcaaGreat
open Go.Proofs.Tryz
open Go.RowKit Plain
theorem Ya:∀ args w,(callFunc 81 args).run prog w= .ok (.enter 81 args) w:=enters_of func81 (by kernel_rfl) rfl
theorem Uw{W:World}{t:fI}{tv:Value}(ht:kN W tv t)(hf:lJ t):Calls prog 81 (#[tv]++#[]) W (fO W (nV t)):=by
 obtain ⟨da,dn,dc,ea,en,ec,rfl,k1,k2⟩:=ht.parts
 show Calls prog 81 #[.agg #[.int .i64 t.node,.int .i64 t.seq,.slice da dn dc,.slice ea en ec]] W _
 have BE:=zH (zB W (.cells #[.int .i64 t.node,.int .i64 t.seq,.slice da dn dc,.slice ea en ec] 82));have TB:=zH (kZ (w:=W) (t:=t) k1 k2);have KF:=zH (vL TB.o.is hf _ rfl);have HU:Hid (nV t= !fQ t):=zH rfl;clear ht k1 k2 hf;generalize fQ t=r at*;generalize nV t=r2 at*;go_enter func81,ntmps81
 go_upto_region 1 with fail
 generalize (W.alloc _)=wd at*;obtain ⟨c0,c1,c2,c3⟩:=TB.o.c;go_wp2_with fail
 refine KF.o.mono ?_;rintro e w2 ⟨rfl,hb⟩;have G2:=zH (BE.o.trans (hb.mono BE.o.size));clear hb KF c0 c1 c2 c3;obtain rfl:=HU.o;go_wp2_with fail
 go_ret
 exact ⟨rfl,G2.o⟩
theorem Qv{v:Value}{p:jV}{w:World}(h:tH w v p)(hl:p.floor.length<=1000000)(hn:p.list.length<=1000000)(hf:∀ x∈p.list,lJ x)(r:Bool)(hr:GY p=r):Calls prog 30 #[v] w (fO w r):=by
 obtain ⟨fa,fn,fc,la,ln,lc,rfl,h1,h2⟩:=h.slices;have PB:=zH (zM (p:=p) h1 h2);have B0:=zH (zB w (.cells #[.slice fa fn fc,.slice la ln lc] 31));have HFD:=zH h1.iY;obtain ⟨m,hm⟩:∃ m,m=min fn 8:=⟨_,rfl⟩;rw [<-TU] at hr;subst hr;have F8:Hid (∀ u,Below (w.alloc (.cells #[.slice fa fn fc,.slice la ln lc] 31)).heap.size (w.alloc (.cells #[.slice fa fn fc,.slice la ln lc] 31)) u ->gQ u (.slice fa m fc) (p.floor.take 8)):=zH (fun u hb=>by
  have h8:=(gW (PB.o.below hb).f).first m (by have:=HFD.o.1;omega)
  rwa [show p.floor.take m=p.floor.take 8 by
   by_cases h:fn<=8
   ·rw [cZ (show p.floor.length<=m by have:=HFD.o.1;omega),cZ (by have:=HFD.o.1;omega)]
   ·rw [show m=8 by omega]] at h8)
 have KE:Hid (∀ u,Below (w.alloc (.cells #[.slice fa fn fc,.slice la ln lc] 31)).heap.size (w.alloc (.cells #[.slice fa fn fc,.slice la ln lc] 31)) u ->Below (w.alloc (.cells #[.slice fa fn fc,.slice la ln lc] 31)).heap.size (w.alloc (.cells #[.slice fa fn fc,.slice la ln lc] 31)) u/\(u.cell? ⟨w.heap.size,0,none⟩=some (.slice fa fn fc)/\u.cell? ⟨w.heap.size,1,none⟩=some (.slice la ln lc))):=zH (fun u hb=>⟨hb,(PB.o.below hb).c⟩);have KT:=zH (fun u (hb:Below (w.alloc (.cells #[.slice fa fn fc,.slice la ln lc] 31)).heap.size (w.alloc (.cells #[.slice fa fn fc,.slice la ln lc] 31)) u)=>rP (gW (PB.o.below hb).f) hl);have KQ:=zH (fun u tv (hb:Below (w.alloc (.cells #[.slice fa fn fc,.slice la ln lc] 31)).heap.size (w.alloc (.cells #[.slice fa fn fc,.slice la ln lc] 31)) u) (hs:gQ u tv (trim p.floor))=>(rQ (gW (PB.o.below hb).f) hs).mono (fun e w' (k:e= .returned (.bool (decide (p.floor=trim p.floor)))/\∃ n,w'=u.drewN n)=>(⟨k.1,nI k.2⟩:fO u (decide (p.floor=trim p.floor)) e w')));have KC:=zH (fun u (hb:Below (w.alloc (.cells #[.slice fa fn fc,.slice la ln lc] 31)).heap.size (w.alloc (.cells #[.slice fa fn fc,.slice la ln lc] 31)) u)=>yM (PB.o.below hb).l hn nV 81 #[] Ya (fun W d tv hd _ ht=>Uw ht (hf d hd)));have KO:=zH (fun u (hb:Below (w.alloc (.cells #[.slice fa fn fc,.slice la ln lc] 31)).heap.size (w.alloc (.cells #[.slice fa fn fc,.slice la ln lc] 31)) u)=>(yN (a:=fa) (w:=u) hm HFD.o.2.1).mono (fun e w' (k:e= .returned (.slice fa m fc)/\u=w')=>(⟨k.1,Av k.2⟩:e= .returned (.slice fa m fc)/\Below u.heap.size u w')));have KH:=zH (fun u (hb:Below (w.alloc (.cells #[.slice fa fn fc,.slice la ln lc] 31)).heap.size (w.alloc (.cells #[.slice fa fn fc,.slice la ln lc] 31)) u)=>Ij (F8.o u hb) (PB.o.below hb).l hn (fun t ht=>(hf t ht).w) (by rw [aO];omega));clear h h1 h2 hl hn hf PB F8 hm HFD;generalize gX (p.floor.take 8) p.list=r3 at*;generalize p.list.any nV=r2 at*;generalize decide (p.floor=trim p.floor)=r1 at*;generalize trim p.floor=tf at*;go_enter func30,ntmps30
 go_upto_region 2 with fail
 generalize (w.alloc _)=wb at*
 cases r1 with
 |false=>
  refine wp_region_held_drew (S:=fun u'=>Below wb.heap.size wb u'/\(u'.cell? ⟨w.heap.size,0,none⟩=some (.slice fa fn fc)/\u'.cell? ⟨w.heap.size,1,none⟩=some (.slice la ln lc))) (by kernel_rfl) ?_ (fun hH=> ?_)
  ·(exact KE.o _ (aj _ _).drew)
  simp only [zS,aJ,Nat.reduceAdd]
  refine fJ 0 hH ?_;refine fJ 1 hH ?_;refine fJ 2 hH ?_;refine fJ 3 hH ?_;refine rd 4 fun K hK=> ?_
  go_simp
  refine (KT.o _ hH.1).mono ?_;rintro e s1 ⟨v1,rfl,ho,hb⟩;have S1:=zH ho.seq;obtain ⟨a1,c1,rfl,-,-,-,-⟩:=ho.parts;clear ho;refine hK.out _ _ (KE.o _ (iM hH hb)) (fun hH=> ?_);clear hK K hb;refine rd 5 fun K hK=> ?_
  go_simp
  refine (KQ.o _ _ hH.1 S1.o).mono ?_;rintro e s2 ⟨rfl,hb⟩;refine hK.out _ _ (KE.o _ (iM hH hb)) (fun hH=> ?_);clear hK K hb;refine fJ 6 hH ?_;refine gq 7 hH ?_;refine gq 8 hH ?_;refine gq 9 hH ?_;refine gq 10 hH ?_;refine gq 11 hH ?_;refine fJ 12 hH ?_;refine fJ 13 hH ?_;refine gq 14 hH ?_;refine gq 15 hH ?_;refine gq 17 hH ?_;refine gq 18 hH ?_;refine gq 16 hH ?_;refine gq 19 hH ?_;refine fJ 20 hH ?_;refine fJ 21 hH ?_;refine wpAnyH_done (by kernel_rfl) ?_ _;have GZ:=zH hH.1;clear hH;go_wp2_with fail
  go_ret
  exact ⟨rfl,B0.o.trans (GZ.o.mono B0.o.size)⟩
 |true=>
  cases r2 with
  |true=>
   refine wp_region_held_drew (S:=fun u'=>Below wb.heap.size wb u'/\(u'.cell? ⟨w.heap.size,0,none⟩=some (.slice fa fn fc)/\u'.cell? ⟨w.heap.size,1,none⟩=some (.slice la ln lc))) (by kernel_rfl) ?_ (fun hH=> ?_)
   ·(exact KE.o _ (aj _ _).drew)
   simp only [zS,aJ,Nat.reduceAdd]
   refine fJ 0 hH ?_;refine fJ 1 hH ?_;refine fJ 2 hH ?_;refine fJ 3 hH ?_;refine rd 4 fun K hK=> ?_
   go_simp
   refine (KT.o _ hH.1).mono ?_;rintro e s1 ⟨v1,rfl,ho,hb⟩;have S1:=zH ho.seq;obtain ⟨a1,c1,rfl,-,-,-,-⟩:=ho.parts;clear ho;refine hK.out _ _ (KE.o _ (iM hH hb)) (fun hH=> ?_);clear hK K hb;refine rd 5 fun K hK=> ?_
   go_simp
   refine (KQ.o _ _ hH.1 S1.o).mono ?_;rintro e s2 ⟨rfl,hb⟩;refine hK.out _ _ (KE.o _ (iM hH hb)) (fun hH=> ?_);clear hK K hb;refine fJ 6 hH ?_;refine fJ 7 hH ?_;refine fJ 8 hH ?_;refine fJ 9 hH ?_;refine rd 10 fun K hK=> ?_
   go_simp
   refine (KC.o _ hH.1).mono ?_;rintro e s3 ⟨rfl,hb⟩;refine hK.out _ _ (KE.o _ (iM hH hb)) (fun hH=> ?_);clear hK K hb;refine fJ 11 hH ?_;refine fJ 12 hH ?_;refine fJ 13 hH ?_;refine gq 14 hH ?_;refine gq 15 hH ?_;refine gq 17 hH ?_;refine gq 18 hH ?_;refine gq 16 hH ?_;refine gq 19 hH ?_;refine fJ 20 hH ?_;refine fJ 21 hH ?_;refine wpAnyH_done (by kernel_rfl) ?_ _;have GZ:=zH hH.1;clear hH;go_wp2_with fail
   go_ret
   exact ⟨rfl,B0.o.trans (GZ.o.mono B0.o.size)⟩
  |false=>
   simp only [aS,Bool.not_false] at*
   refine wp_region_held_drew (S:=fun u'=>Below wb.heap.size wb u'/\(u'.cell? ⟨w.heap.size,0,none⟩=some (.slice fa fn fc)/\u'.cell? ⟨w.heap.size,1,none⟩=some (.slice la ln lc))) (by kernel_rfl) ?_ (fun hH=> ?_)
   ·(exact KE.o _ (aj _ _).drew)
   simp only [zS,aJ,Nat.reduceAdd]
   refine fJ 0 hH ?_;refine fJ 1 hH ?_;refine fJ 2 hH ?_;refine fJ 3 hH ?_;refine rd 4 fun K hK=> ?_
   go_simp
   refine (KT.o _ hH.1).mono ?_;rintro e s1 ⟨v1,rfl,ho,hb⟩;have S1:=zH ho.seq;obtain ⟨a1,c1,rfl,-,-,-,-⟩:=ho.parts;clear ho;refine hK.out _ _ (KE.o _ (iM hH hb)) (fun hH=> ?_);clear hK K hb;refine rd 5 fun K hK=> ?_
   go_simp
   refine (KQ.o _ _ hH.1 S1.o).mono ?_;rintro e s2 ⟨rfl,hb⟩;refine hK.out _ _ (KE.o _ (iM hH hb)) (fun hH=> ?_);clear hK K hb;refine fJ 6 hH ?_;refine fJ 7 hH ?_;refine fJ 8 hH ?_;refine fJ 9 hH ?_;refine rd 10 fun K hK=> ?_
   go_simp
   refine (KC.o _ hH.1).mono ?_;rintro e s3 ⟨rfl,hb⟩;refine hK.out _ _ (KE.o _ (iM hH hb)) (fun hH=> ?_);clear hK K hb;refine fJ 11 hH ?_;refine fJ 12 hH ?_;refine fJ 13 hH ?_;refine fJ 14 hH ?_;refine fJ 15 hH ?_;refine fJ 17 hH ?_;refine fJ 18 hH ?_;refine rd 16 fun K hK=> ?_
   go_simp
   refine (KO.o _ hH.1).mono ?_;rintro e s4 ⟨rfl,hb⟩;refine hK.out _ _ (KE.o _ (iM hH hb)) (fun hH=> ?_);clear hK K hb;refine rd 19 fun K hK=> ?_
   go_simp
   refine (KH.o _ hH.1).mono ?_;rintro e s5 ⟨rfl,hb⟩;refine hK.out _ _ (KE.o _ (iM hH hb)) (fun hH=> ?_);clear hK K hb;refine fJ 20 hH ?_;refine fJ 21 hH ?_;refine wpAnyH_done (by kernel_rfl) ?_ _;have GZ:=zH hH.1;clear hH;go_wp2_with fail
   go_ret
   exact ⟨rfl,B0.o.trans (GZ.o.mono B0.o.size)⟩
end Go.Proofs.YtfgcodcablpdcaaGreat
set_option maxRecDepth 100000
set_option maxHeartbeats 64000000
namespace Go.Proofs.YtfgcodcablpdcaaGreat
open Go.Proofs.Tryz
open Go.RowKit Plain
theorem JU{lv:Value}{xs:List fI}{w:World}(hlv:fM gV w lv xs)(hl:xs.length<=1000000)(hf:∀ t∈xs,t.deps.length<=1000000/\t.effs.length<=1000000/\∀ e∈t.effs,e.drops.length<=1000000):
  Calls prog 173 #[lv] w (Qu w xs):=by
 have KC:=zH (yJ hlv (fun b hb=>hb) hl);obtain ⟨a0,c0,rfl,-,-,-,-⟩:=hlv.parts;obtain ⟨n,hn⟩:∃ n,n=xs.length:=⟨_,rfl⟩;have HL:=zH hn;rw [<-hn] at KC ⊢;have HF:=zH hf;clear hlv hl hf hn;go_enter func173,ntmps173
 go_wp2_with fail
 refine KC.o.mono ?_;rintro e w1 ⟨v1,rfl,ho,hb⟩;have h:=ho.own;obtain ⟨a,c,rfl,L1,L2,-,-⟩:=h.parts;rw [<-HL.o] at h L1 ⊢;have T0:=zH (Aw.start h);have RL:=zH h.lt;have B1:=zH hb;have HN:Hid (w.heap.size<=w1.heap.size):=zH hb.size;have i1:(n:Int)<=c:=by omega
 have i2:(c:Int)<=9223372036854775807:=by omega
 clear h ho hb L1 L2 KC;go_wp2_with fail
 go_loopw [12] (fun i wr=>∃ k:Nat,k<=n/\i= .int .i64 k/\Aside (Aw w.heap.size wr a n c xs k/\w1.grownBy wr (Value.ownBlock (.slice a n c))/\w1.heap.size<=wr.heap.size)) (fun i _=>n-(intOf i).toNat)
 case atStart=>exact ⟨0,aL _,rfl,T0.o,bV _ _,ah _⟩
 case round=>
  obtain ⟨k,hk,rfl,hrel⟩:=hrel;obtain ⟨hlo,hbb,hnn⟩:=Aside.out hrel;have LO:=zH hlo;have GB:=zH hbb;have NN:=zH hnn;clear hrel hlo hbb hnn T0
  by_cases hlt:k<n
  ·obtain ⟨rb,vals,rfl,Ng⟩:=LO.o.2.2.1 (by omega)
   have LA:=zH Ng;have hxk:=WE (show k<xs.length by rw [<-HL.o];exact hlt);have Tq:=zH hxk;obtain ⟨da,dn,dc,ea,en,ec,TA,SD0,SE0⟩:=Ng.at hxk;have SD:=zH SD0;have SE:=zH SE0;have HFX:=zH (HF.o (xs.getD k default) (bD hxk));have RB0:=zH Ng.lt;obtain ⟨c0,c1,c2,c3⟩:=TA;clear Ng hxk SD0 SE0;generalize xs.getD k default=t at*;have hk1:(k:Int)<n:=by omega
   have BE:=zH (zB wr (.cells #[.int .i64 t.node,.int .i64 t.seq,.slice da dn dc,.slice ea en ec] 82));have BX:=zH (aM wr (.cells #[.int .i64 t.node,.int .i64 t.seq,.slice da dn dc,.slice ea en ec] 82));have ZB:Hid ((wr.alloc (.cells #[.int .i64 t.node,.int .i64 t.seq,.slice da dn dc,.slice ea en ec] 82)).heap.size=wr.heap.size+1):=zH (by simp);go_upto_region 5 with fail
   clear c0 c1 c2 c3;generalize (wr.alloc _)=wd at*;have LB:=zH (LA.o.below BE.o);have GD:=zH (jZ GB.o (BE.o.mono NN.o));have NW:Hid (w1.heap.size<=wd.heap.size):=zH (ak NN.o BE.o.size);have ND:Hid (w.heap.size<=wd.heap.size):=zH (ak HN.o NW.o);have RB:Hid (w.heap.size<=rb/\rb<wd.heap.size):=zH ⟨RB0.o.1,ay RB0.o.2 BE.o.size⟩;have SD1:Hid (Sq gL (fun b=>b<wd.heap.size/\b≠rb) wd (.slice da dn dc) t.deps):=zH ((SD.o.agree fun b hb=>BE.o.block b hb.1).mono fun b hb=>⟨ay hb.1 BE.o.size,hb.2⟩);have SE1:Hid (Sq jo (fun b=>b<wd.heap.size/\b≠rb) wd (.slice ea en ec) t.effs):=zH ((SE.o.agree fun b hb=>BE.o.block b hb.1).mono fun b hb=>⟨ay hb.1 BE.o.size,hb.2⟩);have TG:Hid (wr.heap.size<wd.heap.size):=zH (by have:=ZB.o;omega);clear LA GB NN BE RB0 SD SE LO ZB;generalize wr.heap.size=tg at*;clear wr;have KE:=zH (Ba SE1.o (fun b hb=>hb.1) HFX.o.2.1);have b3:wd.cell? ⟨tg,3,none⟩=some (.slice ea en ec):=cell_of_row _ _ 3 _ _ _ BX.o;go_upto_region 6 with (go_at_call 235;refine KE.o.mono ?_;rintro e w3 ⟨v3,rfl,ho3,hb3⟩;have O3:=zH ho3.own;have H3:=zH hb3;obtain ⟨a3,cc3,rfl,p1,p2,-,-⟩:=ho3.own.parts;clear ho3 hb3 KE b3)
   obtain ⟨m,hm⟩:∃ m,m=t.effs.length:=⟨_,rfl⟩;rw [<-hm] at O3 p1 ⊢;have HM:=zH hm;have E0:=zH (vM.start O3.o);have q1:(m:Int)<=cc3:=by omega
   have q2:(cc3:Int)<=9223372036854775807:=by omega
   clear hm p1 p2 O3;go_wp2_with fail
   go_loopw [22] (fun i wo=>∃ j:Nat,j<=m/\i= .int .i64 j/\Aside (vM wd.heap.size wo a3 m cc3 t.effs j/\Below wd.heap.size wd wo)) (fun i _=>m-(intOf i).toNat)
   case atStart=>exact ⟨0,aL _,rfl,E0.o,H3.o⟩
   case round=>
    obtain ⟨j,hj,rfl,hrel⟩:=hrel;obtain ⟨hlo,hbb⟩:=Aside.out hrel;have LE:=zH hlo;have GE:=zH hbb;clear hrel hlo hbb E0 H3
    by_cases hjt:j<m
    ·obtain ⟨eb,vl,rfl,Ng⟩:=LE.o.2.2 (by omega)
     have LA:=zH Ng;have hxj:=getD_some (show j<t.effs.length by rw [<-HM.o];exact hjt);have HXJ:=zH hxj;obtain ⟨dv,EA,SX0⟩:=Ng.at hxj;have HDR:=zH (HFX.o.2.2 (t.effs.getD j default) (bD hxj));have EBL:=zH Ng.lt;clear Ng hxj LE;generalize t.effs.getD j default=x at*;obtain ⟨xa,xc,rfl,-,-,-,-⟩:=fM.parts (L:=jI) (SX0.mono fun b hb=>hb.2.1);have SX:=zH SX0;clear SX0;obtain ⟨xn,hxn⟩:∃ m,m=x.drops.length:=⟨_,rfl⟩;rw [<-hxn] at EA SX;obtain ⟨y0,y1,y2,y3,y4,y5,y6⟩:=EA;have hbe:=zB wr (.cells #[.int .i64 x.pos,.string (bt x.key),.string (bt x.field),.int .i64 x.kind,.string (bt x.elem),.int .i64 x.n,.slice xa xn xc] 85);have BF:=zH hbe;have FB:Hid ((wr.alloc (.cells #[.int .i64 x.pos,.string (bt x.key),.string (bt x.field),.int .i64 x.kind,.string (bt x.elem),.int .i64 x.n,.slice xa xn xc] 85)).cell? ⟨wr.heap.size,6,none⟩=some (.slice xa xn xc)):=zH (mY wr x xa xn xc).zero.2.2.2.2.2.2;have SXB:Hid (fM jI (wr.alloc (.cells #[.int .i64 x.pos,.string (bt x.key),.string (bt x.field),.int .i64 x.kind,.string (bt x.elem),.int .i64 x.n,.slice xa xn xc] 85)) (.slice xa xn xc) x.drops):=zH ((SX.o.agree fun b hb=>hbe.block b hb.2.1).mono fun b hb=>ay hb.2.1 hbe.size);have hj1:(j:Int)<m:=by omega
     clear hbe hxn SX;go_upto_region 9 with fail
     clear y0 y1 y2 y3 y4 y5 y6;have LB2:=zH (LA.o.below BF.o);have GE2:=zH (GE.o.trans (BF.o.mono GE.o.size));have ZW:Hid (wd.heap.size<=wr.heap.size):=zH GE.o.size;generalize (wr.alloc _)=wf at*;have KD:=zH (Bb SXB.o HDR.o);have y6:=FB.o;go_upto_region 10 with (go_at_call 236;refine KD.o.mono ?_;rintro e w7 ⟨v7,rfl,ho7,hb7⟩;have O7:=zH (ho7.new pX);have G7:=zH hb7;obtain ⟨a7,c7,rfl,-,-,-,-⟩:=ho7.parts;have L7:=zH (LB2.o.below hb7);obtain ⟨dv6,EA6,-⟩:=L7.o.at HXJ.o;have t6:=EA6.c6;have f6:=dh L7.o.own (j*7+6);clear EA6 ho7 hb7 KD y6)
     have SET:Hid (vM wd.heap.size (w7.setCell ⟨eb,j*7+6,none⟩ (.slice a7 x.drops.length c7)) (some ⟨eb,0,none⟩) m cc3 t.effs (j+1)):=zH ⟨HM.o.symm,⟨by omega,by omega,fun h=>by cases h⟩,fun _=>⟨eb,_,rfl,L7.o.set HXJ.o (O7.o.mono fun b hb=>⟨by have:=ZW.o;have:=BF.o.size;omega,hb.2,by have:=EBL.o;have:=BF.o.size;omega⟩)⟩⟩;have GS:Hid (Below wd.heap.size wd (w7.setCell ⟨eb,j*7+6,none⟩ (.slice a7 x.drops.length c7))):=zH ((GE2.o.trans (G7.o.mono GE2.o.size)).setCell (by show wd.heap.size<=eb;exact EBL.o.1) _);clear t6 f6;go_wp2_with fail
     go_roundw
     case rel=>exact ⟨j+1,by omega,by go_num,SET.o,GS.o⟩
     case measure=>simp [intOf];omega
    ·obtain rfl:j=m:=by omega
     have SE2:=zH LE.o.done;have BX2:=zH ((GE.o.block _ TG.o).trans BX.o);have LB2:=zH (LB.o.below GE.o);have SD2:Hid (fM gL wr (.slice da dn dc) t.deps):=zH ((SD1.o.agree fun b hb=>GE.o.block b hb.1).mono fun b hb=>ay hb.1 GE.o.size);have GW:=zH (jZ GD.o (GE.o.mono NW.o));have ZW:Hid (wd.heap.size<=wr.heap.size):=zH GE.o.size;have KC:=zH (nL SD2.o HFX.o.1);have b2:wr.cell? ⟨tg,2,none⟩=some (.slice da dn dc):=cell_of_row _ _ 2 _ _ _ BX2.o;clear LE BX SD1 SE1 GD;go_upto_region 12 with (go_at_call 89;refine KC.o.mono ?_;rintro e w5 ⟨v5,rfl,ho5,hb5⟩;have O5:=zH (ho5.new gU);have G5:=zH hb5;obtain ⟨a5,c5,rfl,-,-,-,-⟩:=ho5.parts;have L5:=zH (LB2.o.below hb5);obtain ⟨ya,yn,yc,yb,ym,yd,TA5,-,-⟩:=L5.o.at Tq.o;have t2:=TA5.c2;have t3:=TA5.c3;have f2:=L5.o.bare (k*4+2);have f3:=L5.o.bare (k*4+3);clear TA5 ho5 hb5 KC b2)
     have RZ:=RB.o;have SET:Hid (Aw w.heap.size ((w5.setCell ⟨rb,k*4+2,none⟩ (.slice a5 t.deps.length c5)).setCell ⟨rb,k*4+3,none⟩ (.slice a3 j cc3)) (some ⟨rb,0,none⟩) n c xs (k+1)):=zH ⟨HL.o.symm,⟨by omega,by omega,fun h=>by cases h⟩,fun _=>⟨rb,_,rfl,L5.o.set Tq.o (O5.o.mono fun b hb=>⟨by have:=ZW.o;have:=ND.o;omega,hb.2,by have:=ZW.o;omega⟩) ((SE2.o.agree fun b hb=>G5.o.block b hb.2).mono fun b hb=>⟨by have:=ND.o;omega,ay hb.2 G5.o.size,by omega⟩)⟩,fun h=>absurd h (by omega)⟩;have GS:Hid (w1.grownBy ((w5.setCell ⟨rb,k*4+2,none⟩ (.slice a5 t.deps.length c5)).setCell ⟨rb,k*4+3,none⟩ (.slice a3 j cc3)) (Value.ownBlock (.slice (some ⟨rb,0,none⟩) n c))):=zH (zN (rb:=rb) (zN (rb:=rb) (jZ GW.o (G5.o.mono (by have:=ZW.o;have:=NW.o;omega)))));have ZS:Hid (w1.heap.size<=((w5.setCell ⟨rb,k*4+2,none⟩ (.slice a5 t.deps.length c5)).setCell ⟨rb,k*4+3,none⟩ (.slice a3 j cc3)).heap.size):=zH (by have h1:=G5.o.size;have h2:=ZW.o;have h3:=NW.o;simp [World.setCell];omega);clear t2 t3 f2 f3 RZ;go_wp2_with fail
     go_roundw
     case rel=>exact ⟨k+1,by omega,by go_num,SET.o,GS.o,ZS.o⟩
     case measure=>simp [intOf];omega
  ·obtain rfl:k=n:=by omega
   have DN:=zH LO.o.WH;go_wp2_with fail
   go_ret
   exact ⟨_,_,_,rfl,DN.o,B1.o.trans ((aj w.heap.size w1).grown GB.o HN.o fun k hk=>(RL.o k hk).1)⟩
end Go.Proofs.YtfgcodcablpdcaaGreat