import Derived.Test.YtfgcodcablpdcaaGreatMsFmA
set_option linter.unusedVariables false
set_option maxRecDepth 100000
set_option maxHeartbeats 64000000
namespace Go.Proofs.YtfgcodcablpdcaaGreat
open Go.Proofs.Tryz
open Go.RowKit Plain
theorem Rp{W:World}{m:gu}{s:Dn}{B:Nat}(X:yZ B m s W)(hl:m.want.length<=1000000)(x:fK):
  Calls prog 195 (#[Ym x]++#[.pointer (some ⟨B,0,none⟩)]) W (fO W (wR m x)):=by
 have hb:=zB W (.cells #[.string (bt x.key),.string (bt x.field),.int .i64 x.kind,.string (bt x.elem),.int .i64 x.n,.int .i64 x.dot.node,.int .i64 x.dot.seq,.int .i64 x.dot.pos] 79);have G:=zH hb;have XB:=zH (X.below hb);have IB:=zH (tO W x);have HI:=zH (fun u (h:Below (W.alloc (.cells #[.string (bt x.key),.string (bt x.field),.int .i64 x.kind,.string (bt x.elem),.int .i64 x.n,.int .i64 x.dot.node,.int .i64 x.dot.seq,.int .i64 x.dot.pos] 79)).heap.size (W.alloc (.cells #[.string (bt x.key),.string (bt x.field),.int .i64 x.kind,.string (bt x.elem),.int .i64 x.n,.int .i64 x.dot.node,.int .i64 x.dot.seq,.int .i64 x.dot.pos] 79)) u)=>((IB.o.below h (by simp)).zero));have HR:Hid (wR m x=(!iH x||(!covers m.want x.key|| !(decide (1<=x.dot.seq)&&decide (x.dot.seq<=iF m.vec x.dot.node))))):=zH rfl;clear hb X;obtain ⟨va,vn,vc,fa,fn,fc,za,zn,zc,na,nn,nc,ia,im,ic,la,ln,lc⟩:=s
 show Calls prog 195 #[.agg #[.string (bt x.key),.string (bt x.field),.int .i64 x.kind,.string (bt x.elem),.int .i64 x.n,.int .i64 x.dot.node,.int .i64 x.dot.seq,.int .i64 x.dot.pos],.pointer (some ⟨B,0,none⟩)] W _
 go_enter func195,ntmps195
 go_upto_region 1 with fail
 generalize wR m x=r at*;generalize (W.alloc _)=w1 at*;have KF:=zH (uN x w1);have KC:=zH (fun u (h:Below w1.heap.size w1 u)=>ES ((XB.o.below h).a.n) hl x.key);have KH:=zH (fun u (h:Below w1.heap.size w1 u)=>tN (gW (XB.o.below h).a.v) x.dot.node x.dot.seq x.dot.pos);have HC:=zH (fun u (h:Below w1.heap.size w1 u)=>(XB.o.below h).c);obtain ⟨i0,i1,i2,i3,i4,i5,i6,i7⟩:=HI.o w1 (aj _ _);change Hid (Calls prog 153 #[.agg #[.string (bt x.key),.string (bt x.field),.int .i64 x.kind,.string (bt x.elem),.int .i64 x.n,.int .i64 x.dot.node,.int .i64 x.dot.seq,.int .i64 x.dot.pos]] w1 (fO w1 (iH x))) at KF;generalize iH x=r1 at*;generalize covers m.want x.key=r2 at*;generalize (decide (1<=x.dot.seq)&&decide (x.dot.seq<=iF m.vec x.dot.node))=r3 at*
 cases r1 with
 |false=>
  obtain rfl:r=true:=HR.o;go_wp2_with fail
  refine KF.o.mono ?_;rintro e w2 ⟨rfl,hb⟩;have G2:=zH (G.o.trans (hb.mono G.o.size));clear hb KF i0 i1 i2 i3 i4 i5 i6 i7;go_wp2_with fail
  go_ret
  exact ⟨rfl,G2.o⟩
 |true=>
  have HR2:Hid (r=(!r2|| !r3)):=zH HR.o;clear HR;go_wp2_with fail
  refine KF.o.mono ?_;rintro e w2 ⟨rfl,hb⟩;have B2:=zH hb;have Tv:=KC.o w2 hb;clear hb KF i0 i1 i2 i3 i4 i5 i6 i7;obtain ⟨i0,i1,i2,i3,i4,i5,i6,i7⟩:=HI.o w2 B2.o;obtain ⟨c0,c1,c2,c3,c4,c5,c6,c7,c8⟩:=HC.o w2 B2.o
  cases r2 with
  |false=>
   obtain rfl:r=true:=HR2.o;go_wp2_with fail
   refine Tv.mono ?_;rintro e w3 ⟨rfl,hb⟩;have G3:=zH (G.o.trans ((B2.o.trans (hb.mono B2.o.size)).mono G.o.size));clear hb Tv i0 i1 i2 i3 i4 i5 i6 i7 c0 c1 c2 c3 c4 c5 c6 c7 c8;go_wp2_with fail
   go_ret
   exact ⟨rfl,G3.o⟩
  |true=>
   obtain rfl:r= !r3:=HR2.o;go_wp2_with fail
   refine Tv.mono ?_;rintro e w3 ⟨rfl,hb⟩;have B3:=zH (B2.o.trans (hb.mono B2.o.size));have KH3:=KH.o w3 B3.o;clear hb Tv i0 i1 i2 i3 i4 i5 i6 i7 c0 c1 c2 c3 c4 c5 c6 c7 c8;obtain ⟨i0,i1,i2,i3,i4,i5,i6,i7⟩:=HI.o w3 B3.o;obtain ⟨c0,c1,c2,c3,c4,c5,c6,c7,c8⟩:=HC.o w3 B3.o;go_wp2_with fail
   refine KH3.mono ?_;rintro e w4 ⟨rfl,hb⟩;have G4:=zH (G.o.trans ((B3.o.trans (hb.mono B3.o.size)).mono G.o.size));clear hb KH3 i0 i1 i2 i3 i4 i5 i6 i7 c0 c1 c2 c3 c4 c5 c6 c7 c8;go_wp2_with fail
   go_ret
   exact ⟨rfl,G4.o⟩
theorem Jh{kind ticket:Int}{whole r:Bool}{xs:List fK}{va fa za na ia la:Option Addr}{vn vc fn fc zn zc nn nc im ic ln lc:Nat}{w:World}(h1:¬ (im:Int)<=32768)(g1:im<=ic)(g2:ic<=9223372036854775807):
  Calls prog 122 #[.agg #[.int .i64 kind,.int .i64 ticket,.bool whole,.slice va vn vc,.slice fa fn fc,.slice za zn zc,.slice na nn nc,.slice ia im ic,.slice la ln lc]] w (fO w false):=by
 have G0:=zH (zB w (.cells #[.int .i64 kind,.int .i64 ticket,.bool whole,.slice va vn vc,.slice fa fn fc,.slice za zn zc,.slice na nn nc,.slice ia im ic,.slice la ln lc] 46));have C7:=zH (jD (aM w (.cells #[.int .i64 kind,.int .i64 ticket,.bool whole,.slice va vn vc,.slice fa fn fc,.slice za zn zc,.slice na nn nc,.slice ia im ic,.slice la ln lc] 46))).2.2.2.2.2.2.2.1;have Z0:Hid (w.heap.size<(w.alloc (.cells #[.int .i64 kind,.int .i64 ticket,.bool whole,.slice va vn vc,.slice fa fn fc,.slice za zn zc,.slice na nn nc,.slice ia im ic,.slice la ln lc] 46)).heap.size):=zH (by simp);go_enter func122,ntmps122
 go_upto_region 2 with fail
 generalize (w.alloc _)=w0 at*;have KE:Hid (∀ u,Below w0.heap.size w0 u ->Below w0.heap.size w0 u/\u.cell? ⟨w.heap.size,7,none⟩=some (.slice ia im ic)):=zH (fun u hu=>⟨hu,(hu.cell (p:=⟨w.heap.size,7,none⟩) Z0.o).trans C7.o⟩);refine wp_region_held_drew (S:=fun u'=>Below w0.heap.size w0 u'/\u'.cell? ⟨w.heap.size,7,none⟩=some (.slice ia im ic)) (by kernel_rfl) ?_ (fun hH=> ?_)
 ·(exact KE.o _ (aj _ _).drew)
 simp only [zS,aJ,Nat.reduceAdd]
 refine fJ 0 hH ?_;refine fJ 1 hH ?_;refine fJ 2 hH ?_;refine fJ 3 hH ?_;refine fJ 4 hH ?_;refine gq 5 hH ?_;refine gq 6 hH ?_;refine gq 7 hH ?_;refine gq 8 hH ?_;refine gq 9 hH ?_;refine fJ 10 hH ?_;refine fJ 11 hH ?_;refine gq 12 hH ?_;refine gq 13 hH ?_;refine gq 14 hH ?_;refine gq 15 hH ?_;refine gq 16 hH ?_;refine gq 17 hH ?_;refine fJ 18 hH ?_;refine fJ 19 hH ?_;refine wpAnyH_done (by kernel_rfl) ?_ _;go_wp2_with fail
 go_ret
 exact ⟨rfl,G0.o.trans (hH.1.mono G0.o.size)⟩
theorem Ji{kind ticket:Int}{whole r:Bool}{xs:List fK}{va fa za na ia la:Option Addr}{vn vc fn fc zn zc nn nc im ic ln lc:Nat}{w:World}(h1:(im:Int)<=32768)(KC:∀ W,Below (w.alloc (.cells #[.int .i64 kind,.int .i64 ticket,.bool whole,.slice va vn vc,.slice fa fn fc,.slice za zn zc,.slice na nn nc,.slice ia im ic,.slice la ln lc] 46)).heap.size (w.alloc (.cells #[.int .i64 kind,.int .i64 ticket,.bool whole,.slice va vn vc,.slice fa fn fc,.slice za zn zc,.slice na nn nc,.slice ia im ic,.slice la ln lc] 46)) W ->Calls prog 155 #[.slice ia im ic,.func (.func 195) #[] #[.pointer (some ⟨w.heap.size,0,none⟩)]] W (fO W true))(g1:im<=ic)(g2:ic<=9223372036854775807):
  Calls prog 122 #[.agg #[.int .i64 kind,.int .i64 ticket,.bool whole,.slice va vn vc,.slice fa fn fc,.slice za zn zc,.slice na nn nc,.slice ia im ic,.slice la ln lc]] w (fO w false):=by
 have G0:=zH (zB w (.cells #[.int .i64 kind,.int .i64 ticket,.bool whole,.slice va vn vc,.slice fa fn fc,.slice za zn zc,.slice na nn nc,.slice ia im ic,.slice la ln lc] 46));have C7:=zH (jD (aM w (.cells #[.int .i64 kind,.int .i64 ticket,.bool whole,.slice va vn vc,.slice fa fn fc,.slice za zn zc,.slice na nn nc,.slice ia im ic,.slice la ln lc] 46))).2.2.2.2.2.2.2.1;have Z0:Hid (w.heap.size<(w.alloc (.cells #[.int .i64 kind,.int .i64 ticket,.bool whole,.slice va vn vc,.slice fa fn fc,.slice za zn zc,.slice na nn nc,.slice ia im ic,.slice la ln lc] 46)).heap.size):=zH (by simp);replace KC:=zH KC;go_enter func122,ntmps122
 go_upto_region 2 with fail
 generalize (w.alloc _)=w0 at*;have KE:Hid (∀ u,Below w0.heap.size w0 u ->Below w0.heap.size w0 u/\u.cell? ⟨w.heap.size,7,none⟩=some (.slice ia im ic)):=zH (fun u hu=>⟨hu,(hu.cell (p:=⟨w.heap.size,7,none⟩) Z0.o).trans C7.o⟩);refine wp_region_held_drew (S:=fun u'=>Below w0.heap.size w0 u'/\u'.cell? ⟨w.heap.size,7,none⟩=some (.slice ia im ic)) (by kernel_rfl) ?_ (fun hH=> ?_)
 ·(exact KE.o _ (aj _ _).drew)
 simp only [zS,aJ,Nat.reduceAdd]
 refine fJ 0 hH ?_;refine fJ 1 hH ?_;refine fJ 2 hH ?_;refine fJ 3 hH ?_;refine fJ 4 hH ?_;refine fJ 5 hH ?_;refine fJ 6 hH ?_;refine fJ 7 hH ?_;refine rd 8 fun K hK=> ?_
 go_simp
 refine (KC.o _ hH.1).mono ?_;rintro e s1 ⟨rfl,hb⟩;refine hK.out _ _ (KE.o _ (iM hH hb)) (fun hH=> ?_);clear hK K hb;refine fJ 9 hH ?_;refine fJ 10 hH ?_;refine fJ 11 hH ?_;refine gq 12 hH ?_;refine gq 13 hH ?_;refine gq 14 hH ?_;refine gq 15 hH ?_;refine gq 16 hH ?_;refine gq 17 hH ?_;refine fJ 18 hH ?_;refine fJ 19 hH ?_;refine wpAnyH_done (by kernel_rfl) ?_ _;go_wp2_with fail
 go_ret
 exact ⟨rfl,G0.o.trans (hH.1.mono G0.o.size)⟩
theorem Jj{kind ticket:Int}{whole r:Bool}{xs:List fK}{va fa za na ia la:Option Addr}{vn vc fn fc zn zc nn nc im ic ln lc:Nat}{w:World}(h1:(im:Int)<=32768)(KC:∀ W,Below (w.alloc (.cells #[.int .i64 kind,.int .i64 ticket,.bool whole,.slice va vn vc,.slice fa fn fc,.slice za zn zc,.slice na nn nc,.slice ia im ic,.slice la ln lc] 46)).heap.size (w.alloc (.cells #[.int .i64 kind,.int .i64 ticket,.bool whole,.slice va vn vc,.slice fa fn fc,.slice za zn zc,.slice na nn nc,.slice ia im ic,.slice la ln lc] 46)) W ->Calls prog 155 #[.slice ia im ic,.func (.func 195) #[] #[.pointer (some ⟨w.heap.size,0,none⟩)]] W (fO W false))(KN:∀ W,Below (w.alloc (.cells #[.int .i64 kind,.int .i64 ticket,.bool whole,.slice va vn vc,.slice fa fn fc,.slice za zn zc,.slice na nn nc,.slice ia im ic,.slice la ln lc] 46)).heap.size (w.alloc (.cells #[.int .i64 kind,.int .i64 ticket,.bool whole,.slice va vn vc,.slice fa fn fc,.slice za zn zc,.slice na nn nc,.slice ia im ic,.slice la ln lc] 46)) W ->Calls prog 79 #[.slice ia im ic] W (vQ gG W xs))(KQ:∀ W nv,Below (w.alloc (.cells #[.int .i64 kind,.int .i64 ticket,.bool whole,.slice va vn vc,.slice fa fn fc,.slice za zn zc,.slice na nn nc,.slice ia im ic,.slice la ln lc] 46)).heap.size (w.alloc (.cells #[.int .i64 kind,.int .i64 ticket,.bool whole,.slice va vn vc,.slice fa fn fc,.slice za zn zc,.slice na nn nc,.slice ia im ic,.slice la ln lc] 46)) W ->fM gG W nv xs ->Calls prog 78 #[.slice ia im ic,nv] W (fO W r))(g1:im<=ic)(g2:ic<=9223372036854775807):
  Calls prog 122 #[.agg #[.int .i64 kind,.int .i64 ticket,.bool whole,.slice va vn vc,.slice fa fn fc,.slice za zn zc,.slice na nn nc,.slice ia im ic,.slice la ln lc]] w (fO w r):=by
 have G0:=zH (zB w (.cells #[.int .i64 kind,.int .i64 ticket,.bool whole,.slice va vn vc,.slice fa fn fc,.slice za zn zc,.slice na nn nc,.slice ia im ic,.slice la ln lc] 46));have C7:=zH (jD (aM w (.cells #[.int .i64 kind,.int .i64 ticket,.bool whole,.slice va vn vc,.slice fa fn fc,.slice za zn zc,.slice na nn nc,.slice ia im ic,.slice la ln lc] 46))).2.2.2.2.2.2.2.1;have Z0:Hid (w.heap.size<(w.alloc (.cells #[.int .i64 kind,.int .i64 ticket,.bool whole,.slice va vn vc,.slice fa fn fc,.slice za zn zc,.slice na nn nc,.slice ia im ic,.slice la ln lc] 46)).heap.size):=zH (by simp);replace KC:=zH KC;replace KN:=zH KN;replace KQ:=zH KQ;go_enter func122,ntmps122
 go_upto_region 2 with fail
 generalize (w.alloc _)=w0 at*;have KE:Hid (∀ u,Below w0.heap.size w0 u ->Below w0.heap.size w0 u/\u.cell? ⟨w.heap.size,7,none⟩=some (.slice ia im ic)):=zH (fun u hu=>⟨hu,(hu.cell (p:=⟨w.heap.size,7,none⟩) Z0.o).trans C7.o⟩);refine wp_region_held_drew (S:=fun u'=>Below w0.heap.size w0 u'/\u'.cell? ⟨w.heap.size,7,none⟩=some (.slice ia im ic)) (by kernel_rfl) ?_ (fun hH=> ?_)
 ·(exact KE.o _ (aj _ _).drew)
 simp only [zS,aJ,Nat.reduceAdd]
 refine fJ 0 hH ?_;refine fJ 1 hH ?_;refine fJ 2 hH ?_;refine fJ 3 hH ?_;refine fJ 4 hH ?_;refine fJ 5 hH ?_;refine fJ 6 hH ?_;refine fJ 7 hH ?_;refine rd 8 fun K hK=> ?_
 go_simp
 refine (KC.o _ hH.1).mono ?_;rintro e s1 ⟨rfl,hb⟩;refine hK.out _ _ (KE.o _ (iM hH hb)) (fun hH=> ?_);clear hK K hb;refine fJ 9 hH ?_;refine fJ 10 hH ?_;refine fJ 11 hH ?_;refine fJ 12 hH ?_;refine fJ 13 hH ?_;refine fJ 14 hH ?_;refine fJ 15 hH ?_;refine rd 16 fun K hK=> ?_
 go_simp
 refine (KN.o _ hH.1).mono ?_;rintro e s2 ⟨nv,rfl,ho,hb⟩;refine hK.out _ _ (KE.o _ (iM hH hb)) (fun hH=> ?_);clear hK K hb;refine rd 17 fun K hK=> ?_
 go_simp
 refine (KQ.o _ _ hH.1 ho.seq).mono ?_;rintro e s3 ⟨rfl,hb⟩;refine hK.out _ _ (KE.o _ (iM hH hb)) (fun hH=> ?_);clear hK K hb;refine fJ 18 hH ?_;refine fJ 19 hH ?_;refine wpAnyH_done (by kernel_rfl) ?_ _;go_wp2_with fail
 go_ret
 exact ⟨rfl,G0.o.trans (hH.1.mono G0.o.size)⟩
theorem YV{v:Value}{m:gu}{w:World}(hv:pE w v m)(hil:m.items.length<=1000000)(hok:∀ x∈m.items,jf x.dot)(hnl:m.want.length<=1000000):Calls prog 122 #[v] w (fO w (yu m)):=by
 obtain ⟨va,vn,vc,fa,fn,fc,za,zn,zc,na,nn,nc,ia,im,ic,la,ln,lc,rfl,H⟩:=hv.slices;obtain ⟨d1,d2,d3⟩:m.items.length=im/\im<=ic/\ic<=9223372036854775807:=H.i.iY;have X:=mW H;have eg:∀ args w,(callFunc 195 args).run prog w= .ok (.enter 195 args) w:=enters_of func195 (by kernel_rfl) rfl;have KC:=fun W (hb:Below (w.alloc (.cells #[.int .i64 m.kind,.int .i64 m.ticket,.bool m.whole,.slice va vn vc,.slice fa fn fc,.slice za zn zc,.slice na nn nc,.slice ia im ic,.slice la ln lc] 46)).heap.size (w.alloc (.cells #[.int .i64 m.kind,.int .i64 m.ticket,.bool m.whole,.slice va vn vc,.slice fa fn fc,.slice za zn zc,.slice na nn nc,.slice ia im ic,.slice la ln lc] 46)) W)=>y9 (X.below hb).a.i hil (wR m) 195 #[.pointer (some ⟨w.heap.size,0,none⟩)] eg (fun W' d hb'=>Rp ((X.below hb).below hb') hnl d)
 have HR:yu m=(decide (m.items.length<=32768)&&(!m.items.any (wR m)&&decide (m.items=iG m.items))):=rfl;rw [HR]
 by_cases h1:(im:Int)<=32768
 rotate_left
 ·rw [aF (show ¬ m.items.length<=32768 by omega),bU]
  exact Jh (xs:=[]) (r:=true) h1 d2 d3
 rw [aI (show m.items.length<=32768 by omega),aS]
 cases h2:m.items.any (wR m) with
 |true=>exact Ji (xs:=[]) (r:=true) h1 (fun W hb=>h2▸KC W hb) d2 d3
 |false=>
  refine Jj (xs:=iG m.items) h1 (fun W hb=>h2▸KC W hb) (fun W hb=>vS (X.below hb).a.i hil hok) (fun W nv hb hs=>(EW (X.below hb).a.i hs).mono fun e w' ⟨h,q,hq⟩=>⟨h,hq▸below_drewN (aj _ _) q⟩) d2 d3
end Go.Proofs.YtfgcodcablpdcaaGreat
set_option maxRecDepth 100000
set_option maxHeartbeats 64000000
namespace Go.Proofs.YtfgcodcablpdcaaGreat
open Go.Proofs.Tryz
open Go.RowKit Plain
theorem Af{xs:List iE}:kG xs=true↔Zone xs:=by
 unfold kG;rw [aD,decide_eq_true_iff,decide_eq_true_iff,zone_iff]
theorem Vd{xs:List iE}(hl:xs.length<=8)(h:ru xs xs.length):kG xs=true:=Af.2 (UZ hl h)
theorem Rq{xs:List iE}{k:Nat}(hk:k<xs.length)(h:iK (xs.getD k [])=false):kG xs=false:=by
 cases e:kG xs with
 |false=>rfl
 |true=>
  have:=(Bd (Af.1 e)).2.1 k hk;rw [h] at this;exact absurd this (by decide)
theorem Rs{xs:List iE}{k:Nat}(hk:k+1<xs.length)(h:¬ xs.getD k []<xs.getD (k+1) []\/Gi (xs.getD (k+1) []) (xs.getD k [])=true):kG xs=false:=by
 cases e:kG xs with
 |false=>rfl
 |true=>
  have:=(Bd (Af.1 e)).2.2 (k+1) (by omega) hk;rw [Nat.add_sub_cancel] at this
  rcases h with h|h
  ·exact absurd this.1 h
  ·rw [h] at this
   exact absurd this.2 (by decide)
theorem Rt{xs:List iE}(hl:¬ xs.length<=8):kG xs=false:=by
 cases e:kG xs with
 |false=>rfl
 |true=>exact absurd (Bd (Af.1 e)).1 hl
theorem Jk{v:Value}{xs:List iE}{w:World}(hv:kD w v xs)(hn:xs.length<=1000000):
  Calls prog 121 #[v] w fun e w'=>e= .returned (.bool (kG xs))/\∃ q,w'=w.drewN q:=by
 obtain ⟨a,cap,rfl,g1,g2,g0,h⟩:=hv.parts;have HS:=zH h;have HY:=zH (Vd (xs:=xs));have HF:=zH (fun k hk h=>Rq (xs:=xs) (k:=k) hk h);have HN:=zH (fun k hk h=>Rs (xs:=xs) (k:=k) hk h);have HL:=zH (Rt (xs:=xs));have hm:maxLen=9223372036854775807:=rfl;rw [hm] at g2;clear hv h g0 hm;generalize kG xs=r at*
 by_cases hl:xs.length<=8
 ·have hd:((xs.length:Nat):Int)<=8:=by omega
  go_enter func121,ntmps121
  go_wp2_with fail
  go_loopw [3,4,10] (fun _ _ i wr=>∃ k:Nat,k<=xs.length/\i= .int .i64 k/\Aside (ru xs k)/\∃ q,wr=w.drewN q) (fun _ _ i _=>xs.length-(intOf i).toNat)
  case atStart=>exact ⟨0,aL _,rfl,NI xs,0,rfl⟩
  case round=>
   obtain ⟨k,hk,rfl,HR,q,rfl⟩:=hrel
   by_cases hlt:k<xs.length
   ·obtain ⟨b,o,c,hv,-,-,-,hc⟩:=HS.o.spot (by omega)
    simp only [aC] at hv
    obtain ⟨rfl,-,rfl⟩:=hv;have c1:=hc k hlt;unfold tv at c1;have KP:=zH (fun W=>EO (xs.getD k []) W)
    cases hp:iK (xs.getD k []) with
    |false=>
     obtain rfl:r=false:=HF.o k hlt hp;rw [hp] at KP;clear hc hp;generalize bt (xs.getD k [])=X at*;go_wp2_with fail
     refine (KP.o _).mono ?_;rintro e w' ⟨rfl,rfl⟩;go_wp2_with fail
     go_ret
     exact ⟨rfl,_,rfl⟩
    |true=>
     rw [hp] at KP
     by_cases h0:0<k
     ·obtain ⟨p,rfl⟩:∃ p,k=p+1:=⟨k-1,by omega⟩
      have c2:=hc p (by omega);unfold tv at c2;have KH:=zH (fun W=>Iz (xs.getD (p+1) []) (xs.getD p []) W);have t1:=text_lt (xs.getD p []) (xs.getD (p+1) []);have EZ:=zH (fun h=>Cu HR.out hp (fun _=>by rw [Nat.add_sub_cancel];exact h));have HNR:=zH (HN.o p hlt);have q1:(0:Int)<(p:Int)+1:=by omega
      have q2:(0:Int)<((p+1:Nat):Int):=by omega
      clear hc hp h0
      by_cases hlt2:xs.getD p []<xs.getD (p+1) []
      ·rw [aI hlt2] at t1
       cases hb:Gi (xs.getD (p+1) []) (xs.getD p []) with
       |true=>
        obtain rfl:r=false:=HNR.o (.inr hb);rw [hb] at KH;clear hlt2 hb EZ HNR;generalize bt (xs.getD p [])=Y at*;generalize bt (xs.getD (p+1) [])=X at*;go_wp2_with fail
        refine (KP.o _).mono ?_;rintro e w' ⟨rfl,rfl⟩;go_wp2_with fail
        refine (KH.o _).mono ?_;rintro e w2 ⟨rfl,rfl⟩;go_wp2_with fail
        go_ret
        exact ⟨rfl,_,rfl⟩
       |false=>
        have HR2:Hid (ru xs (p+1+1)):=zH (EZ.o ⟨hlt2,hb⟩);rw [hb] at KH;clear hlt2 hb EZ HNR;generalize bt (xs.getD p [])=Y at*;generalize bt (xs.getD (p+1) [])=X at*;go_wp2_with fail
        refine (KP.o _).mono ?_;rintro e w' ⟨rfl,rfl⟩;go_wp2_with fail
        refine (KH.o _).mono ?_;rintro e w2 ⟨rfl,rfl⟩;go_wp2_with fail
        go_roundw
        case rel=>exact ⟨p+1+1,by omega,by go_num,HR2.o,_,rfl⟩
        case measure=>simp [intOf];omega
      ·rw [aF hlt2] at t1
       obtain rfl:r=false:=HNR.o (.inl hlt2);clear hlt2 EZ HNR KH;generalize bt (xs.getD p [])=Y at*;generalize bt (xs.getD (p+1) [])=X at*;go_wp2_with fail
       refine (KP.o _).mono ?_;rintro e w' ⟨rfl,rfl⟩;go_wp2_with fail
       go_ret
       exact ⟨rfl,_,rfl⟩
     ·obtain rfl:k=0:=by omega
      rw [fF] at c1;have HR2:Hid (ru xs (0+1)):=zH (Cu HR.out hp (fun h=>absurd h h0));clear hc hp h0;generalize bt (xs.getD 0 [])=X at*;go_wp2_with fail
      refine (KP.o _).mono ?_;rintro e w' ⟨rfl,rfl⟩;go_wp2_with fail
      go_roundw
      case rel=>exact ⟨0+1,by omega,by go_num,HR2.o,_,rfl⟩
      case measure=>simp [intOf];omega
   ·obtain rfl:k=xs.length:=by omega
    obtain rfl:r=true:=HY.o hl HR.out;go_wp2_with fail
    go_ret
    exact ⟨rfl,_,rfl⟩
 ·obtain rfl:r=false:=HL.o hl
  have hd:¬ ((xs.length:Nat):Int)<=8:=by omega
  have hd2:(8:Int)<((xs.length:Nat):Int):=by omega
  go_enter func121,ntmps121
  go_wp2_with fail
  go_ret
  exact ⟨rfl,0,rfl⟩
end Go.Proofs.YtfgcodcablpdcaaGreat
set_option maxRecDepth 100000
set_option maxHeartbeats 64000000
namespace Go.Proofs.YtfgcodcablpdcaaGreat
open Go.Proofs.Tryz
open Go.RowKit Plain
structure yB(m:gu):Prop where
 v:m.vec.length<=1000000
 f:m.from_.length<=1000000
 z:m.zone.length<=1000000
 n:m.want.length<=1000000
 il:m.items.length<=1000000
 i:∀ x∈m.items,jf x.dot
 tl:m.fU.length<=1000000
 t:∀ t∈m.fU,lJ t
theorem Rm{v:Value}{m:gu}{w:World}(hv:pE w v m)(hf:yB m)(r:Bool)(hr:fV m=r):Calls prog 54 #[v] w (fO w r):=by
 obtain ⟨va,vn,vc,fa,fn,fc,za,zn,zc,na,nn,nc,ia,im,ic,la,ln,lc,rfl,H⟩:=hv.slices;have G0:=zH (zB w (.cells #[.int .i64 m.kind,.int .i64 m.ticket,.bool m.whole,.slice va vn vc,.slice fa fn fc,.slice za zn zc,.slice na nn nc,.slice ia im ic,.slice la ln lc] 46));have X:=zH (mW H);have P:=zH (prgR hr);have HF:=zH hf;clear hv H hf hr;go_enter func54,ntmps54
 go_upto_region 1 with fail
 generalize (w.alloc _)=w0 at*;have HC:=zH (fun u (hb:Below w0.heap.size w0 u)=>(X.o.below hb).c);have GB0:=zH (aj w0.heap.size w0);have K1:=zH (msaysNo X.o.is);have K2:=zH (fun u (hb:Below w0.heap.size w0 u)=>misVec (gW (X.o.below hb).a.v) HF.o.v);have K3:=zH (fun u (hb:Below w0.heap.size w0 u)=>misVec (gW (X.o.below hb).a.f) HF.o.f);have K4:=zH (fun u (hb:Below w0.heap.size w0 u)=>(Jk (X.o.below hb).a.z HF.o.z).mono (R':=fO u (kG m.zone)) fun e w' ⟨h,q,hq⟩=>⟨h,hq▸below_drewN (aj _ _) q⟩);have K5:=zH (fun u (hb:Below w0.heap.size w0 u)=>(Jk (X.o.below hb).a.n HF.o.n).mono (R':=fO u (kG m.want)) fun e w' ⟨h,q,hq⟩=>⟨h,hq▸below_drewN (aj _ _) q⟩);have K6:=zH (fun u (hb:Below w0.heap.size w0 u)=>YV (X.o.below hb).is HF.o.il HF.o.i HF.o.n);have K7:=zH (fun u (hb:Below w0.heap.size w0 u)=>mareTxns (X.o.below hb).a.l HF.o.tl HF.o.t);have K8:=zH (fun u (hb:Below w0.heap.size w0 u)=>mleadsOn (X.o.below hb).is HF.o.t HF.o.tl HF.o.v HF.o.f HF.o.n);have PL:=zH P.o.last;have PU:=zH P.o.uses;have PV:=zH P.o.vec;have PF:=zH P.o.from_;have PZ:=zH P.o.zone;have PN:=zH P.o.want;have PI:=zH P.o.items;have PT:=zH P.o.fU;have P0:=zH P.o.t0;have P1:=zH P.o.t1;clear P;generalize oo m=b1 at*;generalize tJ m.vec=b2 at*;generalize tJ m.from_=b3 at*;generalize kG m.zone=b4 at*;generalize kG m.want=b5 at*;generalize yu m=b6 at*;generalize BM m.fU=b7 at*;generalize yw m=b8 at*;obtain ⟨c0,c1,c2,c3,c4,c5,c6,c7,c8⟩:=HC.o w0 GB0.o
 cases b1 with
 |false=>
  obtain rfl:r=false:=PU.o (by trivial);go_wp2_with fail
  refine K1.o.mono ?_;rintro e w1 ⟨rfl,hb⟩;have GB1:=zH (GB0.o.trans (hb.mono GB0.o.size));clear hb c0 c1 c2 c3 c4 c5 c6 c7 c8;go_wp2_with fail
  go_ret
  exact ⟨rfl,G0.o.trans (GB1.o.mono G0.o.size)⟩
 |true=>
  go_wp2_with fail
  refine K1.o.mono ?_;rintro e w1 ⟨rfl,hb⟩;have GB1:=zH (GB0.o.trans (hb.mono GB0.o.size));clear hb c0 c1 c2 c3 c4 c5 c6 c7 c8;obtain ⟨c0,c1,c2,c3,c4,c5,c6,c7,c8⟩:=HC.o w1 GB1.o
  by_cases t0:0<=m.ticket
  rotate_left
  ·obtain rfl:r=false:=P0.o (by omega)
   go_wp2_with fail
   go_ret
   exact ⟨rfl,G0.o.trans (GB1.o.mono G0.o.size)⟩
  by_cases t1:m.ticket<=1073741824
  rotate_left
  ·obtain rfl:r=false:=P1.o (by omega)
   go_wp2_with fail
   go_ret
   exact ⟨rfl,G0.o.trans (GB1.o.mono G0.o.size)⟩
  cases b2 with
  |false=>
   obtain rfl:r=false:=PV.o (by trivial);go_wp2_with fail
   refine (K2.o _ GB1.o).mono ?_;rintro e w2 ⟨rfl,hb⟩;have GB2:=zH (GB1.o.trans (hb.mono GB1.o.size));clear hb c0 c1 c2 c3 c4 c5 c6 c7 c8;go_wp2_with fail
   go_ret
   exact ⟨rfl,G0.o.trans (GB2.o.mono G0.o.size)⟩
  |true=>
   go_wp2_with fail
   refine (K2.o _ GB1.o).mono ?_;rintro e w2 ⟨rfl,hb⟩;have GB2:=zH (GB1.o.trans (hb.mono GB1.o.size));clear hb c0 c1 c2 c3 c4 c5 c6 c7 c8;obtain ⟨c0,c1,c2,c3,c4,c5,c6,c7,c8⟩:=HC.o w2 GB2.o
   cases b3 with
   |false=>
    obtain rfl:r=false:=PF.o (by trivial);go_wp2_with fail
    refine (K3.o _ GB2.o).mono ?_;rintro e w3 ⟨rfl,hb⟩;have Ve:=zH (GB2.o.trans (hb.mono GB2.o.size));clear hb c0 c1 c2 c3 c4 c5 c6 c7 c8;go_wp2_with fail
    go_ret
    exact ⟨rfl,G0.o.trans (Ve.o.mono G0.o.size)⟩
   |true=>
    go_wp2_with fail
    refine (K3.o _ GB2.o).mono ?_;rintro e w3 ⟨rfl,hb⟩;have Ve:=zH (GB2.o.trans (hb.mono GB2.o.size));clear hb c0 c1 c2 c3 c4 c5 c6 c7 c8;obtain ⟨c0,c1,c2,c3,c4,c5,c6,c7,c8⟩:=HC.o w3 Ve.o
    cases b4 with
    |false=>
     obtain rfl:r=false:=PZ.o (by trivial);go_wp2_with fail
     refine (K4.o _ Ve.o).mono ?_;rintro e w4 ⟨rfl,hb⟩;have GB4:=zH (Ve.o.trans (hb.mono Ve.o.size));clear hb c0 c1 c2 c3 c4 c5 c6 c7 c8;go_wp2_with fail
     go_ret
     exact ⟨rfl,G0.o.trans (GB4.o.mono G0.o.size)⟩
    |true=>
     go_wp2_with fail
     refine (K4.o _ Ve.o).mono ?_;rintro e w4 ⟨rfl,hb⟩;have GB4:=zH (Ve.o.trans (hb.mono Ve.o.size));clear hb c0 c1 c2 c3 c4 c5 c6 c7 c8;obtain ⟨c0,c1,c2,c3,c4,c5,c6,c7,c8⟩:=HC.o w4 GB4.o
     cases b5 with
     |false=>
      obtain rfl:r=false:=PN.o (by trivial);go_wp2_with fail
      refine (K5.o _ GB4.o).mono ?_;rintro e w5 ⟨rfl,hb⟩;have GB5:=zH (GB4.o.trans (hb.mono GB4.o.size));clear hb c0 c1 c2 c3 c4 c5 c6 c7 c8;go_wp2_with fail
      go_ret
      exact ⟨rfl,G0.o.trans (GB5.o.mono G0.o.size)⟩
     |true=>
      go_wp2_with fail
      refine (K5.o _ GB4.o).mono ?_;rintro e w5 ⟨rfl,hb⟩;have GB5:=zH (GB4.o.trans (hb.mono GB4.o.size));clear hb c0 c1 c2 c3 c4 c5 c6 c7 c8;obtain ⟨c0,c1,c2,c3,c4,c5,c6,c7,c8⟩:=HC.o w5 GB5.o
      cases b6 with
      |false=>
       obtain rfl:r=false:=PI.o (by trivial);go_wp2_with fail
       refine (K6.o _ GB5.o).mono ?_;rintro e w6 ⟨rfl,hb⟩;have GB6:=zH (GB5.o.trans (hb.mono GB5.o.size));clear hb c0 c1 c2 c3 c4 c5 c6 c7 c8;go_wp2_with fail
       go_ret
       exact ⟨rfl,G0.o.trans (GB6.o.mono G0.o.size)⟩
      |true=>
       go_wp2_with fail
       refine (K6.o _ GB5.o).mono ?_;rintro e w6 ⟨rfl,hb⟩;have GB6:=zH (GB5.o.trans (hb.mono GB5.o.size));clear hb c0 c1 c2 c3 c4 c5 c6 c7 c8;obtain ⟨c0,c1,c2,c3,c4,c5,c6,c7,c8⟩:=HC.o w6 GB6.o
       cases b7 with
       |false=>
        obtain rfl:r=false:=PT.o (by trivial);go_wp2_with fail
        refine (K7.o _ GB6.o).mono ?_;rintro e w7 ⟨rfl,hb⟩;have GB7:=zH (GB6.o.trans (hb.mono GB6.o.size));clear hb c0 c1 c2 c3 c4 c5 c6 c7 c8;go_wp2_with fail
        go_ret
        exact ⟨rfl,G0.o.trans (GB7.o.mono G0.o.size)⟩
       |true=>
        go_wp2_with fail
        refine (K7.o _ GB6.o).mono ?_;rintro e w7 ⟨rfl,hb⟩;have GB7:=zH (GB6.o.trans (hb.mono GB6.o.size));clear hb c0 c1 c2 c3 c4 c5 c6 c7 c8;obtain ⟨c0,c1,c2,c3,c4,c5,c6,c7,c8⟩:=HC.o w7 GB7.o;have HR:=zH (PL.o (by trivial) (by omega) (by omega) (by trivial) (by trivial) (by trivial) (by trivial) (by trivial) (by trivial))
        by_cases k4:m.kind=4
        rotate_left
        ·have e4:(m.kind !=4)=true:=bne_iff_ne.2 k4
         obtain rfl:r=true:=by rw [HR.o,aF k4];rfl
         clear k4;go_wp2_with fail
         go_ret
         exact ⟨rfl,G0.o.trans (GB7.o.mono G0.o.size)⟩
        have e4:(m.kind !=4)=false:=by rw [k4];rfl
        obtain rfl:r=b8:=by rw [HR.o,aI k4];rfl
        clear k4;go_wp2_with fail
        refine (K8.o _ GB7.o).mono ?_;rintro e w8 ⟨rfl,hb⟩;have GB8:=zH (GB7.o.trans (hb.mono GB7.o.size));clear hb c0 c1 c2 c3 c4 c5 c6 c7 c8;go_wp2_with fail
        go_ret
        exact ⟨rfl,G0.o.trans (GB8.o.mono G0.o.size)⟩
end Go.Proofs.YtfgcodcablpdcaaGreat
set_option maxRecDepth 100000
set_option maxHeartbeats 64000000
namespace Go.Proofs.YtfgcodcablpdcaaGreat
open Go.Proofs.Tryz
open Go.RowKit Plain
theorem Vf{m:gu}(h:Bz.ok m):yB m:=by
 obtain ⟨⟨h1,h2,h3,⟨v1,v2⟩,⟨f1,f2⟩,⟨z1,z2⟩,⟨n1,n2⟩,⟨i1,i2⟩,⟨t1,t2⟩⟩,-⟩:=h;refine ⟨ak v1 (by decide),ak f1 (by decide),ak z1 (by decide),ak n1 (by decide),ak i1 (by decide),fun x hx=> ?_,ak t1 (by decide),fun t ht=>Vg (t2 t ht)⟩;obtain ⟨⟨-,-,-,-,-,k⟩,-⟩:=i2 x hx;exact Ru k
theorem vMs.is{B:Nat}{W:World}{v:Value}{m:gu}(h:vMs B W v m):pE W v m:=by
 obtain ⟨va,vn,vc,fa,fn,fc,za,zn,zc,na,nn,nc,ia,im,ic,la,ln,lc,rfl,h1,h2,h3,h4,h5,h6⟩:=h;exact ⟨_,_,_,_,_,_,rfl,h1.seq,h2.seq,WU h3.seq,WU h4.seq,h5.seq,h6.own.seq⟩
theorem vMs.below{B:Nat}{W W':World}{v:Value}{m:gu}(h:vMs B W v m)(hb:Below W.heap.size W W'):vMs B W' v m:=by
 obtain ⟨va,vn,vc,fa,fn,fc,za,zn,zc,na,nn,nc,ia,im,ic,la,ln,lc,rfl,h1,h2,h3,h4,h5,h6⟩:=h;exact ⟨_,_,_,_,_,_,_,_,_,_,_,_,_,_,_,_,_,_,rfl,h1.below hb (ah _),h2.below hb (ah _),h3.below hb (ah _),h4.below hb (ah _),h5.below hb (ah _),h6.below hb (ah _)⟩
theorem vMs.but{B g:Nat}{W W':World}{v:Value}{m:gu}(h:vMs B W v m)(hb:But g W W')(hg:g<B):vMs B W' v m:=by
 obtain ⟨va,vn,vc,fa,fn,fc,za,zn,zc,na,nn,nc,ia,im,ic,la,ln,lc,rfl,h1,h2,h3,h4,h5,h6⟩:=h;exact ⟨_,_,_,_,_,_,_,_,_,_,_,_,_,_,_,_,_,_,rfl,h1.but gU hb hg,h2.but gU hb hg,h3.but nT hb hg,h4.but nT hb hg,h5.but jR hb hg,h6.but hb hg fun b hb e=>by omega⟩
def Vh(w:World)(res:Option gu)(e:Ending)(w':World):Prop:=match res with
 |some m=>∃ v,e= .returned (.tuple #[v,.int .i64 0])/\pE w' v m/\Below w.heap.size w w'
 |none=>e= .returned (.tuple #[.agg #[.int .i64 0,.int .i64 0,.bool false,.slice none 0 0,.slice none 0 0,.slice none 0 0,.slice none 0 0,.slice none 0 0,.slice none 0 0],.int .i64 2])/\Below w.heap.size w w'
theorem Uj{b:Value}{bs:Bytes}{w:World}(hb:By.Seq w b bs)(hl:bs.length<=500000000)(res:Option gu)(hr:xO bs=res):Calls prog 33 #[b] w (Vh w res):=by
 obtain ⟨ba,bn,bc,rfl,hbn,g1,g2,hs⟩:=uL hb;have hbA:Below w.heap.size w (w.alloc (.cells #[.int .i64 0,.int .i64 0,.bool false,.slice none 0 0,.slice none 0 0,.slice none 0 0,.slice none 0 0,.slice none 0 0,.slice none 0 0] 46)):=(aj _ _).alloc (ah _) _;have hbB:Below w.heap.size w ((w.alloc (.cells #[.int .i64 0,.int .i64 0,.bool false,.slice none 0 0,.slice none 0 0,.slice none 0 0,.slice none 0 0,.slice none 0 0,.slice none 0 0] 46)).alloc (.cells #[.slice ba bn bc,.bool false] 134)):=hbA.alloc hbA.size _;have hbC:Below (w.heap.size+1) (w.alloc (.cells #[.int .i64 0,.int .i64 0,.bool false,.slice none 0 0,.slice none 0 0,.slice none 0 0,.slice none 0 0,.slice none 0 0,.slice none 0 0] 46)) ((w.alloc (.cells #[.int .i64 0,.int .i64 0,.bool false,.slice none 0 0,.slice none 0 0,.slice none 0 0,.slice none 0 0,.slice none 0 0,.slice none 0 0] 46)).alloc (.cells #[.slice ba bn bc,.bool false] 134)):=(aj _ _).alloc (by simp) _;have hX:iV ((w.alloc (.cells #[.int .i64 0,.int .i64 0,.bool false,.slice none 0 0,.slice none 0 0,.slice none 0 0,.slice none 0 0,.slice none 0 0,.slice none 0 0] 46)).alloc (.cells #[.slice ba bn bc,.bool false] 134)) (w.heap.size+1) (bs,false):=by
  refine ⟨ba,bc,?_,?_,fun hp ad he=> ?_⟩
  ·have h:=aM (w.alloc (.cells #[.int .i64 0,.int .i64 0,.bool false,.slice none 0 0,.slice none 0 0,.slice none 0 0,.slice none 0 0,.slice none 0 0,.slice none 0 0] 46)) (.cells #[.slice ba bn bc,.bool false] 134)
   rw [show (w.alloc (.cells #[.int .i64 0,.int .i64 0,.bool false,.slice none 0 0,.slice none 0 0,.slice none 0 0,.slice none 0 0,.slice none 0 0,.slice none 0 0] 46)).heap.size=w.heap.size+1 by simp] at h
   show _=some (mrb ba bs.length bc false)
   rw [<-hbn];exact h
  ·show By.Seq _ (.slice ba bs.length bc) bs
   rw [<-hbn];exact hs.below hbB
  ·obtain ⟨b',o',c',hv,-,-,-,hc⟩:=hs.spot hp
   simp only [aC] at hv
   rw [hv.1] at he
   cases he
   have:=aG w _ (hc 0 hp)
   show b'<w.heap.size+1
   change b'<w.heap.size at this;omega
 have KT:=zH (mmsg_any hX hl);have RZ:Hid (((w.alloc (.cells #[.int .i64 0,.int .i64 0,.bool false,.slice none 0 0,.slice none 0 0,.slice none 0 0,.slice none 0 0,.slice none 0 0,.slice none 0 0] 46)).alloc (.cells #[.slice ba bn bc,.bool false] 134)).heap[w.heap.size]? =some (.cells #[.int .i64 0,.int .i64 0,.bool false,.slice none 0 0,.slice none 0 0,.slice none 0 0,.slice none 0 0,.slice none 0 0,.slice none 0 0] 46 (0,0))):=zH ((hbC.block w.heap.size (by omega)).trans (aM w _));have ZA:Hid (((w.alloc (.cells #[.int .i64 0,.int .i64 0,.bool false,.slice none 0 0,.slice none 0 0,.slice none 0 0,.slice none 0 0,.slice none 0 0,.slice none 0 0] 46)).alloc (.cells #[.slice ba bn bc,.bool false] 134)).heap.size=w.heap.size+2):=zH (by simp);have GA:=zH hbB;have HB:=zH (fun h=>YD (b:=bs) h);have HD:=zH (fun h=>U2 (b:=bs) h);rw [hr] at HB HD;have HBL:Hid ((yX (bs,false)).2.1.length<=500000000):=zH (ak (shrb_msg (bs,false)) hl);clear hb hl hs hX hbA hbB hbC hr hbn;generalize yX (bs,false)=q at*;obtain ⟨x,rest,k⟩:=q;go_enter func33,ntmps33
 go_upto_region 2 with fail
 generalize ((w.alloc _).alloc _)=wa at*;go_wp2_with fail
 refine KT.o.mono ?_;rintro e w1 ⟨v,rfl,⟨va,vn,vc,fa,fn,fc,za,zn,zc,na,nn,nc,ia,im,ic,la,ln,lc,rfl,o1,o2,o3,o4,o5,o6⟩,hx,hbt⟩;have RZ1:=zH ((hbt.block w.heap.size (by rw [ZA.o];omega) (by omega)).trans RZ.o);have GB:=zH (GA.o.trans (hbt.below.mono (by omega)));have Z1:Hid (w.heap.size+2<=w1.heap.size):=zH (by have:=hbt.size;rw [ZA.o] at this;exact this);have hba:=zB w1 (.cells #[.int .i64 x.kind,.int .i64 x.ticket,.bool x.whole,.slice va vn vc,.slice fa fn fc,.slice za zn zc,.slice na nn nc,.slice ia im ic,.slice la ln lc] 46);have M1:vMs (w.heap.size+2) w1 (.agg #[.int .i64 x.kind,.int .i64 x.ticket,.bool x.whole,.slice va vn vc,.slice fa fn fc,.slice za zn zc,.slice na nn nc,.slice ia im ic,.slice la ln lc]) x:=by
  rw [ZA.o] at o1 o2 o3 o4 o5 o6;exact ⟨_,_,_,_,_,_,_,_,_,_,_,_,_,_,_,_,_,_,rfl,o1,o2,o3,o4,o5,o6⟩
 have M2:=zH (M1.below hba);have X2:=zH (hx.below hba);have RZ2:=zH ((hba.block w.heap.size (by have:=Z1.o;omega)).trans RZ1.o);have G2:Hid (Below w.heap.size w (w1.alloc (.cells #[.int .i64 x.kind,.int .i64 x.ticket,.bool x.whole,.slice va vn vc,.slice fa fn fc,.slice za zn zc,.slice na nn nc,.slice ia im ic,.slice la ln lc] 46))):=zH (GB.o.alloc GB.o.size _);have Z2:Hid (w.heap.size+2<=(w1.alloc (.cells #[.int .i64 x.kind,.int .i64 x.ticket,.bool x.whole,.slice va vn vc,.slice fa fn fc,.slice za zn zc,.slice na nn nc,.slice ia im ic,.slice la ln lc] 46)).heap.size):=zH (by have:=Z1.o;simp;omega);have T2:Hid ((w1.alloc (.cells #[.int .i64 x.kind,.int .i64 x.ticket,.bool x.whole,.slice va vn vc,.slice fa fn fc,.slice za zn zc,.slice na nn nc,.slice ia im ic,.slice la ln lc] 46)).heap[w1.heap.size]? =some (.cells #[.int .i64 x.kind,.int .i64 x.ticket,.bool x.whole,.slice va vn vc,.slice fa fn fc,.slice za zn zc,.slice na nn nc,.slice ia im ic,.slice la ln lc] 46 (0,0))):=zH (aM _ _);have ZT:Hid (w1.heap.size<(w1.alloc (.cells #[.int .i64 x.kind,.int .i64 x.ticket,.bool x.whole,.slice va vn vc,.slice fa fn fc,.slice za zn zc,.slice na nn nc,.slice ia im ic,.slice la ln lc] 46)).heap.size):=zH (by simp);have HTB:Hid (w1.heap.size≠w.heap.size):=zH (by have:=Z1.o;omega);clear o1 o2 o3 o4 o5 o6 hx hbt hba M1 KT RZ1 GB RZ;go_upto_region 3 with fail
 generalize (w1.alloc _)=w2 at*;generalize w1.heap.size=tb at*;obtain ⟨ra,rn,rc,hrn,r1,r2,r0,hrh,hrs,-⟩:=X2.o.parts;obtain ⟨x0,x1,-,-⟩:=jE hrh;change rn=rest.length at hrn;change w2.cell? ⟨w.heap.size+1,1,none⟩=some (.bool k) at x1;have HRN:=zH hrn;clear hrs hrn hrh r0
 cases k with
 |true=>
  obtain rfl:res=none:=HB.o rfl;obtain ⟨⟨y0,y1,y2,y3,y4,y5,y6,y7,y8⟩,f0,f1,f2,f3,f4,f5,f6,f7,f8⟩:=rz RZ2.o;have FC:=zH (rz (wm (v0:= .int .i64 0) (v1:= .int .i64 0) (v2:= .bool false) (v3:= .slice none 0 0) (v4:= .slice none 0 0) (v5:= .slice none 0 0) (v6:= .slice none 0 0) (v7:= .slice none 0 0) (v8:= .slice none 0 0) RZ2.o)).1;have FB:=zH (Ad (v0:= .int .i64 0) (v1:= .int .i64 0) (v2:= .bool false) (v3:= .slice none 0 0) (v4:= .slice none 0 0) (v5:= .slice none 0 0) (v6:= .slice none 0 0) (v7:= .slice none 0 0) (v8:= .slice none 0 0) G2.o (ah w.heap.size));unfold ts9 at FC FB;go_wp2_with fail
  obtain ⟨z0,z1,z2,z3,z4,z5,z6,z7,z8⟩:=FC.o;refine bodyPost_ret (v:= .tuple #[.agg #[.int .i64 0,.int .i64 0,.bool false,.slice none 0 0,.slice none 0 0,.slice none 0 0,.slice none 0 0,.slice none 0 0,.slice none 0 0],.int .i64 2]) (by simp [results,results33,go_sem,z0,z1,z2,z3,z4,z5,z6,z7,z8]) rfl ?_;exact ⟨rfl,FB.o⟩
 |false=>
  obtain ⟨hok,hres⟩:=HD.o rfl
  by_cases hn:0<rn
  ·have hne:¬ (rest=[]/\fV x=true):=fun h=>by have:=HRN.o;rw [h.1] at this;simp at this;omega
   rw [if_neg hne] at hres;obtain rfl:res=none:=hres;have hn2:(0:Int)<(rn:Int):=by omega
   clear hne hok;obtain ⟨⟨y0,y1,y2,y3,y4,y5,y6,y7,y8⟩,f0,f1,f2,f3,f4,f5,f6,f7,f8⟩:=rz RZ2.o;have FC:=zH (rz (wm (v0:= .int .i64 0) (v1:= .int .i64 0) (v2:= .bool false) (v3:= .slice none 0 0) (v4:= .slice none 0 0) (v5:= .slice none 0 0) (v6:= .slice none 0 0) (v7:= .slice none 0 0) (v8:= .slice none 0 0) RZ2.o)).1;have FB:=zH (Ad (v0:= .int .i64 0) (v1:= .int .i64 0) (v2:= .bool false) (v3:= .slice none 0 0) (v4:= .slice none 0 0) (v5:= .slice none 0 0) (v6:= .slice none 0 0) (v7:= .slice none 0 0) (v8:= .slice none 0 0) G2.o (ah w.heap.size));unfold ts9 at FC FB;go_wp2_with fail
   obtain ⟨z0,z1,z2,z3,z4,z5,z6,z7,z8⟩:=FC.o;refine bodyPost_ret (v:= .tuple #[.agg #[.int .i64 0,.int .i64 0,.bool false,.slice none 0 0,.slice none 0 0,.slice none 0 0,.slice none 0 0,.slice none 0 0,.slice none 0 0],.int .i64 2]) (by simp [results,results33,go_sem,z0,z1,z2,z3,z4,z5,z6,z7,z8]) rfl ?_;exact ⟨rfl,FB.o⟩
  ·have hn2:¬ (0:Int)<(rn:Int):=by omega
   have hre:rest=[]:=aK (by have:=HRN.o;omega);have FX:=Vf hok;have KF:=zH (Rm M2.o.is FX _ rfl);have Vi:Hid (res=if fV x=true then some x else none):=zH (by rw [hres];simp [hre]);obtain ⟨t0,t1,t2,t3,t4,t5,t6,t7,t8⟩:=jD T2.o;clear hok hres hre HB HD;generalize fV x=r at*
   cases r with
   |false=>
    obtain rfl:res=none:=Vi.o;go_wp2_with fail
    refine KF.o.mono ?_;rintro e w3 ⟨rfl,hb3⟩;have RZ3:=zH ((hb3.block w.heap.size (by have:=Z2.o;omega)).trans RZ2.o);have G3:=zH (G2.o.trans (hb3.mono G2.o.size));clear hb3 KF t0 t1 t2 t3 t4 t5 t6 t7 t8 x0 x1;obtain ⟨⟨y0,y1,y2,y3,y4,y5,y6,y7,y8⟩,f0,f1,f2,f3,f4,f5,f6,f7,f8⟩:=rz RZ3.o;have FC:=zH (rz (wm (v0:= .int .i64 0) (v1:= .int .i64 0) (v2:= .bool false) (v3:= .slice none 0 0) (v4:= .slice none 0 0) (v5:= .slice none 0 0) (v6:= .slice none 0 0) (v7:= .slice none 0 0) (v8:= .slice none 0 0) RZ3.o)).1;have FB:=zH (Ad (v0:= .int .i64 0) (v1:= .int .i64 0) (v2:= .bool false) (v3:= .slice none 0 0) (v4:= .slice none 0 0) (v5:= .slice none 0 0) (v6:= .slice none 0 0) (v7:= .slice none 0 0) (v8:= .slice none 0 0) G3.o (ah w.heap.size));unfold ts9 at FC FB;go_wp2_with fail
    obtain ⟨z0,z1,z2,z3,z4,z5,z6,z7,z8⟩:=FC.o;refine bodyPost_ret (v:= .tuple #[.agg #[.int .i64 0,.int .i64 0,.bool false,.slice none 0 0,.slice none 0 0,.slice none 0 0,.slice none 0 0,.slice none 0 0,.slice none 0 0],.int .i64 2]) (by simp [results,results33,go_sem,z0,z1,z2,z3,z4,z5,z6,z7,z8]) rfl ?_;exact ⟨rfl,FB.o⟩
   |true=>
    obtain rfl:res=some x:=Vi.o;go_wp2_with fail
    refine KF.o.mono ?_;rintro e w3 ⟨rfl,hb3⟩;have RZ3:=zH ((hb3.block w.heap.size (by have:=Z2.o;omega)).trans RZ2.o);have T3:=zH ((hb3.block tb ZT.o).trans T2.o);have G3:=zH (G2.o.trans (hb3.mono G2.o.size));have M3:=zH (M2.o.below hb3);clear hb3 KF t0 t1 t2 t3 t4 t5 t6 t7 t8 x0 x1;obtain ⟨t0,t1,t2,t3,t4,t5,t6,t7,t8⟩:=jD T3.o;obtain ⟨⟨y0,y1,y2,y3,y4,y5,y6,y7,y8⟩,f0,f1,f2,f3,f4,f5,f6,f7,f8⟩:=rz RZ3.o;have FC:=zH (rz (wm (v0:= .int .i64 x.kind) (v1:= .int .i64 x.ticket) (v2:= .bool x.whole) (v3:= .slice va vn vc) (v4:= .slice fa fn fc) (v5:= .slice za zn zc) (v6:= .slice na nn nc) (v7:= .slice ia im ic) (v8:= .slice la ln lc) RZ3.o)).1;have FB:=zH (Ad (v0:= .int .i64 x.kind) (v1:= .int .i64 x.ticket) (v2:= .bool x.whole) (v3:= .slice va vn vc) (v4:= .slice fa fn fc) (v5:= .slice za zn zc) (v6:= .slice na nn nc) (v7:= .slice ia im ic) (v8:= .slice la ln lc) G3.o (ah w.heap.size));have FV:=zH ((M3.o.but (Jf w3 w.heap.size (.int .i64 x.kind) (.int .i64 x.ticket) (.bool x.whole) (.slice va vn vc) (.slice fa fn fc) (.slice za zn zc) (.slice na nn nc) (.slice ia im ic) (.slice la ln lc)) (by omega)).is);unfold ts9 at FC FB FV;go_wp2_with fail
    obtain ⟨z0,z1,z2,z3,z4,z5,z6,z7,z8⟩:=FC.o;refine bodyPost_ret (v:= .tuple #[.agg #[.int .i64 x.kind,.int .i64 x.ticket,.bool x.whole,.slice va vn vc,.slice fa fn fc,.slice za zn zc,.slice na nn nc,.slice ia im ic,.slice la ln lc],.int .i64 0]) (by simp [results,results33,go_sem,z0,z1,z2,z3,z4,z5,z6,z7,z8]) rfl ?_;exact ⟨_,rfl,FV.o,FB.o⟩
end Go.Proofs.YtfgcodcablpdcaaGreat