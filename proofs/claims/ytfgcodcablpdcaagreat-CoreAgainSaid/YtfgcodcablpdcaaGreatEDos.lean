import Derived.Test.YtfgcodcablpdcaaGreatEForms
set_option linter.unusedVariables false
set_option maxRecDepth 100000
set_option maxHeartbeats 64000000
namespace Go.Proofs.YtfgcodcablpdcaaGreat
open Go.Proofs.Tryz
open Go.RowKit Plain Go.Maps
theorem Yd(node seq:Int){v:Value}{l:List gD}{w:World}(hv:fM jo w v l)(hn:l.length<=1000)(hd:∀ e∈l,e.drops.length<=1000)(hok:∀ e∈l,jf ⟨node,seq,e.pos⟩/\∀ d∈e.drops,jf d):
  Calls prog 287 #[.int .i64 node,.int .i64 seq,v] w (vQ gG w (mleft node seq l)):=by
 have Tt:=zH (fun k hk=>hd _ (rR (l:=l) (k:=k) hk));have HDK:=zH (fun k hk=>(hok _ (rR (l:=l) (k:=k) hk)).1);have HDS:=zH (fun k hk (j:Nat) (hj:j<(l.getD k default).drops.length)=>(hok _ (rR (l:=l) (k:=k) hk)).2 _ (mem_def hj));have HAL:Hid (∀ k,(j4 (l.drop k)).length<=1000000):=zH (fun k=>by
  have h1:=Il (m:=1000) (l:=l.drop k) fun e he=>hd e (List.mem_of_mem_drop he)
  have h2:(l.drop k).length<=1000:=by rw [bB];omega
  have h3:=bN 1000 h2;omega)
 have HLL:Hid (∀ k,(mleft node seq (l.drop k)).length<=1000):=zH (fun k=>by
  have h1:=Dx node seq (l.drop k);rw [bB] at h1;omega)
 have HDC:=zH (fun k hk=>drop_cons (l:=l) (k:=k) hk);obtain ⟨a,cap,rfl,g1,g2,g0,h⟩:=hv.parts;have HS:=zH h;clear hv h g0 hd hok;obtain ⟨n,hN⟩:∃ n,l.length=n:=⟨_,rfl⟩;rw [hN] at g1 hn HS Tt HDK HDS HDC ⊢;have LN:=zH hN;have HD0:Hid (l.drop n=[]):=zH (List.drop_eq_nil_of_le (by omega));have HDA:Hid (l.drop 0=l):=zH rfl;clear hN;have hmm:=@run_makeMap prog;have HB1:Hid (Below w.heap.size w (w.alloc (.map #[] 0))):=zH ((aj _ _).alloc (ah _) _);have HS1:Hid (kW (w.alloc (.map #[] 0)) w.heap.size []):=zH (kW.made w);have HZ1:Hid ((w.alloc (.map #[] 0)).heap.size=w.heap.size+1):=zH (by simp);have i0:IntKind.i64.wrap ((n:Int)-1)=(n:Int)-1:=fD _ (by omega);go_enter func287,ntmps287
 go_upto_region 3 with fail
 generalize (w.alloc _)=w1 at*;have HR:Hid (∀ j,some w.heap.size=some j ->j<w1.heap.size):=zH (fun j hj=>by cases hj;rw [HZ1.o];omega);go_wp2_with fail
 go_loopw [7,9] (fun z i wr=>∃ p:Nat,p<=n/\i= .int .i64 ((p:Int)-1)/\gy gG w1.heap.size wr z (mleft node seq (l.drop p))/\kW wr w.heap.size (j4 (l.drop p))/\w1.grownBy wr (some w.heap.size)) (fun _ i _=>(intOf i+1).toNat)
 case atStart=>exact ⟨n,ah _,rfl,by rw [HD0.o];exact gy.nil _ _,by rw [HD0.o];exact HS1.o,bV _ _⟩
 case round=>
  obtain ⟨p,hp,rfl,ho,hs,hg⟩:=hrel;have HG:=zH hg;have HO:=zH ho;have HB:Hid (Below w.heap.size w wr):=zH (HB1.o.trans (kL hg HB1.o.size (ah _)));have HLP:=zH (HLL.o p);clear hg ho
  by_cases hp0:0<p
  ·obtain ⟨q,rfl⟩:∃ q,p=q+1:=⟨p-1,by omega⟩
   have hqn:q<n:=by omega
   obtain ⟨b,o,c,hv,-,-,-,hc⟩:=mZ HS.o (by rw [LN.o];omega);rw [LN.o] at hv;simp only [aC] at hv
   obtain ⟨rfl,-,rfl⟩:=hv;obtain ⟨dv,EX0,hsd⟩:=hc q (by rw [LN.o];exact hqn);obtain ⟨da,dc,rfl,-,-,-,hsd⟩:=hsd.parts;have HDQ:=zH (HDC.o q hqn);have HXM:=Tt.o q hqn;have HKD:=zH (HDK.o q hqn);have HDO:=zH (HDS.o q hqn);have AL:=zH (HAL.o (q+1));have HAD:Hid (j4 (l.drop q)=j4 (l.drop (q+1))++(l.getD q default).drops):=zH (by rw [HDQ.o,j4]);have EX:=zH EX0;clear hc EX0;generalize l.getD q default=x at*;obtain ⟨m,hM⟩:∃ m,x.drops.length=m:=⟨_,rfl⟩;have WI:Hid (x.drops.take m=x.drops):=zH (by rw [<-hM,bq]);have HT0:Hid (j4 (l.drop (q+1))++x.drops.take 0=j4 (l.drop (q+1))):=zH (by rw [List.take_zero,aV]);rw [hM] at hsd EX HDO HXM;have LM:=zH hM;have SD:=zH hsd;clear hM hsd;have e1:(((q+1:Nat):Int)-1)=(q:Int):=by omega
   rw [e1];have i1:IntKind.i64.wrap ((q:Int)-1)=(q:Int)-1:=fD _ (by omega);have i2:(0:Int)<=(q:Int):=by omega
   have i3:(q:Int)<(n:Int):=by omega
   obtain ⟨c0,c1,c2,c3,c4,c5,c6⟩:=EX.o.below HB.o EX.o.lt;go_wp2_with fail
   refine (Lc node seq x da m dc _).mono ?_;rintro e w2 ⟨rfl,hb⟩;have B2:=zH (hb.alloc hb.size (.cells #[.string (bt x.key),.string (bt x.field),.int .i64 x.kind,.string (bt x.elem),.int .i64 x.n,.int .i64 node,.int .i64 seq,.int .i64 x.pos] 79));have I3:Hid (jS (w2.alloc (.cells #[.string (bt x.key),.string (bt x.field),.int .i64 x.kind,.string (bt x.elem),.int .i64 x.n,.int .i64 node,.int .i64 seq,.int .i64 x.pos] 79)) w2.heap.size 0 (lV node seq x)):=zH (tO w2 (lV node seq x));have S1:=zH (fun (W:World)=>Im W (lV node seq x));clear hb c0 c1 c2 c3 c4 c5 c6;go_upto_region 7 with fail
   generalize (w2.alloc _)=w3 at*;have HO3:=zH (HO.o.below B2.o (ah _));have G3:=zH (j5 HG.o (tQ (row:=some w.heap.size) B2.o) (fun j hj=> .inl hj));have hs3:=hs.below B2.o hs.lt;clear hs;obtain ⟨D,nm,hnm,ho,hh⟩:=hs3;have hkey:keyOf prog 77 (.agg #[.int .i64 node,.int .i64 seq,.int .i64 x.pos])=some (kd ⟨node,seq,x.pos⟩):=kS HKD.o;have KY:=zH hkey;have HOM:=zH ho;have HHX:=zH (hh _ HKD.o);have SK:Hid (kW (w3.alloc (.cells #[] 176)) w.heap.size (j4 (l.drop (q+1)))):=zH (kW.alloc ⟨D,nm,hnm,ho,hh⟩ _);have OK:=zH (HO3.o.alloc (.cells #[] 176));have GK:=zH (rT G3.o (.cells #[] 176));have I4:=zH (I3.o.below (zB w3 (.cells #[] 176)) I3.o.lt);clear ho hkey hnm hh;obtain ⟨c0,c1,c2,c3,c4,c5,c6,c7⟩:=(show w3.cell? ⟨w2.heap.size,0,none⟩=some (.string (bt x.key))/\w3.cell? ⟨w2.heap.size,1,none⟩=some (.string (bt x.field))/\w3.cell? ⟨w2.heap.size,2,none⟩=some (.int .i64 x.kind)/\w3.cell? ⟨w2.heap.size,3,none⟩=some (.string (bt x.elem))/\w3.cell? ⟨w2.heap.size,4,none⟩=some (.int .i64 x.n)/\w3.cell? ⟨w2.heap.size,5,none⟩=some (.int .i64 node)/\w3.cell? ⟨w2.heap.size,6,none⟩=some (.int .i64 seq)/\w3.cell? ⟨w2.heap.size,7,none⟩=some (.int .i64 x.pos) from I3.o.zero);generalize hgo:Maps.has D (kd ⟨node,seq,x.pos⟩)=goes at*;go_upto_region 8 with (at_lookup;refine wpList_lookup_own_unit _ rfl _ _ 174 rfl 77 176 nM underlying174 (Io _) w.heap.size nm D rfl HOM.o _ _ rfl KY.o ?_)
   clear c0 c1 c2 c3 c4 c5 c6 c7;generalize (w3.alloc _)=w4 at*;obtain ⟨c0,c1,c2,c3,c4,c5,c6,c7⟩:=(show w4.cell? ⟨w2.heap.size,0,none⟩=some (.string (bt x.key))/\w4.cell? ⟨w2.heap.size,1,none⟩=some (.string (bt x.field))/\w4.cell? ⟨w2.heap.size,2,none⟩=some (.int .i64 x.kind)/\w4.cell? ⟨w2.heap.size,3,none⟩=some (.string (bt x.elem))/\w4.cell? ⟨w2.heap.size,4,none⟩=some (.int .i64 x.n)/\w4.cell? ⟨w2.heap.size,5,none⟩=some (.int .i64 node)/\w4.cell? ⟨w2.heap.size,6,none⟩=some (.int .i64 seq)/\w4.cell? ⟨w2.heap.size,7,none⟩=some (.int .i64 x.pos) from I4.o.zero)
   by_cases hk:x.kind=0
   ·have q1:(x.kind==0)=true:=by simp [hk]
    have q2:(x.kind !=0)=false:=by simp [hk]
    have tT:Hid (mleft node seq (l.drop q)=mleft node seq (l.drop (q+1))):=zH (by rw [HDQ.o];exact Qz (.inl hk));clear hk;go_upto_region 10 with fail
    clear c0 c1 c2 c3 c4 c5 c6 c7;generalize w4=wk at*;have BK:Hid (Below w.heap.size w wk):=zH (HB1.o.trans (kL GK.o HB1.o.size (ah _)));have y6:=(EX.o.below BK.o EX.o.lt).c6;go_wp2_with fail
    go_loopw [54] (fun j wi=>∃ t:Nat,t<=m/\j= .int .i64 t/\kW wi w.heap.size (j4 (l.drop (q+1))++x.drops.take t)/\wk.grownBy wi (some w.heap.size)) (fun j _=>m-(intOf j).toNat)
    case atStart=>exact ⟨0,aL _,rfl,by rw [HT0.o];exact SK.o,bV _ _⟩
    case round=>
     clear y6
     rename World=>wi
     obtain ⟨t,ht,rfl,hs,hg⟩:=hrel;have HG:=zH hg;have HGW:=zH (j5 GK.o hg (fun j hj=> .inl hj));have HBI:Hid (Below w.heap.size w wi):=zH (HB1.o.trans (kL HGW.o HB1.o.size (ah _)));have HZ:Hid (w.heap.size<wi.heap.size):=zH (hs.lt);clear hg
     by_cases htl:t<m
     ·have hkd:=zH (show t<x.drops.length by rw [LM.o];exact htl)
      obtain ⟨b2,o2,c2',hv2,-,-,-,hc2⟩:=nY (SD.o.below HBI.o) (by rw [LM.o];omega);rw [LM.o] at hv2;simp only [aC] at hv2
      obtain ⟨rfl,-,rfl⟩:=hv2;obtain ⟨c0,c1,c2⟩:=hc2 t hkd.o;have HQK:=zH (HDO.o t htl);have HTK:=zH (vR hkd.o);have HLT:=zH (show (j4 (l.drop (q+1))++x.drops.take t).length<=2000000 by rw [aA];have:=AL.o;have:=bM t x.drops;omega);clear hc2;generalize x.drops.getD t default=d at*;obtain ⟨D,nm,hnm,ho,hh⟩:=hs;have hkey:keyOf prog 77 (.agg #[.int .i64 d.node,.int .i64 d.seq,.int .i64 d.pos])=some (kd d):=kS HQK.o;have KY:=zH hkey;have hD:=zH ho.isMap;have HH:=zH hh;have HN:=zH hnm;have hlm:nm<maxLen:=by
       have:=HLT.o;unfold maxLen;omega
      have HM:=zH hlm;have hb1:=zB wi (.cells #[.int .i64 d.node,.int .i64 d.seq,.int .i64 d.pos] 77);have HO1:=zH (ho.alloc (.cells #[.int .i64 d.node,.int .i64 d.seq,.int .i64 d.pos] 77));have HG1:=zH (rT HG.o (.cells #[.int .i64 d.node,.int .i64 d.seq,.int .i64 d.pos] 77));clear ho hkey hb1 hnm hlm hh;go_upto_region 13 with fail
      clear c0 c1 c2;have DB:Hid (pY (wi.alloc (.cells #[.int .i64 d.node,.int .i64 d.seq,.int .i64 d.pos] 77)) wi.heap.size 0 d):=zH ⟨by simp,by simp,by simp⟩;generalize (wi.alloc _)=wb at*;obtain ⟨d0,d1,d2⟩:=DB.o;simp only [aJ] at d1 d2
      go_wp2_with (at_mapUpdate;refine wpList_mapUpdate_own _ rfl _ _ _ 174 rfl 77 176 nM underlying174 unitElem w.heap.size nm D rfl HO1.o HM.o _ _ _ rfl rfl KY.o (.agg []) [] unitElem_mk ?_)
      intro w2' ho2 hg2;have O2:=zH (kW.put HQK.o HN.o hD.o HH.o ho2);rw [aY,HTK.o] at O2;have G2:=zH (j5 HG1.o hg2 (fun j hj=> .inl hj));clear ho2 hg2;go_wp2_with fail
      go_roundw
      case rel=>exact ⟨t+1,by omega,by go_num,O2.o,G2.o⟩
      case measure=>simp [intOf];omega
     ·obtain rfl:t=m:=by omega
      rw [WI.o] at hs;have S5:=zH hs;have O5:=zH (OK.o.kept jR HG.o HR.o);clear hs;go_wp2_with fail
      go_roundw
      case rel=>exact ⟨q,by omega,rfl,by rw [tT.o];exact O5.o,by rw [HAD.o];exact S5.o,HGW.o⟩
      case measure=>simp [intOf]<;>omega
   ·have q1:(x.kind==0)=false:=by simp [hk]
    have q2:(x.kind !=0)=true:=by simp [hk]
    cases goes with
    |true=>
     have tT:Hid (mleft node seq (l.drop q)=mleft node seq (l.drop (q+1))):=zH (by rw [HDQ.o];exact Qz (.inr HHX.o.symm));clear hk;go_upto_region 10 with fail
     clear c0 c1 c2 c3 c4 c5 c6 c7;generalize w4=wk at*;have BK:Hid (Below w.heap.size w wk):=zH (HB1.o.trans (kL GK.o HB1.o.size (ah _)));have y6:=(EX.o.below BK.o EX.o.lt).c6;go_wp2_with fail
     go_loopw [54] (fun j wi=>∃ t:Nat,t<=m/\j= .int .i64 t/\kW wi w.heap.size (j4 (l.drop (q+1))++x.drops.take t)/\wk.grownBy wi (some w.heap.size)) (fun j _=>m-(intOf j).toNat)
     case atStart=>exact ⟨0,aL _,rfl,by rw [HT0.o];exact SK.o,bV _ _⟩
     case round=>
      clear y6
      rename World=>wi
      obtain ⟨t,ht,rfl,hs,hg⟩:=hrel;have HG:=zH hg;have HGW:=zH (j5 GK.o hg (fun j hj=> .inl hj));have HBI:Hid (Below w.heap.size w wi):=zH (HB1.o.trans (kL HGW.o HB1.o.size (ah _)));have HZ:Hid (w.heap.size<wi.heap.size):=zH (hs.lt);clear hg
      by_cases htl:t<m
      ·have hkd:=zH (show t<x.drops.length by rw [LM.o];exact htl)
       obtain ⟨b2,o2,c2',hv2,-,-,-,hc2⟩:=nY (SD.o.below HBI.o) (by rw [LM.o];omega);rw [LM.o] at hv2;simp only [aC] at hv2
       obtain ⟨rfl,-,rfl⟩:=hv2;obtain ⟨c0,c1,c2⟩:=hc2 t hkd.o;have HQK:=zH (HDO.o t htl);have HTK:=zH (vR hkd.o);have HLT:=zH (show (j4 (l.drop (q+1))++x.drops.take t).length<=2000000 by rw [aA];have:=AL.o;have:=bM t x.drops;omega);clear hc2;generalize x.drops.getD t default=d at*;obtain ⟨D,nm,hnm,ho,hh⟩:=hs;have hkey:keyOf prog 77 (.agg #[.int .i64 d.node,.int .i64 d.seq,.int .i64 d.pos])=some (kd d):=kS HQK.o;have KY:=zH hkey;have hD:=zH ho.isMap;have HH:=zH hh;have HN:=zH hnm;have hlm:nm<maxLen:=by
        have:=HLT.o;unfold maxLen;omega
       have HM:=zH hlm;have hb1:=zB wi (.cells #[.int .i64 d.node,.int .i64 d.seq,.int .i64 d.pos] 77);have HO1:=zH (ho.alloc (.cells #[.int .i64 d.node,.int .i64 d.seq,.int .i64 d.pos] 77));have HG1:=zH (rT HG.o (.cells #[.int .i64 d.node,.int .i64 d.seq,.int .i64 d.pos] 77));clear ho hkey hb1 hnm hlm hh;go_upto_region 13 with fail
       clear c0 c1 c2;have DB:Hid (pY (wi.alloc (.cells #[.int .i64 d.node,.int .i64 d.seq,.int .i64 d.pos] 77)) wi.heap.size 0 d):=zH ⟨by simp,by simp,by simp⟩;generalize (wi.alloc _)=wb at*;obtain ⟨d0,d1,d2⟩:=DB.o;simp only [aJ] at d1 d2
       go_wp2_with (at_mapUpdate;refine wpList_mapUpdate_own _ rfl _ _ _ 174 rfl 77 176 nM underlying174 unitElem w.heap.size nm D rfl HO1.o HM.o _ _ _ rfl rfl KY.o (.agg []) [] unitElem_mk ?_)
       intro w2' ho2 hg2;have O2:=zH (kW.put HQK.o HN.o hD.o HH.o ho2);rw [aY,HTK.o] at O2;have G2:=zH (j5 HG1.o hg2 (fun j hj=> .inl hj));clear ho2 hg2;go_wp2_with fail
       go_roundw
       case rel=>exact ⟨t+1,by omega,by go_num,O2.o,G2.o⟩
       case measure=>simp [intOf];omega
      ·obtain rfl:t=m:=by omega
       rw [WI.o] at hs;have S5:=zH hs;have O5:=zH (OK.o.kept jR HG.o HR.o);clear hs;go_wp2_with fail
       go_roundw
       case rel=>exact ⟨q,by omega,rfl,by rw [tT.o];exact O5.o,by rw [HAD.o];exact S5.o,HGW.o⟩
       case measure=>simp [intOf]<;>omega
    |false=>
     have tT:Hid (mleft node seq (l.drop q)=mleft node seq (l.drop (q+1))++[lV node seq x]):=zH (by rw [HDQ.o];exact Ye hk HHX.o.symm);clear hk;obtain ⟨azz,czz,rfl,-,-,-,-⟩:=OK.o.parts;go_wp2_with (at_builtin;refine gT gG rfl (.tmp 44) (.tmp 46) rfl w1.heap.size rfl (OK.o.alloc _) rfl (S1.o _) (fun _ _ h=>h) (by have:=HLP.o;simp at*;omega) (by have:=GK.o.size;simp;omega) ?_)
     intro v' wk ho' hgr _;have BL:=zH (((aj w1.heap.size w4).alloc GK.o.size _).grown hgr (by have:=GK.o.size;simp;omega) (fun j hj=>(OK.o.lt j hj).1));replace OK:=zH ho';replace SK:=zH (SK.o.below BL.o (by rw [HZ1.o];omega));replace GK:=zH (jZ GK.o BL.o);clear ho' hgr c0 c1 c2 c3 c4 c5 c6 c7 BL;have BK:Hid (Below w.heap.size w wk):=zH (HB1.o.trans (kL GK.o HB1.o.size (ah _)));have y6:=(EX.o.below BK.o EX.o.lt).c6;go_wp2_with fail
     go_loopw [54] (fun j wi=>∃ t:Nat,t<=m/\j= .int .i64 t/\kW wi w.heap.size (j4 (l.drop (q+1))++x.drops.take t)/\wk.grownBy wi (some w.heap.size)) (fun j _=>m-(intOf j).toNat)
     case atStart=>exact ⟨0,aL _,rfl,by rw [HT0.o];exact SK.o,bV _ _⟩
     case round=>
      clear y6
      rename World=>wi
      obtain ⟨t,ht,rfl,hs,hg⟩:=hrel;have HG:=zH hg;have HGW:=zH (j5 GK.o hg (fun j hj=> .inl hj));have HBI:Hid (Below w.heap.size w wi):=zH (HB1.o.trans (kL HGW.o HB1.o.size (ah _)));have HZ:Hid (w.heap.size<wi.heap.size):=zH (hs.lt);clear hg
      by_cases htl:t<m
      ·have hkd:=zH (show t<x.drops.length by rw [LM.o];exact htl)
       obtain ⟨b2,o2,c2',hv2,-,-,-,hc2⟩:=nY (SD.o.below HBI.o) (by rw [LM.o];omega);rw [LM.o] at hv2;simp only [aC] at hv2
       obtain ⟨rfl,-,rfl⟩:=hv2;obtain ⟨c0,c1,c2⟩:=hc2 t hkd.o;have HQK:=zH (HDO.o t htl);have HTK:=zH (vR hkd.o);have HLT:=zH (show (j4 (l.drop (q+1))++x.drops.take t).length<=2000000 by rw [aA];have:=AL.o;have:=bM t x.drops;omega);clear hc2;generalize x.drops.getD t default=d at*;obtain ⟨D,nm,hnm,ho,hh⟩:=hs;have hkey:keyOf prog 77 (.agg #[.int .i64 d.node,.int .i64 d.seq,.int .i64 d.pos])=some (kd d):=kS HQK.o;have KY:=zH hkey;have hD:=zH ho.isMap;have HH:=zH hh;have HN:=zH hnm;have hlm:nm<maxLen:=by
        have:=HLT.o;unfold maxLen;omega
       have HM:=zH hlm;have hb1:=zB wi (.cells #[.int .i64 d.node,.int .i64 d.seq,.int .i64 d.pos] 77);have HO1:=zH (ho.alloc (.cells #[.int .i64 d.node,.int .i64 d.seq,.int .i64 d.pos] 77));have HG1:=zH (rT HG.o (.cells #[.int .i64 d.node,.int .i64 d.seq,.int .i64 d.pos] 77));clear ho hkey hb1 hnm hlm hh;go_upto_region 13 with fail
       clear c0 c1 c2;have DB:Hid (pY (wi.alloc (.cells #[.int .i64 d.node,.int .i64 d.seq,.int .i64 d.pos] 77)) wi.heap.size 0 d):=zH ⟨by simp,by simp,by simp⟩;generalize (wi.alloc _)=wb at*;obtain ⟨d0,d1,d2⟩:=DB.o;simp only [aJ] at d1 d2
       go_wp2_with (at_mapUpdate;refine wpList_mapUpdate_own _ rfl _ _ _ 174 rfl 77 176 nM underlying174 unitElem w.heap.size nm D rfl HO1.o HM.o _ _ _ rfl rfl KY.o (.agg []) [] unitElem_mk ?_)
       intro w2' ho2 hg2;have O2:=zH (kW.put HQK.o HN.o hD.o HH.o ho2);rw [aY,HTK.o] at O2;have G2:=zH (j5 HG1.o hg2 (fun j hj=> .inl hj));clear ho2 hg2;go_wp2_with fail
       go_roundw
       case rel=>exact ⟨t+1,by omega,by go_num,O2.o,G2.o⟩
       case measure=>simp [intOf];omega
      ·obtain rfl:t=m:=by omega
       rw [WI.o] at hs;have S5:=zH hs;have O5:=zH (OK.o.kept jR HG.o HR.o);clear hs;go_wp2_with fail
       go_roundw
       case rel=>exact ⟨q,by omega,rfl,by rw [tT.o];exact O5.o,by rw [HAD.o];exact S5.o,HGW.o⟩
       case measure=>simp [intOf]<;>omega
  ·obtain rfl:p=0:=by omega
   rw [HDA.o] at HO;have O:=zH (HO.o.mono HB1.o.size);obtain ⟨av,cv,rfl,-⟩:=HO.o.parts;clear HO hs;go_wp2_with fail
   go_ret
   exact ⟨_,rfl,O.o,HB.o⟩
def Ni(node seq:Int)(l:List gD):Prop:=∀ e∈l,jf ⟨node,seq,e.pos⟩/\∀ d∈e.drops,jf d
theorem Yf{node seq:Int}{l:List gD}(h1:(Lit.int .i64 node).wf=true)(h2:(Lit.int .i64 seq).wf=true)(h:∀ e∈l,WJ e):Ni node seq l:=fun e he=>⟨⟨h1,h2,(h e he).1⟩,(h e he).2.2.2.1⟩
theorem mleft_ok{node seq:Int}{l:List gD}(h:Ni node seq l):∀ x∈mleft node seq l,jf x.dot:=fun x hx=>by
 obtain ⟨e,he,rfl⟩:=Cm (Dy.1 hx);exact (h e he).1
theorem edo_any(node seq:Int){u v:Value}{xs:List fK}{l:List gD}{w:World}(hu:fM gG w u xs)(hv:fM jo w v l)(hx:xs.length<=100000)(hn:l.length<=1000)(hd:∀ e∈l,e.drops.length<=1000)(hdx:∀ x∈xs,jf x.dot)(hok:Ni node seq l):
  Calls prog 237 #[u,.int .i64 node,.int .i64 seq,v] w (vQ gG w (FW node seq xs l)):=by
 have HU:=zH hu;have HDK:=zH hdx;have HMK:=zH (mleft_ok hok);have HML:=zH (Dx node seq l);have HWL:=zH (p9 xs (gN l));have HEW:=zH (fun h=>edo_way (node:=node) (seq:=seq) (s:=xs) (l:=l) h);have Tt:=zH (fun k hk=>hd _ (rR (l:=l) (k:=k) hk));have HDT:=zH (fun k hk=>Ip (l:=l) (k:=k) hk);have HDL:Hid (∀ k,k<=l.length ->(gN (l.take k)).length<=1000000):=zH (fun k hk=>by
  have h1:=Dz (m:=1000) (l:=l.take k) fun e he=>hd e (bO he)
  have h2:(l.take k).length<=1000:=by rw [aO];omega
  have h3:=bN 1000 h2;omega)
 have HDO:Hid (∀ d∈gN l,jf d):=zH (fun d h=>by
  obtain ⟨e,he,hde⟩:=List.mem_flatMap.1 h;exact (hok e he).2 d hde)
 have KL:=zH (fun (W:World) (h:Below w.heap.size w W)=>Yd node seq (hv.below h) hn hd hok);have KC:=zH (wZ hu (by omega:xs.length<=1000000));have KW:=zH (fun (W:World) (zv:Value) (h:Below w.heap.size w W) (hz:fM jI W zv (gN l))=>xk (hu.below h) hz (by omega) (by have:=HDL.o l.length (ah _);rwa [bq] at this) hdx HDO.o);have HX:=zH hx;obtain ⟨a,cap,rfl,g1,g2,g0,h⟩:=hv.parts;have HS:=zH h;obtain ⟨a',cap',rfl,-⟩:=hu.parts;obtain ⟨n,hN⟩:∃ n,l.length=n:=⟨_,rfl⟩;rw [hN] at g1 hn HS Tt HDT HDL HML KL ⊢;have LN:=zH hN;have WI:Hid (l.take n=l):=zH (by rw [<-hN,bq]);have HT0:Hid (gN (l.take 0)=[]):=zH rfl;have Iq:Hid (0<n ->l≠[]):=zH (fun h e=>by rw [e] at hN;simp at hN;omega);have HNZ:Hid (n=0 ->FW node seq xs l=xs):=zH (fun h=>by
  have:l=[]:=aK (by omega);rw [this]
  rfl)
 clear hu hv h g0 hd hok hdx hN hx;generalize xs.length=nx at*
 by_cases hn0:n=0
 ·have q0:((n:Int)==0)=true:=by subst hn0;rfl
  have HE:=zH (HNZ.o hn0);rw [HE.o];clear HE hn0;go_enter func237,ntmps237
  go_wp2_with fail
  refine KC.o.mono ?_;rintro e w1 ⟨v1,rfl,ho,hb⟩;have O:=zH ho;have G:=zH hb;obtain ⟨av,cv,rfl,-⟩:=ho.parts;clear ho hb;go_wp2_with fail
  go_ret
  exact ⟨_,rfl,O.o,G.o⟩
 ·have q0:((n:Int)==0)=false:=beq_false_of_ne (by omega)
  have HE:=zH (HEW.o (Iq.o (by omega)));rw [<-HE.o];clear hn0 Iq HNZ HEW KC;go_enter func237,ntmps237
  go_wp2_with fail
  go_loopw [9,20] (fun z i wr=>∃ k:Nat,k<=n/\i= .int .i64 k/\gy jI w.heap.size wr z (gN (l.take k))/\Below w.heap.size w wr) (fun _ i _=>n-(intOf i).toNat)
  case atStart=>exact ⟨0,aL _,rfl,by rw [HT0.o];exact gy.nil _ _,aj _ _⟩
  case round=>
   obtain ⟨k,hk,rfl,ho,hb⟩:=hrel;have HO:=zH ho;have HB:=zH hb;have HLK:=zH (HDL.o k hk);clear ho hb
   by_cases hlt:k<n
   ·obtain ⟨b,o,c,hv,-,-,-,hc⟩:=mZ (HS.o.below HB.o) (by rw [LN.o];omega)
    rw [LN.o] at hv;simp only [aC] at hv
    obtain ⟨rfl,-,rfl⟩:=hv;have HM:=zH (Tt.o k hlt);have HTK:=zH (HDT.o k hlt);obtain ⟨dv,EX,hsd⟩:=hc k (by rw [LN.o];exact hlt);obtain ⟨da,dc,rfl,-,-,-,hsd⟩:=hsd.parts;clear hc;generalize l.getD k default=x at*;obtain ⟨c0,c1,c2,c3,c4,c5,c6⟩:=EX;obtain ⟨m,hM⟩:∃ m,x.drops.length=m:=⟨_,rfl⟩;rw [hM] at hsd c6 HM;have LM:=zH hM;clear hM;have SD:=zH (hsd.iB (.cells #[.int .i64 x.pos,.string (bt x.key),.string (bt x.field),.int .i64 x.kind,.string (bt x.elem),.int .i64 x.n,.slice da m dc] 85));have OB:=zH (HO.o.alloc (.cells #[.int .i64 x.pos,.string (bt x.key),.string (bt x.field),.int .i64 x.kind,.string (bt x.elem),.int .i64 x.n,.slice da m dc] 85));have GB:=zH (HB.o.alloc HB.o.size (.cells #[.int .i64 x.pos,.string (bt x.key),.string (bt x.field),.int .i64 x.kind,.string (bt x.elem),.int .i64 x.n,.slice da m dc] 85));have EB:Hid (pF (wr.alloc (.cells #[.int .i64 x.pos,.string (bt x.key),.string (bt x.field),.int .i64 x.kind,.string (bt x.elem),.int .i64 x.n,.slice da m dc] 85)) wr.heap.size 0 x (.slice da m dc)):=zH (mY wr x da m dc);clear hsd;go_upto_region 7 with fail
    clear c0 c1 c2 c3 c4 c5 c6;generalize (wr.alloc _)=wb at*;obtain ⟨c0,c1,c2,c3,c4,c5,c6⟩:=EB.o.zero;go_wp2_with (at_builtin;refine gT jI rfl (.tmp 24) (.tmp 26) rfl w.heap.size rfl OB.o rfl SD.o (fun _ _ h=>h) (by have:=HLK.o;have:=HM.o;have:=LM.o;omega) GB.o.size ?_)
    intro v' w1 ho' hgr _;have O2:=zH ho';rw [<-HTK.o] at O2;have G2:Hid (Below w.heap.size w w1):=zH (GB.o.grown hgr GB.o.size (fun j hj=>(OB.o.lt j hj).1));clear ho' hgr c0 c1 c2 c3 c4 c5 c6;go_wp2_with fail
    go_roundw
    case rel=>exact ⟨k+1,by omega,by go_num,O2.o,G2.o⟩
    case measure=>simp [intOf];omega
   ·obtain rfl:k=n:=by omega
    rw [WI.o] at HO;have K:=KW.o wr _ HB.o HO.o.seq;obtain ⟨az,cz,rfl,-⟩:=HO.o.parts;go_wp2_with fail
    refine K.mono ?_;rintro e w2 ⟨v2,rfl,ho,hb⟩;have G2:=zH (HB.o.trans (hb.mono HB.o.size));have O2:=zH ho;have HZ2:Hid (wr.heap.size<=w2.heap.size):=zH hb.size;obtain ⟨a2,c2,rfl,-⟩:=ho.parts;have K3:=KL.o w2 G2.o;clear ho hb K;go_wp2_with fail
    refine K3.mono ?_;rintro e w3 ⟨v3,rfl,ho,hb⟩;have G3:=zH (G2.o.trans (hb.mono G2.o.size));have O3:=zH (O2.o.below hb (ah _));have S3:=zH ho.seq;have HZ:Hid (wr.heap.size<=w3.heap.size):=zH (ak HZ2.o hb.size);obtain ⟨a3,c3,rfl,-⟩:=ho.parts;clear ho hb K3;go_wp2_with (at_builtin;refine gT gG rfl (.tmp 32) (.tmp 36) rfl wr.heap.size rfl O3.o rfl S3.o (fun _ _ h=>h) (by have:=HWL.o;have:=HML.o;have:=HX.o;omega) HZ.o ?_)
    intro v4 w4 ho4 hgr _;have S4:=zH ho4.seq;have G4:Hid (Below w.heap.size w w4):=zH (G3.o.grown hgr G3.o.size (fun j hj=>ak HB.o.size (O3.o.lt j hj).1));have K5:=vS S4.o (by rw [aA];have:=HWL.o;have:=HML.o;have:=HX.o;omega) (fun x hx=>(bA.1 hx).elim (fun h=>HDK.o x (List.mem_filter.1 h).1) (fun h=>HMK.o x h));obtain ⟨a4,c4,rfl,-⟩:=ho4.parts;clear ho4 hgr;generalize iG (gH xs (gN l)++mleft node seq l)=rr at*;generalize (gH xs (gN l)++mleft node seq l).length=n4 at*;go_wp2_with fail
    refine K5.mono ?_;rintro e w5 ⟨v5,rfl,ho,hb⟩;have O:=zH (ho.mono G4.o.size);have G:=zH (G4.o.trans (hb.mono G4.o.size));obtain ⟨av,cv,rfl,-⟩:=ho.parts;clear ho hb K5;go_wp2_with fail
    go_ret
    exact ⟨_,rfl,O.o,G.o⟩
theorem Bb{u:Value}{xs:List gB}{w:World}(hu:fM jI w u xs)(hn:xs.length<=1000000):Calls prog 236 #[u] w (vQ jI w xs):=by
 obtain ⟨a,cap,rfl,-,-,g0,h⟩:=hu.parts;have q22:∀ (w:World) (a:Option Addr) (n c n' c':Nat),(binOp .eql 83 (.slice a n c) (.slice none n' c')).run prog w= .ok (.bool a.isNone) w:=fun w a n c n' c'=>Lib.run_eql_slice_nil w _ _ a n c n' c' underlying83
 cases a with
 |none=>
  obtain rfl:=g0 rfl;obtain rfl:xs=[]:=aK (by have:=h.iY;omega);go_enter func236,ntmps236
  go_wp2_with fail
  go_ret
  exact ⟨_,rfl,gy.nil _ _,aj _ _⟩
 |some ad=>
  have HS:=zH (h.iB (.cells #[] 77));have HO:=zH (gy.empty (L:=jI) w w.heap.size (ah _));have HB:=zH (zB w (.cells #[] 77));have hz:w.heap.size<=(w.alloc (.cells #[] 77)).heap.size:=by simp
  have HZ:=zH hz;clear hu h g0 hz;go_enter func236,ntmps236
  go_wp2_with (at_builtin;refine gT jI rfl (.tmp 5) (.tmp 6) rfl w.heap.size rfl HO.o rfl HS.o (fun _ _ h=>h) (by simp;omega) HZ.o ?_)
  intro v' w2 ho' hgr _;have O3:=zH ho';have B3:=zH (HB.o.grown hgr HZ.o (fun j hj=>(HO.o.lt j hj).1));clear ho' hgr;go_wp2_with fail
  go_ret
  exact ⟨_,rfl,by simpa using O3.o,B3.o⟩
end Go.Proofs.YtfgcodcablpdcaaGreat