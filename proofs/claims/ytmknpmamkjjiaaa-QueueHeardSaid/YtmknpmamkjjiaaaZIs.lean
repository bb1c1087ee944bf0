import Derived.Test.YtmknpmamkjjiaaaShelfC
set_option linter.unusedVariables false
set_option maxRecDepth 100000
set_option maxHeartbeats 64000000
namespace Go.Proofs.Ytmknpmamkjjiaaa
open Go.Proofs.Try
open Go.RowKit Plain
theorem qQ(c:UInt8)(w:World):
  Calls prog 89 #[.int .u8 (c.toNat:Int)] w fun e w'=>e= .returned (.bool (eD c))/\w=w':=by
 have hx:=z8 c;have HT:=Aa (c:=c);have HF:=zh (c:=c);generalize eD c=r at*;generalize c.toNat=x at*
 by_cases h1:97<=x
 ·have b1:(97:Int)<=x:=by omega
  by_cases h2:x<=122
  ·obtain rfl:r=true:=HT (.inr (.inr ⟨h1,h2⟩))
   have b2:(x:Int)<=122:=by omega
   clear HT HF h1 h2;go_enter func89,ntmps89
   go_wp2_with fail
   go_ret
   exact ⟨rfl,rfl⟩
  ·obtain rfl:r=false:=HF (by omega)
   have b2:¬ (x:Int)<=122:=by omega
   have b3:(48:Int)<=x:=by omega
   have b4:¬ (x:Int)<=57:=by omega
   have b5:((x:Int)==47)=false:=by simp;omega
   clear HT HF h1 h2;go_enter func89,ntmps89
   go_wp2_with fail
   go_ret
   exact ⟨rfl,rfl⟩
 ·have b1:¬ (97:Int)<=x:=by omega
  by_cases h2:48<=x
  ·have b2:(48:Int)<=x:=by omega
   by_cases h3:x<=57
   ·obtain rfl:r=true:=HT (.inr (.inl ⟨h2,h3⟩))
    have b3:(x:Int)<=57:=by omega
    clear HT HF h1 h2 h3;go_enter func89,ntmps89
    go_wp2_with fail
    go_ret
    exact ⟨rfl,rfl⟩
   ·obtain rfl:r=false:=HF (by omega)
    have b3:¬ (x:Int)<=57:=by omega
    have b5:((x:Int)==47)=false:=by simp;omega
    clear HT HF h1 h2 h3;go_enter func89,ntmps89
    go_wp2_with fail
    go_ret
    exact ⟨rfl,rfl⟩
  ·have b2:¬ (48:Int)<=x:=by omega
   by_cases h3:x=47
   ·obtain rfl:r=true:=HT (.inl h3)
    subst h3;clear HT HF h1 h2;go_enter func89,ntmps89
    go_wp2_with fail
    go_ret
    exact ⟨rfl,rfl⟩
   ·obtain rfl:r=false:=HF (by omega)
    have b5:((x:Int)==47)=false:=by simp;omega
    clear HT HF h1 h2 h3;go_enter func89,ntmps89
    go_wp2_with fail
    go_ret
    exact ⟨rfl,rfl⟩
theorem qR(s:bL)(w:World):
  Calls prog 73 #[.string (bt s)] w fun e w'=>e= .returned (.bool (bZ s))/\w=w':=by
 have z1:=gM s;have HF:=zH (fun k hk h=>oC (s:=s) k hk h);have HT:=zH (qB (s:=s));have HL:=zH (qC (s:=s));have I1:=zH (uS s);generalize bZ s=r at*;generalize bt s=S at*
 by_cases hl:s.length<=16
 ·have hd:((s.length:Nat):Int)<=16:=by omega
  go_enter func73,ntmps73
  go_wp2_with fail
  go_loop [3,9] (fun _ i=>∃ k:Nat,k<=s.length/\i= .int .i64 k/\∀ j,j<k ->eD (s.getD j 0)=true) (fun _ i=>s.length-(intOf i).toNat)
  case atStart=>exact ⟨0,aJ _,rfl,fun j hj=>absurd hj (by omega)⟩
  case round=>
   obtain ⟨k,hk,rfl,hall⟩:=hrel;have HA:=zH hall;clear hall
   by_cases hlt:k<s.length
   ·have i1:=I1.o k hlt
    have K:=qQ (s.getD k 0) w
    cases he:eD (s.getD k 0) with
    |true=>
     rw [he] at K;have HA2:Hid (∀ j,j<k+1 ->eD (s.getD j 0)=true):=zH (fun j hj=>by
       by_cases h:j<k
       ·exact HA.o j h
       ·obtain rfl:j=k:=by omega
        exact he)
     clear he;generalize (s.getD k 0).toNat=x at*;go_wp2_with fail
     refine K.mono ?_;rintro e w' ⟨rfl,rfl⟩;go_wp2_with fail
     go_round
     case rel=>exact ⟨k+1,by omega,by go_num,HA2.o⟩
     case measure=>simp [intOf];omega
    |false=>
     rw [he] at K;obtain rfl:r=false:=HF.o k hlt he;clear he;generalize (s.getD k 0).toNat=x at*;go_wp2_with fail
     refine K.mono ?_;rintro e w' ⟨rfl,rfl⟩;go_wp2_with fail
     go_ret
     exact ⟨rfl,rfl⟩
   ·obtain rfl:k=s.length:=by omega
    obtain rfl:r=true:=HT.o hl HA.o;go_wp2_with fail
    go_ret
    exact ⟨rfl,rfl⟩
 ·obtain rfl:r=false:=HL.o hl
  have hd:¬ ((s.length:Nat):Int)<=16:=by omega
  have hd2:(16:Int)<((s.length:Nat):Int):=by omega
  go_enter func73,ntmps73
  go_wp2_with fail
  go_ret
  exact ⟨rfl,rfl⟩
theorem pV(s:bL)(w:World):
  Calls prog 59 #[.string (bt s)] w fun e w'=>e= .returned (.bool (iU s))/\w=w':=by
 have z1:=gM s;have K:=qR s w;have hk:iU s=(decide (0<s.length)&&bZ s):=rfl;have t1:=iF s [];generalize bZ s=r at*;rw [hk];clear hk;rw [show (bt []).toList=[] from fJ []] at t1
 by_cases h:0<s.length
 ·rw [aB h,aN]
  rw [aA (by rintro rfl;simp at h)] at t1;generalize bt s=S at*;go_enter func59,ntmps59
  go_wp2_with fail
  refine K.mono ?_;rintro e w' ⟨rfl,rfl⟩;go_wp2_with fail
  go_ret
  exact ⟨rfl,rfl⟩
 ·rw [aA h,aV]
  rw [aB (aF (by omega))] at t1;generalize bt s=S at*;go_enter func59,ntmps59
  go_wp2_with fail
  go_ret
  exact ⟨rfl,rfl⟩
theorem qU{v:Value}{zs:List bL}{w:World}(hv:dx w v zs)(hr:cK zs)(ha:nS zs)(hn:zs.length<=1000000)(s:bL):
  Calls prog 71 #[v,.string (bt s)] w fun e w'=>e= .returned (.bool (covers zs s))/\∃ q,w'=w.drewN q:=by
 obtain ⟨k,hk,h1,h2,K⟩:=gI hv hr hn s;rw [p9 hr ha hk h1 h2];clear h1 h2 hr ha
 by_cases hf:k<zs.length/\zs.getD k []=s
 ·rw [aB hf] at K ⊢
  rw [Bool.true_or];clear hf;obtain ⟨a,cap,rfl,-⟩:=hv.parts;clear hv;generalize bt s=S at*;go_enter func71,ntmps71
  go_wp2_with fail
  refine K.mono ?_;rintro e w' ⟨rfl,q,rfl⟩;go_wp2_with fail
  go_ret
  exact ⟨rfl,_,rfl⟩
 ·rw [aA hf] at K ⊢
  rw [Bool.false_or];clear hf
  by_cases h0:0<k
  ·rw [aB h0,aN]
   obtain ⟨p,rfl⟩:∃ p,k=p+1:=⟨k-1,by omega⟩;rw [Nat.add_sub_cancel];obtain ⟨b,o,c,rfl,g1,g2,-,hc⟩:=hv.spot (by omega);have c1:=hc p (by omega);unfold tv at c1;have KH:=zH (fun W=>lg s (zs.getD p []) W);have hm:maxLen=9223372036854775807:=rfl;rw [hm] at g2;clear hc hv h0 hm;generalize jP s (zs.getD p [])=r at*;generalize bt (zs.getD p [])=X at*;generalize bt s=S at*;go_enter func71,ntmps71
   go_wp2_with fail
   refine K.mono ?_;rintro e w' ⟨rfl,q,hq⟩;have HQ:=zH hq;have c2:w'.cell? ⟨b,o+p,none⟩=some (.string X):=by rw [hq];exact c1
   clear hq c1;have q1:(0:Int)<((p+1:Nat):Int):=by omega
   have q2:(0:Int)<(p:Int)+1:=by omega
   go_wp2_with fail
   refine (KH.o _).mono ?_;rintro e w2 ⟨rfl,rfl⟩;go_wp2_with fail
   go_ret
   exact ⟨rfl,q,HQ.o⟩
  ·obtain rfl:k=0:=by omega
   rw [aA h0,aV];obtain ⟨a,cap,rfl,-⟩:=hv.parts;clear hv;generalize bt s=S at*;go_enter func71,ntmps71
   go_wp2_with fail
   refine K.mono ?_;rintro e w' ⟨rfl,q,rfl⟩;go_wp2_with fail
   go_ret
   exact ⟨rfl,_,rfl⟩
theorem xk:∀ args w,(callFunc 70 args).run prog w= .ok (.enter 70 args) w:=enters_of func70 (by kernel_rfl) rfl
theorem yD(x:bL){v:Value}{zs:List bL}(B:Nat)(W:World)(hc:W.cell? ⟨B,0,none⟩=some v)(hv:dx W v zs)(hr:cK zs)(ha:nS zs)(hn:zs.length<=1000000):FnGives prog 70 #[.pointer (some ⟨B,0,none⟩)] #[tv x] (.bool (covers zs x)) W:=by
 show Calls prog 70 #[.string (bt x),.pointer (some ⟨B,0,none⟩)] W _
 have K:=qU hv hr ha hn x;obtain ⟨a,cap,rfl,-⟩:=hv.parts;clear hv hr ha hn;generalize covers zs x=r at*;generalize bt x=X at*;go_enter func70,ntmps70
 go_wp2_with fail
 refine K.mono ?_;rintro e w' ⟨rfl,q,rfl⟩;go_wp2_with fail
 go_ret
 exact ⟨rfl,_,rfl⟩
theorem xq{B:Nat}{w:World}{v:Value}{xs:List bL}(h:bP B w v xs):(v= .slice none 0 0/\xs=[])\/∃ g c,v= .slice (some ⟨g,0,none⟩) xs.length c/\xs.length<=c/\c<=maxLen/\B<=g/\g<w.heap.size:=by
 have hb:=h.lt
 rcases h.2 with ⟨rfl,hn⟩|⟨g,cap,cur,rfl,h1,hg,hnc,hcm,-,-⟩
 ·exact .inl ⟨rfl,aF hn⟩
 ·exact .inr ⟨g,cap,rfl,hnc,hcm,h1,(hb g rfl).2⟩
theorem kJ{B:Nat}{v:Value}{xs:List bL}{w0 w:World}(hv:bP B w v xs)(hb:Below B w0 w)(hB:B<=w.heap.size)(hx:xs.length<=1000000):
  Calls prog 52 #[v] w fun e w'=>e= .returned (.tuple #[])/\Below B w0 w'/\Calls prog 53 #[v] w' fun e w''=>∃ u,e= .returned u/\oG B w'' u (once xs)/\Below B w0 w'':=by
 rcases xq hv with ⟨rfl,rfl⟩|⟨g,c,rfl,h1,h2,h3,h4⟩
 ·refine (Try.slices_Sort_string_none none 0 w).mono fun e w' ⟨he,hw⟩=> ?_
  subst hw;refine ⟨he,hb,?_⟩;exact (Try.slices_Compact_string_empty none 0 w').mono fun e w'' ⟨he,hw⟩=>⟨_,he,.inl ⟨rfl,rfl⟩,by rw [hw];exact hb⟩
 ·have hH:=l7 hv
  refine (Try.slices_Sort_string g 0 c xs w hH h4 (by omega)).mono fun e w' ⟨he,n,os,hw⟩=> ?_
  have hl:(xs.mergeSort fun x y=>decide (x<=y)).length=xs.length:=List.length_mergeSort _;have hH2:Sort.Holds encStr w' g 0 (xs.mergeSort fun x y=>decide (x<=y)).toArray:=by rw [hw];exact jG hH (by simp [hl]) h4 n os
  have hb2:Below B w0 w':=by rw [hw];exact iJ hb hB h3 n os
  have hs2:B<=w'.heap.size:=by
   rw [hw,Sort.size_grow,Sort.size_putRow]
   show B<=w.heap.size+os.size
   omega
  have h4':g<w'.heap.size:=by
   rw [hw,Sort.size_grow,Sort.size_putRow]
   show g<w.heap.size+os.size
   omega
  have hm:maxLen=9223372036854775807:=rfl;refine ⟨he,hb2,?_⟩;have K:=Try.slices_Compact_string g 0 c (xs.mergeSort fun x y=>decide (x<=y)) w' hH2 (by omega) (by omega);rw [hl] at K;refine K.mono fun e w'' ⟨he,q,hw2⟩=> ?_
  have hlc:(once xs).length<=xs.length:=fQ xs;rw [oH] at he hw2;have hH3:Sort.Holds encStr w'' g 0 (once xs++List.replicate (xs.length-(once xs).length) []).toArray:=by
   rw [hw2,<-Sort.grow_empty (Sort.putRow _ _ _ _ _)];exact jG hH2 (by simp [hl];omega) h4' q #[]
  refine ⟨_,he,.inr ⟨g,0,c,rfl,by omega,h2,h3,?_,jX hH3⟩,?_⟩
  ·rw [hw2,Sort.size_putRow]
   exact h4'
  rw [hw2,<-Sort.grow_empty (Sort.putRow _ _ _ _ _)];exact iJ hb2 hs2 h3 q #[]
theorem jZ{v:Value}{xs:List bL}{w:World}(hv:dx w v xs)(hx:xs.length<=1000000):Calls prog 69 #[v] w (Ac w (once xs)):=by
 have K:=qD hv hx;obtain ⟨a,cap,rfl,-⟩:=hv.parts;obtain ⟨n,hN⟩:∃ n,xs.length=n:=⟨_,rfl⟩;rw [hN];rw [hN] at K;have LN:=zH hN;clear hv hN;go_enter func69,ntmps69
 go_wp2_with fail
 refine K.mono ?_;rintro e w1 ⟨v1,rfl,ho,hb⟩;have KS:=kJ ho hb hb.size hx;obtain ⟨a1,c1,rfl,-,-,-⟩:=ho.at n LN.o;clear ho hb K;go_wp2_with fail
 refine KS.mono ?_;rintro e w2 ⟨rfl,hb,K⟩;go_wp2_with fail
 refine K.mono ?_;rintro e w3 ⟨u,rfl,hr,hb3⟩;have HR:=zH hr;have HB:=zH hb3;have hseq:=hr.seq;obtain ⟨a2,c2,rfl,-⟩:=hseq.parts;clear hr hb3 hb hseq K KS;go_wp2_with fail
 go_ret
 exact ⟨_,rfl,HR.o,HB.o⟩
theorem sN{v:Value}{xs:List bL}{w:World}(hv:dx w v xs)(hx:xs.length<=1000000):Calls prog 67 #[v] w (yI w (least xs)):=by
 have K:=jZ hv hx;have HE:=zH (uw xs);have hrr:=cu xs;have hlen:(once xs).length<=1000000:=by have:=fQ xs;omega
 rw [<-HE.o];obtain ⟨a0,cap0,rfl,-⟩:=hv.parts;generalize once xs=r at*;clear HE hv;have HRR:=zH hrr;obtain ⟨n,hN⟩:∃ n,r.length=n:=⟨_,rfl⟩;rw [hN] at hlen ⊢;have LN:=zH hN;clear hrr hN;go_enter func67,ntmps67
 go_wp2_with fail
 refine K.mono ?_;rintro e w1 ⟨v1,rfl,ho,hb⟩;have hq:=ho.seq;obtain ⟨a1,c1,hv1,g1,g2,g0,hs⟩:=hq.parts;rw [LN.o] at hv1 g1 hs;subst hv1;have HS:=zH hs;have HB1:=zH hb;have hm:maxLen=9223372036854775807:=rfl;rw [hm] at g2;clear ho hb hq hs g0 hm K;go_wp2_with fail
 go_loopw [3,5,9] (fun z _ i wr=>∃ k:Nat,k<=n/\i= .int .i64 k/\bP w1.heap.size wr z (bQ r k)/\Below w1.heap.size w1 wr) (fun _ _ i _=>n-(intOf i).toNat)
 case atStart=>exact ⟨0,aJ _,rfl,bP.nil _ _,ak _ _⟩
 case round=>
  obtain ⟨k,hk,rfl,ho,hb⟩:=hrel;have HB:=zH hb;have Df:=zH (HS.o.below hb);have hl:=p8 r k;rw [LN.o] at hl;obtain ⟨M,hM⟩:∃ M,(bQ r k).length=M:=⟨_,rfl⟩;obtain ⟨a2,c2,rfl,g3,g4,ho2⟩:=ho.at M hM;have HO:=zH ho2;have HM:=zH hM;rw [hM] at hl;clear ho ho2 hb hM
  by_cases hlt:k<n
  ·have HK:Hid (k<r.length):=zH (by rw [LN.o];exact hlt)
   obtain ⟨b,o,c,hv,-,-,-,hc⟩:=Df.o.spot (by rw [LN.o];omega);rw [LN.o] at hv;simp only [aG] at hv
   obtain ⟨rfl,-,rfl⟩:=hv;have cc:=hc k HK.o;unfold tv at cc;clear hc;have HA:=zH (rW HRR.o HK.o);have HX:=zH (nW HK.o);have S1:=zH (fun (W:World)=>dx.one W (r.getD k []));unfold tv at S1;rw [HM.o] at HA
   by_cases h0:M=0
   ·have HA1:Hid (bQ r (k+1)=bQ r k++[r.getD k []]):=zH (by rw [HX.o,if_pos (by rw [HA.o,h0];rfl)])
    subst h0;clear HA HX;generalize r.getD k []=x at*;generalize bt x=X at*;go_wp2_with (at_builtin;refine dM rfl (.tmp 27) (.tmp 29) rfl w1.heap.size rfl (HO.o.alloc _) rfl (S1.o _) (by rw [HM.o];simp<;>omega) (by have:=HB.o.size;simp;omega) ?_)
    intro v' w2 ho' hgr _;have O2:=zH ho';have G2:Hid (Below w1.heap.size w1 w2):=zH ((HB.o.alloc HB.o.size _).grown hgr (by have:=HB.o.size;simp;omega) (fun j hj=>(HO.o.lt j hj).1));clear ho' hgr;rw [<-HA1.o] at O2;go_wp2_with fail
    go_roundw
    case rel=>exact ⟨k+1,by omega,by go_num,O2.o,G2.o⟩
    case measure=>simp [intOf];omega
   ·obtain ⟨p,rfl⟩:∃ p,M=p+1:=⟨M-1,by omega⟩
    rw [Nat.add_sub_cancel] at HA;obtain ⟨b2,p2,d2,hv2,-,-,-,hc2⟩:=HO.o.seq.spot (by rw [HM.o];omega);rw [HM.o] at hv2;simp only [aG] at hv2
    obtain ⟨rfl,-,rfl⟩:=hv2;have cl:=hc2 p (by rw [HM.o];omega);unfold tv at cl;have KH:=zH (fun W=>lg (r.getD k []) ((bQ r k).getD p []) W);have q0:(((p+1:Nat):Int)==0)=false:=by simp;omega
    have q1:((p:Int)+1==0)=false:=by simp;omega
    clear hc2 h0
    cases hb:jP (r.getD k []) ((bQ r k).getD p []) with
    |false=>
     have HA1:Hid (bQ r (k+1)=bQ r k++[r.getD k []]):=zH (by rw [HX.o,if_pos (by rw [HA.o,hb];simp)]);rw [hb] at KH;clear HA HX hb;generalize bt ((bQ r k).getD p [])=Y at*;generalize r.getD k []=x at*;generalize bt x=X at*;go_wp2_with fail
     refine (KH.o _).mono ?_;rintro e w' ⟨rfl,rfl⟩;go_wp2_with (at_builtin;refine dM rfl (.tmp 27) (.tmp 29) rfl w1.heap.size rfl (HO.o.alloc _) rfl (S1.o _) (by rw [HM.o];simp<;>omega) (by have:=HB.o.size;simp;omega) ?_)
     intro v' w2 ho' hgr _;have O2:=zH ho';have G2:Hid (Below w1.heap.size w1 w2):=zH ((HB.o.alloc HB.o.size _).grown hgr (by have:=HB.o.size;simp;omega) (fun j hj=>(HO.o.lt j hj).1));clear ho' hgr;rw [<-HA1.o] at O2;go_wp2_with fail
     go_roundw
     case rel=>exact ⟨k+1,by omega,by go_num,O2.o,G2.o⟩
     case measure=>simp [intOf];omega
    |true=>
     have HA1:Hid (bQ r (k+1)=bQ r k):=zH (by rw [HX.o,if_neg (by rw [HA.o,hb];simp)]);rw [hb] at KH;clear HA HX hb;have O2:Hid (bP w1.heap.size wr (.slice (some ⟨b2,p2,none⟩) (p+1) c2) (bQ r (k+1))):=zH (by rw [HA1.o];exact HO.o);generalize bt ((bQ r k).getD p [])=Y at*;generalize r.getD k []=x at*;generalize bt x=X at*;go_wp2_with fail
     refine (KH.o _).mono ?_;rintro e w' ⟨rfl,rfl⟩;go_wp2_with fail
     go_roundw
     case rel=>exact ⟨k+1,by omega,by go_num,O2.o,HB.o⟩
     case measure=>simp [intOf];omega
  ·obtain rfl:k=n:=by omega
   have O2:=zH (HO.o.mono HB1.o.size);have G2:=zH (HB1.o.trans (HB.o.mono HB1.o.size));go_wp2_with fail
   go_ret
   exact ⟨_,rfl,O2.o,G2.o⟩
structure Held(w wb:World)(k:Nat)(zv:Value)(ys:List bL):Prop where
 low:Below w.heap.size w wb
 lt:k<wb.heap.size
 cell:wb.cell? ⟨k,0,none⟩=some zv
 seq:dx wb zv (least ys)
theorem tK{w w2:World}{zv:Value}{ys:List bL}(hb:Below w.heap.size w w2)(hs:dx w2 zv (least ys)):Held w (w2.alloc (.cells #[zv] 60)) w2.heap.size zv ys:=
 ⟨hb.alloc hb.size _,by simp,by simp,hs.dB _⟩
theorem Held.later{w wb W:World}{k:Nat}{zv:Value}{ys:List bL}(h:Held w wb k zv ys)(hb:Below wb.heap.size wb W):W.cell? ⟨k,0,none⟩=some zv/\dx W zv (least ys):=
 ⟨(hb.cell (p:=⟨k,0,none⟩) h.lt).trans h.cell,h.seq.below hb⟩
theorem zw{w wb:World}{k:Nat}{zv:Value}{ys:List bL}(h:Held w wb k zv ys)(hy:ys.length<=1000000)(W:World)(x:bL)(hb:Below wb.heap.size wb W):FnGives prog 70 #[.pointer (some ⟨k,0,none⟩)] #[tv x] (.bool (covers ys x)) W:=by
 have:=yD x k W (h.later hb).1 (h.later hb).2 (cu _) (pY ys) (by have:=uq ys;omega)
 rwa [nT] at this
theorem qV(p:bL ->Bool)(xs:List bL):(once xs).filter p=once (xs.filter p):=fP ((cu xs).filter p) (cu _) fun t=>by rw [List.mem_filter,dN,dN,List.mem_filter]
theorem nQ{u v:Value}{xs ys:List bL}{w:World}(hu:dx w u xs)(hv:dx w v ys)(hx:xs.length<=1000000)(hy:ys.length<=1000000):
  Calls prog 54 #[u,v] w (q9 w (without xs ys)):=by
 have K1:=sN hv hy;have KC:=zH (fun (w2:World) (zv:Value) (hb:Below w.heap.size w w2) (hs:dx w2 zv (least ys))=>jZ (hu.below (tK hb hs).low) hx);have HW:Hid ((once xs).filter (fun s=> !covers ys s)=without xs ys):=zH (qV _ _);have hol:=fQ xs;obtain ⟨a,cap,rfl,-⟩:=hu.parts;obtain ⟨a',cap',rfl,-⟩:=hv.parts;generalize without xs ys=r at*;clear hu hv;go_enter func54,ntmps54
 go_wp2_with fail
 refine K1.mono ?_;rintro e w2 ⟨v2,rfl,ho,hb⟩;have K2:=KC.o w2 v2 hb ho.seq;have HH:=zH (tK hb ho.seq);obtain ⟨a2,c2,rfl,-,-,-⟩:=ho.at _ rfl;generalize (least ys).length=m at*;clear ho hb K1 KC;go_wp2_with fail
 refine K2.mono ?_;rintro e w3 ⟨v3,rfl,hr,hb3⟩;have K3:=oF hr hb3 hb3.size (by omega) (fun s=>covers ys s) 70 #[.pointer (some ⟨w2.heap.size,0,none⟩)] xk (fun W x hW=>zw HH.o hy W x hW);rw [HW.o] at K3;obtain ⟨a3,c3,rfl,-⟩:=hr.seq.parts;generalize (once xs).length=m3 at*;clear hr hb3 K2;go_wp2_with fail
 refine K3.mono ?_;rintro e w4 ⟨v4,rfl,hr,hb4⟩;have G:Hid (Below w.heap.size w w4):=zH (HH.o.low.trans (hb4.mono HH.o.low.size));have O:=zH hr.seq;obtain ⟨a4,c4,rfl,-⟩:=hr.seq.parts;generalize r.length=m4 at*;clear hr hb4 K3;go_wp2_with fail
 go_ret
 exact ⟨_,rfl,O.o,G.o⟩
end Go.Proofs.Ytmknpmamkjjiaaa