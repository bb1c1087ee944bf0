import Derived.Test.YtmknpmamkjjiaaaVWords
import Derived.Lib.MinMax
import Derived.Shelf.Abstract
import Derived.Deep.Cut
set_option linter.unusedVariables false
set_option maxRecDepth 100000
set_option maxHeartbeats 64000000
namespace Go.Proofs.Ytmknpmamkjjiaaa
open Go.Proofs.Try
open Go.RowKit Plain Go.Shelf
theorem gG{v:Value}{xs:Ints}{w:World}(hs:bX w v xs)(n:Int):
  Calls prog 21 #[v,.int .i64 n] w fun e w'=>e= .returned (.int .i64 (cO xs n))/\w=w':=by
 obtain ⟨a,cap,rfl,g1,g2,g0,h⟩:=hs.parts
 by_cases h0:n<0
 ·have hq:cO xs n=0:=by unfold cO;rw [if_neg (by omega)]
  rw [hq];clear hq h hs g0;go_enter func21,ntmps21
  go_wp2_with fail
  go_ret
  exact ⟨rfl,rfl⟩
 ·obtain ⟨k,rfl⟩:∃ k:Nat,n=(k:Int):=⟨n.toNat,by omega⟩
  rw [iK]
  by_cases hk:k<xs.length
  ·obtain ⟨b,o,c,hv,-,-,-,hc⟩:=h.spot (by omega)
   simp only [aG] at hv
   obtain ⟨rfl,-,rfl⟩:=hv;have c1:=hc k hk;have hq:says xs k=max (xs.getD k 0) 0:=rfl;rw [hq];generalize xs.getD k 0=x at*;clear hq h hs g0 hc;go_enter func21,ntmps21
   go_wp2_with fail
   go_ret
   exact ⟨rfl,rfl⟩
  ·have hq:says xs k=0:=lD xs k (by omega)
   rw [hq];clear hq h hs g0;go_enter func21,ntmps21
   go_wp2_with fail
   go_ret
   exact ⟨rfl,rfl⟩
def jI(w:World)(g:Nat)(lb:Array Value)(c:Nat ->Int)(n:Nat):Prop:=
 ∀ (W:World) (i:Nat),i<n ->Below w.heap.size w W ->Calls prog g (#[.int .i64 (i:Int)]++lb) W fun e w'=>e= .returned (.int .i64 (c i))/\∃ m,w'=W.drewN m
theorem lK(g:Nat)(lb:Array Value)(eg:∀ args w,(callFunc g args).run prog w= .ok (.enter g args) w)(c:Nat ->Int)(n:Nat)(hn:n<=1000000){w:World}(hc:jI w g lb c n):
  Calls prog 19 #[.int .i64 (n:Int),.func (.func g) #[] lb] w (wW w (laid c n)):=by
 have HC:=zH hc;clear hc;go_enter func19,ntmps19
 go_wp2_with fail
 go_loopw [0] (fun i wr=>∃ k q:Nat,k<=n/\i= .int .i64 k/\laid c k=laid c n/\wr=w.drewN q) (fun i _=>(intOf i).toNat)
 case atStart=>exact ⟨n,0,aj _,rfl,rfl,rfl⟩
 case round=>
  obtain ⟨k,q,hk,rfl,hl,rfl⟩:=hrel
  match k,hk,hl with
  |0,hk,hl=>
   have L0:=zH (show (laid c n).length=0 by rw [<-hl];rfl);clear hl;go_wp2_with (at_make;refine gV rfl (.tmp 18) rfl 0 (laid c n).length rfl (by rw [L0.o];rfl) (by rw [L0.o];omega) ?_)
   intro w1 ho hb;have O0:Hid (bR w.heap.size w1 (.slice (some ⟨w.heap.size,0,none⟩) (laid c n).length (laid c n).length) (dP c (laid c n).length 0)):=zH (by rw [lH];exact ho);have G0:Hid (Below w.heap.size w w1):=zH ((below_drewN (ak _ _) _).trans hb);have LN:=lF c n;have PL:=zH (lJ c n);clear ho hb;generalize hM:(laid c n).length=M at*;clear hM L0;go_wp2_with fail
   go_loopw [22] (fun i wr=>∃ j:Nat,j<=M/\i= .int .i64 j/\bR w.heap.size wr (.slice (some ⟨w.heap.size,0,none⟩) M M) (dP c M j)/\Below w.heap.size w wr) (fun i _=>M-(intOf i).toNat)
   case atStart=>exact ⟨0,by omega,rfl,O0.o,G0.o⟩
   case round=>
    obtain ⟨j,hj,rfl,ho,hb⟩:=hrel
    by_cases hlt:j<M
    ·have hcall:=HC.o wr j (by omega) hb
     have HO:=zH ho;have HB:=zH hb;have HJ:=zH (lI c M j);have HJ2:=zH (nD c M j);clear ho hb;generalize c j=cj at*;go_wp2_with (go_at_fn g;refine hcall.mono ?_;rintro e w' ⟨rfl,q',hq⟩;have ho':bR w.heap.size w' (.slice (some ⟨w.heap.size,0,none⟩) M M) (dP c M j):=(by rw [hq];exact HO.o.below (below_drewN (ak _ _) q') (aj _));have hb':Below w.heap.size w w':=(by rw [hq];exact below_drewN HB.o q');have hc1:=ho'.cell j (by rw [HJ2.o];exact hlt);have hf1:=ho'.free j;have O2:Hid (bR w.heap.size (w'.setCell ⟨w.heap.size,j,none⟩ (.int .i64 cj)) (.slice (some ⟨w.heap.size,0,none⟩) M M) (dP c M (j+1))):=zH (by rw [<-HJ.o];exact ho'.set j cj);have G2:=zH (hb'.setCell (p:=⟨w.heap.size,j,none⟩) (aj _) (.int .i64 cj));clear hq ho' hb';generalize (dP c M j).getD j 0=x at*)
     exact ⟨⟨j+1,by omega,by go_num,O2.o,G2.o⟩,by simp [intOf];omega⟩
    ·obtain rfl:j=M:=by omega
     have O2:=zH ho;have G2:=zH hb;clear ho hb;rw [PL.o] at O2;go_wp2_with fail
     go_ret
     exact ⟨_,rfl,O2.o,G2.o⟩
  |k+1,hk,hl=>
   have hcall:=HC.o (w.drewN q) k (by omega) (below_drewN (ak _ _) q);have e1:((k+1:Nat):Int)-1=(k:Int):=by omega
   by_cases h0:c k=0
   ·have HL:=zH (uX c n k hl h0)
    rw [h0] at hcall;clear hl;go_wp2_with (go_at_fn g;refine hcall.mono ?_;rintro e w' ⟨rfl,q',rfl⟩)
    exact ⟨⟨k,_,by omega,rfl,HL.o,rfl⟩,by simp [intOf]⟩
   ·have L0:=zH (uY c n k hl h0)
    have hb0:(c k==0)=false:=by simpa using h0
    clear hl;generalize c k=ck at*;go_wp2_with (first|(go_at_fn g;refine hcall.mono ?_;rintro e w' ⟨rfl,q',rfl⟩)|(at_make;refine gV rfl (.tmp 18) rfl ((k+1:Nat):Int) (laid c n).length rfl (by rw [L0.o]) (by rw [L0.o];omega) ?_))
    intro w1 ho hb;have O0:Hid (bR w.heap.size w1 (.slice (some ⟨w.heap.size,0,none⟩) (laid c n).length (laid c n).length) (dP c (laid c n).length 0)):=zH (by rw [lH];exact ho);have G0:Hid (Below w.heap.size w w1):=zH ((below_drewN (ak _ _) _).trans hb);have LN:=lF c n;have PL:=zH (lJ c n);clear ho hb;generalize hM:(laid c n).length=M at*;clear hM L0;go_wp2_with fail
    go_loopw [22] (fun i wr=>∃ j:Nat,j<=M/\i= .int .i64 j/\bR w.heap.size wr (.slice (some ⟨w.heap.size,0,none⟩) M M) (dP c M j)/\Below w.heap.size w wr) (fun i _=>M-(intOf i).toNat)
    case atStart=>exact ⟨0,by omega,rfl,O0.o,G0.o⟩
    case round=>
     obtain ⟨j,hj,rfl,ho,hb⟩:=hrel
     by_cases hlt:j<M
     ·have hcall:=HC.o wr j (by omega) hb
      have HO:=zH ho;have HB:=zH hb;have HJ:=zH (lI c M j);have HJ2:=zH (nD c M j);clear ho hb;generalize c j=cj at*;go_wp2_with (go_at_fn g;refine hcall.mono ?_;rintro e w' ⟨rfl,q',hq⟩;have ho':bR w.heap.size w' (.slice (some ⟨w.heap.size,0,none⟩) M M) (dP c M j):=(by rw [hq];exact HO.o.below (below_drewN (ak _ _) q') (aj _));have hb':Below w.heap.size w w':=(by rw [hq];exact below_drewN HB.o q');have hc1:=ho'.cell j (by rw [HJ2.o];exact hlt);have hf1:=ho'.free j;have O2:Hid (bR w.heap.size (w'.setCell ⟨w.heap.size,j,none⟩ (.int .i64 cj)) (.slice (some ⟨w.heap.size,0,none⟩) M M) (dP c M (j+1))):=zH (by rw [<-HJ.o];exact ho'.set j cj);have G2:=zH (hb'.setCell (p:=⟨w.heap.size,j,none⟩) (aj _) (.int .i64 cj));clear hq ho' hb';generalize (dP c M j).getD j 0=x at*)
      exact ⟨⟨j+1,by omega,by go_num,O2.o,G2.o⟩,by simp [intOf];omega⟩
     ·obtain rfl:j=M:=by omega
      have O2:=zH ho;have G2:=zH hb;clear ho hb;rw [PL.o] at O2;go_wp2_with fail
      go_ret
      exact ⟨_,rfl,O2.o,G2.o⟩
theorem iD(w:World)(v:Value)(t:TypeId):(w.alloc (.cells #[v] t)).cell? ⟨w.heap.size,0,none⟩=some v:=cell_of_row _ _ 0 _ _ _ (aR w _)
theorem jY(w:World)(v:Value)(t:TypeId):(w.alloc (.cells #[v] t)).heap.size=w.heap.size+1:=by simp
theorem gW(w:World)(v:Value)(t:TypeId):Below w.heap.size w (w.alloc (.cells #[v] t)):=(ak _ _).alloc (aj _) _
theorem fC{N:Nat}{w w':World}{p:Addr}{v:Value}(h:w.cell? p=some v)(hb:Below N w w')(hN:w.heap.size<=N):w'.cell? p=some v:=(hb.cell (aK (ay w p h) hN)).trans h
theorem wY{w:World}{B:Nat}{v:Value}{xs:Ints}(hB:w.cell? ⟨B,0,none⟩=some v)(hs:bX w v xs)(n:Nat):jI w 44 #[.pointer (some ⟨B,0,none⟩)] (says xs) n:=by
 intro W i _ hb;have c1:=fC hB hb (aj _);have K:=gG (hs.below hb) (i:Int);rw [iK] at K;clear hB hs hb;generalize says xs i=x at*;go_enter func44,ntmps44
 go_wp2_with (go_at_call 21;refine K.mono ?_;rintro e w' ⟨rfl,rfl⟩)
 go_ret
 exact ⟨rfl,0,rfl⟩
theorem qJ{v:Value}{xs:Ints}{w:World}(hs:bX w v xs)(hl:xs.length<=1000000):Calls prog 31 #[v] w (wW w (trim xs)):=by
 obtain ⟨a,cap,rfl,g1,g2,g0,h⟩:=hs.parts;have hB:=gW w (.slice a xs.length cap) 31;have KL:=zH (lK 44 #[.pointer (some ⟨w.heap.size,0,none⟩)] (enters_of func44 (by kernel_rfl) rfl) (says xs) xs.length hl (wY (iD w (.slice a xs.length cap) 31) (h.below hB) xs.length));have HB:=zH hB;have HZ:=zH (jY w (.slice a xs.length cap) 31);clear hs h g0 hB;go_enter func31,ntmps31
 go_wp2_with fail
 refine KL.o.mono ?_;rintro e u2 ⟨v2,rfl,ho,hb⟩;have O2:=zH (ho.mono (by rw [HZ.o];omega:w.heap.size<=_));have G2:=zH (HB.o.trans (hb.mono (by rw [HZ.o];omega)));clear ho hb;go_wp2_with fail
 go_ret
 exact ⟨_,rfl,O2.o,G2.o⟩
theorem yA(w:World)(u v:Value)(s t:TypeId):((w.alloc (.cells #[u] s)).alloc (.cells #[v] t)).cell? ⟨w.heap.size,0,none⟩=some u/\((w.alloc (.cells #[u] s)).alloc (.cells #[v] t)).cell? ⟨w.heap.size+1,0,none⟩=some v/\Below w.heap.size w ((w.alloc (.cells #[u] s)).alloc (.cells #[v] t))/\((w.alloc (.cells #[u] s)).alloc (.cells #[v] t)).heap.size=w.heap.size+2:=by
 have h2:=iD (w.alloc (.cells #[u] s)) v t;rw [jY] at h2;exact ⟨fC (iD w u s) (gW _ v t) (aj _),h2,(gW w u s).alloc (by simp) _,by simp⟩
theorem wZ{w:World}{B C:Nat}{u v:Value}{xs ys:Ints}(hB:w.cell? ⟨B,0,none⟩=some u)(hC:w.cell? ⟨C,0,none⟩=some v)(hs:bX w u xs)(ht:bX w v ys)(n:Nat):
  jI w 20 #[.pointer (some ⟨B,0,none⟩),.pointer (some ⟨C,0,none⟩)] (fun i=>max (says xs i) (says ys i)) n:=by
 intro W i _ hb;have c1:=fC hB hb (aj _);have c2:=fC hC hb (aj _);have K1:Hid (∀ w1,(∃ m,w1=W.drewN m) ->Calls prog 21 #[u,.int .i64 (i:Int)] w1 fun e w'=>e= .returned (.int .i64 (says xs i))/\w1=w'):=zH fun w1 hm=>by
  obtain ⟨m,rfl⟩:=hm;have:=gG ((hs.below hb).drawn m) (i:Int);rwa [iK] at this
 have K2:Hid (∀ w1,(∃ m,w1=W.drewN m) ->Calls prog 21 #[v,.int .i64 (i:Int)] w1 fun e w'=>e= .returned (.int .i64 (says ys i))/\w1=w'):=zH fun w1 hm=>by
  obtain ⟨m,rfl⟩:=hm;have:=gG ((ht.below hb).drawn m) (i:Int);rwa [iK] at this
 clear hB hC hs ht hb
 show Calls _ _ _ _ (fun e w'=>e= .returned (.int .i64 (max (says xs i) (says ys i)))/\_)
 generalize says xs i=x at*;generalize says ys i=y at*;go_enter func20,ntmps20
 go_wp2_with fail
 go_region_with (first
   |(go_at_call_of 21 u;refine (K1.o _ (by first|exact ⟨0,rfl⟩|exact ⟨1,rfl⟩|exact ⟨2,rfl⟩)).mono ?_;rintro e u2 ⟨rfl,rfl⟩)
   |(go_at_call_of 21 v;refine (K2.o _ (by first|exact ⟨0,rfl⟩|exact ⟨1,rfl⟩|exact ⟨2,rfl⟩)).mono ?_;rintro e u2 ⟨rfl,rfl⟩))
 all_goals (try go_wp2_with fail)
 all_goals go_ret
 all_goals exact ⟨rfl,1,rfl⟩
theorem qP{u v:Value}{xs ys:Ints}{w:World}(hs:bX w u xs)(ht:bX w v ys)(hl:xs.length<=1000000)(hm:ys.length<=1000000):Calls prog 11 #[u,v] w (wW w (join xs ys)):=by
 obtain ⟨a,cap,rfl,g1,g2,g0,h⟩:=hs.parts;obtain ⟨a',cap',rfl,g1',g2',g0',h'⟩:=ht.parts;obtain ⟨b1,b2,hB,hZ⟩:=yA w (.slice a xs.length cap) (.slice a' ys.length cap') 31 31;have e:max (xs.length:Int) (ys.length:Int)=((max xs.length ys.length:Nat):Int):=by omega
 have KL:=zH (lK 20 #[.pointer (some ⟨w.heap.size,0,none⟩),.pointer (some ⟨w.heap.size+1,0,none⟩)] (enters_of func20 (by kernel_rfl) rfl) (fun i=>max (says xs i) (says ys i)) (max xs.length ys.length) (by omega) (wZ b1 b2 (h.below hB) (h'.below hB) (max xs.length ys.length)));have HB:=zH hB;have HZ:=zH hZ;have HE:=zH e;clear hs h g0 hB hZ ht h' g0' b1 b2 e;go_enter func11,ntmps11
 go_wp2_with fail
 rw [HE.o];refine KL.o.mono ?_;rintro e u2 ⟨v2,rfl,ho,hb⟩;have O2:=zH (ho.mono (by rw [HZ.o];omega:w.heap.size<=_));have G2:=zH (HB.o.trans (hb.mono (by rw [HZ.o];omega)));clear ho hb;go_wp2_with fail
 go_ret
 exact ⟨_,rfl,O2.o,G2.o⟩
theorem yB(w:World)(x y z:Value)(t:TypeId):(w.alloc (.cells #[x,y,z] t)).cell? ⟨w.heap.size,0,none⟩=some x/\(w.alloc (.cells #[x,y,z] t)).cell? ⟨w.heap.size,1,none⟩=some y/\Below w.heap.size w (w.alloc (.cells #[x,y,z] t)):=
 ⟨cell_of_row _ _ 0 _ _ _ (aR w _),cell_of_row _ _ 1 _ _ _ (aR w _),(ak _ _).alloc (aj _) _⟩
theorem kC{v:Value}{xs:Ints}{w:World}(hs:bX w v xs)(p q r:Int):
  Calls prog 13 #[v,.agg #[.int .i64 p,.int .i64 q,.int .i64 r]] w fun e w'=>e= .returned (.bool (decide (1<=q)&&decide (q<=cO xs p)))/\Below w.heap.size w w':=by
 obtain ⟨c1,c2,hB⟩:=yB w (.int .i64 p) (.int .i64 q) (.int .i64 r) 47;have HB:=zH hB;have KA:Hid (∀ m,Calls prog 21 #[v,.int .i64 p] ((w.alloc (.cells #[.int .i64 p,.int .i64 q,.int .i64 r] 47)).drewN m) fun e w'=>e= .returned (.int .i64 (cO xs p))/\(w.alloc (.cells #[.int .i64 p,.int .i64 q,.int .i64 r] 47)).drewN m=w'):=zH fun m=>gG ((hs.below hB).drawn m) p
 clear hs hB;generalize cO xs p=x at*
 by_cases h1:1<=q
 ·rw [aB h1]
  by_cases h2:q<=x
  ·rw [aB h2]
   have d1:decide (1<=q)=true:=aB h1;have d2:decide (q<=x)=true:=aB h2;go_enter func13,ntmps13
   go_wp2_with fail
   go_quiet ((go_at_call 21;exact kH (KA.o _)))
   go_wp2_with fail
   go_ret
   exact ⟨rfl,below_drewN HB.o _⟩
  ·rw [aA h2]
   have d1:decide (1<=q)=true:=aB h1;have d2:decide (q<=x)=false:=aA h2;go_enter func13,ntmps13
   go_wp2_with fail
   go_quiet ((go_at_call 21;exact kH (KA.o _)))
   go_wp2_with fail
   go_ret
   exact ⟨rfl,below_drewN HB.o _⟩
 ·rw [aA h1]
  have d1:decide (1<=q)=false:=aA h1;go_enter func13,ntmps13
  go_wp2_with fail
  go_quiet (fail)
  go_wp2_with fail
  go_ret
  exact ⟨rfl,below_drewN HB.o _⟩
theorem mD{u v:Value}{xs:Ints}{w:World}(hs:bX w u xs)(ht:bX w v xs):
  Calls prog 38 #[u,v] w fun e w'=>e= .returned (.bool true)/\∃ n,w'=w.drewN n:=by
 by_cases hp:0<xs.length
 ·obtain ⟨b1,o1,c1,rfl,g1,m1,-,k1⟩:=hs.spot hp
  obtain ⟨b2,o2,c2,rfl,g2,m2,-,k2⟩:=ht.spot hp;have HU:=zH k1;have HV:=zH k2;have hm:maxLen=9223372036854775807:=rfl;rw [hm] at m1 m2;clear hs ht k1 k2 hm;go_enter func38,ntmps38
  go_wp2_with fail
  go_loopw [5] (fun i wr=>∃ k:Nat,k<=xs.length/\i= .int .i64 k/\∃ n,wr=w.drewN n) (fun i _=>xs.length-(intOf i).toNat)
  case atStart=>exact ⟨0,aJ _,rfl,0,rfl⟩
  case round=>
   obtain ⟨k,hk,rfl,n,rfl⟩:=hrel
   by_cases hlt:k<xs.length
   ·have c1':=HU.o k hlt
    have c2':=HV.o k hlt;generalize xs.getD k 0=x at*;go_wp2_with fail
    go_quiet (fail)
    go_wp2_with fail
    go_roundw
    case rel=>exact ⟨k+1,by omega,by go_num,_,rfl⟩
    case measure=>simp [intOf];omega
   ·obtain rfl:k=xs.length:=by omega
    go_wp2_with fail
    go_ret
    exact ⟨rfl,_,rfl⟩
 ·obtain rfl:xs=[]:=aF (by omega)
  obtain ⟨a1,c1,rfl,-⟩:=hs;obtain ⟨a2,c2,rfl,-⟩:=ht;simp only [List.length_nil]
  go_enter func38,ntmps38
  go_wp2_with fail
  go_loop [5] (fun i=>i= .int .i64 0) (fun _=>0)
  case atStart=>rfl
  case round=>
   obtain rfl:=hrel;go_wp2_with fail
   go_ret
   exact ⟨rfl,0,rfl⟩
theorem oW{u v:Value}{xs ys:Ints}{w:World}(hs:bX w u xs)(ht:bX w v ys)(hne:¬ xs=ys):
  Calls prog 38 #[u,v] w fun e w'=>e= .returned (.bool false)/\∃ n,w'=w.drewN n:=by
 by_cases hl:xs.length=ys.length
 ·have hp:0<xs.length:=by
   by_cases h:0<xs.length
   ·exact h
   ·exfalso
    apply hne
    rw [aF (show xs.length=0 by omega),aF (show ys.length=0 by omega)]
  have hex:∃ j,j<xs.length/\xs.getD j 0≠ys.getD j 0:=by
   refine aY fun hno=>hne ?_
   apply bE hl
   intro j h1 h2;have hj:xs.getD j 0=ys.getD j 0:=aY fun h=>hno ⟨j,h1,h⟩
   simpa [List.getD,ah h1,ah h2] using hj
  obtain ⟨b1,o1,c1,rfl,g1,m1,-,k1⟩:=hs.spot hp;obtain ⟨b2,o2,c2,rfl,g2,m2,-,k2⟩:=ht.spot (by omega);rw [<-hl] at k2 g2 ⊢;have HU:=zH k1;have HV:=zH k2;have AX:=zH hex;have hm:maxLen=9223372036854775807:=rfl;rw [hm] at m1 m2;clear hs ht k1 k2 hm hl hex hne;go_enter func38,ntmps38
  go_wp2_with fail
  go_loopw [5] (fun i wr=>∃ k:Nat,k<=xs.length/\i= .int .i64 k/\(∀ j,j<k ->xs.getD j 0=ys.getD j 0)/\∃ n,wr=w.drewN n) (fun i _=>xs.length-(intOf i).toNat)
  case atStart=>exact ⟨0,aJ _,rfl,(fun j hj=>absurd hj (by omega)),0,rfl⟩
  case round=>
   obtain ⟨k,hk,rfl,hall,n,rfl⟩:=hrel;have je:=zH hall;clear hall
   by_cases hlt:k<xs.length
   ·have c1':=HU.o k hlt
    have c2':=HV.o k hlt
    by_cases he:xs.getD k 0=ys.getD k 0
    ·have HE:=zH he
     rw [he] at c1';clear he;have wQ:Hid (∀ j,j<k+1 ->xs.getD j 0=ys.getD j 0):=zH (fun j hj=>by
      by_cases h:j<k
      ·exact je.o j h
      ·obtain rfl:j=k:=by omega
       exact HE.o)
     generalize ys.getD k 0=x at*;go_wp2_with fail
     go_quiet (fail)
     go_wp2_with fail
     go_roundw
     case rel=>exact ⟨k+1,by omega,by go_num,wQ.o,_,rfl⟩
     case measure=>simp [intOf];omega
    ·generalize xs.getD k 0=x at*
     generalize ys.getD k 0=y at*;have hb2:(x !=y)=true:=bne_iff_ne.2 he;clear he;go_wp2_with fail
     go_quiet (fail)
     go_wp2_with fail
     go_ret
     exact ⟨rfl,_,World.drewN_drewN _ _ _⟩
   ·exfalso
    obtain ⟨j,hj,hne⟩:=AX.o;exact hne (je.o j (by omega))
 ·obtain ⟨a1,c1,rfl,-⟩:=hs
  obtain ⟨a2,c2,rfl,-⟩:=ht;generalize xs.length=la at*;generalize ys.length=lb at*;have h1:¬ ((la:Int)=(lb:Int)):=by omega
  have h2:((la:Int) !=(lb:Int))=true:=bne_iff_ne.2 h1;clear hl h1 hne;go_enter func38,ntmps38
  go_wp2_with fail
  go_ret
  exact ⟨rfl,0,rfl⟩
theorem mh{u v:Value}{xs ys:Ints}{w:World}(hs:bX w u xs)(ht:bX w v ys):
  Calls prog 38 #[u,v] w fun e w'=>e= .returned (.bool (decide (xs=ys)))/\∃ n,w'=w.drewN n:=by
 by_cases h:xs=ys
 ·subst h
  rw [aB rfl];exact mD hs ht
 ·rw [aA h]
  exact oW hs ht h
end Go.Proofs.Ytmknpmamkjjiaaa