import Derived.Test.YtfgcodcablpdcaaGreatOrHps
import Derived.Lib.MinMax
import Derived.Shelf.Abstract
set_option linter.unusedVariables false
set_option maxRecDepth 100000
set_option maxHeartbeats 64000000
namespace Go.Proofs.YtfgcodcablpdcaaGreat
open Go.Proofs.Tryz
open Go.RowKit Plain Go.Shelf
theorem jJ{v:Value}{xs:Ints}{w:World}(hs:gQ w v xs)(n:Int):
  Calls prog 131 #[v,.int .i64 n] w fun e w'=>e= .returned (.int .i64 (iF xs n))/\w=w':=by
 obtain ⟨a,cap,rfl,g1,g2,g0,h⟩:=hs.parts
 by_cases h0:n<0
 ·have hq:iF xs n=0:=by unfold iF;rw [if_neg (by omega)]
  rw [hq];clear hq h hs g0;go_enter func131,ntmps131
  go_wp2_with fail
  go_ret
  exact ⟨rfl,rfl⟩
 ·obtain ⟨k,rfl⟩:∃ k:Nat,n=(k:Int):=⟨n.toNat,by omega⟩
  rw [lg]
  by_cases hk:k<xs.length
  ·obtain ⟨b,o,c,hv,-,-,-,hc⟩:=h.spot (by omega)
   simp only [aC] at hv
   obtain ⟨rfl,-,rfl⟩:=hv;have c1:=hc k hk;have hq:says xs k=max (xs.getD k 0) 0:=rfl;rw [hq];generalize xs.getD k 0=x at*;clear hq h hs g0 hc;go_enter func131,ntmps131
   go_wp2_with fail
   go_ret
   exact ⟨rfl,rfl⟩
  ·have hq:says xs k=0:=su xs k (by omega)
   rw [hq];clear hq h hs g0;go_enter func131,ntmps131
   go_wp2_with fail
   go_ret
   exact ⟨rfl,rfl⟩
def wJ(w:World)(g:Nat)(lb:Array Value)(c:Nat ->Int)(n:Nat):Prop:=
 ∀ (W:World) (i:Nat),i<n ->Below w.heap.size w W ->Calls prog g (#[.int .i64 (i:Int)]++lb) W fun e w'=>e= .returned (.int .i64 (c i))/\∃ m,w'=W.drewN m
theorem xL(g:Nat)(lb:Array Value)(eg:∀ args w,(callFunc g args).run prog w= .ok (.enter g args) w)(c:Nat ->Int)(n:Nat)(hn:n<=1000000){w:World}(hc:wJ w g lb c n):
  Calls prog 159 #[.int .i64 (n:Int),.func (.func g) #[] lb] w (ED w (laid c n)):=by
 have HC:=zH hc;clear hc;go_enter func159,ntmps159
 go_wp2_with fail
 go_loopw [0] (fun i wr=>∃ k q:Nat,k<=n/\i= .int .i64 k/\laid c k=laid c n/\wr=w.drewN q) (fun i _=>(intOf i).toNat)
 case atStart=>exact ⟨n,0,ah _,rfl,rfl,rfl⟩
 case round=>
  obtain ⟨k,q,hk,rfl,hl,rfl⟩:=hrel
  match k,hk,hl with
  |0,hk,hl=>
   have L0:=zH (show (laid c n).length=0 by rw [<-hl];rfl);clear hl;go_wp2_with (at_make;refine CS rfl (.tmp 18) rfl 0 (laid c n).length rfl (by rw [L0.o];rfl) (by rw [L0.o];omega) ?_)
   intro w1 ho hb;have O0:Hid (gI w.heap.size w1 (.slice (some ⟨w.heap.size,0,none⟩) (laid c n).length (laid c n).length) (nD c (laid c n).length 0)):=zH (by rw [Jq];exact ho);have G0:Hid (Below w.heap.size w w1):=zH ((below_drewN (aj _ _) _).trans hb);have LN:=qg c n;have PL:=zH (Js c n);clear ho hb;generalize hM:(laid c n).length=M at*;clear hM L0;go_wp2_with fail
   go_loopw [22] (fun i wr=>∃ j:Nat,j<=M/\i= .int .i64 j/\gI w.heap.size wr (.slice (some ⟨w.heap.size,0,none⟩) M M) (nD c M j)/\Below w.heap.size w wr) (fun i _=>M-(intOf i).toNat)
   case atStart=>exact ⟨0,by omega,rfl,O0.o,G0.o⟩
   case round=>
    obtain ⟨j,hj,rfl,ho,hb⟩:=hrel
    by_cases hlt:j<M
    ·have hcall:=HC.o wr j (by omega) hb
     have HO:=zH ho;have HB:=zH hb;have HJ:=zH (Jr c M j);have HJ2:=zH (Mc c M j);clear ho hb;generalize c j=cj at*;go_wp2_with (go_at_fn g;refine hcall.mono ?_;rintro e w' ⟨rfl,q',hq⟩;have ho':gI w.heap.size w' (.slice (some ⟨w.heap.size,0,none⟩) M M) (nD c M j):=(by rw [hq];exact HO.o.below (below_drewN (aj _ _) q') (ah _));have hb':Below w.heap.size w w':=(by rw [hq];exact below_drewN HB.o q');have hc1:=ho'.cell j (by rw [HJ2.o];exact hlt);have hf1:=ho'.free j;have O2:Hid (gI w.heap.size (w'.setCell ⟨w.heap.size,j,none⟩ (.int .i64 cj)) (.slice (some ⟨w.heap.size,0,none⟩) M M) (nD c M (j+1))):=zH (by rw [<-HJ.o];exact ho'.set j cj);have G2:=zH (hb'.setCell (p:=⟨w.heap.size,j,none⟩) (ah _) (.int .i64 cj));clear hq ho' hb';generalize (nD c M j).getD j 0=x at*)
     exact ⟨⟨j+1,by omega,by go_num,O2.o,G2.o⟩,by simp [intOf];omega⟩
    ·obtain rfl:j=M:=by omega
     have O2:=zH ho;have G2:=zH hb;clear ho hb;rw [PL.o] at O2;go_wp2_with fail
     go_ret
     exact ⟨_,rfl,O2.o,G2.o⟩
  |k+1,hk,hl=>
   have hcall:=HC.o (w.drewN q) k (by omega) (below_drewN (aj _ _) q);have e1:((k+1:Nat):Int)-1=(k:Int):=by omega
   by_cases h0:c k=0
   ·have HL:=zH (Zl c n k hl h0)
    rw [h0] at hcall;clear hl;go_wp2_with (go_at_fn g;refine hcall.mono ?_;rintro e w' ⟨rfl,q',rfl⟩)
    exact ⟨⟨k,_,by omega,rfl,HL.o,rfl⟩,by simp [intOf]⟩
   ·have L0:=zH (Zm c n k hl h0)
    have hb0:(c k==0)=false:=by simpa using h0
    clear hl;generalize c k=ck at*;go_wp2_with (first|(go_at_fn g;refine hcall.mono ?_;rintro e w' ⟨rfl,q',rfl⟩)|(at_make;refine CS rfl (.tmp 18) rfl ((k+1:Nat):Int) (laid c n).length rfl (by rw [L0.o]) (by rw [L0.o];omega) ?_))
    intro w1 ho hb;have O0:Hid (gI w.heap.size w1 (.slice (some ⟨w.heap.size,0,none⟩) (laid c n).length (laid c n).length) (nD c (laid c n).length 0)):=zH (by rw [Jq];exact ho);have G0:Hid (Below w.heap.size w w1):=zH ((below_drewN (aj _ _) _).trans hb);have LN:=qg c n;have PL:=zH (Js c n);clear ho hb;generalize hM:(laid c n).length=M at*;clear hM L0;go_wp2_with fail
    go_loopw [22] (fun i wr=>∃ j:Nat,j<=M/\i= .int .i64 j/\gI w.heap.size wr (.slice (some ⟨w.heap.size,0,none⟩) M M) (nD c M j)/\Below w.heap.size w wr) (fun i _=>M-(intOf i).toNat)
    case atStart=>exact ⟨0,by omega,rfl,O0.o,G0.o⟩
    case round=>
     obtain ⟨j,hj,rfl,ho,hb⟩:=hrel
     by_cases hlt:j<M
     ·have hcall:=HC.o wr j (by omega) hb
      have HO:=zH ho;have HB:=zH hb;have HJ:=zH (Jr c M j);have HJ2:=zH (Mc c M j);clear ho hb;generalize c j=cj at*;go_wp2_with (go_at_fn g;refine hcall.mono ?_;rintro e w' ⟨rfl,q',hq⟩;have ho':gI w.heap.size w' (.slice (some ⟨w.heap.size,0,none⟩) M M) (nD c M j):=(by rw [hq];exact HO.o.below (below_drewN (aj _ _) q') (ah _));have hb':Below w.heap.size w w':=(by rw [hq];exact below_drewN HB.o q');have hc1:=ho'.cell j (by rw [HJ2.o];exact hlt);have hf1:=ho'.free j;have O2:Hid (gI w.heap.size (w'.setCell ⟨w.heap.size,j,none⟩ (.int .i64 cj)) (.slice (some ⟨w.heap.size,0,none⟩) M M) (nD c M (j+1))):=zH (by rw [<-HJ.o];exact ho'.set j cj);have G2:=zH (hb'.setCell (p:=⟨w.heap.size,j,none⟩) (ah _) (.int .i64 cj));clear hq ho' hb';generalize (nD c M j).getD j 0=x at*)
      exact ⟨⟨j+1,by omega,by go_num,O2.o,G2.o⟩,by simp [intOf];omega⟩
     ·obtain rfl:j=M:=by omega
      have O2:=zH ho;have G2:=zH hb;clear ho hb;rw [PL.o] at O2;go_wp2_with fail
      go_ret
      exact ⟨_,rfl,O2.o,G2.o⟩
theorem uT(w:World)(v:Value)(t:TypeId):(w.alloc (.cells #[v] t)).cell? ⟨w.heap.size,0,none⟩=some v:=cell_of_row _ _ 0 _ _ _ (aM w _)
theorem Fw(w:World)(v:Value)(t:TypeId):(w.alloc (.cells #[v] t)).heap.size=w.heap.size+1:=by simp
theorem qo(w:World)(v:Value)(t:TypeId):Below w.heap.size w (w.alloc (.cells #[v] t)):=(aj _ _).alloc (ah _) _
theorem jA{N:Nat}{w w':World}{p:Addr}{v:Value}(h:w.cell? p=some v)(hb:Below N w w')(hN:w.heap.size<=N):w'.cell? p=some v:=(hb.cell (ay (aG w p h) hN)).trans h
theorem vc_trimC{w:World}{B:Nat}{v:Value}{xs:Ints}(hB:w.cell? ⟨B,0,none⟩=some v)(hs:gQ w v xs)(n:Nat):wJ w 160 #[.pointer (some ⟨B,0,none⟩)] (says xs) n:=by
 intro W i _ hb;have c1:=jA hB hb (ah _);have K:=jJ (hs.below hb) (i:Int);rw [lg] at K;clear hB hs hb;generalize says xs i=x at*;go_enter func160,ntmps160
 go_wp2_with (go_at_call 131;refine K.mono ?_;rintro e w' ⟨rfl,rfl⟩)
 go_ret
 exact ⟨rfl,0,rfl⟩
theorem rP{v:Value}{xs:Ints}{w:World}(hs:gQ w v xs)(hl:xs.length<=1000000):Calls prog 84 #[v] w (ED w (trim xs)):=by
 obtain ⟨a,cap,rfl,g1,g2,g0,h⟩:=hs.parts;have hB:=qo w (.slice a xs.length cap) 25;have KL:=zH (xL 160 #[.pointer (some ⟨w.heap.size,0,none⟩)] (enters_of func160 (by kernel_rfl) rfl) (says xs) xs.length hl (vc_trimC (uT w (.slice a xs.length cap) 25) (h.below hB) xs.length));have HB:=zH hB;have HZ:=zH (Fw w (.slice a xs.length cap) 25);clear hs h g0 hB;go_enter func84,ntmps84
 go_wp2_with fail
 refine KL.o.mono ?_;rintro e u2 ⟨v2,rfl,ho,hb⟩;have O2:=zH (ho.mono (by rw [HZ.o];omega:w.heap.size<=_));have G2:=zH (HB.o.trans (hb.mono (by rw [HZ.o];omega)));clear ho hb;go_wp2_with fail
 go_ret
 exact ⟨_,rfl,O2.o,G2.o⟩
theorem Pe(w:World)(u v:Value)(s t:TypeId):((w.alloc (.cells #[u] s)).alloc (.cells #[v] t)).cell? ⟨w.heap.size,0,none⟩=some u/\((w.alloc (.cells #[u] s)).alloc (.cells #[v] t)).cell? ⟨w.heap.size+1,0,none⟩=some v/\Below w.heap.size w ((w.alloc (.cells #[u] s)).alloc (.cells #[v] t))/\((w.alloc (.cells #[u] s)).alloc (.cells #[v] t)).heap.size=w.heap.size+2:=by
 have h2:=uT (w.alloc (.cells #[u] s)) v t;rw [Fw] at h2;exact ⟨jA (uT w u s) (qo _ v t) (ah _),h2,(qo w u s).alloc (by simp) _,by simp⟩
theorem vc_joinC{w:World}{B C:Nat}{u v:Value}{xs ys:Ints}(hB:w.cell? ⟨B,0,none⟩=some u)(hC:w.cell? ⟨C,0,none⟩=some v)(hs:gQ w u xs)(ht:gQ w v ys)(n:Nat):
  wJ w 164 #[.pointer (some ⟨B,0,none⟩),.pointer (some ⟨C,0,none⟩)] (fun i=>max (says xs i) (says ys i)) n:=by
 intro W i _ hb;have c1:=jA hB hb (ah _);have c2:=jA hC hb (ah _);have K1:Hid (∀ w1,(∃ m,w1=W.drewN m) ->Calls prog 131 #[u,.int .i64 (i:Int)] w1 fun e w'=>e= .returned (.int .i64 (says xs i))/\w1=w'):=zH fun w1 hm=>by
  obtain ⟨m,rfl⟩:=hm;have:=jJ ((hs.below hb).drawn m) (i:Int);rwa [lg] at this
 have K2:Hid (∀ w1,(∃ m,w1=W.drewN m) ->Calls prog 131 #[v,.int .i64 (i:Int)] w1 fun e w'=>e= .returned (.int .i64 (says ys i))/\w1=w'):=zH fun w1 hm=>by
  obtain ⟨m,rfl⟩:=hm;have:=jJ ((ht.below hb).drawn m) (i:Int);rwa [lg] at this
 clear hB hC hs ht hb
 show Calls _ _ _ _ (fun e w'=>e= .returned (.int .i64 (max (says xs i) (says ys i)))/\_)
 generalize says xs i=x at*;generalize says ys i=y at*;go_enter func164,ntmps164
 go_wp2_with fail
 go_region_with (first
   |(go_at_call_of 131 u;refine (K1.o _ (by first|exact ⟨0,rfl⟩|exact ⟨1,rfl⟩|exact ⟨2,rfl⟩)).mono ?_;rintro e u2 ⟨rfl,rfl⟩)
   |(go_at_call_of 131 v;refine (K2.o _ (by first|exact ⟨0,rfl⟩|exact ⟨1,rfl⟩|exact ⟨2,rfl⟩)).mono ?_;rintro e u2 ⟨rfl,rfl⟩))
 all_goals (try go_wp2_with fail)
 all_goals go_ret
 all_goals exact ⟨rfl,1,rfl⟩
theorem vc_meetC{w:World}{B C:Nat}{u v:Value}{xs ys:Ints}(hB:w.cell? ⟨B,0,none⟩=some u)(hC:w.cell? ⟨C,0,none⟩=some v)(hs:gQ w u xs)(ht:gQ w v ys)(n:Nat):
  wJ w 176 #[.pointer (some ⟨B,0,none⟩),.pointer (some ⟨C,0,none⟩)] (fun i=>min (says xs i) (says ys i)) n:=by
 intro W i _ hb;have c1:=jA hB hb (ah _);have c2:=jA hC hb (ah _);have K1:Hid (∀ w1,(∃ m,w1=W.drewN m) ->Calls prog 131 #[u,.int .i64 (i:Int)] w1 fun e w'=>e= .returned (.int .i64 (says xs i))/\w1=w'):=zH fun w1 hm=>by
  obtain ⟨m,rfl⟩:=hm;have:=jJ ((hs.below hb).drawn m) (i:Int);rwa [lg] at this
 have K2:Hid (∀ w1,(∃ m,w1=W.drewN m) ->Calls prog 131 #[v,.int .i64 (i:Int)] w1 fun e w'=>e= .returned (.int .i64 (says ys i))/\w1=w'):=zH fun w1 hm=>by
  obtain ⟨m,rfl⟩:=hm;have:=jJ ((ht.below hb).drawn m) (i:Int);rwa [lg] at this
 clear hB hC hs ht hb
 show Calls _ _ _ _ (fun e w'=>e= .returned (.int .i64 (min (says xs i) (says ys i)))/\_)
 generalize says xs i=x at*;generalize says ys i=y at*;go_enter func176,ntmps176
 go_wp2_with fail
 go_region_with (first
   |(go_at_call_of 131 u;refine (K1.o _ (by first|exact ⟨0,rfl⟩|exact ⟨1,rfl⟩|exact ⟨2,rfl⟩)).mono ?_;rintro e u2 ⟨rfl,rfl⟩)
   |(go_at_call_of 131 v;refine (K2.o _ (by first|exact ⟨0,rfl⟩|exact ⟨1,rfl⟩|exact ⟨2,rfl⟩)).mono ?_;rintro e u2 ⟨rfl,rfl⟩))
 all_goals (try go_wp2_with fail)
 all_goals go_ret
 all_goals exact ⟨rfl,1,rfl⟩
theorem yH{u v:Value}{xs ys:Ints}{w:World}(hs:gQ w u xs)(ht:gQ w v ys)(hl:xs.length<=1000000)(hm:ys.length<=1000000):Calls prog 90 #[u,v] w (ED w (join xs ys)):=by
 obtain ⟨a,cap,rfl,g1,g2,g0,h⟩:=hs.parts;obtain ⟨a',cap',rfl,g1',g2',g0',h'⟩:=ht.parts;obtain ⟨b1,b2,hB,hZ⟩:=Pe w (.slice a xs.length cap) (.slice a' ys.length cap') 25 25;have e:max (xs.length:Int) (ys.length:Int)=((max xs.length ys.length:Nat):Int):=by omega
 have KL:=zH (xL 164 #[.pointer (some ⟨w.heap.size,0,none⟩),.pointer (some ⟨w.heap.size+1,0,none⟩)] (enters_of func164 (by kernel_rfl) rfl) (fun i=>max (says xs i) (says ys i)) (max xs.length ys.length) (by omega) (vc_joinC b1 b2 (h.below hB) (h'.below hB) (max xs.length ys.length)));have HB:=zH hB;have HZ:=zH hZ;have HE:=zH e;clear hs h g0 hB hZ ht h' g0' b1 b2 e;go_enter func90,ntmps90
 go_wp2_with fail
 rw [HE.o];refine KL.o.mono ?_;rintro e u2 ⟨v2,rfl,ho,hb⟩;have O2:=zH (ho.mono (by rw [HZ.o];omega:w.heap.size<=_));have G2:=zH (HB.o.trans (hb.mono (by rw [HZ.o];omega)));clear ho hb;go_wp2_with fail
 go_ret
 exact ⟨_,rfl,O2.o,G2.o⟩
theorem yI{u v:Value}{xs ys:Ints}{w:World}(hs:gQ w u xs)(ht:gQ w v ys)(hl:xs.length<=1000000)(hm:ys.length<=1000000):Calls prog 100 #[u,v] w (ED w (meet xs ys)):=by
 obtain ⟨a,cap,rfl,g1,g2,g0,h⟩:=hs.parts;obtain ⟨a',cap',rfl,g1',g2',g0',h'⟩:=ht.parts;obtain ⟨b1,b2,hB,hZ⟩:=Pe w (.slice a xs.length cap) (.slice a' ys.length cap') 25 25;have e:min (xs.length:Int) (ys.length:Int)=((min xs.length ys.length:Nat):Int):=by omega
 have KL:=zH (xL 176 #[.pointer (some ⟨w.heap.size,0,none⟩),.pointer (some ⟨w.heap.size+1,0,none⟩)] (enters_of func176 (by kernel_rfl) rfl) (fun i=>min (says xs i) (says ys i)) (min xs.length ys.length) (by omega) (vc_meetC b1 b2 (h.below hB) (h'.below hB) (min xs.length ys.length)));have HB:=zH hB;have HZ:=zH hZ;have HE:=zH e;clear hs h g0 hB hZ ht h' g0' b1 b2 e;go_enter func100,ntmps100
 go_wp2_with fail
 rw [HE.o];refine KL.o.mono ?_;rintro e u2 ⟨v2,rfl,ho,hb⟩;have O2:=zH (ho.mono (by rw [HZ.o];omega:w.heap.size<=_));have G2:=zH (HB.o.trans (hb.mono (by rw [HZ.o];omega)));clear ho hb;go_wp2_with fail
 go_ret
 exact ⟨_,rfl,O2.o,G2.o⟩
theorem Ay{u v:Value}{xs ys:Ints}{w:World}(hs:gQ w u xs)(ht:gQ w v ys)(hl:xs.length<=1000000):
  Calls prog 60 #[u,v] w fun e w'=>e= .returned (.bool (Plain.within xs ys))/\w=w':=by
 obtain ⟨a,cap,rfl,g1,g2,g0,h⟩:=hs.parts;obtain ⟨a',cap',rfl,g1',g2',g0',h'⟩:=ht.parts;have HW:Hid ((∀ i,i<xs.length ->says xs i<=says ys i) ->Plain.within xs ys=true):=zH fun h=>RV (vF h)
 have HF:Hid (∀ i,¬ says xs i<=says ys i ->Plain.within xs ys=false):=zH fun i h=>Oe fun g=>h (g i)
 have KA:Hid (∀ k:Nat,Calls prog 131 #[.slice a xs.length cap,.int .i64 (k:Int)] w fun e w'=>e= .returned (.int .i64 (says xs k))/\w=w'):=zH fun k=>by
  have:=jJ h (k:Int);rwa [lg] at this
 have KB:Hid (∀ k:Nat,Calls prog 131 #[.slice a' ys.length cap',.int .i64 (k:Int)] w fun e w'=>e= .returned (.int .i64 (says ys k))/\w=w'):=zH fun k=>by
  have:=jJ h' (k:Int);rwa [lg] at this
 clear hs h g0 ht h' g0' g2 g2';generalize Plain.within xs ys=r at*;generalize xs.length=la at*;generalize ys.length=lb at*;go_enter func60,ntmps60
 go_wp2_with fail
 go_loop [8] (fun i=>∃ k:Nat,k<=la/\i= .int .i64 k/\∀ j,j<k ->says xs j<=says ys j) (fun i=>la-(intOf i).toNat)
 case atStart=>exact ⟨0,aL _,rfl,fun j hj=>absurd hj (by omega)⟩
 case round=>
  obtain ⟨k,hk,rfl,hall⟩:=hrel;have HA:=zH hall;clear hall;have K1:=KA.o k;have K2:=KB.o k
  by_cases hlt:k<la
  ·by_cases he:says xs k<=says ys k
   ·have HA2:Hid (∀ j,j<k+1 ->says xs j<=says ys j):=zH (fun j hj=>by
      by_cases h:j<k
      ·exact HA.o j h
      ·obtain rfl:j=k:=by omega
       exact he)
    generalize says xs k=x at*;generalize says ys k=y at*;go_wp2_with fail
    refine K1.mono ?_;rintro e w' ⟨rfl,rfl⟩;go_wp2_with fail
    refine K2.mono ?_;rintro e w' ⟨rfl,rfl⟩;clear K1 K2;go_wp2_with fail
    go_round
    case rel=>exact ⟨k+1,by omega,by go_num,HA2.o⟩
    case measure=>simp [intOf];omega
   ·obtain rfl:r=false:=HF.o k (by omega)
    generalize says xs k=x at*;generalize says ys k=y at*;go_wp2_with fail
    refine K1.mono ?_;rintro e w' ⟨rfl,rfl⟩;go_wp2_with fail
    refine K2.mono ?_;rintro e w' ⟨rfl,rfl⟩;clear K1 K2;go_wp2_with fail
    go_ret
    exact ⟨rfl,rfl⟩
  ·obtain rfl:k=la:=by omega
   obtain rfl:r=true:=HW.o HA.o;clear K1 K2;go_wp2_with fail
   go_ret
   exact ⟨rfl,rfl⟩
theorem vc_box3(w:World)(x y z:Value)(t:TypeId):(w.alloc (.cells #[x,y,z] t)).cell? ⟨w.heap.size,0,none⟩=some x/\(w.alloc (.cells #[x,y,z] t)).cell? ⟨w.heap.size,1,none⟩=some y/\Below w.heap.size w (w.alloc (.cells #[x,y,z] t)):=
 ⟨cell_of_row _ _ 0 _ _ _ (aM w _),cell_of_row _ _ 1 _ _ _ (aM w _),(aj _ _).alloc (ah _) _⟩
theorem tN{v:Value}{xs:Ints}{w:World}(hs:gQ w v xs)(p q r:Int):
  Calls prog 154 #[v,.agg #[.int .i64 p,.int .i64 q,.int .i64 r]] w fun e w'=>e= .returned (.bool (decide (1<=q)&&decide (q<=iF xs p)))/\Below w.heap.size w w':=by
 obtain ⟨c1,c2,hB⟩:=vc_box3 w (.int .i64 p) (.int .i64 q) (.int .i64 r) 77;have HB:=zH hB;have KA:Hid (∀ m,Calls prog 131 #[v,.int .i64 p] ((w.alloc (.cells #[.int .i64 p,.int .i64 q,.int .i64 r] 77)).drewN m) fun e w'=>e= .returned (.int .i64 (iF xs p))/\(w.alloc (.cells #[.int .i64 p,.int .i64 q,.int .i64 r] 77)).drewN m=w'):=zH fun m=>jJ ((hs.below hB).drawn m) p
 clear hs hB;generalize iF xs p=x at*
 by_cases h1:1<=q
 ·rw [aI h1]
  by_cases h2:q<=x
  ·rw [aI h2]
   have d1:decide (1<=q)=true:=aI h1;have d2:decide (q<=x)=true:=aI h2;go_enter func154,ntmps154
   go_wp2_with fail
   go_quiet ((go_at_call 131;exact tF (KA.o _)))
   go_wp2_with fail
   go_ret
   exact ⟨rfl,below_drewN HB.o _⟩
  ·rw [aF h2]
   have d1:decide (1<=q)=true:=aI h1;have d2:decide (q<=x)=false:=aF h2;go_enter func154,ntmps154
   go_wp2_with fail
   go_quiet ((go_at_call 131;exact tF (KA.o _)))
   go_wp2_with fail
   go_ret
   exact ⟨rfl,below_drewN HB.o _⟩
 ·rw [aF h1]
  have d1:decide (1<=q)=false:=aF h1;go_enter func154,ntmps154
  go_wp2_with fail
  go_quiet (fail)
  go_wp2_with fail
  go_ret
  exact ⟨rfl,below_drewN HB.o _⟩
theorem vc_withC{w:World}{B C D:Nat}{u:Value}{xs:Ints}{k0:Nat}{n:Int}(hB:w.cell? ⟨B,0,none⟩=some (.int .i64 (k0:Int)))(hC:w.cell? ⟨C,0,none⟩=some (.int .i64 n))(hD:w.cell? ⟨D,0,none⟩=some u)(hs:gQ w u xs)(N:Nat):
  wJ w 227 #[.pointer (some ⟨B,0,none⟩),.pointer (some ⟨C,0,none⟩),.pointer (some ⟨D,0,none⟩)] (uP xs k0 n) N:=by
 intro W i _ hb;have c1:=jA hB hb (ah _);have c2:=jA hC hb (ah _);have c3:=jA hD hb (ah _);have K:=jJ (hs.below hb) (i:Int);rw [lg] at K;clear hB hC hD hs hb
 by_cases he:i=k0
 ·have hz:uP xs k0 n i=n:=by unfold uP;rw [if_pos he]
  rw [hz];subst he;clear hz K;go_enter func227,ntmps227
  go_wp2_with fail
  go_ret
  exact ⟨rfl,0,rfl⟩
 ·have hz:uP xs k0 n i=says xs i:=by unfold uP;rw [if_neg he]
  rw [hz];generalize says xs i=x at*;have he2:¬ (i:Int)=(k0:Int):=by omega
  have he3:((i:Int)==(k0:Int))=false:=by simpa using he2
  clear he hz he2;go_enter func227,ntmps227
  go_wp2_with fail
  refine K.mono ?_;rintro e w' ⟨rfl,rfl⟩;go_wp2_with fail
  go_ret
  exact ⟨rfl,0,rfl⟩
theorem Xj(w:World)(x y z:Value)(s t r:TypeId):let u:=((w.alloc (.cells #[x] s)).alloc (.cells #[y] t)).alloc (.cells #[z] r)
  u.cell? ⟨w.heap.size,0,none⟩=some x/\u.cell? ⟨w.heap.size+1,0,none⟩=some y/\u.cell? ⟨w.heap.size+2,0,none⟩=some z/\Below w.heap.size w u/\u.heap.size=w.heap.size+3:=by
 obtain ⟨h1,h2,h3,h4⟩:=Pe w x y s t;have h5:=uT ((w.alloc (.cells #[x] s)).alloc (.cells #[y] t)) z r;rw [h4] at h5;exact ⟨jA h1 (qo _ z r) (ah _),jA h2 (qo _ z r) (ah _),h5,h3.alloc (by rw [h4];omega) _,by simp⟩
theorem Sc{v:Value}{xs:Ints}{w:World}(hs:gQ w v xs)(a n:Int)(h:a<0\/8<=a\/n<0\/1073741824<n):
  Calls prog 163 #[v,.int .i64 a,.int .i64 n] w fun e w'=>e= .returned (.tuple #[.slice none 0 0,.int .i64 1])/\Below w.heap.size w w':=by
 obtain ⟨a0,cap,rfl,-,-,-,-⟩:=hs.parts;clear hs;obtain ⟨b1,b2,b3,hB,hZ⟩:=Xj w (.slice a0 xs.length cap) (.int .i64 a) (.int .i64 n) 25 3 3;have HB:=zH hB;clear hB hZ
 by_cases h1:a<0
 ·go_enter func163,ntmps163
  go_wp2_with fail
  all_goals go_ret2
  all_goals exact ⟨rfl,HB.o⟩
 ·by_cases h2:8<=a
  ·go_enter func163,ntmps163
   go_wp2_with fail
   all_goals go_ret2
   all_goals exact ⟨rfl,HB.o⟩
  ·by_cases h3:n<0
   ·go_enter func163,ntmps163
    go_wp2_with fail
    all_goals go_ret2
    all_goals exact ⟨rfl,HB.o⟩
   ·have h4:1073741824<n:=by omega
    clear h;go_enter func163,ntmps163
    go_wp2_with fail
    all_goals go_ret2
    all_goals exact ⟨rfl,HB.o⟩
theorem Vy{v:Value}{xs:Ints}{k0:Nat}{n:Int}{w:World}(hs:gQ w v xs)(hl:xs.length<=1000000)(hk0:k0<=7)(hn0:0<=n)(hn1:n<=1073741824):
  Calls prog 163 #[v,.int .i64 (k0:Int),.int .i64 n] w fun e w'=>∃ u,e= .returned (.tuple #[u,.int .i64 0])/\gI w.heap.size w' u (CQ xs k0 n)/\Below w.heap.size w w':=by
 obtain ⟨a,cap,rfl,g1,g2,g0,h⟩:=hs.parts;obtain ⟨b1,b2,b3,hB,hZ⟩:=Xj w (.slice a xs.length cap) (.int .i64 (k0:Int)) (.int .i64 n) 25 3 3;have e:max (xs.length:Int) ((k0:Int)+1)=((max xs.length (k0+1):Nat):Int):=by omega
 have KL:=zH (xL 227 #[.pointer (some ⟨w.heap.size+1,0,none⟩),.pointer (some ⟨w.heap.size+2,0,none⟩),.pointer (some ⟨w.heap.size,0,none⟩)] (enters_of func227 (by kernel_rfl) rfl) (uP xs k0 n) (max xs.length (k0+1)) (by omega) (vc_withC b2 b3 b1 (h.below hB) (max xs.length (k0+1))));have HB:=zH hB;have HZ:=zH hZ;have HE:=zH e;have q1:¬ (k0:Int)<0:=by omega
 have q2:¬ 8<=(k0:Int):=by omega
 have q3:¬ n<0:=by omega
 have q4:¬ 1073741824<n:=by omega
 have q5:(k0:Int)<=7:=by omega
 clear hs h g0 hB hZ b1 b2 b3 e;go_enter func163,ntmps163
 go_wp2_with fail
 rw [HE.o];refine KL.o.mono ?_;rintro e u2 ⟨v2,rfl,ho,hb⟩;have O2:=zH (ho.mono (by rw [HZ.o];omega:w.heap.size<=_));have G2:=zH (HB.o.trans (hb.mono (by rw [HZ.o];omega)));clear ho hb;go_wp2_with fail
 go_ret2
 exact ⟨_,rfl,O2.o,G2.o⟩
theorem AJ{u v:Value}{xs:Ints}{w:World}(hs:gQ w u xs)(ht:gQ w v xs):
  Calls prog 31 #[u,v] w fun e w'=>e= .returned (.bool true)/\∃ n,w'=w.drewN n:=by
 by_cases hp:0<xs.length
 ·obtain ⟨b1,o1,c1,rfl,g1,m1,-,k1⟩:=hs.spot hp
  obtain ⟨b2,o2,c2,rfl,g2,m2,-,k2⟩:=ht.spot hp;have HU:=zH k1;have HV:=zH k2;have hm:maxLen=9223372036854775807:=rfl;rw [hm] at m1 m2;clear hs ht k1 k2 hm;go_enter func31,ntmps31
  go_wp2_with fail
  go_loopw [5] (fun i wr=>∃ k:Nat,k<=xs.length/\i= .int .i64 k/\∃ n,wr=w.drewN n) (fun i _=>xs.length-(intOf i).toNat)
  case atStart=>exact ⟨0,aL _,rfl,0,rfl⟩
  case round=>
   obtain ⟨k,hk,rfl,n,rfl⟩:=hrel
   by_cases hlt:k<xs.length
   ·have c1':=HU.o k hlt
    have c2':=HV.o k hlt;generalize xs.getD k 0=x at*;go_wp2_with fail
    go_quiet (fail)
    go_wp2_with fail
    go_roundw
    case rel=>exact ⟨k+1,by omega,by go_num,_,rfl⟩
    case measure=>simp [intOf];omega
   ·obtain rfl:k=xs.length:=by omega
    go_wp2_with fail
    go_ret
    exact ⟨rfl,_,rfl⟩
 ·obtain rfl:xs=[]:=aK (by omega)
  obtain ⟨a1,c1,rfl,-⟩:=hs;obtain ⟨a2,c2,rfl,-⟩:=ht;simp only [bf]
  go_enter func31,ntmps31
  go_wp2_with fail
  go_loop [5] (fun i=>i= .int .i64 0) (fun _=>0)
  case atStart=>rfl
  case round=>
   obtain rfl:=hrel;go_wp2_with fail
   go_ret
   exact ⟨rfl,0,rfl⟩
theorem Pf{u v:Value}{xs ys:Ints}{w:World}(hs:gQ w u xs)(ht:gQ w v ys)(hne:¬ xs=ys):
  Calls prog 31 #[u,v] w fun e w'=>e= .returned (.bool false)/\∃ n,w'=w.drewN n:=by
 by_cases hl:xs.length=ys.length
 ·have hp:0<xs.length:=by
   by_cases h:0<xs.length
   ·exact h
   ·exfalso
    apply hne
    rw [aK (show xs.length=0 by omega),aK (show ys.length=0 by omega)]
  have hex:∃ j,j<xs.length/\xs.getD j 0≠ys.getD j 0:=by
   refine dW fun hno=>hne ?_
   apply bT hl
   intro j h1 h2;have hj:xs.getD j 0=ys.getD j 0:=dW fun h=>hno ⟨j,h1,h⟩
   simpa [List.getD,List.getElem?_eq_getElem h1,List.getElem?_eq_getElem h2] using hj
  obtain ⟨b1,o1,c1,rfl,g1,m1,-,k1⟩:=hs.spot hp;obtain ⟨b2,o2,c2,rfl,g2,m2,-,k2⟩:=ht.spot (by omega);rw [<-hl] at k2 g2 ⊢;have HU:=zH k1;have HV:=zH k2;have HEX:=zH hex;have hm:maxLen=9223372036854775807:=rfl;rw [hm] at m1 m2;clear hs ht k1 k2 hm hl hex hne;go_enter func31,ntmps31
  go_wp2_with fail
  go_loopw [5] (fun i wr=>∃ k:Nat,k<=xs.length/\i= .int .i64 k/\(∀ j,j<k ->xs.getD j 0=ys.getD j 0)/\∃ n,wr=w.drewN n) (fun i _=>xs.length-(intOf i).toNat)
  case atStart=>exact ⟨0,aL _,rfl,(fun j hj=>absurd hj (by omega)),0,rfl⟩
  case round=>
   obtain ⟨k,hk,rfl,hall,n,rfl⟩:=hrel;have qb:=zH hall;clear hall
   by_cases hlt:k<xs.length
   ·have c1':=HU.o k hlt
    have c2':=HV.o k hlt
    by_cases he:xs.getD k 0=ys.getD k 0
    ·have HE:=zH he
     rw [he] at c1';clear he;have Rh:Hid (∀ j,j<k+1 ->xs.getD j 0=ys.getD j 0):=zH (fun j hj=>by
      by_cases h:j<k
      ·exact qb.o j h
      ·obtain rfl:j=k:=by omega
       exact HE.o)
     generalize ys.getD k 0=x at*;go_wp2_with fail
     go_quiet (fail)
     go_wp2_with fail
     go_roundw
     case rel=>exact ⟨k+1,by omega,by go_num,Rh.o,_,rfl⟩
     case measure=>simp [intOf];omega
    ·generalize xs.getD k 0=x at*
     generalize ys.getD k 0=y at*;have hb2:(x !=y)=true:=bne_iff_ne.2 he;clear he;go_wp2_with fail
     go_quiet (fail)
     go_wp2_with fail
     go_ret
     exact ⟨rfl,_,fA _ _ _⟩
   ·exfalso
    obtain ⟨j,hj,hne⟩:=HEX.o;exact hne (qb.o j (by omega))
 ·obtain ⟨a1,c1,rfl,-⟩:=hs
  obtain ⟨a2,c2,rfl,-⟩:=ht;generalize xs.length=la at*;generalize ys.length=lb at*;have h1:¬ ((la:Int)=(lb:Int)):=by omega
  have h2:((la:Int) !=(lb:Int))=true:=bne_iff_ne.2 h1;clear hl h1 hne;go_enter func31,ntmps31
  go_wp2_with fail
  go_ret
  exact ⟨rfl,0,rfl⟩
theorem qX{u v:Value}{xs ys:Ints}{w:World}(hs:gQ w u xs)(ht:gQ w v ys):
  Calls prog 31 #[u,v] w fun e w'=>e= .returned (.bool (decide (xs=ys)))/\∃ n,w'=w.drewN n:=by
 by_cases h:xs=ys
 ·subst h
  rw [aI rfl];exact AJ hs ht
 ·rw [aF h]
  exact Pf hs ht h
end Go.Proofs.YtfgcodcablpdcaaGreat