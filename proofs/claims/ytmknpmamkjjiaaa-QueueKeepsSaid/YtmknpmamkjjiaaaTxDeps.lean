import Derived.Test.YtmknpmamkjjiaaaVcAll
import Derived.Test.YtmknpmamkjjiaaaGives
import Derived.Test.YtmknpmamkjjiaaaTxMaths
set_option linter.unusedVariables false
set_option maxRecDepth 100000
set_option maxHeartbeats 64000000
namespace Go.Proofs.Ytmknpmamkjjiaaa
open Go.Proofs.Try
open Go.RowKit Plain
theorem qF{u v:Value}{xs:Ints}{w:World}(hs:bX w u xs)(ht:bX w v xs):
  Calls prog 30 #[u,v] w fun e w'=>e= .returned (.bool true)/\∃ n,w'=w.drewN n:=by
 by_cases hp:0<xs.length
 ·obtain ⟨b1,o1,c1,rfl,g1,m1,-,k1⟩:=hs.spot hp
  obtain ⟨b2,o2,c2,rfl,g2,m2,-,k2⟩:=ht.spot hp;have HU:=zH k1;have HV:=zH k2;have hm:maxLen=9223372036854775807:=rfl;rw [hm] at m1 m2;clear hs ht k1 k2 hm;go_enter func30,ntmps30
  go_wp2_with fail
  go_loopw [13] (fun i wr=>∃ k:Nat,k<=xs.length/\i= .int .i64 k/\∃ n,wr=w.drewN n) (fun i _=>xs.length-(intOf i).toNat)
  case atStart=>exact ⟨0,aJ _,rfl,0,rfl⟩
  case round=>
   obtain ⟨k,hk,rfl,n,rfl⟩:=hrel
   by_cases hlt:k<xs.length
   ·have c1':=HU.o k hlt
    have c2':=HV.o k hlt;generalize xs.getD k 0=x at*;go_wp2_with fail
    go_quiet (fail)
    go_wp2_with fail
    go_roundw
    case rel=>exact ⟨k+1,by omega,by go_num,_,rfl⟩
    case measure=>simp [intOf];omega
   ·obtain rfl:k=xs.length:=by omega
    go_wp2_with fail
    go_ret
    exact ⟨rfl,_,rfl⟩
 ·obtain rfl:xs=[]:=aF (by omega)
  obtain ⟨a1,c1,rfl,-⟩:=hs;obtain ⟨a2,c2,rfl,-⟩:=ht;simp only [List.length_nil]
  go_enter func30,ntmps30
  go_wp2_with fail
  go_loop [13] (fun i=>i= .int .i64 0) (fun _=>0)
  case atStart=>rfl
  case round=>
   obtain rfl:=hrel;go_wp2_with fail
   go_ret
   exact ⟨rfl,0,rfl⟩
theorem sG{u v:Value}{xs ys:Ints}{w:World}(hs:bX w u xs)(ht:bX w v ys)(hne:¬ xs=ys):
  Calls prog 30 #[u,v] w fun e w'=>e= .returned (.bool false)/\∃ n,w'=w.drewN n:=by
 by_cases hl:xs.length=ys.length
 ·have hp:0<xs.length:=by
   by_cases h:0<xs.length
   ·exact h
   ·exfalso
    apply hne
    rw [aF (show xs.length=0 by omega),aF (show ys.length=0 by omega)]
  have hex:∃ j,j<xs.length/\xs.getD j 0≠ys.getD j 0:=by
   refine aY fun hno=>hne ?_
   apply bE hl
   intro j h1 h2;have hj:xs.getD j 0=ys.getD j 0:=aY fun h=>hno ⟨j,h1,h⟩
   simpa [List.getD,ah h1,ah h2] using hj
  obtain ⟨b1,o1,c1,rfl,g1,m1,-,k1⟩:=hs.spot hp;obtain ⟨b2,o2,c2,rfl,g2,m2,-,k2⟩:=ht.spot (by omega);rw [<-hl] at k2 g2 ⊢;have HU:=zH k1;have HV:=zH k2;have AX:=zH hex;have hm:maxLen=9223372036854775807:=rfl;rw [hm] at m1 m2;clear hs ht k1 k2 hm hl hex hne;go_enter func30,ntmps30
  go_wp2_with fail
  go_loopw [13] (fun i wr=>∃ k:Nat,k<=xs.length/\i= .int .i64 k/\(∀ j,j<k ->xs.getD j 0=ys.getD j 0)/\∃ n,wr=w.drewN n) (fun i _=>xs.length-(intOf i).toNat)
  case atStart=>exact ⟨0,aJ _,rfl,(fun j hj=>absurd hj (by omega)),0,rfl⟩
  case round=>
   obtain ⟨k,hk,rfl,hall,n,rfl⟩:=hrel;have je:=zH hall;clear hall
   by_cases hlt:k<xs.length
   ·have c1':=HU.o k hlt
    have c2':=HV.o k hlt
    by_cases he:xs.getD k 0=ys.getD k 0
    ·have HE:=zH he
     rw [he] at c1';clear he;have wQ:Hid (∀ j,j<k+1 ->xs.getD j 0=ys.getD j 0):=zH (fun j hj=>by
      by_cases h:j<k
      ·exact je.o j h
      ·obtain rfl:j=k:=by omega
       exact HE.o)
     generalize ys.getD k 0=x at*;go_wp2_with fail
     go_quiet (fail)
     go_wp2_with fail
     go_roundw
     case rel=>exact ⟨k+1,by omega,by go_num,wQ.o,_,rfl⟩
     case measure=>simp [intOf];omega
    ·generalize xs.getD k 0=x at*
     generalize ys.getD k 0=y at*;have hb2:(x !=y)=true:=bne_iff_ne.2 he;clear he;go_wp2_with fail
     go_quiet (fail)
     go_wp2_with fail
     go_ret
     exact ⟨rfl,_,World.drewN_drewN _ _ _⟩
   ·exfalso
    obtain ⟨j,hj,hne⟩:=AX.o;exact hne (je.o j (by omega))
 ·obtain ⟨a1,c1,rfl,-⟩:=hs
  obtain ⟨a2,c2,rfl,-⟩:=ht;generalize xs.length=la at*;generalize ys.length=lb at*;have h1:¬ ((la:Int)=(lb:Int)):=by omega
  have h2:((la:Int) !=(lb:Int))=true:=bne_iff_ne.2 h1;clear hl h1 hne;go_enter func30,ntmps30
  go_wp2_with fail
  go_ret
  exact ⟨rfl,0,rfl⟩
theorem qG{u v:Value}{xs ys:Ints}{w:World}(hs:bX w u xs)(ht:bX w v ys):
  Calls prog 30 #[u,v] w fun e w'=>e= .returned (.bool (decide (xs=ys)))/\∃ n,w'=w.drewN n:=by
 by_cases h:xs=ys
 ·subst h
  rw [aB rfl];exact qF hs ht
 ·rw [aA h]
  exact sG hs ht h
theorem qH{v:Value}{ds:List Int}{w:World}(hv:bX w v ds)(hn:ds.length<=1000000)(p:Int ->Bool)(g:Nat)(lb:Array Value)
  (eg:∀ args w,(callFunc g args).run prog w= .ok (.enter g args) w)
  (hp:∀ W d,Below w.heap.size w W ->Calls prog g (#[.int .i64 d]++lb) W (bH W (p d))):
  Calls prog 45 #[v,.func (.func g) #[] lb] w fun e w'=>∃ r:Int,e= .returned (.int .i64 r)/\decide (0<=r)=ds.any p/\Below w.heap.size w w':=by
 obtain ⟨a,cap,rfl,g1,g2,g0,h⟩:=hv.parts;have HS:=zH h;have HP:=zH hp;have HY:Hid (∀ k,k<ds.length ->p (ds.getD k 0)=true ->ds.any p=true):=zH (fun k hk h=>by
  rw [List.any_eq_true];exact ⟨_,by rw [show ds.getD k 0=ds[k] by simp [List.getD,ah hk]];exact aS hk,h⟩)
 have HN:Hid ((∀ j,j<ds.length ->p (ds.getD j 0)=false) ->ds.any p=false):=zH (fun h=>by
  rw [List.any_eq_false];intro d hd;obtain ⟨j,hj,rfl⟩:=aX hd;have:=h j hj;rw [show ds.getD j 0=ds[j] by simp [List.getD,ah hj]] at this;rw [this]
  decide)
 clear hp hv h g0;have hm:maxLen=9223372036854775807:=rfl;rw [hm] at g2;obtain ⟨n,hN⟩:∃ n,ds.length=n:=⟨_,rfl⟩;rw [hN] at hn g1 HS HY HN ⊢;have LN:=zH hN;clear hN hm;generalize ds.any p=r at*;go_enter func45,ntmps45
 go_wp2_with fail
 go_loopw [8] (fun i wr=>∃ k:Nat,k<=n/\i= .int .i64 k/\(∀ j,j<k ->p (ds.getD j 0)=false)/\Below w.heap.size w wr) (fun i _=>n-(intOf i).toNat)
 case atStart=>exact ⟨0,aJ _,rfl,fun j hj=>absurd hj (by omega),ak _ _⟩
 case round=>
  obtain ⟨k,hk,rfl,hall,hb⟩:=hrel;have HA:=zH hall;have HB:=zH hb;clear hall hb
  by_cases hlt:k<n
  ·obtain ⟨b,o,c,hv,-,-,-,hc⟩:=(HS.o.below HB.o).spot (by rw [LN.o];omega)
   rw [LN.o] at hv;simp only [aG] at hv
   obtain ⟨rfl,-,rfl⟩:=hv;have c0:=hc k (by rw [LN.o];exact hlt);have zM:=zH (HY.o k hlt);have tT:Hid (p (ds.getD k 0)=false ->∀ j,j<k+1 ->p (ds.getD j 0)=false):=zH (fun h j hj=>by
    by_cases e:j=k
    ·rw [e];exact h
    ·exact HA.o j (by omega))
   have K:=HP.o wr (ds.getD k 0) HB.o;clear hc;generalize ds.getD k 0=d at*
   cases uf:p d with
   |true=>
    rw [uf] at K;obtain rfl:r=true:=zM.o uf;clear uf;go_wp2_with (go_at_fn g;refine K.mono ?_;rintro e w1 ⟨rfl,hb⟩)
    have G:=zH (HB.o.trans (hb.mono HB.o.size));clear hb c0 K;go_wp2_with fail
    go_ret
    exact ⟨k,rfl,by simp,G.o⟩
   |false=>
    rw [uf] at K;have HX:=zH (tT.o uf);clear uf;go_wp2_with (go_at_fn g;refine K.mono ?_;rintro e w1 ⟨rfl,hb⟩)
    have G:=zH (HB.o.trans (hb.mono HB.o.size));clear hb c0 K;go_wp2_with fail
    go_roundw
    case rel=>exact ⟨k+1,by omega,by go_num,HX.o,G.o⟩
    case measure=>simp [intOf];omega
  ·obtain rfl:k=n:=by omega
   obtain rfl:r=false:=HN.o HA.o;go_wp2_with fail
   go_ret
   exact ⟨-1,rfl,by decide,HB.o⟩
theorem lu{v:Value}{ds:List Int}{w:World}(hv:bX w v ds)(hn:ds.length<=1000000)(p:Int ->Bool)(g:Nat)(lb:Array Value)
  (eg:∀ args w,(callFunc g args).run prog w= .ok (.enter g args) w)
  (hp:∀ W d,Below w.heap.size w W ->Calls prog g (#[.int .i64 d]++lb) W (bH W (p d))):
  Calls prog 32 #[v,.func (.func g) #[] lb] w (bH w (ds.any p)):=by
 have K:=qH hv hn p g lb eg hp;obtain ⟨a,cap,rfl,-⟩:=hv.parts;generalize ds.any p=r at*;generalize ds.length=n at*;clear hv hp;go_enter func32,ntmps32
 go_wp2_with fail
 refine K.mono ?_;rintro e w1 ⟨q,rfl,hq,hb⟩;have G:=zH hb;clear hb K;subst hq;go_wp2_with fail
 go_ret
 exact ⟨rfl,G.o⟩
def iL(v:List Int):Bool:=decide (v.length<=8)&&(decide (v=trim v)&& !v.any (fun n=>decide (n>1073741824)))
theorem wR(t:bK):tH t=(iL t.deps&&decide (cO t.deps t.node=t.seq-1)):=by
 have e:(!t.deps.any (fun n=>decide (n>1073741824)))=t.deps.all (fun n=>decide (n<=1073741824)):=by
  rw [List.not_any_eq_all_not]
  congr 1
  funext n
  by_cases h:n>1073741824
  ·rw [aB h,aA (show ¬ n<=1073741824 by omega)];rfl
  ·rw [aA h,aB (show n<=1073741824 by omega)];rfl
 unfold tH iL;rw [e,Bool.and_assoc,Bool.and_assoc]
 congr 2
 ·exact decide_eq_decide.2 ⟨fun h=>h.symm,fun h=>h.symm⟩
 ·congr 1
  exact decide_eq_decide.2 (by omega)
theorem sH(W:World)(d:Int):Calls prog 29 (#[.int .i64 d]++#[]) W (bH W (decide (d>1073741824))):=by
 show Calls prog 29 #[.int .i64 d] W _
 go_enter func29,ntmps29
 go_wp2_with fail
 go_ret
 exact ⟨rfl,ak _ _⟩
theorem qI{v:Value}{xs:List Int}{w:World}(hv:bX w v xs)(hl:xs.length<=1000000):Calls prog 23 #[v] w (bH w (iL xs)):=by
 obtain ⟨a,cap,rfl,g1,g2,g0,h⟩:=hv.parts;have KT:=zH (qJ h hl);have KE:Hid (∀ (W:World) (u:Value),Below w.heap.size w W ->bX W u (trim xs) ->Calls prog 30 #[.slice a xs.length cap,u] W fun e w'=>e= .returned (.bool (decide (xs=trim xs)))/\∃ n,w'=W.drewN n):=zH (fun W u hb hs=>qG (h.below hb) hs);have KC:Hid (∀ W,Below w.heap.size w W ->Calls prog 32 #[.slice a xs.length cap,.func (.func 29) #[] #[]] W (bH W (xs.any fun n=>decide (n>1073741824)))):=zH (fun W hb=>lu (h.below hb) hl _ _ #[] (enters_of func29 (by kernel_rfl) rfl) (fun W' d _=>sH W' d));have HR:Hid (iL xs=(decide (xs.length<=8)&&(decide (xs=trim xs)&& !xs.any (fun n=>decide (n>1073741824))))):=zH rfl;clear hv h g0;generalize iL xs=r at*;generalize decide (xs=trim xs)=r1 at*;generalize (xs.any fun n=>decide (n>1073741824))=r2 at*;generalize trim xs=ts at*;generalize xs.length=n at*
 by_cases hn:n<=8
 ·have hni:(n:Int)<=8:=by omega
  rw [aB hn,aN] at HR;clear hn;go_enter func23,ntmps23
  go_wp2_with fail
  refine KT.o.mono ?_;rintro e w1 ⟨v1,rfl,ho,hb⟩;have B1:=zH hb;have Ca:=KE.o w1 v1 hb ho.seq;obtain ⟨a1,c1,rfl,-,-,-,-⟩:=ho.parts;clear ho hb KT KE;generalize ts.length=tn at*;go_wp2_with fail
  refine Ca.mono ?_;rintro e w2 ⟨rfl,q,rfl⟩;have B2:=zH (below_drewN B1.o q);clear Ca;generalize w1.drewN q=w2 at*
  cases r1 with
  |false=>
   obtain rfl:r=false:=HR.o;go_wp2_with fail
   go_ret
   exact ⟨rfl,B2.o⟩
  |true=>
   rw [aN] at HR;have Cb:=KC.o w2 B2.o;clear KC;go_wp2_with fail
   refine Cb.mono ?_;rintro e w3 ⟨rfl,hb⟩;have B3:=zH (B2.o.trans (hb.mono B2.o.size));clear hb Cb;obtain rfl:r= !r2:=HR.o;go_wp2_with fail
   go_ret
   exact ⟨rfl,B3.o⟩
 ·have hni:¬ (n:Int)<=8:=by omega
  rw [aA hn,aV] at HR;obtain rfl:r=false:=HR.o;clear hn HR;go_enter func23,ntmps23
  go_wp2_with fail
  go_ret
  exact ⟨rfl,ak _ _⟩
end Go.Proofs.Ytmknpmamkjjiaaa