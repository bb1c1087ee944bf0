import Derived.Test.YtmknpmamkjjiaaaEff
import Derived.Test.YtmknpmamkjjiaaaISets
set_option linter.unusedVariables false
set_option maxRecDepth 100000
set_option maxHeartbeats 64000000
namespace Go.Proofs.Ytmknpmamkjjiaaa
open Go.Proofs.Try
open Go.RowKit Plain
def fH(x:bO):Bool:=decide (x.key.length<=300)&&(decide (x.field.length<=300)&&(decide (x.elem.length<=300)&&decide (x.drops.length<=70)))
def fE(xs:List bO):Bool:=decide (xs.length<=20)&&xs.all fH
theorem jW{x:bO}:fH x=true↔x.key.length<=300/\x.field.length<=300/\x.elem.length<=300/\x.drops.length<=70:=by
 unfold fH;rw [aO,aO,aO,decide_eq_true_iff,decide_eq_true_iff,decide_eq_true_iff,decide_eq_true_iff]
theorem gT{xs:List bO}:fE xs=true↔xs.length<=20/\∀ x∈xs,fH x=true:=by
 unfold fE;rw [aO,decide_eq_true_iff,aZ]
theorem uP{xs:List bO}{k:Nat}(hk:k<xs.length)(h:fH (xs.getD k default)=false):fE xs=false:=by
 cases e:fE xs with
 |false=>rfl
 |true=>
  have:=(gT.1 e).2 _ (mem_def hk);rw [h] at this;exact absurd this (by decide)
theorem sw{xs:List bO}(hl:xs.length<=20)(h:∀ j,j<xs.length ->fH (xs.getD j default)=true):fE xs=true:=gT.2 ⟨hl,fun x hx=>by
 obtain ⟨j,hj,rfl⟩:=aX hx;have:=h j hj
 rwa [show xs.getD j default=xs[j] by simp [List.getD,ah hj]] at this⟩
theorem qz{xs:List bO}(hl:¬ xs.length<=20):fE xs=false:=by
 cases e:fE xs with
 |false=>rfl
 |true=>exact absurd (gT.1 e).1 hl
theorem qA{v:Value}{xs:List bO}{w:World}(hv:bJ d9 w v xs):
  Calls prog 12 #[v] w fun e w'=>e= .returned (.bool (fE xs))/\w=w':=by
 have HY:=zH (sw (xs:=xs));have HN:=zH (fun k hk h=>uP (xs:=xs) (k:=k) hk h);have HL:=zH (qz (xs:=xs));obtain ⟨a,cap,rfl,g1,g2,g0,h⟩:=hv.parts;have HS:=zH h;clear hv h g0;generalize fE xs=r at*
 by_cases hl:xs.length<=20
 ·have hd:¬ (20:Int)<((xs.length:Nat):Int):=by omega
  go_enter func12,ntmps12
  go_wp2_with fail
  go_loop [3] (fun i=>∃ k:Nat,k<=xs.length/\i= .int .i64 k/\∀ j,j<k ->fH (xs.getD j default)=true) (fun i=>xs.length-(intOf i).toNat)
  case atStart=>exact ⟨0,aJ _,rfl,fun j hj=>absurd hj (by omega)⟩
  case round=>
   obtain ⟨k,hk,rfl,hall⟩:=hrel;have HA:=zH hall;clear hall
   by_cases hlt:k<xs.length
   ·obtain ⟨b,o,c,hv,-,-,-,hc⟩:=eX HS.o (by omega)
    simp only [aG] at hv
    obtain ⟨rfl,-,rfl⟩:=hv;obtain ⟨dv,⟨c0,c1,c2,c3,c4,c5,c6⟩,hsd⟩:=hc k hlt;have xw:=zH (HN.o k hlt);have zM:Hid (fH (xs.getD k default)=true ->∀ j,j<k+1 ->fH (xs.getD j default)=true):=zH (fun h j hj=>by
     by_cases e:j=k
     ·rw [e];exact h
     ·exact HA.o j (by omega))
    have HB:=zH (jW (x:=xs.getD k default));clear hc;generalize xs.getD k default=x at*;obtain ⟨da,dc,rfl,-⟩:=hsd.parts;have z1:=gM x.key;have z2:=gM x.field;have z3:=gM x.elem;clear hsd;generalize bt x.key=K at*;generalize bt x.field=F at*;generalize bt x.elem=El at*;generalize x.key.length=m1 at*;generalize x.field.length=m2 at*;generalize x.elem.length=m3 at*;generalize x.drops.length=m4 at*
    by_cases h1:m1<=300
    rotate_left
    ·have b1:(300:Int)<(m1:Int):=by omega
     obtain rfl:r=false:=xw.o (by rw [aT];intro e;exact h1 (HB.o.1 e).1);clear h1;go_wp2_with fail
     go_ret
     exact ⟨rfl,rfl⟩
    have b1:¬ (300:Int)<(m1:Int):=by omega
    by_cases h2:m2<=300
    rotate_left
    ·have b2:(300:Int)<(m2:Int):=by omega
     obtain rfl:r=false:=xw.o (by rw [aT];intro e;exact h2 (HB.o.1 e).2.1);clear h1 h2;go_wp2_with fail
     go_ret
     exact ⟨rfl,rfl⟩
    have b2:¬ (300:Int)<(m2:Int):=by omega
    by_cases h3:m3<=300
    rotate_left
    ·have b3:(300:Int)<(m3:Int):=by omega
     obtain rfl:r=false:=xw.o (by rw [aT];intro e;exact h3 (HB.o.1 e).2.2.1);clear h1 h2 h3;go_wp2_with fail
     go_ret
     exact ⟨rfl,rfl⟩
    have b3:¬ (300:Int)<(m3:Int):=by omega
    by_cases h4:m4<=70
    rotate_left
    ·have b4:(70:Int)<(m4:Int):=by omega
     obtain rfl:r=false:=xw.o (by rw [aT];intro e;exact h4 (HB.o.1 e).2.2.2);clear h1 h2 h3 h4;go_wp2_with fail
     go_ret
     exact ⟨rfl,rfl⟩
    have b4:¬ (70:Int)<(m4:Int):=by omega
    have HX:=zH (zM.o (HB.o.2 ⟨h1,h2,h3,h4⟩));clear h1 h2 h3 h4;go_wp2_with fail
    go_round
    case rel=>exact ⟨k+1,by omega,by go_num,HX.o⟩
    case measure=>simp [intOf];omega
   ·obtain rfl:k=xs.length:=by omega
    obtain rfl:r=true:=HY.o hl HA.o;go_wp2_with fail
    go_ret
    exact ⟨rfl,rfl⟩
 ·obtain rfl:r=false:=HL.o hl
  have hd:(20:Int)<((xs.length:Nat):Int):=by omega
  go_enter func12,ntmps12
  go_wp2_with fail
  go_ret
  exact ⟨rfl,rfl⟩
end Go.Proofs.Ytmknpmamkjjiaaa