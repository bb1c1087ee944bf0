import Derived.Test.YtfgcodcablpdcaaGreatOrHps
import Derived.Shelf.Abstract
set_option linter.unusedVariables false
set_option maxRecDepth 100000
set_option maxHeartbeats 64000000
namespace Go.Proofs.YtfgcodcablpdcaaGreat
open Go.Proofs.Tryz
open Go.RowKit Plain
theorem up_par(k:Nat):Int.tdiv ((k:Int)-1) 2=(((k-1)/2:Nat):Int):=by
 cases k with
 |zero=>rfl
 |succ k=>
  have e:((k+1:Nat):Int)-1=((k:Nat):Int):=by omega
  rw [e,show k+1-1=k from rfl]
  rfl
theorem hup_any{w:World}{B g b n c:Nat}{lv hv mv:Value}{xs:List Int}(h:kg w B g lv hv mv (.slice (some ⟨b,0,none⟩) n c) xs)(hl:xs.length=n)(hn:n<=1000001){j:Nat}(hj:j<n)(hu:UpI xs j):
  Calls prog 295 #[.iface 260 (.pointer (some ⟨g,2,none⟩)),.int .i64 j] w fun e w'=>e= .returned (.tuple #[])/\∃ ys,kg w' B g lv hv mv (.slice (some ⟨b,0,none⟩) n c) ys/\sG ys/\ys.Perm xs/\nU g w (.slice (some ⟨b,0,none⟩) n c) w' (.slice (some ⟨b,0,none⟩) n c):=by
 have H:=zH h;have HU:=zH hu;have NL:=zH (fun W=>nless W g);have NS:=zH (fun W=>nswap W g);have eL:∀ args w,(callFunc 358 args).run prog w= .ok (.enter 358 args) w:=enters_of func358 (by kernel_rfl) rfl;have eS:∀ args w,(callFunc 360 args).run prog w= .ok (.enter 360 args) w:=enters_of func360 (by kernel_rfl) rfl;clear h hu;go_enter func295,ntmps295
 go_wp2_with fail
 go_loopw [1] (fun i wr=>∃ (k:Nat) (ys:List Int),k<n/\i= .int .i64 k/\kg wr B g lv hv mv (.slice (some ⟨b,0,none⟩) n c) ys/\UpI ys k/\ys.Perm xs/\nU g w (.slice (some ⟨b,0,none⟩) n c) wr (.slice (some ⟨b,0,none⟩) n c)) (fun i _=>(intOf i).toNat)
 case atStart=>exact ⟨j,xs,hj,rfl,H.o,HU.o,fE _,nU.refl _ _ _⟩
 case round=>
  obtain ⟨k,ys,hk,rfl,hA,hU,hP,hT⟩:=hrel;have hyl:ys.length=n:=by rw [hP.length_eq,hl]
  have HA:=zH hA;have HU2:=zH hU;have HP:=zH hP;have HT:=zH hT;have e1:=up_par k;obtain ⟨p,hp⟩:∃ p,p=(k-1)/2:=⟨_,rfl⟩;rw [<-hp] at e1;have HPP:=zH hp;obtain ⟨⟨-,-,c2,-⟩,-,-⟩:=hA.cell;have m1:=Md c2;have n1:=NL.o wr
  by_cases h0:k=0
  ·subst h0
   obtain rfl:p=0:=by omega
   clear hA hU hP hT hp;go_wp2_with fail
   go_end0
   exact ⟨rfl,ys,HA.o,HU2.o.stop (.inl rfl),HP.o,HT.o⟩
  ·have hpk:p<k:=by omega
   have b1:((p:Int)==(k:Int))=false:=by simp;omega
   have KL:=zH (tC hA.row (i:=k) (j:=p) (by omega) (by omega))
   by_cases hlt:hat ys k<hat ys p
   ·have d1:decide (hat ys k<hat ys p)=true:=aI hlt
    have HLT:=zH hlt;rw [d1] at KL;clear hA hU hP hT hp hlt d1;go_wp2_with (first
     |(go_at_fn 358;refine KL.o.mono ?_;rintro e w1 ⟨rfl,q,hq⟩;have HA1:Hid (kg w1 B g lv hv mv (.slice (some ⟨b,0,none⟩) n c) ys):=zH (by rw [hq];exact HA.o.drawn q);have HT1:Hid (nU g w (.slice (some ⟨b,0,none⟩) n c) w1 (.slice (some ⟨b,0,none⟩) n c)):=zH (by rw [hq];exact HT.o.drawn q);have m2:=RX HA1.o.cell.1.2.2.1;have n2:=NS.o w1;have KS:=zH (wD HA1.o.row (i:=p) (j:=k) (by omega) (by omega));clear hq KL m1 n1)
     |(go_at_fn 360;refine KS.o.mono ?_;rintro e w2 ⟨rfl,ho,hb⟩;have HA2:=zH (HA1.o.swapped ho hb);clear ho hb KS m2 n2))
    have hpe:p=(k-1)/2:=HPP.o;have HU3:UpI (hswap ys p k) p:=by
     have:=HU2.o.step (by omega) (by omega) (by rw [<-hpe];exact HLT.o);rw [<-hpe] at this;exact this
    have HP3:(hswap ys p k).Perm xs:=(uz (by omega) (by omega)).trans HP.o;exact ⟨⟨p,_,by omega,rfl,HA2.o.1,HU3,HP3,HT1.o.trans HA2.o.2⟩,by simp [intOf];omega⟩
   ·have d1:decide (hat ys k<hat ys p)=false:=aF hlt
    have HLT:=zH hlt;rw [d1] at KL;clear hA hU hP hT hp hlt d1;go_wp2_with (go_at_fn 358;refine KL.o.mono ?_;rintro e w1 ⟨rfl,q,rfl⟩)
    go_end0
    have hpe:p=(k-1)/2:=HPP.o;exact ⟨rfl,ys,HA.o.drawn q,HU2.o.stop (.inr (by rw [<-hpe];exact Int.not_lt.2 HLT.o)),HP.o,HT.o.drawn q⟩
theorem Ze{w:World}{B g:Nat}{lv hv mv rv:Value}{xs:List Int}(h:kg w B g lv hv mv rv xs)(hp:sG xs)(hB:B<=w.heap.size)(x:Int)(hl:xs.length<=1000000):
  Calls prog 257 #[.iface 260 (.pointer (some ⟨g,2,none⟩)),.iface 3 (.int .i64 x)] w fun e w'=>e= .returned (.tuple #[])/\∃ rv' ys,kg w' B g lv hv mv rv' ys/\sG ys/\ys.Perm (x::xs)/\nU g w rv w' rv':=by
 have KP:=zH (Zq h hB x hl);have HU:=zH (Zn hp x);have HL:Hid ((xs++[x]).length=xs.length+1):=zH (by simp);have NL:=zH (fun W=>nlen W g);have m1:=mpush w g;have n1:=npush w g;have eP:∀ args w,(callFunc 362 args).run prog w= .ok (.enter 362 args) w:=enters_of func362 (by kernel_rfl) rfl;have eN:∀ args w,(callFunc 258 args).run prog w= .ok (.enter 258 args) w:=enters_of func258 (by kernel_rfl) rfl;have eU:∀ args w,(callFunc 295 args).run prog w= .ok (.enter 295 args) w:=enters_of func295 (by kernel_rfl) rfl;clear h hp;obtain ⟨m,hm⟩:∃ m,m=xs.length:=⟨_,rfl⟩;rw [<-hm] at hl HL HU;clear hm;go_enter func257,ntmps257
 go_wp2_with (first
  |(go_at_fn 362;refine KP.o.mono ?_;rintro e w1 ⟨rfl,rv1,h1,t1⟩;have H1:=zH h1;have T1:=zH t1;obtain ⟨b,c,rfl,-,-⟩:=h1.spot (by rw [HL.o];omega);rw [HL.o] at H1 T1;have m2:=mlen H1.o.cell.1.2.2.1;have n2:=NL.o w1;clear h1 t1 m1 n1 KP)
  |(go_at_fn 258;refine (CU _ _ _ _).mono ?_;rintro e w2 ⟨rfl,rfl⟩)
  |(go_at_fn 295;refine (hup_any H1.o HL.o (by omega) (Nat.lt_succ_self m) HU.o).mono ?_;rintro e w2 ⟨rfl,ys,h2,i2,p2,t2⟩;have R:=zH (cK h2 (cK i2 (cK p2 t2)));clear h2 i2 p2 t2))
 go_end0
 obtain ⟨h2,i2,p2,t2⟩:=R.o;exact ⟨rfl,_,ys,h2,i2,p2.trans (List.perm_append_singleton x xs),T1.o.trans t2⟩
theorem ZI{w:World}{B g b n c:Nat}{lv hv mv:Value}{xs:List Int}(h:kg w B g lv hv mv (.slice (some ⟨b,0,none⟩) n c) xs)(hl:xs.length=n)(hn:n<=1000001){m:Nat}(hm:m<=n)(hu:DnI m xs 0)(h0:0<n):
  Calls prog 296 #[.iface 260 (.pointer (some ⟨g,2,none⟩)),.int .i64 0,.int .i64 m] w fun e w'=>(∃ bb:Value,e= .returned bb)/\∃ ys,kg w' B g lv hv mv (.slice (some ⟨b,0,none⟩) n c) ys/\Bp m ys/\ys.Perm xs/\(∀ k,m<=k ->hat ys k=hat xs k)/\nU g w (.slice (some ⟨b,0,none⟩) n c) w' (.slice (some ⟨b,0,none⟩) n c):=by
 have H:=zH h;have HU:=zH hu;have NL:=zH (fun W=>nless W g);have NS:=zH (fun W=>nswap W g);have eL:∀ args w,(callFunc 358 args).run prog w= .ok (.enter 358 args) w:=enters_of func358 (by kernel_rfl) rfl;have eS:∀ args w,(callFunc 360 args).run prog w= .ok (.enter 360 args) w:=enters_of func360 (by kernel_rfl) rfl;clear h hu;go_enter func296,ntmps296
 go_wp2_with fail
 go_loopw [7] (fun i wr=>∃ (k:Nat) (ys:List Int),k<n/\i= .int .i64 k/\kg wr B g lv hv mv (.slice (some ⟨b,0,none⟩) n c) ys/\DnI m ys k/\ys.Perm xs/\(∀ k,m<=k ->hat ys k=hat xs k)/\nU g w (.slice (some ⟨b,0,none⟩) n c) wr (.slice (some ⟨b,0,none⟩) n c)) (fun i _=>n-(intOf i).toNat)
 case atStart=>exact ⟨0,xs,h0,rfl,H.o,HU.o,fE _,fun _ _=>rfl,nU.refl _ _ _⟩
 case round=>
  obtain ⟨k,ys,hk,rfl,hA,hU,hP,hE,hT⟩:=hrel;have hyl:ys.length=n:=by rw [hP.length_eq,hl]
  have HA:=zH hA;have HU2:=zH hU;have HP:=zH hP;have HE:=zH hE;have HT:=zH hT;obtain ⟨⟨-,-,c2,-⟩,-,-⟩:=hA.cell;have m1:=Md c2;have n1:=NL.o wr;clear hA hU hP hE hT c2
  by_cases hj1:2*k+1<m
  ·have e0:((2*k+1:Nat):Int)<(m:Int):=by omega
   by_cases hj2:2*k+2<m
   ·by_cases hc:hat ys (2*k+2)<hat ys (2*k+1)
    ·skip
     have KL:=zH (fun (W:World) (hW:kg W B g lv hv mv (.slice (some ⟨b,0,none⟩) n c) ys)=>tC hW.row (i:=2*k+2) (j:=k) (by omega) (by omega));have K1:=zH (tC HA.o.row (i:=2*k+2) (j:=2*k+1) (by omega) (by omega));rw [show decide (hat ys (2*k+2)<hat ys (2*k+1))=true from aI hc] at K1;have HM:Hid (∀ x,0<x ->x<m ->(x-1)/2=k ->hat ys (2*k+2)<=hat ys x):=zH (fun x h1 h2 h3=>by
      have hx:x=2*k+1\/x=2*k+2:=by omega
      rcases hx with rfl|rfl
      ·exact Int.le_of_lt hc
      ·exact dD _)
     clear hc
     by_cases hd:hat ys (2*k+2)<hat ys k
     ·have DD:decide (hat ys (2*k+2)<hat ys k)=true:=aI hd
      have HD:=zH hd;clear hd;go_wp2_with (first
       |(go_at_fn 358;refine K1.o.mono ?_;rintro e w1 ⟨rfl,q,hq⟩;have HA1:Hid (kg w1 B g lv hv mv (.slice (some ⟨b,0,none⟩) n c) ys):=zH (by rw [hq];exact HA.o.drawn q);have HT1:Hid (nU g w (.slice (some ⟨b,0,none⟩) n c) w1 (.slice (some ⟨b,0,none⟩) n c)):=zH (by rw [hq];exact HT.o.drawn q);have m2:=Md HA1.o.cell.1.2.2.1;have n2:=NL.o w1;have K2:=zH (KL.o w1 HA1.o);clear hq K1 m1 n1 KL;rw [DD] at K2)
       |(go_at_fn 358;refine K2.o.mono ?_;rintro e w2 ⟨rfl,q2,hq⟩;have HA2:Hid (kg w2 B g lv hv mv (.slice (some ⟨b,0,none⟩) n c) ys):=zH (by rw [hq];exact HA1.o.drawn q2);have HT2:Hid (nU g w (.slice (some ⟨b,0,none⟩) n c) w2 (.slice (some ⟨b,0,none⟩) n c)):=zH (by rw [hq];exact HT1.o.drawn q2);have m3:=RX HA2.o.cell.1.2.2.1;have n3:=NS.o w2;have KS:=zH (wD HA2.o.row (i:=k) (j:=2*k+2) (by omega) (by omega));clear hq K2 m2 n2)
       |(go_at_fn 360;refine KS.o.mono ?_;rintro e w3 ⟨rfl,ho,hb⟩;have HA3:=zH (HA2.o.swapped ho hb);clear ho hb KS m3 n3))
      have HU3:=HU2.o.step (by omega) (show 0<2*k+2 by omega) (by omega) (by omega) HD.o HM.o;have HP3:(hswap ys k (2*k+2)).Perm xs:=(uz (by omega) (by omega)).trans HP.o;have HE3:∀ x,m<=x ->hat (hswap ys k (2*k+2)) x=hat xs x:=fun x hx=>by rw [uy (by omega) (by omega),if_neg (by omega),if_neg (by omega)];exact HE.o x hx
      exact ⟨⟨2*k+2,_,by omega,by go_num,HA3.o.1,HU3,HP3,HE3,HT2.o.trans HA3.o.2⟩,by simp [intOf];omega⟩
     ·have DD:decide (hat ys (2*k+2)<hat ys k)=false:=aF hd
      have HD:=zH hd;clear hd;go_wp2_with (first
       |(go_at_fn 358;refine K1.o.mono ?_;rintro e w1 ⟨rfl,q,hq⟩;have HA1:Hid (kg w1 B g lv hv mv (.slice (some ⟨b,0,none⟩) n c) ys):=zH (by rw [hq];exact HA.o.drawn q);have HT1:Hid (nU g w (.slice (some ⟨b,0,none⟩) n c) w1 (.slice (some ⟨b,0,none⟩) n c)):=zH (by rw [hq];exact HT.o.drawn q);have m2:=Md HA1.o.cell.1.2.2.1;have n2:=NL.o w1;have K2:=zH (KL.o w1 HA1.o);clear hq K1 m1 n1 KL;rw [DD] at K2)
       |(go_at_fn 358;refine K2.o.mono ?_;rintro e w2 ⟨rfl,q2,hq⟩;have HA2:Hid (kg w2 B g lv hv mv (.slice (some ⟨b,0,none⟩) n c) ys):=zH (by rw [hq];exact HA1.o.drawn q2);have HT2:Hid (nU g w (.slice (some ⟨b,0,none⟩) n c) w2 (.slice (some ⟨b,0,none⟩) n c)):=zH (by rw [hq];exact HT1.o.drawn q2);clear hq K2 m2 n2))
      go_ret
      exact ⟨⟨_,rfl⟩,ys,HA2.o,HU2.o.stop fun x h1 h2 h3=>dG HD.o (HM.o x h1 h2 h3),HP.o,HE.o,HT2.o⟩
    ·skip
     have KL:=zH (fun (W:World) (hW:kg W B g lv hv mv (.slice (some ⟨b,0,none⟩) n c) ys)=>tC hW.row (i:=2*k+1) (j:=k) (by omega) (by omega));have K1:=zH (tC HA.o.row (i:=2*k+2) (j:=2*k+1) (by omega) (by omega));rw [show decide (hat ys (2*k+2)<hat ys (2*k+1))=false from aF hc] at K1;have HM:Hid (∀ x,0<x ->x<m ->(x-1)/2=k ->hat ys (2*k+1)<=hat ys x):=zH (fun x h1 h2 h3=>by
      have hx:x=2*k+1\/x=2*k+2:=by omega
      rcases hx with rfl|rfl
      ·exact dD _
      ·exact Int.not_lt.1 hc)
     clear hc
     by_cases hd:hat ys (2*k+1)<hat ys k
     ·have DD:decide (hat ys (2*k+1)<hat ys k)=true:=aI hd
      have HD:=zH hd;clear hd;go_wp2_with (first
       |(go_at_fn 358;refine K1.o.mono ?_;rintro e w1 ⟨rfl,q,hq⟩;have HA1:Hid (kg w1 B g lv hv mv (.slice (some ⟨b,0,none⟩) n c) ys):=zH (by rw [hq];exact HA.o.drawn q);have HT1:Hid (nU g w (.slice (some ⟨b,0,none⟩) n c) w1 (.slice (some ⟨b,0,none⟩) n c)):=zH (by rw [hq];exact HT.o.drawn q);have m2:=Md HA1.o.cell.1.2.2.1;have n2:=NL.o w1;have K2:=zH (KL.o w1 HA1.o);clear hq K1 m1 n1 KL;rw [DD] at K2)
       |(go_at_fn 358;refine K2.o.mono ?_;rintro e w2 ⟨rfl,q2,hq⟩;have HA2:Hid (kg w2 B g lv hv mv (.slice (some ⟨b,0,none⟩) n c) ys):=zH (by rw [hq];exact HA1.o.drawn q2);have HT2:Hid (nU g w (.slice (some ⟨b,0,none⟩) n c) w2 (.slice (some ⟨b,0,none⟩) n c)):=zH (by rw [hq];exact HT1.o.drawn q2);have m3:=RX HA2.o.cell.1.2.2.1;have n3:=NS.o w2;have KS:=zH (wD HA2.o.row (i:=k) (j:=2*k+1) (by omega) (by omega));clear hq K2 m2 n2)
       |(go_at_fn 360;refine KS.o.mono ?_;rintro e w3 ⟨rfl,ho,hb⟩;have HA3:=zH (HA2.o.swapped ho hb);clear ho hb KS m3 n3))
      have HU3:=HU2.o.step (by omega) (show 0<2*k+1 by omega) (by omega) (by omega) HD.o HM.o;have HP3:(hswap ys k (2*k+1)).Perm xs:=(uz (by omega) (by omega)).trans HP.o;have HE3:∀ x,m<=x ->hat (hswap ys k (2*k+1)) x=hat xs x:=fun x hx=>by rw [uy (by omega) (by omega),if_neg (by omega),if_neg (by omega)];exact HE.o x hx
      exact ⟨⟨2*k+1,_,by omega,by go_num,HA3.o.1,HU3,HP3,HE3,HT2.o.trans HA3.o.2⟩,by simp [intOf];omega⟩
     ·have DD:decide (hat ys (2*k+1)<hat ys k)=false:=aF hd
      have HD:=zH hd;clear hd;go_wp2_with (first
       |(go_at_fn 358;refine K1.o.mono ?_;rintro e w1 ⟨rfl,q,hq⟩;have HA1:Hid (kg w1 B g lv hv mv (.slice (some ⟨b,0,none⟩) n c) ys):=zH (by rw [hq];exact HA.o.drawn q);have HT1:Hid (nU g w (.slice (some ⟨b,0,none⟩) n c) w1 (.slice (some ⟨b,0,none⟩) n c)):=zH (by rw [hq];exact HT.o.drawn q);have m2:=Md HA1.o.cell.1.2.2.1;have n2:=NL.o w1;have K2:=zH (KL.o w1 HA1.o);clear hq K1 m1 n1 KL;rw [DD] at K2)
       |(go_at_fn 358;refine K2.o.mono ?_;rintro e w2 ⟨rfl,q2,hq⟩;have HA2:Hid (kg w2 B g lv hv mv (.slice (some ⟨b,0,none⟩) n c) ys):=zH (by rw [hq];exact HA1.o.drawn q2);have HT2:Hid (nU g w (.slice (some ⟨b,0,none⟩) n c) w2 (.slice (some ⟨b,0,none⟩) n c)):=zH (by rw [hq];exact HT1.o.drawn q2);clear hq K2 m2 n2))
      go_ret
      exact ⟨⟨_,rfl⟩,ys,HA2.o,HU2.o.stop fun x h1 h2 h3=>dG HD.o (HM.o x h1 h2 h3),HP.o,HE.o,HT2.o⟩
   ·skip
    have KL:=zH (fun (W:World) (hW:kg W B g lv hv mv (.slice (some ⟨b,0,none⟩) n c) ys)=>tC hW.row (i:=2*k+1) (j:=k) (by omega) (by omega));have HM:Hid (∀ x,0<x ->x<m ->(x-1)/2=k ->hat ys (2*k+1)<=hat ys x):=zH (fun x h1 h2 h3=>by
     have hx:x=2*k+1\/x=2*k+2:=by omega
     rcases hx with rfl|rfl
     ·exact dD _
     ·omega)
    have HA1:=zH HA.o;have HT1:=zH HT.o;have K2:=zH (KL.o wr HA1.o);clear KL
    by_cases hd:hat ys (2*k+1)<hat ys k
    ·have DD:decide (hat ys (2*k+1)<hat ys k)=true:=aI hd
     have HD:=zH hd;clear hd;rw [DD] at K2;clear DD;go_wp2_with (first
      |(go_at_fn 358;refine K2.o.mono ?_;rintro e w2 ⟨rfl,q2,hq⟩;have HA2:Hid (kg w2 B g lv hv mv (.slice (some ⟨b,0,none⟩) n c) ys):=zH (by rw [hq];exact HA1.o.drawn q2);have HT2:Hid (nU g w (.slice (some ⟨b,0,none⟩) n c) w2 (.slice (some ⟨b,0,none⟩) n c)):=zH (by rw [hq];exact HT1.o.drawn q2);have m3:=RX HA2.o.cell.1.2.2.1;have n3:=NS.o w2;have KS:=zH (wD HA2.o.row (i:=k) (j:=2*k+1) (by omega) (by omega));clear hq K2 m1 n1)
      |(go_at_fn 360;refine KS.o.mono ?_;rintro e w3 ⟨rfl,ho,hb⟩;have HA3:=zH (HA2.o.swapped ho hb);clear ho hb KS m3 n3))
     have HU3:=HU2.o.step (by omega) (show 0<2*k+1 by omega) (by omega) (by omega) HD.o HM.o;have HP3:(hswap ys k (2*k+1)).Perm xs:=(uz (by omega) (by omega)).trans HP.o;have HE3:∀ x,m<=x ->hat (hswap ys k (2*k+1)) x=hat xs x:=fun x hx=>by rw [uy (by omega) (by omega),if_neg (by omega),if_neg (by omega)];exact HE.o x hx
     exact ⟨⟨2*k+1,_,by omega,by go_num,HA3.o.1,HU3,HP3,HE3,HT2.o.trans HA3.o.2⟩,by simp [intOf];omega⟩
    ·have DD:decide (hat ys (2*k+1)<hat ys k)=false:=aF hd
     have HD:=zH hd;clear hd;rw [DD] at K2;clear DD;go_wp2_with (first
      |(go_at_fn 358;refine K2.o.mono ?_;rintro e w2 ⟨rfl,q2,hq⟩;have HA2:Hid (kg w2 B g lv hv mv (.slice (some ⟨b,0,none⟩) n c) ys):=zH (by rw [hq];exact HA1.o.drawn q2);have HT2:Hid (nU g w (.slice (some ⟨b,0,none⟩) n c) w2 (.slice (some ⟨b,0,none⟩) n c)):=zH (by rw [hq];exact HT1.o.drawn q2);clear hq K2 m1 n1))
     go_ret
     exact ⟨⟨_,rfl⟩,ys,HA2.o,HU2.o.stop fun x h1 h2 h3=>dG HD.o (HM.o x h1 h2 h3),HP.o,HE.o,HT2.o⟩
  ·go_wp2_with fail
   go_ret
   exact ⟨⟨_,rfl⟩,ys,HA.o,HU2.o.stop fun x h1 h2 h3=>by omega,HP.o,HE.o,HT.o⟩
theorem hpop_any{w:World}{B g:Nat}{lv hv mv rv:Value}{xs:List Int}(h:kg w B g lv hv mv rv xs)(hp:sG xs)(m:Nat)(hl:xs.length=m+1)(hm:m<=1000000):
  Calls prog 259 #[.iface 260 (.pointer (some ⟨g,2,none⟩))] w fun e w'=>∃ x rv' ys,e= .returned (.iface 3 (.int .i64 x))/\kg w' B g lv hv mv rv' ys/\sG ys/\xs.Perm (x::ys)/\(∀ y∈xs,x<=y)/\nU g w rv w' rv':=by
 obtain ⟨b,c,rfl,-,-⟩:=h.spot (by omega);rw [hl] at h ⊢;have HE:Hid (hat (hswap xs 0 m) m=hat xs 0):=zH (by rw [uy (by omega) (by omega),if_pos rfl]);have HU:Hid (DnI m (hswap xs 0 m) 0):=zH (by have:=heap_pop hp (by omega);rw [hl] at this;exact this);have HL:Hid ((hswap xs 0 m).length=m+1):=zH (by rw [Em,hl]);have HP:Hid ((hswap xs 0 m).Perm xs):=zH (uz (by omega) (by omega));have HM:Hid (∀ y∈xs,hat xs 0<=y):=zH (fun y hy=>by
  obtain ⟨i,hi,rfl⟩:=mem_hat hy;exact Bp.least hp i hi)
 have KS:=zH (wD h.row (i:=0) (j:=m) (by omega) (by omega));have HH:=zH h;have m1:=mlen h.cell.1.2.2.1;have n1:=nlen w g;have m2:=RX h.cell.1.2.2.1;have n2:=nswap w g;have eN:∀ args w,(callFunc 258 args).run prog w= .ok (.enter 258 args) w:=enters_of func258 (by kernel_rfl) rfl;have eS:∀ args w,(callFunc 360 args).run prog w= .ok (.enter 360 args) w:=enters_of func360 (by kernel_rfl) rfl;have eD:∀ args w,(callFunc 296 args).run prog w= .ok (.enter 296 args) w:=enters_of func296 (by kernel_rfl) rfl;have eP:∀ args w,(callFunc 361 args).run prog w= .ok (.enter 361 args) w:=enters_of func361 (by kernel_rfl) rfl;clear h hp;generalize hX:hat xs 0=x0 at*;clear hX hl;generalize hswap xs 0 m=zs at*;go_enter func259,ntmps259
 go_wp2_with (first
  |(go_at_fn 258;refine (CU _ _ _ _).mono ?_;rintro e w2 ⟨rfl,rfl⟩)
  |(go_at_fn 360;refine KS.o.mono ?_;rintro e w1 ⟨rfl,ho,hb⟩;have H1:=zH (HH.o.swapped ho hb);clear ho hb KS m1 n1 m2 n2)
  |(go_at_fn 296;refine (ZI H1.o.1 HL.o (by omega) (eZ m) HU.o (by omega)).mono ?_;rintro e w2 ⟨⟨bb,rfl⟩,ys,h2,i2,p2,x2,t2⟩;have m3:=mpop w2 g;have n3:=npop w2 g;have KP:=zH (ppop_any h2 m (by rw [p2.length_eq,HL.o]));have R:=zH (cK i2 (cK p2 (cK (x2 m (ah m)) t2)));clear h2 i2 p2 x2 t2)
  |(go_at_fn 361;refine KP.o.mono ?_;rintro e w3 ⟨rfl,rv3,h3,t3⟩;have R3:=zH (cK h3 t3);clear h3 t3 KP m3 n3))
 go_ret
 obtain ⟨i2,p2,x2,t2⟩:=R.o;obtain ⟨h3,t3⟩:=R3.o;have e0:hat ys m=x0:=x2.trans HE.o;have hy:ys.length=m+1:=by rw [p2.length_eq,HL.o]
 refine ⟨x0,rv3,ys.take m,by rw [e0];rfl,h3,Zo i2 (by omega),?_,HM.o,(H1.o.2.trans t2).trans t3⟩;have e1:=Zp hy;rw [e0] at e1;have q:ys.Perm (x0::ys.take m):=by
  conv=>lhs;rw [e1]
  exact List.perm_append_singleton _ _
 exact (HP.o.symm.trans p2.symm).trans q
end Go.Proofs.YtfgcodcablpdcaaGreat