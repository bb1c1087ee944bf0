import Derived.Test.YtfgcodcablpdcaaGreatShelf
import Derived.Test.YtfgcodcablpdcaaGreatOrMap
set_option linter.unusedVariables false
namespace Go.Proofs.YtfgcodcablpdcaaGreat
open Go.Proofs.Tryz
open Go.RowKit Plain
theorem u8_lt(a:UInt8):a.toNat<256:=UInt8.toNat_lt a
theorem ok_of{c:UInt8}(h:c.toNat=47\/(48<=c.toNat/\c.toNat<=57)\/(97<=c.toNat/\c.toNat<=122)):oW c=true:=by
 unfold oW;simp only [dX,aD,beq_iff_eq,decide_eq_true_eq,UInt8.le_iff_toNat_le]
 rcases h with h|h|h
 ·exact .inl (.inl (UInt8.toNat_inj.1 h))
 ·exact .inl (.inr h)
 ·exact .inr h
theorem ok_not{c:UInt8}(h:¬ (c.toNat=47\/(48<=c.toNat/\c.toNat<=57)\/(97<=c.toNat/\c.toNat<=122))):oW c=false:=by
 cases e:oW c with
 |false=>rfl
 |true=>
  exfalso
  apply h
  unfold oW at e;simp only [dX,aD,beq_iff_eq,decide_eq_true_eq,UInt8.le_iff_toNat_le] at e
  rcases e with (e|e)|e
  ·subst e;exact .inl rfl
  ·exact .inr (.inl e)
  ·exact .inr (.inr e)
theorem QE{s:iE}(hl:s.length<=16)(h:∀ k,k<s.length ->oW (s.getD k 0)=true):iK s=true:=by
 unfold iK;rw [aD,aR];refine ⟨fun c hc=> ?_,aI hl⟩;obtain ⟨k,hk,rfl⟩:=bF hc;have:=h k hk
 simpa [List.getD,List.getElem?_eq_getElem hk] using this
theorem Nu{s:iE}(k:Nat)(hk:k<s.length)(h:oW (s.getD k 0)=false):iK s=false:=by
 cases e:iK s with
 |false=>rfl
 |true=>
  unfold iK at e;rw [aD,aR] at e;have:=e.1 _ (aU hk);simp [List.getD,List.getElem?_eq_getElem hk,this] at h
theorem QF{s:iE}(hl:¬ s.length<=16):iK s=false:=by unfold iK;rw [aF hl,Bool.and_false]
def FitT(xs:List iE):Prop:=∀ t∈xs,t.length<=1000000
theorem FitT.at{xs:List iE}(h:FitT xs)(k:Nat)(hk:k<xs.length):(xs.getD k []).length<=1000000:=by
 have:=h _ (aU hk)
 simpa [List.getD,List.getElem?_eq_getElem hk] using this
theorem mem_getD{xs:List iE}{k:Nat}(hk:k<xs.length):xs.getD k []∈xs:=by
 have e:xs.getD k []=xs[k]:=by simp [List.getD,List.getElem?_eq_getElem hk]
 rw [e];exact aU hk
theorem mem_at{l:List iE}{t:iE}(h:t∈l):∃ j,j<l.length/\l.getD j []=t:=by
 obtain ⟨j,hj,rfl⟩:=bF h;exact ⟨j,hj,by simp [List.getD,List.getElem?_eq_getElem hj]⟩
def fO(w:World)(r:Bool)(e:Ending)(w':World):Prop:=e= .returned (.bool r)/\Below w.heap.size w w'
theorem nI{w w':World}(h:∃ n,w'=w.drewN n):Below w.heap.size w w':=by
 obtain ⟨n,rfl⟩:=h;exact below_drewN (aj _ _) n
theorem Av{w w':World}(h:w=w'):Below w.heap.size w w':=by rw [h];exact aj _ _
theorem JZ(s p:iE)(w:World):Calls prog 194 #[.string (bt s),.string (bt p)] w fun e w'=>e= .returned (.bool (Gi s p))/\w'=w:=
 Tryz.strings_HasPrefix (bt s) (bt p) w
theorem Iz(s p:iE)(w:World):Calls prog 194 #[.string (bt s),.string (bt p)] w fun e w'=>e= .returned (.bool (Gi s p))/\w=w':=
 (JZ s p w).mono fun _ _ ⟨h,e⟩=>⟨h,e.symm⟩
theorem Yk(xs:List iE)(j:Nat)(hj:j<xs.length):xs[j]! =xs.getD j []:=by
 simp [getElem!_pos,hj,List.getD]
theorem IC{v:Value}{xs:List iE}{w:World}(hv:kD w v xs)(hn:xs.length<=1000000)(p:iE ->Bool)(g:Nat)(lb:Array Value)
  (eg:∀ args w,(callFunc g args).run prog w= .ok (.enter g args) w) (hp:PredAt prog g lb tv p w):
  Calls prog 252 #[v,.func (.func g) #[] lb] w fun e w'=>e= .returned (.bool (xs.any p))/\∃ q,w'=w.drewN q:=by
 by_cases h0:0<xs.length
 ·obtain ⟨b,o,c,rfl,-,-,-,hc⟩:=hv.spot h0
  have:=Tryz.slices_ContainsFunc tv p g lb eg b o xs.length c xs w hp (ah _) (by omega) (fun j hj=>by rw [hc j hj,Yk xs j hj])
  rwa [bq] at this
 ·obtain rfl:xs=[]:=aK (by omega)
  obtain ⟨a,cap,rfl,-⟩:=hv.parts;exact (Tryz.slices_ContainsFunc_empty (α:=iE) a cap _ w).mono fun _ _ ⟨h,e⟩=>⟨h,0,e⟩
end Go.Proofs.YtfgcodcablpdcaaGreat
set_option maxRecDepth 100000
set_option maxHeartbeats 64000000
namespace Go.Proofs.YtfgcodcablpdcaaGreat
open Go.Proofs.Tryz
open Go.RowKit Plain
theorem QG(c:UInt8)(w:World):
  Calls prog 249 #[.int .u8 (c.toNat:Int)] w fun e w'=>e= .returned (.bool (oW c))/\w=w':=by
 have hx:=u8_lt c;have HT:=ok_of (c:=c);have HF:=ok_not (c:=c);generalize oW c=r at*;generalize c.toNat=x at*
 by_cases h1:97<=x
 ·have b1:(97:Int)<=x:=by omega
  by_cases h2:x<=122
  ·obtain rfl:r=true:=HT (.inr (.inr ⟨h1,h2⟩))
   have b2:(x:Int)<=122:=by omega
   clear HT HF h1 h2;go_enter func249,ntmps249
   go_wp2_with fail
   go_ret
   exact ⟨rfl,rfl⟩
  ·obtain rfl:r=false:=HF (by omega)
   have b2:¬ (x:Int)<=122:=by omega
   have b3:(48:Int)<=x:=by omega
   have b4:¬ (x:Int)<=57:=by omega
   have b5:((x:Int)==47)=false:=by simp;omega
   clear HT HF h1 h2;go_enter func249,ntmps249
   go_wp2_with fail
   go_ret
   exact ⟨rfl,rfl⟩
 ·have b1:¬ (97:Int)<=x:=by omega
  by_cases h2:48<=x
  ·have b2:(48:Int)<=x:=by omega
   by_cases h3:x<=57
   ·obtain rfl:r=true:=HT (.inr (.inl ⟨h2,h3⟩))
    have b3:(x:Int)<=57:=by omega
    clear HT HF h1 h2 h3;go_enter func249,ntmps249
    go_wp2_with fail
    go_ret
    exact ⟨rfl,rfl⟩
   ·obtain rfl:r=false:=HF (by omega)
    have b3:¬ (x:Int)<=57:=by omega
    have b5:((x:Int)==47)=false:=by simp;omega
    clear HT HF h1 h2 h3;go_enter func249,ntmps249
    go_wp2_with fail
    go_ret
    exact ⟨rfl,rfl⟩
  ·have b2:¬ (48:Int)<=x:=by omega
   by_cases h3:x=47
   ·obtain rfl:r=true:=HT (.inl h3)
    subst h3;clear HT HF h1 h2;go_enter func249,ntmps249
    go_wp2_with fail
    go_ret
    exact ⟨rfl,rfl⟩
   ·obtain rfl:r=false:=HF (by omega)
    have b5:((x:Int)==47)=false:=by simp;omega
    clear HT HF h1 h2 h3;go_enter func249,ntmps249
    go_wp2_with fail
    go_ret
    exact ⟨rfl,rfl⟩
theorem EO(s:iE)(w:World):
  Calls prog 193 #[.string (bt s)] w fun e w'=>e= .returned (.bool (iK s))/\w=w':=by
 have z1:=nZ s;have HF:=zH (fun k hk h=>Nu (s:=s) k hk h);have HT:=zH (QE (s:=s));have HL:=zH (QF (s:=s));have I1:=zH (Yl s);generalize iK s=r at*;generalize bt s=S at*
 by_cases hl:s.length<=16
 ·have hd:((s.length:Nat):Int)<=16:=by omega
  go_enter func193,ntmps193
  go_wp2_with fail
  go_loop [3,9] (fun _ i=>∃ k:Nat,k<=s.length/\i= .int .i64 k/\∀ j,j<k ->oW (s.getD j 0)=true) (fun _ i=>s.length-(intOf i).toNat)
  case atStart=>exact ⟨0,aL _,rfl,fun j hj=>absurd hj (by omega)⟩
  case round=>
   obtain ⟨k,hk,rfl,hall⟩:=hrel;have HA:=zH hall;clear hall
   by_cases hlt:k<s.length
   ·have i1:=I1.o k hlt
    have K:=QG (s.getD k 0) w
    cases he:oW (s.getD k 0) with
    |true=>
     rw [he] at K;have HA2:Hid (∀ j,j<k+1 ->oW (s.getD j 0)=true):=zH (fun j hj=>by
       by_cases h:j<k
       ·exact HA.o j h
       ·obtain rfl:j=k:=by omega
        exact he)
     clear he;generalize (s.getD k 0).toNat=x at*;go_wp2_with fail
     refine K.mono ?_;rintro e w' ⟨rfl,rfl⟩;go_wp2_with fail
     go_round
     case rel=>exact ⟨k+1,by omega,by go_num,HA2.o⟩
     case measure=>simp [intOf];omega
    |false=>
     rw [he] at K;obtain rfl:r=false:=HF.o k hlt he;clear he;generalize (s.getD k 0).toNat=x at*;go_wp2_with fail
     refine K.mono ?_;rintro e w' ⟨rfl,rfl⟩;go_wp2_with fail
     go_ret
     exact ⟨rfl,rfl⟩
   ·obtain rfl:k=s.length:=by omega
    obtain rfl:r=true:=HT.o hl HA.o;go_wp2_with fail
    go_ret
    exact ⟨rfl,rfl⟩
 ·obtain rfl:r=false:=HL.o hl
  have hd:¬ ((s.length:Nat):Int)<=16:=by omega
  have hd2:(16:Int)<((s.length:Nat):Int):=by omega
  go_enter func193,ntmps193
  go_wp2_with fail
  go_ret
  exact ⟨rfl,rfl⟩
theorem QH(s:iE)(w:World):
  Calls prog 216 #[.string (bt s)] w fun e w'=>e= .returned (.bool (xY s))/\w=w':=by
 have z1:=nZ s;have K:=EO s w;have hk:xY s=(decide (0<s.length)&&iK s):=rfl;have t1:=zP s [];generalize iK s=r at*;rw [hk];clear hk;rw [show (bt []).toList=[] from sW []] at t1
 by_cases h:0<s.length
 ·rw [aI h,aS]
  rw [aF (by rintro rfl;simp at h)] at t1;generalize bt s=S at*;go_enter func216,ntmps216
  go_wp2_with fail
  refine K.mono ?_;rintro e w' ⟨rfl,rfl⟩;go_wp2_with fail
  go_ret
  exact ⟨rfl,rfl⟩
 ·rw [aF h,bU]
  rw [aI (aK (by omega))] at t1;generalize bt s=S at*;go_enter func216,ntmps216
  go_wp2_with fail
  go_ret
  exact ⟨rfl,rfl⟩
theorem enters41:∀ args w,(callFunc 251 args).run prog w= .ok (.enter 251 args) w:=enters_of func251 (by kernel_rfl) rfl
theorem gives41(x key:iE)(B:Nat)(W:World)(hc:W.cell? ⟨B,0,none⟩=some (.string (bt key))):FnGives prog 251 #[.pointer (some ⟨B,0,none⟩)] #[tv x] (.bool (Gi key x)) W:=by
 show Calls prog 251 #[.string (bt x),.pointer (some ⟨B,0,none⟩)] W _
 have KH:=zH (fun W=>Iz key x W);generalize Gi key x=r at*;generalize bt x=X at*;generalize bt key=S at*;go_enter func251,ntmps251
 go_wp2_with fail
 refine (KH.o _).mono ?_;rintro e w' ⟨rfl,rfl⟩;go_wp2_with fail
 go_ret
 exact ⟨rfl,0,rfl⟩
end Go.Proofs.YtfgcodcablpdcaaGreat
set_option maxRecDepth 100000
set_option maxHeartbeats 64000000
namespace Go.Proofs.YtfgcodcablpdcaaGreat
open Go.Proofs.Tryz
open Go.RowKit Plain
theorem IE(a b:iE)(W:World):Calls prog 213 #[.string (bt a),.string (bt b)] W fun e w'=>e= .returned (.int .i64 (J2 a b))/\w'=W:=Tryz.strings_Compare (bt a) (bt b) W
theorem Nv(x y:fK)(w:World):Calls prog 149 #[Ym x,Ym y] w fun e w'=>e= .returned (.int .i64 (DC x y))/\∃ q os,w'=Sort.grow (w.drewN q) os:=by
 have HX:Hid (jS ((w.alloc (.cells #[.string (bt x.key),.string (bt x.field),.int .i64 x.kind,.string (bt x.elem),.int .i64 x.n,.int .i64 x.dot.node,.int .i64 x.dot.seq,.int .i64 x.dot.pos] 79)).alloc (.cells #[.string (bt y.key),.string (bt y.field),.int .i64 y.kind,.string (bt y.elem),.int .i64 y.n,.int .i64 y.dot.node,.int .i64 y.dot.seq,.int .i64 y.dot.pos] 79)) w.heap.size 0 x):=zH ⟨by simp,by simp,by simp,by simp,by simp,by simp,by simp,by simp⟩;have HY:Hid (jS ((w.alloc (.cells #[.string (bt x.key),.string (bt x.field),.int .i64 x.kind,.string (bt x.elem),.int .i64 x.n,.int .i64 x.dot.node,.int .i64 x.dot.seq,.int .i64 x.dot.pos] 79)).alloc (.cells #[.string (bt y.key),.string (bt y.field),.int .i64 y.kind,.string (bt y.elem),.int .i64 y.n,.int .i64 y.dot.node,.int .i64 y.dot.seq,.int .i64 y.dot.pos] 79)) (w.heap.size+1) 0 y):=zH ⟨by simp,by simp,by simp,by simp,by simp,by simp,by simp,by simp⟩;have HZ:Hid (((w.alloc (.cells #[.string (bt x.key),.string (bt x.field),.int .i64 x.kind,.string (bt x.elem),.int .i64 x.n,.int .i64 x.dot.node,.int .i64 x.dot.seq,.int .i64 x.dot.pos] 79)).alloc (.cells #[.string (bt y.key),.string (bt y.field),.int .i64 y.kind,.string (bt y.elem),.int .i64 y.n,.int .i64 y.dot.node,.int .i64 y.dot.seq,.int .i64 y.dot.pos] 79)).heap.size=w.heap.size+2):=zH (by simp);obtain ⟨os2,hw2⟩:∃ os,((w.alloc (.cells #[.string (bt x.key),.string (bt x.field),.int .i64 x.kind,.string (bt x.elem),.int .i64 x.n,.int .i64 x.dot.node,.int .i64 x.dot.seq,.int .i64 x.dot.pos] 79)).alloc (.cells #[.string (bt y.key),.string (bt y.field),.int .i64 y.kind,.string (bt y.elem),.int .i64 y.n,.int .i64 y.dot.node,.int .i64 y.dot.seq,.int .i64 y.dot.pos] 79))=Sort.grow w os:=⟨#[(.cells #[.string (bt x.key),.string (bt x.field),.int .i64 x.kind,.string (bt x.elem),.int .i64 x.n,.int .i64 x.dot.node,.int .i64 x.dot.seq,.int .i64 x.dot.pos] 79),(.cells #[.string (bt y.key),.string (bt y.field),.int .i64 y.kind,.string (bt y.elem),.int .i64 y.n,.int .i64 y.dot.node,.int .i64 y.dot.seq,.int .i64 y.dot.pos] 79)],rfl⟩;have HW:=zH hw2;clear hw2;have K0:=zH (fun W=>IE x.key y.key W);have K1:=zH (fun W=>IE x.field y.field W);have K2:=zH (fun W=>Tryz.cmp_Compare_int_f214 x.kind y.kind W);have K3:=zH (fun W=>Tryz.cmp_Compare_int_f214 x.dot.node y.dot.node W);have K4:=zH (fun W=>Tryz.cmp_Compare_int_f214 x.dot.seq y.dot.seq W);have K5:=zH (fun W=>Tryz.cmp_Compare_int_f214 x.dot.pos y.dot.pos W);have K6:=zH (fun W=>IE x.elem y.elem W);have K7:=zH (fun W=>Tryz.cmp_Compare_int_f215 x.n y.n W);have HI:Hid (DC x y=kF (cmps x y)):=zH rfl;rw [HI.o];unfold cmps;clear HI;generalize J2 x.key y.key=r0 at*;generalize J2 x.field y.field=r1 at*;generalize Lib.compareInt x.kind y.kind=r2 at*;generalize Lib.compareInt x.dot.node y.dot.node=r3 at*;generalize Lib.compareInt x.dot.seq y.dot.seq=r4 at*;generalize Lib.compareInt x.dot.pos y.dot.pos=r5 at*;generalize J2 x.elem y.elem=r6 at*;generalize Lib.compareInt x.n y.n=r7 at*;obtain ⟨r,hr⟩:∃ r,kF [r0,r1,r2,r3,r4,r5,r6,r7]=r:=⟨_,rfl⟩;rw [hr];have HR:=zH hr;clear hr;rw [Gj,Gj];go_enter func149,ntmps149
 go_upto_region 1 with fail
 generalize ((w.alloc _).alloc _)=W2 at*;have KO:=zH (WL [r0,r1,r2,r3,r4,r5,r6,r7] 8 W2.heap.size (W2.alloc (.cells #[.int .i64 r0,.int .i64 r1,.int .i64 r2,.int .i64 r3,.int .i64 r4,.int .i64 r5,.int .i64 r6,.int .i64 r7] 3)).drew rfl (by omega) (fun j hj=>by
  have e:(W2.alloc (.cells #[.int .i64 r0,.int .i64 r1,.int .i64 r2,.int .i64 r3,.int .i64 r4,.int .i64 r5,.int .i64 r6,.int .i64 r7] 3)).drew.cell? ⟨W2.heap.size,j,none⟩=(#[.int .i64 r0,.int .i64 r1,.int .i64 r2,.int .i64 r3,.int .i64 r4,.int .i64 r5,.int .i64 r6,.int .i64 r7]:Array Value)[j]? :=by
   have:=bg W2 #[.int .i64 r0,.int .i64 r1,.int .i64 r2,.int .i64 r3,.int .i64 r4,.int .i64 r5,.int .i64 r6,.int .i64 r7] 3 j;exact this
  rw [e]
  match j,hj with
  |0,_=>rfl
  |1,_=>rfl
  |2,_=>rfl
  |3,_=>rfl
  |4,_=>rfl
  |5,_=>rfl
  |6,_=>rfl
  |7,_=>rfl))
 rw [HR.o] at KO;have KE:Hid (∀ u,Below W2.heap.size W2 u ->(u.cell? ⟨w.heap.size,0,none⟩=some (.string (bt x.key))/\u.cell? ⟨w.heap.size,1,none⟩=some (.string (bt x.field))/\u.cell? ⟨w.heap.size,2,none⟩=some (.int .i64 x.kind)/\u.cell? ⟨w.heap.size,3,none⟩=some (.string (bt x.elem))/\u.cell? ⟨w.heap.size,4,none⟩=some (.int .i64 x.n)/\u.cell? ⟨w.heap.size,5,none⟩=some (.int .i64 x.dot.node)/\u.cell? ⟨w.heap.size,6,none⟩=some (.int .i64 x.dot.seq)/\u.cell? ⟨w.heap.size,7,none⟩=some (.int .i64 x.dot.pos))/\(u.cell? ⟨w.heap.size+1,0,none⟩=some (.string (bt y.key))/\u.cell? ⟨w.heap.size+1,1,none⟩=some (.string (bt y.field))/\u.cell? ⟨w.heap.size+1,2,none⟩=some (.int .i64 y.kind)/\u.cell? ⟨w.heap.size+1,3,none⟩=some (.string (bt y.elem))/\u.cell? ⟨w.heap.size+1,4,none⟩=some (.int .i64 y.n)/\u.cell? ⟨w.heap.size+1,5,none⟩=some (.int .i64 y.dot.node)/\u.cell? ⟨w.heap.size+1,6,none⟩=some (.int .i64 y.dot.seq)/\u.cell? ⟨w.heap.size+1,7,none⟩=some (.int .i64 y.dot.pos))):=zH (fun u hu=>by
  obtain ⟨c0,c1,c2,c3,c4,c5,c6,c7⟩:=HX.o.below hu HX.o.lt;obtain ⟨d0,d1,d2,d3,d4,d5,d6,d7⟩:=HY.o.below hu HY.o.lt;simp only [aJ] at c1 c2 c3 c4 c5 c6 c7 d1 d2 d3 d4 d5 d6 d7
  exact ⟨⟨c0,c1,c2,c3,c4,c5,c6,c7⟩,⟨d0,d1,d2,d3,d4,d5,d6,d7⟩⟩)
 generalize bt x.key=xkey at*;generalize bt y.key=ykey at*;generalize bt x.field=xfield at*;generalize bt y.field=yfield at*;generalize bt x.elem=xelem at*;generalize bt y.elem=yelem at*;generalize x.kind=xkind at*;generalize x.n=xnn at*;generalize x.dot.node=xnode at*;generalize x.dot.seq=xseq at*;generalize x.dot.pos=xpos at*;generalize y.kind=ykind at*;generalize y.n=ynn at*;generalize y.dot.node=ynode at*;generalize y.dot.seq=yseq at*;generalize y.dot.pos=ypos at*
 go_region_held3 (fun u=>(u.cell? ⟨w.heap.size,0,none⟩=some (.string (xkey))/\u.cell? ⟨w.heap.size,1,none⟩=some (.string (xfield))/\u.cell? ⟨w.heap.size,2,none⟩=some (.int .i64 xkind)/\u.cell? ⟨w.heap.size,3,none⟩=some (.string (xelem))/\u.cell? ⟨w.heap.size,4,none⟩=some (.int .i64 xnn)/\u.cell? ⟨w.heap.size,5,none⟩=some (.int .i64 xnode)/\u.cell? ⟨w.heap.size,6,none⟩=some (.int .i64 xseq)/\u.cell? ⟨w.heap.size,7,none⟩=some (.int .i64 xpos))/\(u.cell? ⟨w.heap.size+1,0,none⟩=some (.string (ykey))/\u.cell? ⟨w.heap.size+1,1,none⟩=some (.string (yfield))/\u.cell? ⟨w.heap.size+1,2,none⟩=some (.int .i64 ykind)/\u.cell? ⟨w.heap.size+1,3,none⟩=some (.string (yelem))/\u.cell? ⟨w.heap.size+1,4,none⟩=some (.int .i64 ynn)/\u.cell? ⟨w.heap.size+1,5,none⟩=some (.int .i64 ynode)/\u.cell? ⟨w.heap.size+1,6,none⟩=some (.int .i64 yseq)/\u.cell? ⟨w.heap.size+1,7,none⟩=some (.int .i64 ypos)))
  (first|(exact KE.o _ (aj _ _).drew)|(exact KE.o _ ((aj _ _).alloc (ah _) _).drew))
  (first
   |(go_at_call 213;(with_reducible refine (K0.o _).mono ?_);rintro e w' ⟨rfl,rfl⟩)
   |(go_at_call 213;(with_reducible refine (K1.o _).mono ?_);rintro e w' ⟨rfl,rfl⟩)
   |(go_at_call 214;(with_reducible refine (K2.o _).mono ?_);rintro e w' ⟨rfl,rfl⟩)
   |(go_at_call 214;(with_reducible refine (K3.o _).mono ?_);rintro e w' ⟨rfl,rfl⟩)
   |(go_at_call 214;(with_reducible refine (K4.o _).mono ?_);rintro e w' ⟨rfl,rfl⟩)
   |(go_at_call 214;(with_reducible refine (K5.o _).mono ?_);rintro e w' ⟨rfl,rfl⟩)
   |(go_at_call 213;(with_reducible refine (K6.o _).mono ?_);rintro e w' ⟨rfl,rfl⟩)
   |(go_at_call 215;(with_reducible refine (K7.o _).mono ?_);rintro e w' ⟨rfl,rfl⟩)
   |(go_at_call 212;(with_reducible refine KO.o.mono ?_);rintro e w' ⟨rfl,rfl⟩))
 go_wp2_with fail
 go_ret
 exact ⟨rfl,1,os2++#[(.cells #[.int .i64 r0,.int .i64 r1,.int .i64 r2,.int .i64 r3,.int .i64 r4,.int .i64 r5,.int .i64 r6,.int .i64 r7] 3)],by rw [HW.o,Sort.alloc_eq_grow,Sort.grow_grow];rfl⟩
end Go.Proofs.YtfgcodcablpdcaaGreat