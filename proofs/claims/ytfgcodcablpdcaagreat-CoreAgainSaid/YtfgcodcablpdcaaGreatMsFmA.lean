import Derived.Test.YtfgcodcablpdcaaGreatMsMsg
import Derived.Test.YtfgcodcablpdcaaGreatPaAlone
set_option linter.unusedVariables false
set_option maxRecDepth 100000
set_option maxHeartbeats 64000000
namespace Go.Proofs.YtfgcodcablpdcaaGreat
open Go.Proofs.Tryz
open Go.RowKit Plain
def NU(ticket:Int)(whole:Bool)(vn fn zn nn im ln:Nat):Bool:=decide (ticket=0)&&(!whole&&(decide (vn=0)&&(decide (fn=0)&&(decide (zn=0)&&(decide (nn=0)&&(decide (im=0)&&decide (ln=0)))))))
theorem YI{α:Type}(l:List α):l.isEmpty=decide (l.length=0):=by cases l<;>simp
theorem Je(m:gu):Mw m=NU m.ticket m.whole m.vec.length m.from_.length m.zone.length m.want.length m.items.length m.fU.length:=by
 unfold Mw NU;simp only [YI]
theorem vZ{kind ticket:Int}{whole:Bool}{va fa za na ia la:Option Addr}{vn vc fn fc zn zc nn nc im ic ln lc:Nat}{w:World}:
  Calls prog 191 #[.agg #[.int .i64 kind,.int .i64 ticket,.bool whole,.slice va vn vc,.slice fa fn fc,.slice za zn zc,.slice na nn nc,.slice ia im ic,.slice la ln lc]] w (fO w (NU ticket whole vn fn zn nn im ln)):=by
 have hb:=zH (zB w (.cells #[.int .i64 kind,.int .i64 ticket,.bool whole,.slice va vn vc,.slice fa fn fc,.slice za zn zc,.slice na nn nc,.slice ia im ic,.slice la ln lc] 46));obtain ⟨c0,c1,c2,c3,c4,c5,c6,c7,c8⟩:=jD (aM w (.cells #[.int .i64 kind,.int .i64 ticket,.bool whole,.slice va vn vc,.slice fa fn fc,.slice za zn zc,.slice na nn nc,.slice ia im ic,.slice la ln lc] 46));have HR:Hid (∀ r,NU ticket whole vn fn zn nn im ln=r ->fO w (NU ticket whole vn fn zn nn im ln)=fO w r):=zH (fun r h=>by rw [h])
 by_cases k0:ticket=0
 rotate_left
 ·rw [HR.o false (by unfold NU;simp [k0])]
  have e0:(ticket==0)=false:=by simp [k0]
  clear HR k0;go_enter func191,ntmps191
  go_wp2_with fail
  go_ret
  exact ⟨rfl,hb.o⟩
 by_cases k1:whole=false
 rotate_left
 ·rw [HR.o false (by unfold NU;simp [k0,k1])]
  have e0:(ticket==0)=true:=by simp [k0]
  obtain rfl:whole=true:=by cases whole<;>simp_all
  clear HR k0 k1;go_enter func191,ntmps191
  go_wp2_with fail
  go_ret
  exact ⟨rfl,hb.o⟩
 subst k1;have k1:true=true:=rfl
 by_cases k2:vn=0
 rotate_left
 ·rw [HR.o false (by unfold NU;simp [k0,k2])]
  have e0:(ticket==0)=true:=by simp [k0]
  have e2:(((vn:Nat):Int)==0)=false:=by simp [k2]
  clear HR k0 k1 k2;go_enter func191,ntmps191
  go_wp2_with fail
  go_ret
  exact ⟨rfl,hb.o⟩
 by_cases k3:fn=0
 rotate_left
 ·rw [HR.o false (by unfold NU;simp [k0,k2,k3])]
  have e0:(ticket==0)=true:=by simp [k0]
  have e2:(((vn:Nat):Int)==0)=true:=by simp [k2]
  have e3:(((fn:Nat):Int)==0)=false:=by simp [k3]
  clear HR k0 k1 k2 k3;go_enter func191,ntmps191
  go_wp2_with fail
  go_ret
  exact ⟨rfl,hb.o⟩
 by_cases k4:zn=0
 rotate_left
 ·rw [HR.o false (by unfold NU;simp [k0,k2,k3,k4])]
  have e0:(ticket==0)=true:=by simp [k0]
  have e2:(((vn:Nat):Int)==0)=true:=by simp [k2]
  have e3:(((fn:Nat):Int)==0)=true:=by simp [k3]
  have e4:(((zn:Nat):Int)==0)=false:=by simp [k4]
  clear HR k0 k1 k2 k3 k4;go_enter func191,ntmps191
  go_wp2_with fail
  go_ret
  exact ⟨rfl,hb.o⟩
 by_cases k5:nn=0
 rotate_left
 ·rw [HR.o false (by unfold NU;simp [k0,k2,k3,k4,k5])]
  have e0:(ticket==0)=true:=by simp [k0]
  have e2:(((vn:Nat):Int)==0)=true:=by simp [k2]
  have e3:(((fn:Nat):Int)==0)=true:=by simp [k3]
  have e4:(((zn:Nat):Int)==0)=true:=by simp [k4]
  have e5:(((nn:Nat):Int)==0)=false:=by simp [k5]
  clear HR k0 k1 k2 k3 k4 k5;go_enter func191,ntmps191
  go_wp2_with fail
  go_ret
  exact ⟨rfl,hb.o⟩
 by_cases k6:im=0
 rotate_left
 ·rw [HR.o false (by unfold NU;simp [k0,k2,k3,k4,k5,k6])]
  have e0:(ticket==0)=true:=by simp [k0]
  have e2:(((vn:Nat):Int)==0)=true:=by simp [k2]
  have e3:(((fn:Nat):Int)==0)=true:=by simp [k3]
  have e4:(((zn:Nat):Int)==0)=true:=by simp [k4]
  have e5:(((nn:Nat):Int)==0)=true:=by simp [k5]
  have e6:(((im:Nat):Int)==0)=false:=by simp [k6]
  clear HR k0 k1 k2 k3 k4 k5 k6;go_enter func191,ntmps191
  go_wp2_with fail
  go_ret
  exact ⟨rfl,hb.o⟩
 by_cases k7:ln=0
 rotate_left
 ·rw [HR.o false (by unfold NU;simp [k0,k2,k3,k4,k5,k6,k7])]
  have e0:(ticket==0)=true:=by simp [k0]
  have e2:(((vn:Nat):Int)==0)=true:=by simp [k2]
  have e3:(((fn:Nat):Int)==0)=true:=by simp [k3]
  have e4:(((zn:Nat):Int)==0)=true:=by simp [k4]
  have e5:(((nn:Nat):Int)==0)=true:=by simp [k5]
  have e6:(((im:Nat):Int)==0)=true:=by simp [k6]
  have e7:(((ln:Nat):Int)==0)=false:=by simp [k7]
  clear HR k0 k1 k2 k3 k4 k5 k6 k7;go_enter func191,ntmps191
  go_wp2_with fail
  go_ret
  exact ⟨rfl,hb.o⟩
 rw [HR.o true (by unfold NU;simp [k0,k2,k3,k4,k5,k6,k7])];have e0:(ticket==0)=true:=by simp [k0]
 have e2:(((vn:Nat):Int)==0)=true:=by simp [k2]
 have e3:(((fn:Nat):Int)==0)=true:=by simp [k3]
 have e4:(((zn:Nat):Int)==0)=true:=by simp [k4]
 have e5:(((nn:Nat):Int)==0)=true:=by simp [k5]
 have e6:(((im:Nat):Int)==0)=true:=by simp [k6]
 have e7:(((ln:Nat):Int)==0)=true:=by simp [k7]
 clear HR k0 k1 k2 k3 k4 k5 k6 k7;go_enter func191,ntmps191
 go_wp2_with fail
 go_ret
 exact ⟨rfl,hb.o⟩
theorem uses_len(m:gu){vn fn zn nn im ln:Nat}(d1:m.vec.length=vn)(d2:m.from_.length=fn)(d3:m.zone.length=zn)(d4:m.want.length=nn)(d5:m.items.length=im)(d6:m.fU.length=ln):
  (m.kind=1\/m.kind=6 ->oo m=NU m.ticket m.whole vn fn zn nn im 0)/\(m.kind=5 ->oo m=NU m.ticket m.whole 0 fn zn nn im ln)/\(m.kind=2 ->oo m=NU 0 false 0 fn 0 0 im ln)/\(m.kind=3 ->oo m=NU 0 m.whole 0 fn zn 0 0 ln)/\(m.kind=4 ->oo m=NU 0 m.whole 0 0 zn 0 im 0):=by
 subst d1 d2 d3 d4 d5 d6;refine ⟨fun h=> ?_,fun h=> ?_,fun h=> ?_,fun h=> ?_,fun h=> ?_⟩
 ·rw [BJ (by omega),Je];unfold AP;rw [if_pos h];rfl
 ·rw [BJ (by omega),Je];unfold AP;rw [if_neg (by omega),if_pos h];rfl
 ·rw [BJ (by omega),Je];unfold AP;rw [if_neg (by omega),if_neg (by omega),if_pos h];rfl
 ·rw [BJ (by omega),Je];unfold AP;rw [if_neg (by omega),if_neg (by omega),if_neg (by omega),if_pos h];rfl
 ·rw [BJ (by omega),Je];unfold AP;rw [if_neg (by omega),if_neg (by omega),if_neg (by omega),if_neg (by omega)];rfl
theorem msaysNo{v:Value}{m:gu}{w:World}(hv:pE w v m):Calls prog 119 #[v] w (fO w (oo m)):=by
 obtain ⟨va,vn,vc,fa,fn,fc,za,zn,zc,na,nn,nc,ia,im,ic,la,ln,lc,rfl,H⟩:=hv.slices;have hb:=zH (zB w (.cells #[.int .i64 m.kind,.int .i64 m.ticket,.bool m.whole,.slice va vn vc,.slice fa fn fc,.slice za zn zc,.slice na nn nc,.slice ia im ic,.slice la ln lc] 46));have U:=zH (uses_len m H.v.iY.1 H.f.iY.1 H.z.iY.1 H.n.iY.1 H.i.iY.1 H.l.iY.1);have hz:=aM w (.cells #[.int .i64 m.kind,.int .i64 m.ticket,.bool m.whole,.slice va vn vc,.slice fa fn fc,.slice za zn zc,.slice na nn nc,.slice ia im ic,.slice la ln lc] 46);have UN:Hid (¬ (1<=m.kind/\m.kind<=6) ->oo m=false):=zH uses_not;clear hv H;generalize oo m=r at*;go_enter func119,ntmps119
 go_upto_region 1 with fail
 generalize (w.alloc _)=w0 at*;obtain ⟨c0,c1,c2,c3,c4,c5,c6,c7,c8⟩:=jD hz;have FR:=ng hz;have HZ:=zH hz;obtain ⟨f1,f2,f3,f4,f5,f6,f7,f8⟩:w0.frozen? ⟨w.heap.size,1,none⟩=false/\w0.frozen? ⟨w.heap.size,2,none⟩=false/\w0.frozen? ⟨w.heap.size,3,none⟩=false/\w0.frozen? ⟨w.heap.size,4,none⟩=false/\w0.frozen? ⟨w.heap.size,5,none⟩=false/\w0.frozen? ⟨w.heap.size,6,none⟩=false/\w0.frozen? ⟨w.heap.size,7,none⟩=false/\w0.frozen? ⟨w.heap.size,8,none⟩=false:=⟨FR 1 (by omega),FR 2 (by omega),FR 3 (by omega),FR 4 (by omega),FR 5 (by omega),FR 6 (by omega),FR 7 (by omega),FR 8 (by omega)⟩;clear hz FR
 by_cases k1:m.kind=1
 ·have e1:(m.kind==1)=true:=by simp [k1]
  have HE:=zH (U.o.1 (.inl k1));go_upto_region 14 with fail
  have BZ:Hid ((w0.setCell ⟨w.heap.size,8,none⟩ (.slice none 0 0)).heap[w.heap.size]? =some (.cells #[.int .i64 m.kind,.int .i64 m.ticket,.bool m.whole,.slice va vn vc,.slice fa fn fc,.slice za zn zc,.slice na nn nc,.slice ia im ic,.slice none 0 0] 46 (0,0))):=zH (by rw [(aB _ w.heap.size 8 _ _ _ HZ.o)];rfl);have GZ:Hid (Below w.heap.size w (w0.setCell ⟨w.heap.size,8,none⟩ (.slice none 0 0))):=zH (hb.o.setCell (ah _) _);generalize (w0.setCell _ _)=w1 at*;clear c0 c1 c2 c3 c4 c5 c6 c7 c8 f1 f2 f3 f4 f5 f6 f7 f8;obtain ⟨c0,c1,c2,c3,c4,c5,c6,c7,c8⟩:=jD BZ.o;go_wp2_with fail
  refine vZ.mono ?_;rintro e w2 ⟨rfl,hb2⟩;have G2:=zH (GZ.o.trans (hb2.mono GZ.o.size));clear hb2;go_wp2_with fail
  go_ret
  exact ⟨by rw [HE.o];rfl,G2.o⟩
 by_cases k6:m.kind=6
 ·have e6:(m.kind==6)=true:=by simp [k6]
  have e1:(m.kind==1)=false:=beq_false_of_ne k1;have HE:=zH (U.o.1 (.inr k6));go_upto_region 14 with fail
  have BZ:Hid ((w0.setCell ⟨w.heap.size,8,none⟩ (.slice none 0 0)).heap[w.heap.size]? =some (.cells #[.int .i64 m.kind,.int .i64 m.ticket,.bool m.whole,.slice va vn vc,.slice fa fn fc,.slice za zn zc,.slice na nn nc,.slice ia im ic,.slice none 0 0] 46 (0,0))):=zH (by rw [(aB _ w.heap.size 8 _ _ _ HZ.o)];rfl);have GZ:Hid (Below w.heap.size w (w0.setCell ⟨w.heap.size,8,none⟩ (.slice none 0 0))):=zH (hb.o.setCell (ah _) _);generalize (w0.setCell _ _)=w1 at*;clear c0 c1 c2 c3 c4 c5 c6 c7 c8 f1 f2 f3 f4 f5 f6 f7 f8;obtain ⟨c0,c1,c2,c3,c4,c5,c6,c7,c8⟩:=jD BZ.o;go_wp2_with fail
  refine vZ.mono ?_;rintro e w2 ⟨rfl,hb2⟩;have G2:=zH (GZ.o.trans (hb2.mono GZ.o.size));clear hb2;go_wp2_with fail
  go_ret
  exact ⟨by rw [HE.o];rfl,G2.o⟩
 by_cases k5:m.kind=5
 ·have e5:(m.kind==5)=true:=by simp [k5]
  have e1:(m.kind==1)=false:=beq_false_of_ne k1;have e6:(m.kind==6)=false:=beq_false_of_ne k6;have HE:=zH (U.o.2.1 k5);go_upto_region 14 with fail
  have BZ:Hid ((w0.setCell ⟨w.heap.size,3,none⟩ (.slice none 0 0)).heap[w.heap.size]? =some (.cells #[.int .i64 m.kind,.int .i64 m.ticket,.bool m.whole,.slice none 0 0,.slice fa fn fc,.slice za zn zc,.slice na nn nc,.slice ia im ic,.slice la ln lc] 46 (0,0))):=zH (by rw [(aB _ w.heap.size 3 _ _ _ HZ.o)];rfl);have GZ:Hid (Below w.heap.size w (w0.setCell ⟨w.heap.size,3,none⟩ (.slice none 0 0))):=zH (hb.o.setCell (ah _) _);generalize (w0.setCell _ _)=w1 at*;clear c0 c1 c2 c3 c4 c5 c6 c7 c8 f1 f2 f3 f4 f5 f6 f7 f8;obtain ⟨c0,c1,c2,c3,c4,c5,c6,c7,c8⟩:=jD BZ.o;go_wp2_with fail
  refine vZ.mono ?_;rintro e w2 ⟨rfl,hb2⟩;have G2:=zH (GZ.o.trans (hb2.mono GZ.o.size));clear hb2;go_wp2_with fail
  go_ret
  exact ⟨by rw [HE.o];rfl,G2.o⟩
 by_cases k2:m.kind=2
 ·have e2:(m.kind==2)=true:=by simp [k2]
  have e1:(m.kind==1)=false:=beq_false_of_ne k1;have e6:(m.kind==6)=false:=beq_false_of_ne k6;have e5:(m.kind==5)=false:=beq_false_of_ne k5;have HE:=zH (U.o.2.2.1 k2);go_upto_region 14 with fail
  have BZ:Hid ((((((w0.setCell ⟨w.heap.size,1,none⟩ (.int .i64 0)).setCell ⟨w.heap.size,2,none⟩ (.bool false)).setCell ⟨w.heap.size,3,none⟩ (.slice none 0 0)).setCell ⟨w.heap.size,5,none⟩ (.slice none 0 0)).setCell ⟨w.heap.size,6,none⟩ (.slice none 0 0)).heap[w.heap.size]? =some (.cells #[.int .i64 m.kind,.int .i64 0,.bool false,.slice none 0 0,.slice fa fn fc,.slice none 0 0,.slice none 0 0,.slice ia im ic,.slice la ln lc] 46 (0,0))):=zH (by rw [(aB _ w.heap.size 6 _ _ _ (aB _ w.heap.size 5 _ _ _ (aB _ w.heap.size 3 _ _ _ (aB _ w.heap.size 2 _ _ _ (aB _ w.heap.size 1 _ _ _ HZ.o)))))];rfl);have GZ:Hid (Below w.heap.size w (((((w0.setCell ⟨w.heap.size,1,none⟩ (.int .i64 0)).setCell ⟨w.heap.size,2,none⟩ (.bool false)).setCell ⟨w.heap.size,3,none⟩ (.slice none 0 0)).setCell ⟨w.heap.size,5,none⟩ (.slice none 0 0)).setCell ⟨w.heap.size,6,none⟩ (.slice none 0 0))):=zH (((((hb.o.setCell (ah _) _).setCell (ah _) _).setCell (ah _) _).setCell (ah _) _).setCell (ah _) _);generalize (((((w0.setCell _ _).setCell _ _).setCell _ _).setCell _ _).setCell _ _)=w1 at*;clear c0 c1 c2 c3 c4 c5 c6 c7 c8 f1 f2 f3 f4 f5 f6 f7 f8;obtain ⟨c0,c1,c2,c3,c4,c5,c6,c7,c8⟩:=jD BZ.o;go_wp2_with fail
  refine vZ.mono ?_;rintro e w2 ⟨rfl,hb2⟩;have G2:=zH (GZ.o.trans (hb2.mono GZ.o.size));clear hb2;go_wp2_with fail
  go_ret
  exact ⟨by rw [HE.o];rfl,G2.o⟩
 by_cases k3:m.kind=3
 ·have e3:(m.kind==3)=true:=by simp [k3]
  have e1:(m.kind==1)=false:=beq_false_of_ne k1;have e6:(m.kind==6)=false:=beq_false_of_ne k6;have e5:(m.kind==5)=false:=beq_false_of_ne k5;have e2:(m.kind==2)=false:=beq_false_of_ne k2;have HE:=zH (U.o.2.2.2.1 k3);go_upto_region 14 with fail
  have BZ:Hid (((((w0.setCell ⟨w.heap.size,1,none⟩ (.int .i64 0)).setCell ⟨w.heap.size,3,none⟩ (.slice none 0 0)).setCell ⟨w.heap.size,6,none⟩ (.slice none 0 0)).setCell ⟨w.heap.size,7,none⟩ (.slice none 0 0)).heap[w.heap.size]? =some (.cells #[.int .i64 m.kind,.int .i64 0,.bool m.whole,.slice none 0 0,.slice fa fn fc,.slice za zn zc,.slice none 0 0,.slice none 0 0,.slice la ln lc] 46 (0,0))):=zH (by rw [(aB _ w.heap.size 7 _ _ _ (aB _ w.heap.size 6 _ _ _ (aB _ w.heap.size 3 _ _ _ (aB _ w.heap.size 1 _ _ _ HZ.o))))];rfl);have GZ:Hid (Below w.heap.size w ((((w0.setCell ⟨w.heap.size,1,none⟩ (.int .i64 0)).setCell ⟨w.heap.size,3,none⟩ (.slice none 0 0)).setCell ⟨w.heap.size,6,none⟩ (.slice none 0 0)).setCell ⟨w.heap.size,7,none⟩ (.slice none 0 0))):=zH ((((hb.o.setCell (ah _) _).setCell (ah _) _).setCell (ah _) _).setCell (ah _) _);generalize ((((w0.setCell _ _).setCell _ _).setCell _ _).setCell _ _)=w1 at*;clear c0 c1 c2 c3 c4 c5 c6 c7 c8 f1 f2 f3 f4 f5 f6 f7 f8;obtain ⟨c0,c1,c2,c3,c4,c5,c6,c7,c8⟩:=jD BZ.o;go_wp2_with fail
  refine vZ.mono ?_;rintro e w2 ⟨rfl,hb2⟩;have G2:=zH (GZ.o.trans (hb2.mono GZ.o.size));clear hb2;go_wp2_with fail
  go_ret
  exact ⟨by rw [HE.o];rfl,G2.o⟩
 by_cases k4:m.kind=4
 ·have e4:(m.kind==4)=true:=by simp [k4]
  have e1:(m.kind==1)=false:=beq_false_of_ne k1;have e6:(m.kind==6)=false:=beq_false_of_ne k6;have e5:(m.kind==5)=false:=beq_false_of_ne k5;have e2:(m.kind==2)=false:=beq_false_of_ne k2;have e3:(m.kind==3)=false:=beq_false_of_ne k3;have HE:=zH (U.o.2.2.2.2 k4);go_upto_region 14 with fail
  have BZ:Hid ((((((w0.setCell ⟨w.heap.size,1,none⟩ (.int .i64 0)).setCell ⟨w.heap.size,4,none⟩ (.slice none 0 0)).setCell ⟨w.heap.size,3,none⟩ (.slice none 0 0)).setCell ⟨w.heap.size,6,none⟩ (.slice none 0 0)).setCell ⟨w.heap.size,8,none⟩ (.slice none 0 0)).heap[w.heap.size]? =some (.cells #[.int .i64 m.kind,.int .i64 0,.bool m.whole,.slice none 0 0,.slice none 0 0,.slice za zn zc,.slice none 0 0,.slice ia im ic,.slice none 0 0] 46 (0,0))):=zH (by rw [(aB _ w.heap.size 8 _ _ _ (aB _ w.heap.size 6 _ _ _ (aB _ w.heap.size 3 _ _ _ (aB _ w.heap.size 4 _ _ _ (aB _ w.heap.size 1 _ _ _ HZ.o)))))];rfl);have GZ:Hid (Below w.heap.size w (((((w0.setCell ⟨w.heap.size,1,none⟩ (.int .i64 0)).setCell ⟨w.heap.size,4,none⟩ (.slice none 0 0)).setCell ⟨w.heap.size,3,none⟩ (.slice none 0 0)).setCell ⟨w.heap.size,6,none⟩ (.slice none 0 0)).setCell ⟨w.heap.size,8,none⟩ (.slice none 0 0))):=zH (((((hb.o.setCell (ah _) _).setCell (ah _) _).setCell (ah _) _).setCell (ah _) _).setCell (ah _) _);generalize (((((w0.setCell _ _).setCell _ _).setCell _ _).setCell _ _).setCell _ _)=w1 at*;clear c0 c1 c2 c3 c4 c5 c6 c7 c8 f1 f2 f3 f4 f5 f6 f7 f8;obtain ⟨c0,c1,c2,c3,c4,c5,c6,c7,c8⟩:=jD BZ.o;go_wp2_with fail
  refine vZ.mono ?_;rintro e w2 ⟨rfl,hb2⟩;have G2:=zH (GZ.o.trans (hb2.mono GZ.o.size));clear hb2;go_wp2_with fail
  go_ret
  exact ⟨by rw [HE.o];rfl,G2.o⟩
 obtain rfl:r=false:=UN.o (by omega);have e1:(m.kind==1)=false:=beq_false_of_ne k1;have e6:(m.kind==6)=false:=beq_false_of_ne k6;have e5:(m.kind==5)=false:=beq_false_of_ne k5;have e2:(m.kind==2)=false:=beq_false_of_ne k2;have e3:(m.kind==3)=false:=beq_false_of_ne k3;have e4:(m.kind==4)=false:=beq_false_of_ne k4;go_wp2_with fail
 go_ret
 exact ⟨rfl,hb.o⟩
theorem Rl(W:World)(d:Int):Calls prog 192 (#[.int .i64 d]++#[]) W (fO W (decide (d>1073741824))):=by
 show Calls prog 192 #[.int .i64 d] W _
 go_enter func192,ntmps192
 go_wp2_with fail
 go_ret
 exact ⟨rfl,aj _ _⟩
theorem misVec0{v:Value}{xs:List Int}{w:World}(hv:gQ w v xs)(hl:xs.length<=1000000):Calls prog 120 #[v] w (fO w (GX xs)):=by
 obtain ⟨a,cap,rfl,g1,g2,g0,h⟩:=hv.parts;have KT:=zH (rP h hl);have KE:Hid (∀ (W:World) (u:Value),Below w.heap.size w W ->gQ W u (trim xs) ->Calls prog 83 #[.slice a xs.length cap,u] W fun e w'=>e= .returned (.bool (decide (xs=trim xs)))/\∃ n,w'=W.drewN n):=zH (fun W u hb hs=>rQ (h.below hb) hs);have KC:Hid (∀ W,Below w.heap.size w W ->Calls prog 146 #[.slice a xs.length cap,.func (.func 192) #[] #[]] W (fO W (xs.any fun n=>decide (n>1073741824)))):=zH (fun W hb=>uj (h.below hb) hl _ _ #[] (enters_of func192 (by kernel_rfl) rfl) (fun W' d _=>Rl W' d));have HR:Hid (GX xs=(decide (xs.length<=8)&&(decide (xs=trim xs)&& !xs.any (fun n=>decide (n>1073741824))))):=zH rfl;clear hv h g0;generalize GX xs=r at*;generalize decide (xs=trim xs)=r1 at*;generalize (xs.any fun n=>decide (n>1073741824))=r2 at*;generalize trim xs=ts at*;generalize xs.length=n at*
 by_cases hn:n<=8
 ·have hni:(n:Int)<=8:=by omega
  rw [aI hn,aS] at HR;clear hn;go_enter func120,ntmps120
  go_wp2_with fail
  refine KT.o.mono ?_;rintro e w1 ⟨v1,rfl,ho,hb⟩;have B1:=zH hb;have KE1:=KE.o w1 v1 hb ho.seq;obtain ⟨a1,c1,rfl,-,-,-,-⟩:=ho.parts;clear ho hb KT KE;generalize ts.length=tn at*;go_wp2_with fail
  refine KE1.mono ?_;rintro e w2 ⟨rfl,q,rfl⟩;have B2:=zH (below_drewN B1.o q);clear KE1;generalize w1.drewN q=w2 at*
  cases r1 with
  |false=>
   obtain rfl:r=false:=HR.o;go_wp2_with fail
   go_ret
   exact ⟨rfl,B2.o⟩
  |true=>
   rw [aS] at HR;have Tv:=KC.o w2 B2.o;clear KC;go_wp2_with fail
   refine Tv.mono ?_;rintro e w3 ⟨rfl,hb⟩;have B3:=zH (B2.o.trans (hb.mono B2.o.size));clear hb Tv;obtain rfl:r= !r2:=HR.o;go_wp2_with fail
   go_ret
   exact ⟨rfl,B3.o⟩
 ·have hni:¬ (n:Int)<=8:=by omega
  rw [aF hn,bU] at HR;obtain rfl:r=false:=HR.o;clear hn HR;go_enter func120,ntmps120
  go_wp2_with fail
  go_ret
  exact ⟨rfl,aj _ _⟩
theorem misVec{v:Value}{xs:List Int}{w:World}(hv:gQ w v xs)(hl:xs.length<=1000000):Calls prog 120 #[v] w (fO w (tJ xs)):=by
 rw [<-isVec_is];exact misVec0 hv hl
theorem U8{W:World}{tv:Value}{d:fI}(ht:kN W tv d)(hf:lJ d):Calls prog 197 (#[tv]++#[]) W (fO W (!fQ d)):=by
 show Calls prog 197 #[tv] W _
 obtain ⟨da,dn,dc,ea,en,ec,rfl,k1,k2⟩:=ht.slices;have hb:=zB W (.cells #[.int .i64 d.node,.int .i64 d.seq,.slice da dn dc,.slice ea en ec] 82);have K:=zH (vL (ht.below hb) hf _ rfl);have G:=zH hb;obtain ⟨c0,c1,c2,c3⟩:(W.alloc (.cells #[.int .i64 d.node,.int .i64 d.seq,.slice da dn dc,.slice ea en ec] 82)).cell? ⟨W.heap.size,0,none⟩=some (.int .i64 d.node)/\(W.alloc (.cells #[.int .i64 d.node,.int .i64 d.seq,.slice da dn dc,.slice ea en ec] 82)).cell? ⟨W.heap.size,1,none⟩=some (.int .i64 d.seq)/\(W.alloc (.cells #[.int .i64 d.node,.int .i64 d.seq,.slice da dn dc,.slice ea en ec] 82)).cell? ⟨W.heap.size,2,none⟩=some (.slice da dn dc)/\(W.alloc (.cells #[.int .i64 d.node,.int .i64 d.seq,.slice da dn dc,.slice ea en ec] 82)).cell? ⟨W.heap.size,3,none⟩=some (.slice ea en ec):=⟨by simp,by simp,by simp,by simp⟩;clear ht hf hb k1 k2;generalize fQ d=r at*;go_enter func197,ntmps197
 go_upto_region 1 with fail
 generalize (W.alloc _)=w1 at*;go_wp2_with fail
 refine K.o.mono ?_;rintro e w2 ⟨rfl,hb⟩;have G2:=zH (G.o.trans (hb.mono G.o.size));clear hb K;go_wp2_with fail
 go_ret
 exact ⟨rfl,G2.o⟩
theorem mareTxns{v:Value}{l:List fI}{w:World}(hv:fM gV w v l)(hl:l.length<=1000000)(hf:∀ t∈l,lJ t):Calls prog 123 #[v] w (fO w (BM l)):=by
 obtain ⟨a,cap,rfl,g1,g2,g0,h⟩:=hv.parts;have KC:Hid (∀ W,Below w.heap.size w W ->Calls prog 85 #[.slice a l.length cap,.func (.func 197) #[] #[]] W (fO W (l.any fun t=> !fQ t))):=zH (fun W hb=>yM (h.below hb) hl _ _ #[] (enters_of func197 (by kernel_rfl) rfl) (fun W' d tv hd _ ht=>U8 ht (hf d hd)));have HR:Hid (BM l=(decide (l.length<=4096)&& !l.any (fun t=> !fQ t))):=zH rfl;clear hv h g0 hf;generalize BM l=r at*;generalize (l.any fun t=> !fQ t)=r2 at*;generalize l.length=n at*
 by_cases hn:n<=4096
 ·have hni:(n:Int)<=4096:=by omega
  rw [aI hn,aS] at HR;clear hn;have Tv:=KC.o w (aj _ _);clear KC;go_enter func123,ntmps123
  go_wp2_with fail
  refine Tv.mono ?_;rintro e w3 ⟨rfl,hb⟩;have B3:=zH hb;clear hb Tv;obtain rfl:r= !r2:=HR.o;go_wp2_with fail
  go_ret
  exact ⟨rfl,B3.o⟩
 ·have hni:¬ (n:Int)<=4096:=by omega
  rw [aF hn,bU] at HR;obtain rfl:r=false:=HR.o;clear hn HR;go_enter func123,ntmps123
  go_wp2_with fail
  go_ret
  exact ⟨rfl,aj _ _⟩
theorem YJ{v:Ints}{l:List fI}{k:Nat}(hk:k<l.length):jd v (l.take (k+1))=gZ (jd v (l.take k)) (jr l k):=by
 rw [kX hk,bK hk,Ab]
theorem lead_no{m:gu}{k:Nat}(hk:k<m.fU.length)(h:oJ m.want (jr m.fU k)=true):yw m=false:=by
 have:m.fU.all (fun t=> !oJ m.want t)=false:=by
  rw [List.all_eq_false];exact ⟨jr m.fU k,by rw [kX hk];exact aU hk,by rw [h];simp⟩
 unfold yw;rw [this,bU]
theorem lead_yes{m:gu}(h:∀ k,k<m.fU.length ->oJ m.want (jr m.fU k)=false):yw m=(gX m.from_ m.fU&&decide (m.vec=jd m.from_ m.fU)):=by
 have:m.fU.all (fun t=> !oJ m.want t)=true:=by
  rw [aR];intro t ht;obtain ⟨k,hk,rfl⟩:=bF ht;have:=h k hk;rw [kX hk] at this;rw [this];rfl
 unfold yw;rw [this,aS]
theorem NV{W:World}{ev:Value}{d:gD}(he:U6 ev d){B:Nat}{na:Option Addr}{nn nc:Nat}{want:List iE}(hc:W.cell? ⟨B,6,none⟩=some (.slice na nn nc))(hn:kD W (.slice na nn nc) want)(hl:want.length<=1000000):
  Calls prog 198 (#[ev]++#[.pointer (some ⟨B,0,none⟩)]) W (fO W (!covers want d.key)):=by
 obtain ⟨dv,rfl⟩:=he;have hb:=zB W (.cells #[.int .i64 d.pos,.string (bt d.key),.string (bt d.field),.int .i64 d.kind,.string (bt d.elem),.int .i64 d.n,dv] 85);have K:=zH (ES (hn.below hb) hl d.key);have G:=zH hb;have e1:(W.alloc (.cells #[.int .i64 d.pos,.string (bt d.key),.string (bt d.field),.int .i64 d.kind,.string (bt d.elem),.int .i64 d.n,dv] 85)).cell? ⟨W.heap.size,1,none⟩=some (.string (bt d.key)):=by simp
 have e6:(W.alloc (.cells #[.int .i64 d.pos,.string (bt d.key),.string (bt d.field),.int .i64 d.kind,.string (bt d.elem),.int .i64 d.n,dv] 85)).cell? ⟨B,6,none⟩=some (.slice na nn nc):=(hb.cell (aG W _ hc)).trans hc;clear hc hn hb
 show Calls prog 198 #[.agg #[.int .i64 d.pos,.string (bt d.key),.string (bt d.field),.int .i64 d.kind,.string (bt d.elem),.int .i64 d.n,dv],.pointer (some ⟨B,0,none⟩)] W _
 generalize covers want d.key=r at*;go_enter func198,ntmps198
 go_upto_region 1 with fail
 generalize (W.alloc _)=w1 at*;go_wp2_with fail
 refine K.o.mono ?_;rintro e w2 ⟨rfl,hb⟩;have G2:=zH (G.o.trans (hb.mono G.o.size));clear hb K;go_wp2_with fail
 go_ret
 exact ⟨rfl,G2.o⟩
theorem fitW_of{t:fI}(h:lJ t):Dp t:=⟨by have:=h.deps;omega,by have:=h.effs;omega,fun e he=>by have:=h.drops e he;omega,h.ok⟩
theorem mleadsOn{v:Value}{m:gu}{w:World}(hv:pE w v m)(hf:∀ t∈m.fU,lJ t)(htl:m.fU.length<=1000000)(hvl:m.vec.length<=1000000)(hfl:m.from_.length<=1000000)(hnl:m.want.length<=1000000):
  Calls prog 124 #[v] w (fO w (yw m)):=by
 obtain ⟨va,vn,vc,fa,fn,fc,za,zn,zc,na,nn,nc,ia,im,ic,la,ln,lc,rfl,H⟩:=hv.slices;have hb:=zH (zB w (.cells #[.int .i64 m.kind,.int .i64 m.ticket,.bool m.whole,.slice va vn vc,.slice fa fn fc,.slice za zn zc,.slice na nn nc,.slice ia im ic,.slice la ln lc] 46));have X:=zH (mW H);have LN:=zH (fun k hk h=>lead_no (m:=m) (k:=k) hk h);have LY:=zH (fun h=>lead_yes (m:=m) h);have D6:Hid (m.fU.length=ln):=zH H.l.iY.1;have D6b:=zH H.l.iY.2;have HFT:Hid (∀ k,k<m.fU.length ->lJ (jr m.fU k)):=zH (fun k hk=>hf _ (by rw [kX hk];exact aU hk));have HFW:Hid (∀ t∈m.fU,Dp t):=zH (fun t ht=>fitW_of (hf t ht));clear hv H hf;generalize yw m=r at*;have eg:∀ args w,(callFunc 198 args).run prog w= .ok (.enter 198 args) w:=enters_of func198 (by kernel_rfl) rfl;have EG:=zH eg;clear eg;go_enter func124,ntmps124
 go_upto_region 1 with fail
 generalize (w.alloc _)=w0 at*;obtain ⟨c0,c1,c2,c3,c4,c5,c6,c7,c8⟩:=X.o.c;go_wp2_with fail
 clear c0 c1 c2 c3 c4 c5 c6 c7 c8;have B0:=zH (aj w0.heap.size w0)
 go_loopw [4,13] (fun z i wr=>∃ k:Nat,k<=ln/\i= .int .i64 k/\gQ wr z (jd m.from_ (m.fU.take k))/\Aside ((jd m.from_ (m.fU.take k)).length<=1000000/\(∀ j,j<k ->oJ m.want (jr m.fU j)=false)/\Below w0.heap.size w0 wr)) (fun _ i _=>ln-(intOf i).toNat)
 case atStart=>exact ⟨0,aL _,rfl,gW X.o.a.f,hfl,fun j hj=>absurd hj (by omega),B0.o⟩
 case round=>
  obtain ⟨k,hk,rfl,hs,hrel⟩:=hrel;obtain ⟨h1,h2,h3⟩:=Aside.out hrel;have C1:=zH h1;have C2:=zH h2;have GB:=zH h3;have SU:=zH hs;obtain ⟨ua,uc,rfl,-,-,-,-⟩:=hs.parts;clear hrel h1 h2 h3 hs;have XR:=zH (X.o.below GB.o)
  by_cases hlt:k<ln
  ·have hkl:k<m.fU.length:=by rw [D6.o];exact hlt
   have ET:=zH (YJ (v:=m.from_) hkl);have FT:=zH (HFT.o k hkl);have LNK:=zH (LN.o k hkl);have C2K:Hid (oJ m.want (jr m.fU k)=false ->∀ j,j<k+1 ->oJ m.want (jr m.fU j)=false):=zH (fun h j hj=>by
    by_cases e:j=k
    ·rw [e];exact h
    ·exact C2.o j (by omega))
   have NL:Hid ((gZ (jd m.from_ (m.fU.take k)) (jr m.fU k)).length<=1000000):=zH (by have:=tu (jd m.from_ (m.fU.take k)) (jr m.fU k);have:=C1.o;omega);obtain ⟨b,o,c,hv,-,-,-,hc⟩:=wh XR.o.a.l (by rw [D6.o];omega);rw [D6.o] at hv;simp only [aC] at hv
   obtain ⟨rfl,-,rfl⟩:=hv;obtain ⟨dv,ev,⟨t0,t1,t2,t3⟩,hdv,hev⟩:=hc k hkl;change wr.cell? ⟨b,o+k*4,none⟩=some (.int .i64 (jr m.fU k).node) at t0;change wr.cell? ⟨b,o+k*4+1,none⟩=some (.int .i64 (jr m.fU k).seq) at t1;change fM gL wr dv (jr m.fU k).deps at hdv;change fM jo wr ev (jr m.fU k).effs at hev;obtain ⟨da,dc,hq1,-,-,-,hd2⟩:=hdv.parts;obtain ⟨ea,ec,hq2,-,-,-,he2⟩:=hev.parts;subst hq1 hq2;obtain ⟨dn,hdn⟩:∃ n,(jr m.fU k).deps.length=n:=⟨_,rfl⟩;obtain ⟨en,hen⟩:∃ n,(jr m.fU k).effs.length=n:=⟨_,rfl⟩;rw [hdn] at hd2 t2;rw [hen] at he2 t3;have LEN:=zH hen;clear hc hdv hev hdn hen;have hba:=zB wr (.cells #[.int .i64 (jr m.fU k).node,.int .i64 (jr m.fU k).seq,.slice da dn dc,.slice ea en ec] 82);have XB:=zH (XR.o.below hba);have TB:=zH (kZ hd2 he2);have SB:=zH (SU.o.below hba);have GBB:Hid (Below w0.heap.size w0 (wr.alloc (.cells #[.int .i64 (jr m.fU k).node,.int .i64 (jr m.fU k).seq,.slice da dn dc,.slice ea en ec] 82))):=zH (GB.o.trans (hba.mono GB.o.size));clear hba hd2 he2;obtain ⟨c0,c1,c2,c3,c4,c5,c6,c7,c8⟩:=XR.o.c;have k1:(k:Int)<ln:=by omega
   go_upto_region 6 with fail
   clear t0 t1 t2 t3 c0 c1 c2 c3 c4 c5 c6 c7 c8;generalize wr.heap.size=tb at*;generalize (wr.alloc _)=wb at*;obtain ⟨y0,y1,y2,y3⟩:=TB.o.c;have KC:=zH (Jd (w:=wb) TB.o.e (by have:=FT.o.effs;omega) (fun e=> !covers m.want e.key) 198 #[.pointer (some ⟨w.heap.size,0,none⟩)] EG.o (fun W d tv _ hb ht=>NV ht (XB.o.below hb).c.2.2.2.2.2.2.1 (XB.o.below hb).a.n hnl));replace KC:Hid (Calls prog 199 #[.slice ea en ec,.func (.func 198) #[] #[.pointer (some ⟨w.heap.size,0,none⟩)]] wb (fO wb (oJ m.want (jr m.fU k)))):=KC
   cases hq:oJ m.want (jr m.fU k) with
   |true=>
    rw [hq] at KC;obtain rfl:r=false:=LNK.o hq;clear hq;go_wp2_with fail
    refine KC.o.mono ?_;rintro e w2 ⟨rfl,hb2⟩;have G2:=zH (hb.o.trans ((GBB.o.trans (hb2.mono GBB.o.size)).mono hb.o.size));clear hb2 KC y0 y1 y2 y3;go_wp2_with fail
    go_ret
    exact ⟨rfl,G2.o⟩
   |false=>
    rw [hq] at KC;have HX:=zH (C2K.o hq);clear hq;go_wp2_with fail
    refine KC.o.mono ?_;rintro e w2 ⟨rfl,hb2⟩;have G2:=zH (GBB.o.trans (hb2.mono GBB.o.size));have TB2:=zH (TB.o.below hb2);have KN:=zH (xw (SB.o.below hb2) TB2.o.is C1.o);obtain ⟨nx,hnx⟩:∃ x,gZ (jd m.from_ (m.fU.take k)) (jr m.fU k)=x:=⟨_,rfl⟩;rw [hnx] at KN NL;have EX:=zH (ET.o.trans hnx);clear hnx;clear hb2 KC y0 y1 y2 y3;obtain ⟨y0,y1,y2,y3⟩:=TB2.o.c;go_wp2_with fail
    refine KN.o.mono ?_;rintro e w3 ⟨v3,rfl,ho,hb3⟩;have G3:=zH (G2.o.trans (hb3.mono G2.o.size));have S3:=zH ho.seq;obtain ⟨a3,c3,rfl,-,-,-,-⟩:=ho.parts;clear hb3 KN y0 y1 y2 y3 ho;go_wp2_with fail
    go_roundw
    case rel=>exact ⟨k+1,by omega,by go_num,by rw [EX.o];exact S3.o,by rw [EX.o];exact NL.o,HX.o,G3.o⟩
    case measure=>simp [intOf]<;>omega
  ·obtain rfl:k=ln:=by omega
   have hall:m.fU.take k=m.fU:=by rw [<-D6.o];exact bq
   rw [hall] at C1 SU;have HR:=zH (LY.o (fun j hj=>C2.o j (by rw [<-D6.o];exact hj)));have KC:=zH (Ij (gW XR.o.a.f) XR.o.a.l htl HFW.o hfl);have KE:=zH (fun W (hb:Below wr.heap.size wr W)=>rQ (gW (XR.o.a.v.below hb)) (SU.o.below hb));have HC:=zH (fun W (hb:Below wr.heap.size wr W)=>(XR.o.below hb).c);obtain ⟨c0,c1,c2,c3,c4,c5,c6,c7,c8⟩:=XR.o.c;have GR:=zH (hb.o.trans (GB.o.mono hb.o.size));have EV:Hid (m.vec.length=vn):=zH XR.o.a.v.iY.1;have EU:=zH (by rw [hall]:(jd m.from_ (m.fU.take k)).length=(jd m.from_ m.fU).length);rw [hall];clear hall;generalize gX m.from_ m.fU=r1 at*;generalize decide (m.vec=jd m.from_ m.fU)=r2 at*
   cases r1 with
   |false=>
    obtain rfl:r=false:=HR.o;go_wp2_with fail
    refine KC.o.mono ?_;rintro e w2 ⟨rfl,hb2⟩;have G2:=zH (GR.o.trans (hb2.mono GR.o.size));clear hb2 KC c0 c1 c2 c3 c4 c5 c6 c7 c8;go_wp2_with fail
    go_ret
    exact ⟨rfl,G2.o⟩
   |true=>
    obtain rfl:r=r2:=HR.o;go_wp2_with fail
    refine KC.o.mono ?_;rintro e w2 ⟨rfl,hb2⟩;have G2:=zH (GR.o.trans (hb2.mono GR.o.size));have KE2:=KE.o w2 hb2;clear c0 c1 c2 c3 c4 c5 c6 c7 c8;obtain ⟨c0,c1,c2,c3,c4,c5,c6,c7,c8⟩:=HC.o w2 hb2;clear hb2 KC;go_wp2_with fail
    refine KE2.mono ?_;rintro e w3 ⟨rfl,q,rfl⟩;have G3:=zH (below_drewN G2.o q);clear KE2;go_wp2_with fail
    go_ret
    exact ⟨rfl,G3.o⟩
end Go.Proofs.YtfgcodcablpdcaaGreat