/- What the program's own isEmpty, saysNoMore, isVec, areTxns and leadsOn of messages leave. (Written by gen-msfrmp.py.) -/
import Derived.Test.YtfapkepfngddlaaGreatMsPutR
import Derived.Test.YtfapkepfngddlaaGreatMsCov
import Derived.Test.YtfapkepfngddlaaGreatMsMsg
import Derived.Test.YtfapkepfngddlaaGreatRefTxOC
import Derived.Test.YtfapkepfngddlaaGreatOrCon
import Derived.Test.YtfapkepfngddlaaGreatMsFm
import Derived.Test.YtfapkepfngddlaaGreatPaLists
import Derived.Deep.Cut
set_option maxRecDepth 100000
set_option maxHeartbeats 64000000
namespace Go.Proofs.YtfapkepfngddlaaGreat
open Go.RowKit Plain
set_option linter.unusedVariables false
def emE (ticket : Int) (whole : Bool) (vn fn zn nn im ln : Nat) : Bool := decide (ticket = 0) && (!whole && (decide (vn = 0) && (decide (fn = 0) && (decide (zn = 0) && (decide (nn = 0) && (decide (im = 0) && decide (ln = 0)))))))
theorem len_empty {α : Type} (l : List α) : l.isEmpty = decide (l.length = 0) := by cases l <;> simp
theorem emE_is (m : PMsg) : emptyB m = emE m.ticket m.whole m.vec.length m.from_.length m.zone.length m.want.length m.items.length m.txns.length := by
 unfold emptyB emE;simp only [len_empty]
theorem misEmpty {kind ticket : Int} {whole : Bool} {va fa za na ia la : Option Addr} {vn vc fn fc zn zc nn nc im ic ln lc : Nat} {w : World} :
  Calls Tryz.prog 63 #[.agg #[.int .i64 kind, .int .i64 ticket, .bool whole, .slice va vn vc, .slice fa fn fc, .slice za zn zc, .slice na nn nc, .slice ia im ic, .slice la ln lc]] w (GivesB w (emE ticket whole vn fn zn nn im ln)) := by
 have hb := zH (zB w (.cells #[.int .i64 kind, .int .i64 ticket, .bool whole, .slice va vn vc, .slice fa fn fc, .slice za zn zc, .slice na nn nc, .slice ia im ic, .slice la ln lc] 28));obtain ⟨c0, c1, c2, c3, c4, c5, c6, c7, c8⟩ := nine_cells (heap_alloc_new w (.cells #[.int .i64 kind, .int .i64 ticket, .bool whole, .slice va vn vc, .slice fa fn fc, .slice za zn zc, .slice na nn nc, .slice ia im ic, .slice la ln lc] 28));have HR : Hid (∀ r, emE ticket whole vn fn zn nn im ln = r → GivesB w (emE ticket whole vn fn zn nn im ln) = GivesB w r) := zH (fun r h => by rw [h])
 by_cases k0 : ticket = 0
 rotate_left
 ·rw [HR.out false (by unfold emE; simp [k0])]
  have e0 : (ticket == 0) = false := by simp [k0]
  clear HR k0;go_enter Tryz.func63, Tryz.ntmps63
  go_wp2_with fail
  go_ret
  exact ⟨rfl, hb.out⟩
 by_cases k1 : whole = false
 rotate_left
 ·rw [HR.out false (by unfold emE; simp [k0, k1])]
  have e0 : (ticket == 0) = true := by simp [k0]
  obtain rfl : whole = true := by cases whole <;> simp_all
  clear HR k0 k1;go_enter Tryz.func63, Tryz.ntmps63
  go_wp2_with fail
  go_ret
  exact ⟨rfl, hb.out⟩
 subst k1;have k1 : true = true := rfl
 by_cases k2 : vn = 0
 rotate_left
 ·rw [HR.out false (by unfold emE; simp [k0, k2])]
  have e0 : (ticket == 0) = true := by simp [k0]
  have e2 : (((vn : Nat) : Int) == 0) = false := by simp [k2]
  clear HR k0 k1 k2;go_enter Tryz.func63, Tryz.ntmps63
  go_wp2_with fail
  go_ret
  exact ⟨rfl, hb.out⟩
 by_cases k3 : fn = 0
 rotate_left
 ·rw [HR.out false (by unfold emE; simp [k0, k2, k3])]
  have e0 : (ticket == 0) = true := by simp [k0]
  have e2 : (((vn : Nat) : Int) == 0) = true := by simp [k2]
  have e3 : (((fn : Nat) : Int) == 0) = false := by simp [k3]
  clear HR k0 k1 k2 k3;go_enter Tryz.func63, Tryz.ntmps63
  go_wp2_with fail
  go_ret
  exact ⟨rfl, hb.out⟩
 by_cases k4 : zn = 0
 rotate_left
 ·rw [HR.out false (by unfold emE; simp [k0, k2, k3, k4])]
  have e0 : (ticket == 0) = true := by simp [k0]
  have e2 : (((vn : Nat) : Int) == 0) = true := by simp [k2]
  have e3 : (((fn : Nat) : Int) == 0) = true := by simp [k3]
  have e4 : (((zn : Nat) : Int) == 0) = false := by simp [k4]
  clear HR k0 k1 k2 k3 k4;go_enter Tryz.func63, Tryz.ntmps63
  go_wp2_with fail
  go_ret
  exact ⟨rfl, hb.out⟩
 by_cases k5 : nn = 0
 rotate_left
 ·rw [HR.out false (by unfold emE; simp [k0, k2, k3, k4, k5])]
  have e0 : (ticket == 0) = true := by simp [k0]
  have e2 : (((vn : Nat) : Int) == 0) = true := by simp [k2]
  have e3 : (((fn : Nat) : Int) == 0) = true := by simp [k3]
  have e4 : (((zn : Nat) : Int) == 0) = true := by simp [k4]
  have e5 : (((nn : Nat) : Int) == 0) = false := by simp [k5]
  clear HR k0 k1 k2 k3 k4 k5;go_enter Tryz.func63, Tryz.ntmps63
  go_wp2_with fail
  go_ret
  exact ⟨rfl, hb.out⟩
 by_cases k6 : im = 0
 rotate_left
 ·rw [HR.out false (by unfold emE; simp [k0, k2, k3, k4, k5, k6])]
  have e0 : (ticket == 0) = true := by simp [k0]
  have e2 : (((vn : Nat) : Int) == 0) = true := by simp [k2]
  have e3 : (((fn : Nat) : Int) == 0) = true := by simp [k3]
  have e4 : (((zn : Nat) : Int) == 0) = true := by simp [k4]
  have e5 : (((nn : Nat) : Int) == 0) = true := by simp [k5]
  have e6 : (((im : Nat) : Int) == 0) = false := by simp [k6]
  clear HR k0 k1 k2 k3 k4 k5 k6;go_enter Tryz.func63, Tryz.ntmps63
  go_wp2_with fail
  go_ret
  exact ⟨rfl, hb.out⟩
 by_cases k7 : ln = 0
 rotate_left
 ·rw [HR.out false (by unfold emE; simp [k0, k2, k3, k4, k5, k6, k7])]
  have e0 : (ticket == 0) = true := by simp [k0]
  have e2 : (((vn : Nat) : Int) == 0) = true := by simp [k2]
  have e3 : (((fn : Nat) : Int) == 0) = true := by simp [k3]
  have e4 : (((zn : Nat) : Int) == 0) = true := by simp [k4]
  have e5 : (((nn : Nat) : Int) == 0) = true := by simp [k5]
  have e6 : (((im : Nat) : Int) == 0) = true := by simp [k6]
  have e7 : (((ln : Nat) : Int) == 0) = false := by simp [k7]
  clear HR k0 k1 k2 k3 k4 k5 k6 k7;go_enter Tryz.func63, Tryz.ntmps63
  go_wp2_with fail
  go_ret
  exact ⟨rfl, hb.out⟩
 rw [HR.out true (by unfold emE; simp [k0, k2, k3, k4, k5, k6, k7])];have e0 : (ticket == 0) = true := by simp [k0]
 have e2 : (((vn : Nat) : Int) == 0) = true := by simp [k2]
 have e3 : (((fn : Nat) : Int) == 0) = true := by simp [k3]
 have e4 : (((zn : Nat) : Int) == 0) = true := by simp [k4]
 have e5 : (((nn : Nat) : Int) == 0) = true := by simp [k5]
 have e6 : (((im : Nat) : Int) == 0) = true := by simp [k6]
 have e7 : (((ln : Nat) : Int) == 0) = true := by simp [k7]
 clear HR k0 k1 k2 k3 k4 k5 k6 k7;go_enter Tryz.func63, Tryz.ntmps63
 go_wp2_with fail
 go_ret
 exact ⟨rfl, hb.out⟩
theorem uses_len (m : PMsg) {vn fn zn nn im ln : Nat} (d1 : m.vec.length = vn) (d2 : m.from_.length = fn) (d3 : m.zone.length = zn) (d4 : m.want.length = nn) (d5 : m.items.length = im) (d6 : m.txns.length = ln) :
  (m.kind = 1 ∨ m.kind = 6 → usesB m = emE m.ticket m.whole vn fn zn nn im 0) ∧ (m.kind = 5 → usesB m = emE m.ticket m.whole 0 fn zn nn im ln) ∧ (m.kind = 2 → usesB m = emE 0 false 0 fn 0 0 im ln) ∧ (m.kind = 3 → usesB m = emE 0 m.whole 0 fn zn 0 0 ln) ∧ (m.kind = 4 → usesB m = emE 0 m.whole 0 0 zn 0 im 0) := by
 subst d1 d2 d3 d4 d5 d6;refine ⟨fun h => ?_, fun h => ?_, fun h => ?_, fun h => ?_, fun h => ?_⟩
 ·rw [uses_is (by omega), emE_is]; unfold clearM; rw [if_pos h]; rfl
 ·rw [uses_is (by omega), emE_is]; unfold clearM; rw [if_neg (by omega), if_pos h]; rfl
 ·rw [uses_is (by omega), emE_is]; unfold clearM; rw [if_neg (by omega), if_neg (by omega), if_pos h]; rfl
 ·rw [uses_is (by omega), emE_is]; unfold clearM; rw [if_neg (by omega), if_neg (by omega), if_neg (by omega), if_pos h]; rfl
 ·rw [uses_is (by omega), emE_is]; unfold clearM; rw [if_neg (by omega), if_neg (by omega), if_neg (by omega), if_neg (by omega)]; rfl
theorem msaysNo {v : Value} {m : PMsg} {w : World} (hv : IsMsg w v m) : Calls Tryz.prog 25 #[v] w (GivesB w (usesB m)) := by
 obtain ⟨va, vn, vc, fa, fn, fc, za, zn, zc, na, nn, nc, ia, im, ic, la, ln, lc, rfl, H⟩ := hv.slices;have hb := zH (zB w (.cells #[.int .i64 m.kind, .int .i64 m.ticket, .bool m.whole, .slice va vn vc, .slice fa fn fc, .slice za zn zc, .slice na nn nc, .slice ia im ic, .slice la ln lc] 28));have U := zH (uses_len m H.v.dims.1 H.f.dims.1 H.z.dims.1 H.n.dims.1 H.i.dims.1 H.l.dims.1);have hz := heap_alloc_new w (.cells #[.int .i64 m.kind, .int .i64 m.ticket, .bool m.whole, .slice va vn vc, .slice fa fn fc, .slice za zn zc, .slice na nn nc, .slice ia im ic, .slice la ln lc] 28);have UN : Hid (¬ (1 ≤ m.kind ∧ m.kind ≤ 6) → usesB m = false) := zH uses_not;clear hv H;generalize usesB m = r at *;go_enter Tryz.func25, Tryz.ntmps25
 go_upto_region 1 with fail
 generalize (w.alloc (.cells #[.int .i64 m.kind, .int .i64 m.ticket, .bool m.whole, .slice va vn vc, .slice fa fn fc, .slice za zn zc, .slice na nn nc, .slice ia im ic, .slice la ln lc] 28)) = w0 at *;obtain ⟨c0, c1, c2, c3, c4, c5, c6, c7, c8⟩ := nine_cells hz;have FR := nine_free hz;have HZ := zH hz;obtain ⟨f1, f2, f3, f4, f5, f6, f7, f8⟩ : w0.frozen? ⟨w.heap.size, 1, none⟩ = false ∧ w0.frozen? ⟨w.heap.size, 2, none⟩ = false ∧ w0.frozen? ⟨w.heap.size, 3, none⟩ = false ∧ w0.frozen? ⟨w.heap.size, 4, none⟩ = false ∧ w0.frozen? ⟨w.heap.size, 5, none⟩ = false ∧ w0.frozen? ⟨w.heap.size, 6, none⟩ = false ∧ w0.frozen? ⟨w.heap.size, 7, none⟩ = false ∧ w0.frozen? ⟨w.heap.size, 8, none⟩ = false := ⟨FR 1 (by omega), FR 2 (by omega), FR 3 (by omega), FR 4 (by omega), FR 5 (by omega), FR 6 (by omega), FR 7 (by omega), FR 8 (by omega)⟩;clear hz FR
 by_cases k1 : m.kind = 1
 ·have e1 : (m.kind == 1) = true := by simp [k1]
  have HE := zH (U.out.1 (.inl k1));go_upto_region 14 with fail
  have BZ : Hid ((w0.setCell ⟨w.heap.size, 8, none⟩ (.slice none 0 0)).heap[w.heap.size]? = some (.cells #[.int .i64 m.kind, .int .i64 m.ticket, .bool m.whole, .slice va vn vc, .slice fa fn fc, .slice za zn zc, .slice na nn nc, .slice ia im ic, .slice none 0 0] 28 (0, 0))) := zH (by rw [(heap_setCell_same _ w.heap.size 8 _ _ _ HZ.out)]; rfl);have GZ : Hid (Below w.heap.size w (w0.setCell ⟨w.heap.size, 8, none⟩ (.slice none 0 0))) := zH (hb.out.setCell (Nat.le_refl _) _);generalize (w0.setCell ⟨w.heap.size, 8, none⟩ (.slice none 0 0)) = w1 at *;clear c0 c1 c2 c3 c4 c5 c6 c7 c8 f1 f2 f3 f4 f5 f6 f7 f8;obtain ⟨c0, c1, c2, c3, c4, c5, c6, c7, c8⟩ := nine_cells BZ.out;go_wp2_with fail
  refine misEmpty.mono ?_;rintro e w2 ⟨rfl, hb2⟩;have G2 := zH (GZ.out.trans (hb2.mono GZ.out.size));clear hb2;go_wp2_with fail
  go_ret
  exact ⟨by rw [HE.out]; rfl, G2.out⟩
 by_cases k6 : m.kind = 6
 ·have e6 : (m.kind == 6) = true := by simp [k6]
  have e1 : (m.kind == 1) = false := beq_false_of_ne k1;have HE := zH (U.out.1 (.inr k6));go_upto_region 14 with fail
  have BZ : Hid ((w0.setCell ⟨w.heap.size, 8, none⟩ (.slice none 0 0)).heap[w.heap.size]? = some (.cells #[.int .i64 m.kind, .int .i64 m.ticket, .bool m.whole, .slice va vn vc, .slice fa fn fc, .slice za zn zc, .slice na nn nc, .slice ia im ic, .slice none 0 0] 28 (0, 0))) := zH (by rw [(heap_setCell_same _ w.heap.size 8 _ _ _ HZ.out)]; rfl);have GZ : Hid (Below w.heap.size w (w0.setCell ⟨w.heap.size, 8, none⟩ (.slice none 0 0))) := zH (hb.out.setCell (Nat.le_refl _) _);generalize (w0.setCell ⟨w.heap.size, 8, none⟩ (.slice none 0 0)) = w1 at *;clear c0 c1 c2 c3 c4 c5 c6 c7 c8 f1 f2 f3 f4 f5 f6 f7 f8;obtain ⟨c0, c1, c2, c3, c4, c5, c6, c7, c8⟩ := nine_cells BZ.out;go_wp2_with fail
  refine misEmpty.mono ?_;rintro e w2 ⟨rfl, hb2⟩;have G2 := zH (GZ.out.trans (hb2.mono GZ.out.size));clear hb2;go_wp2_with fail
  go_ret
  exact ⟨by rw [HE.out]; rfl, G2.out⟩
 by_cases k5 : m.kind = 5
 ·have e5 : (m.kind == 5) = true := by simp [k5]
  have e1 : (m.kind == 1) = false := beq_false_of_ne k1;have e6 : (m.kind == 6) = false := beq_false_of_ne k6;have HE := zH (U.out.2.1 k5);go_upto_region 14 with fail
  have BZ : Hid ((w0.setCell ⟨w.heap.size, 3, none⟩ (.slice none 0 0)).heap[w.heap.size]? = some (.cells #[.int .i64 m.kind, .int .i64 m.ticket, .bool m.whole, .slice none 0 0, .slice fa fn fc, .slice za zn zc, .slice na nn nc, .slice ia im ic, .slice la ln lc] 28 (0, 0))) := zH (by rw [(heap_setCell_same _ w.heap.size 3 _ _ _ HZ.out)]; rfl);have GZ : Hid (Below w.heap.size w (w0.setCell ⟨w.heap.size, 3, none⟩ (.slice none 0 0))) := zH (hb.out.setCell (Nat.le_refl _) _);generalize (w0.setCell ⟨w.heap.size, 3, none⟩ (.slice none 0 0)) = w1 at *;clear c0 c1 c2 c3 c4 c5 c6 c7 c8 f1 f2 f3 f4 f5 f6 f7 f8;obtain ⟨c0, c1, c2, c3, c4, c5, c6, c7, c8⟩ := nine_cells BZ.out;go_wp2_with fail
  refine misEmpty.mono ?_;rintro e w2 ⟨rfl, hb2⟩;have G2 := zH (GZ.out.trans (hb2.mono GZ.out.size));clear hb2;go_wp2_with fail
  go_ret
  exact ⟨by rw [HE.out]; rfl, G2.out⟩
 by_cases k2 : m.kind = 2
 ·have e2 : (m.kind == 2) = true := by simp [k2]
  have e1 : (m.kind == 1) = false := beq_false_of_ne k1;have e6 : (m.kind == 6) = false := beq_false_of_ne k6;have e5 : (m.kind == 5) = false := beq_false_of_ne k5;have HE := zH (U.out.2.2.1 k2);go_upto_region 14 with fail
  have BZ : Hid ((((((w0.setCell ⟨w.heap.size, 1, none⟩ (.int .i64 0)).setCell ⟨w.heap.size, 2, none⟩ (.bool false)).setCell ⟨w.heap.size, 3, none⟩ (.slice none 0 0)).setCell ⟨w.heap.size, 5, none⟩ (.slice none 0 0)).setCell ⟨w.heap.size, 6, none⟩ (.slice none 0 0)).heap[w.heap.size]? = some (.cells #[.int .i64 m.kind, .int .i64 0, .bool false, .slice none 0 0, .slice fa fn fc, .slice none 0 0, .slice none 0 0, .slice ia im ic, .slice la ln lc] 28 (0, 0))) := zH (by rw [(heap_setCell_same _ w.heap.size 6 _ _ _ (heap_setCell_same _ w.heap.size 5 _ _ _ (heap_setCell_same _ w.heap.size 3 _ _ _ (heap_setCell_same _ w.heap.size 2 _ _ _ (heap_setCell_same _ w.heap.size 1 _ _ _ HZ.out)))))]; rfl);have GZ : Hid (Below w.heap.size w (((((w0.setCell ⟨w.heap.size, 1, none⟩ (.int .i64 0)).setCell ⟨w.heap.size, 2, none⟩ (.bool false)).setCell ⟨w.heap.size, 3, none⟩ (.slice none 0 0)).setCell ⟨w.heap.size, 5, none⟩ (.slice none 0 0)).setCell ⟨w.heap.size, 6, none⟩ (.slice none 0 0))) := zH (((((hb.out.setCell (Nat.le_refl _) _).setCell (Nat.le_refl _) _).setCell (Nat.le_refl _) _).setCell (Nat.le_refl _) _).setCell (Nat.le_refl _) _);generalize (((((w0.setCell ⟨w.heap.size, 1, none⟩ (.int .i64 0)).setCell ⟨w.heap.size, 2, none⟩ (.bool false)).setCell ⟨w.heap.size, 3, none⟩ (.slice none 0 0)).setCell ⟨w.heap.size, 5, none⟩ (.slice none 0 0)).setCell ⟨w.heap.size, 6, none⟩ (.slice none 0 0)) = w1 at *;clear c0 c1 c2 c3 c4 c5 c6 c7 c8 f1 f2 f3 f4 f5 f6 f7 f8;obtain ⟨c0, c1, c2, c3, c4, c5, c6, c7, c8⟩ := nine_cells BZ.out;go_wp2_with fail
  refine misEmpty.mono ?_;rintro e w2 ⟨rfl, hb2⟩;have G2 := zH (GZ.out.trans (hb2.mono GZ.out.size));clear hb2;go_wp2_with fail
  go_ret
  exact ⟨by rw [HE.out]; rfl, G2.out⟩
 by_cases k3 : m.kind = 3
 ·have e3 : (m.kind == 3) = true := by simp [k3]
  have e1 : (m.kind == 1) = false := beq_false_of_ne k1;have e6 : (m.kind == 6) = false := beq_false_of_ne k6;have e5 : (m.kind == 5) = false := beq_false_of_ne k5;have e2 : (m.kind == 2) = false := beq_false_of_ne k2;have HE := zH (U.out.2.2.2.1 k3);go_upto_region 14 with fail
  have BZ : Hid (((((w0.setCell ⟨w.heap.size, 1, none⟩ (.int .i64 0)).setCell ⟨w.heap.size, 3, none⟩ (.slice none 0 0)).setCell ⟨w.heap.size, 6, none⟩ (.slice none 0 0)).setCell ⟨w.heap.size, 7, none⟩ (.slice none 0 0)).heap[w.heap.size]? = some (.cells #[.int .i64 m.kind, .int .i64 0, .bool m.whole, .slice none 0 0, .slice fa fn fc, .slice za zn zc, .slice none 0 0, .slice none 0 0, .slice la ln lc] 28 (0, 0))) := zH (by rw [(heap_setCell_same _ w.heap.size 7 _ _ _ (heap_setCell_same _ w.heap.size 6 _ _ _ (heap_setCell_same _ w.heap.size 3 _ _ _ (heap_setCell_same _ w.heap.size 1 _ _ _ HZ.out))))]; rfl);have GZ : Hid (Below w.heap.size w ((((w0.setCell ⟨w.heap.size, 1, none⟩ (.int .i64 0)).setCell ⟨w.heap.size, 3, none⟩ (.slice none 0 0)).setCell ⟨w.heap.size, 6, none⟩ (.slice none 0 0)).setCell ⟨w.heap.size, 7, none⟩ (.slice none 0 0))) := zH ((((hb.out.setCell (Nat.le_refl _) _).setCell (Nat.le_refl _) _).setCell (Nat.le_refl _) _).setCell (Nat.le_refl _) _);generalize ((((w0.setCell ⟨w.heap.size, 1, none⟩ (.int .i64 0)).setCell ⟨w.heap.size, 3, none⟩ (.slice none 0 0)).setCell ⟨w.heap.size, 6, none⟩ (.slice none 0 0)).setCell ⟨w.heap.size, 7, none⟩ (.slice none 0 0)) = w1 at *;clear c0 c1 c2 c3 c4 c5 c6 c7 c8 f1 f2 f3 f4 f5 f6 f7 f8;obtain ⟨c0, c1, c2, c3, c4, c5, c6, c7, c8⟩ := nine_cells BZ.out;go_wp2_with fail
  refine misEmpty.mono ?_;rintro e w2 ⟨rfl, hb2⟩;have G2 := zH (GZ.out.trans (hb2.mono GZ.out.size));clear hb2;go_wp2_with fail
  go_ret
  exact ⟨by rw [HE.out]; rfl, G2.out⟩
 by_cases k4 : m.kind = 4
 ·have e4 : (m.kind == 4) = true := by simp [k4]
  have e1 : (m.kind == 1) = false := beq_false_of_ne k1;have e6 : (m.kind == 6) = false := beq_false_of_ne k6;have e5 : (m.kind == 5) = false := beq_false_of_ne k5;have e2 : (m.kind == 2) = false := beq_false_of_ne k2;have e3 : (m.kind == 3) = false := beq_false_of_ne k3;have HE := zH (U.out.2.2.2.2 k4);go_upto_region 14 with fail
  have BZ : Hid ((((((w0.setCell ⟨w.heap.size, 1, none⟩ (.int .i64 0)).setCell ⟨w.heap.size, 4, none⟩ (.slice none 0 0)).setCell ⟨w.heap.size, 3, none⟩ (.slice none 0 0)).setCell ⟨w.heap.size, 6, none⟩ (.slice none 0 0)).setCell ⟨w.heap.size, 8, none⟩ (.slice none 0 0)).heap[w.heap.size]? = some (.cells #[.int .i64 m.kind, .int .i64 0, .bool m.whole, .slice none 0 0, .slice none 0 0, .slice za zn zc, .slice none 0 0, .slice ia im ic, .slice none 0 0] 28 (0, 0))) := zH (by rw [(heap_setCell_same _ w.heap.size 8 _ _ _ (heap_setCell_same _ w.heap.size 6 _ _ _ (heap_setCell_same _ w.heap.size 3 _ _ _ (heap_setCell_same _ w.heap.size 4 _ _ _ (heap_setCell_same _ w.heap.size 1 _ _ _ HZ.out)))))]; rfl);have GZ : Hid (Below w.heap.size w (((((w0.setCell ⟨w.heap.size, 1, none⟩ (.int .i64 0)).setCell ⟨w.heap.size, 4, none⟩ (.slice none 0 0)).setCell ⟨w.heap.size, 3, none⟩ (.slice none 0 0)).setCell ⟨w.heap.size, 6, none⟩ (.slice none 0 0)).setCell ⟨w.heap.size, 8, none⟩ (.slice none 0 0))) := zH (((((hb.out.setCell (Nat.le_refl _) _).setCell (Nat.le_refl _) _).setCell (Nat.le_refl _) _).setCell (Nat.le_refl _) _).setCell (Nat.le_refl _) _);generalize (((((w0.setCell ⟨w.heap.size, 1, none⟩ (.int .i64 0)).setCell ⟨w.heap.size, 4, none⟩ (.slice none 0 0)).setCell ⟨w.heap.size, 3, none⟩ (.slice none 0 0)).setCell ⟨w.heap.size, 6, none⟩ (.slice none 0 0)).setCell ⟨w.heap.size, 8, none⟩ (.slice none 0 0)) = w1 at *;clear c0 c1 c2 c3 c4 c5 c6 c7 c8 f1 f2 f3 f4 f5 f6 f7 f8;obtain ⟨c0, c1, c2, c3, c4, c5, c6, c7, c8⟩ := nine_cells BZ.out;go_wp2_with fail
  refine misEmpty.mono ?_;rintro e w2 ⟨rfl, hb2⟩;have G2 := zH (GZ.out.trans (hb2.mono GZ.out.size));clear hb2;go_wp2_with fail
  go_ret
  exact ⟨by rw [HE.out]; rfl, G2.out⟩
 obtain rfl : r = false := UN.out (by omega);have e1 : (m.kind == 1) = false := beq_false_of_ne k1;have e6 : (m.kind == 6) = false := beq_false_of_ne k6;have e5 : (m.kind == 5) = false := beq_false_of_ne k5;have e2 : (m.kind == 2) = false := beq_false_of_ne k2;have e3 : (m.kind == 3) = false := beq_false_of_ne k3;have e4 : (m.kind == 4) = false := beq_false_of_ne k4;go_wp2_with fail
 go_ret
 exact ⟨rfl, hb.out⟩
theorem mgivesGreat (W : World) (d : Int) : Calls Tryz.prog 64 (#[.int .i64 d] ++ #[]) W (GivesB W (decide (d > 1073741824))) := by
 show Calls Tryz.prog 64 #[.int .i64 d] W _
 go_enter Tryz.func64, Tryz.ntmps64
 go_wp2_with fail
 go_ret
 exact ⟨rfl, Below.refl _ _⟩
theorem misVec0 {v : Value} {xs : List Int} {w : World} (hv : SeqI w v xs) (hl : xs.length ≤ 1000000) : Calls Tryz.prog 26 #[v] w (GivesB w (isVecB xs)) := by
 obtain ⟨a, cap, rfl, g1, g2, g0, h⟩ := hv.parts;have KT := zH (vc_trim_any h hl);have KE : Hid (∀ (W : World) (u : Value), Below w.heap.size w W → SeqI W u (trim xs) → Calls Tryz.prog 65 #[.slice a xs.length cap, u] W fun e w' => e = .returned (.bool (decide (xs = trim xs))) ∧ ∃ n, w' = W.drewN n) := zH (fun W u hb hs => tsequal_any (h.below hb) hs);have KC : Hid (∀ W, Below w.heap.size w W → Calls Tryz.prog 67 #[.slice a xs.length cap, .func (.func 64) #[] #[]] W (GivesB W (xs.any fun n => decide (n > 1073741824)))) := zH (fun W hb => tscontains_any (h.below hb) hl _ _ #[] (enters_of Tryz.func64 (by kernel_rfl) rfl) (fun W' d _ => mgivesGreat W' d));have HR : Hid (isVecB xs = (decide (xs.length ≤ 8) && (decide (xs = trim xs) && !xs.any (fun n => decide (n > 1073741824))))) := zH rfl;clear hv h g0;generalize isVecB xs = r at *;generalize decide (xs = trim xs) = r1 at *;generalize (xs.any fun n => decide (n > 1073741824)) = r2 at *;generalize trim xs = ts at *;generalize xs.length = n at *
 by_cases hn : n ≤ 8
 ·have hni : (n : Int) ≤ 8 := by omega
  rw [decide_eq_true hn, Bool.true_and] at HR;clear hn;go_enter Tryz.func26, Tryz.ntmps26
  go_wp2_with fail
  refine KT.out.mono ?_;rintro e w1 ⟨v1, rfl, ho, hb⟩;have B1 := zH hb;have KE1 := KE.out w1 v1 hb ho.seq;obtain ⟨a1, c1, rfl, -, -, -, -⟩ := ho.parts;clear ho hb KT KE;generalize ts.length = tn at *;go_wp2_with fail
  refine KE1.mono ?_;rintro e w2 ⟨rfl, q, rfl⟩;have B2 := zH (below_drewN B1.out q);clear KE1;generalize w1.drewN q = w2 at *
  cases r1 with
  | false =>
   obtain rfl : r = false := HR.out;go_wp2_with fail
   go_ret
   exact ⟨rfl, B2.out⟩
  | true =>
   rw [Bool.true_and] at HR;have KC2 := KC.out w2 B2.out;clear KC;go_wp2_with fail
   refine KC2.mono ?_;rintro e w3 ⟨rfl, hb⟩;have B3 := zH (B2.out.trans (hb.mono B2.out.size));clear hb KC2;obtain rfl : r = !r2 := HR.out;go_wp2_with fail
   go_ret
   exact ⟨rfl, B3.out⟩
 ·have hni : ¬ (n : Int) ≤ 8 := by omega
  rw [decide_eq_false hn, Bool.false_and] at HR;obtain rfl : r = false := HR.out;clear hn HR;go_enter Tryz.func26, Tryz.ntmps26
  go_wp2_with fail
  go_ret
  exact ⟨rfl, Below.refl _ _⟩
theorem misVec {v : Value} {xs : List Int} {w : World} (hv : SeqI w v xs) (hl : xs.length ≤ 1000000) : Calls Tryz.prog 26 #[v] w (GivesB w (mayV xs)) := by
 rw [← isVec_is];exact misVec0 hv hl
theorem mgivesForm {W : World} {tv : Value} {d : PTxn} (ht : IsTxn W tv d) (hf : FitTx d) : Calls Tryz.prog 74 (#[tv] ++ #[]) W (GivesB W (!tformedB d)) := by
 show Calls Tryz.prog 74 #[tv] W _
 obtain ⟨da, dn, dc, ea, en, ec, rfl, k1, k2⟩ := ht.slices;have hb := zB W (.cells #[.int .i64 d.node, .int .i64 d.seq, .slice da dn dc, .slice ea en ec] 51);have K := zH (txformedP (ht.below hb) hf _ rfl);have G := zH hb;obtain ⟨c0, c1, c2, c3⟩ : (W.alloc (.cells #[.int .i64 d.node, .int .i64 d.seq, .slice da dn dc, .slice ea en ec] 51)).cell? ⟨W.heap.size, 0, none⟩ = some (.int .i64 d.node) ∧ (W.alloc (.cells #[.int .i64 d.node, .int .i64 d.seq, .slice da dn dc, .slice ea en ec] 51)).cell? ⟨W.heap.size, 1, none⟩ = some (.int .i64 d.seq) ∧ (W.alloc (.cells #[.int .i64 d.node, .int .i64 d.seq, .slice da dn dc, .slice ea en ec] 51)).cell? ⟨W.heap.size, 2, none⟩ = some (.slice da dn dc) ∧ (W.alloc (.cells #[.int .i64 d.node, .int .i64 d.seq, .slice da dn dc, .slice ea en ec] 51)).cell? ⟨W.heap.size, 3, none⟩ = some (.slice ea en ec) := ⟨by simp, by simp, by simp, by simp⟩;clear ht hf hb k1 k2;generalize tformedB d = r at *;go_enter Tryz.func74, Tryz.ntmps74
 go_upto_region 1 with fail
 generalize (W.alloc (.cells #[.int .i64 d.node, .int .i64 d.seq, .slice da dn dc, .slice ea en ec] 51)) = w1 at *;go_wp2_with fail
 refine K.out.mono ?_;rintro e w2 ⟨rfl, hb⟩;have G2 := zH (G.out.trans (hb.mono G.out.size));clear hb K;go_wp2_with fail
 go_ret
 exact ⟨rfl, G2.out⟩
theorem mareTxns {v : Value} {l : List PTxn} {w : World} (hv : SeqE LTxn w v l) (hl : l.length ≤ 1000000) (hf : ∀ t ∈ l, FitTx t) : Calls Tryz.prog 29 #[v] w (GivesB w (txnsB l)) := by
 obtain ⟨a, cap, rfl, g1, g2, g0, h⟩ := hv.parts;have KC : Hid (∀ W, Below w.heap.size w W → Calls Tryz.prog 76 #[.slice a l.length cap, .func (.func 74) #[] #[]] W (GivesB W (l.any fun t => !tformedB t))) := zH (fun W hb => txcontains_any (h.below hb) hl _ _ #[] (enters_of Tryz.func74 (by kernel_rfl) rfl) (fun W' d tv hd _ ht => mgivesForm ht (hf d hd)));have HR : Hid (txnsB l = (decide (l.length ≤ 4096) && !l.any (fun t => !tformedB t))) := zH rfl;clear hv h g0 hf;generalize txnsB l = r at *;generalize (l.any fun t => !tformedB t) = r2 at *;generalize l.length = n at *
 by_cases hn : n ≤ 4096
 ·have hni : (n : Int) ≤ 4096 := by omega
  rw [decide_eq_true hn, Bool.true_and] at HR;clear hn;have KC2 := KC.out w (Below.refl _ _);clear KC;go_enter Tryz.func29, Tryz.ntmps29
  go_wp2_with fail
  refine KC2.mono ?_;rintro e w3 ⟨rfl, hb⟩;have B3 := zH hb;clear hb KC2;obtain rfl : r = !r2 := HR.out;go_wp2_with fail
  go_ret
  exact ⟨rfl, B3.out⟩
 ·have hni : ¬ (n : Int) ≤ 4096 := by omega
  rw [decide_eq_false hn, Bool.false_and] at HR;obtain rfl : r = false := HR.out;clear hn HR;go_enter Tryz.func29, Tryz.ntmps29
  go_wp2_with fail
  go_ret
  exact ⟨rfl, Below.refl _ _⟩
theorem oEnd_take {v : Ints} {l : List PTxn} {k : Nat} (hk : k < l.length) : oEnd v (l.take (k + 1)) = oNext (oEnd v (l.take k)) (otx l k) := by
 rw [otx_lt hk, List.take_succ_eq_append_getElem hk, oEnd_snoc]
theorem lead_no {m : PMsg} {k : Nat} (hk : k < m.txns.length) (h : beyondB m.want (otx m.txns k) = true) : leadB m = false := by
 have : m.txns.all (fun t => !beyondB m.want t) = false := by
  rw [List.all_eq_false];exact ⟨otx m.txns k, by rw [otx_lt hk]; exact List.getElem_mem hk, by rw [h]; simp⟩
 unfold leadB;rw [this, Bool.false_and]
theorem lead_yes {m : PMsg} (h : ∀ k, k < m.txns.length → beyondB m.want (otx m.txns k) = false) : leadB m = (oChain m.from_ m.txns && decide (m.vec = oEnd m.from_ m.txns)) := by
 have : m.txns.all (fun t => !beyondB m.want t) = true := by
  rw [List.all_eq_true];intro t ht;obtain ⟨k, hk, rfl⟩ := List.getElem_of_mem ht;have := h k hk;rw [otx_lt hk] at this;rw [this]; rfl
 unfold leadB;rw [this, Bool.true_and]
theorem mgivesBeyond {W : World} {ev : Value} {d : PEff} (he : IsEffV ev d) {B : Nat} {na : Option Addr} {nn nc : Nat} {want : List Txt} (hc : W.cell? ⟨B, 6, none⟩ = some (.slice na nn nc)) (hn : SeqT W (.slice na nn nc) want) (hl : want.length ≤ 1000000) :
  Calls Tryz.prog 77 (#[ev] ++ #[.pointer (some ⟨B, 0, none⟩)]) W (GivesB W (!covers want d.key)) := by
 obtain ⟨dv, rfl⟩ := he;have hb := zB W (.cells #[.int .i64 d.pos, .string (bt d.key), .string (bt d.field), .int .i64 d.kind, .string (bt d.elem), .int .i64 d.n, dv] 54);have K := zH (zcovers_any (hn.below hb) hl d.key);have G := zH hb;have e1 : (W.alloc (.cells #[.int .i64 d.pos, .string (bt d.key), .string (bt d.field), .int .i64 d.kind, .string (bt d.elem), .int .i64 d.n, dv] 54)).cell? ⟨W.heap.size, 1, none⟩ = some (.string (bt d.key)) := by simp
 have e6 : (W.alloc (.cells #[.int .i64 d.pos, .string (bt d.key), .string (bt d.field), .int .i64 d.kind, .string (bt d.elem), .int .i64 d.n, dv] 54)).cell? ⟨B, 6, none⟩ = some (.slice na nn nc) := (hb.cell (World.block_lt_of_cell? W _ hc)).trans hc;clear hc hn hb
 show Calls Tryz.prog 77 #[.agg #[.int .i64 d.pos, .string (bt d.key), .string (bt d.field), .int .i64 d.kind, .string (bt d.elem), .int .i64 d.n, dv], .pointer (some ⟨B, 0, none⟩)] W _
 generalize covers want d.key = r at *;go_enter Tryz.func77, Tryz.ntmps77
 go_upto_region 1 with fail
 generalize (W.alloc (.cells #[.int .i64 d.pos, .string (bt d.key), .string (bt d.field), .int .i64 d.kind, .string (bt d.elem), .int .i64 d.n, dv] 54)) = w1 at *;go_wp2_with fail
 refine K.out.mono ?_;rintro e w2 ⟨rfl, hb⟩;have G2 := zH (G.out.trans (hb.mono G.out.size));clear hb K;go_wp2_with fail
 go_ret
 exact ⟨rfl, G2.out⟩
theorem fitW_of {t : PTxn} (h : FitTx t) : FitW t := ⟨by have := h.deps; omega, by have := h.effs; omega, fun e he => by have := h.drops e he; omega, h.ok⟩
theorem mleadsOn {v : Value} {m : PMsg} {w : World} (hv : IsMsg w v m) (hf : ∀ t ∈ m.txns, FitTx t) (htl : m.txns.length ≤ 1000000) (hvl : m.vec.length ≤ 1000000) (hfl : m.from_.length ≤ 1000000) (hnl : m.want.length ≤ 1000000) :
  Calls Tryz.prog 30 #[v] w (GivesB w (leadB m)) := by
 obtain ⟨va, vn, vc, fa, fn, fc, za, zn, zc, na, nn, nc, ia, im, ic, la, ln, lc, rfl, H⟩ := hv.slices;have hb := zH (zB w (.cells #[.int .i64 m.kind, .int .i64 m.ticket, .bool m.whole, .slice va vn vc, .slice fa fn fc, .slice za zn zc, .slice na nn nc, .slice ia im ic, .slice la ln lc] 28));have X := zH (msbox_new H);have LN := zH (fun k hk h => lead_no (m := m) (k := k) hk h);have LY := zH (fun h => lead_yes (m := m) h);have D6 : Hid (m.txns.length = ln) := zH H.l.dims.1;have D6b := zH H.l.dims.2;have HFT : Hid (∀ k, k < m.txns.length → FitTx (otx m.txns k)) := zH (fun k hk => hf _ (by rw [otx_lt hk]; exact List.getElem_mem hk));have HFW : Hid (∀ t ∈ m.txns, FitW t) := zH (fun t ht => fitW_of (hf t ht));clear hv H hf;generalize leadB m = r at *;have eg : ∀ args w, (callFunc 77 args).run Tryz.prog w = .ok (.enter 77 args) w := enters_of Tryz.func77 (by kernel_rfl) rfl;have EG := zH eg;clear eg;go_enter Tryz.func30, Tryz.ntmps30
 go_upto_region 1 with fail
 generalize (w.alloc (.cells #[.int .i64 m.kind, .int .i64 m.ticket, .bool m.whole, .slice va vn vc, .slice fa fn fc, .slice za zn zc, .slice na nn nc, .slice ia im ic, .slice la ln lc] 28)) = w0 at *;obtain ⟨c0, c1, c2, c3, c4, c5, c6, c7, c8⟩ := X.out.c;go_wp2_with fail
 clear c0 c1 c2 c3 c4 c5 c6 c7 c8;have B0 := zH (Below.refl w0.heap.size w0)
 go_loopw [4, 13] (fun z i wr => ∃ k : Nat, k ≤ ln ∧ i = .int .i64 k ∧ SeqI wr z (oEnd m.from_ (m.txns.take k)) ∧ Aside ((oEnd m.from_ (m.txns.take k)).length ≤ 1000000 ∧ (∀ j, j < k → beyondB m.want (otx m.txns j) = false) ∧ Below w0.heap.size w0 wr)) (fun _ i _ => ln - (intOf i).toNat)
 case atStart => exact ⟨0, Nat.zero_le _, rfl, seqI_of X.out.a.f, hfl, fun j hj => absurd hj (by omega), B0.out⟩
 case round =>
  obtain ⟨k, hk, rfl, hs, hrel⟩ := hrel;obtain ⟨h1, h2, h3⟩ := Aside.out hrel;have C1 := zH h1;have C2 := zH h2;have GB := zH h3;have SU := zH hs;obtain ⟨ua, uc, rfl, -, -, -, -⟩ := hs.parts;clear hrel h1 h2 h3 hs;have XR := zH (X.out.below GB.out)
  by_cases hlt : k < ln
  ·have hkl : k < m.txns.length := by rw [D6.out]; exact hlt
   have ET := zH (oEnd_take (v := m.from_) hkl);have FT := zH (HFT.out k hkl);have LNK := zH (LN.out k hkl);have C2K : Hid (beyondB m.want (otx m.txns k) = false → ∀ j, j < k + 1 → beyondB m.want (otx m.txns j) = false) := zH (fun h j hj => by
    by_cases e : j = k
    ·rw [e]; exact h
    ·exact C2.out j (by omega))
   have NL : Hid ((oNext (oEnd m.from_ (m.txns.take k)) (otx m.txns k)).length ≤ 1000000) := zH (by have := oNext_len (oEnd m.from_ (m.txns.take k)) (otx m.txns k); have := C1.out; omega);obtain ⟨b, o, c, hv, -, -, -, hc⟩ := txns_spot XR.out.a.l (by rw [D6.out]; omega);rw [D6.out] at hv;simp only [Value.slice.injEq] at hv
   obtain ⟨rfl, -, rfl⟩ := hv;obtain ⟨dv, ev, ⟨t0, t1, t2, t3⟩, hdv, hev⟩ := hc k hkl;change wr.cell? ⟨b, o + k * 4, none⟩ = some (.int .i64 (otx m.txns k).node) at t0;change wr.cell? ⟨b, o + k * 4 + 1, none⟩ = some (.int .i64 (otx m.txns k).seq) at t1;change SeqE LInt wr dv (otx m.txns k).deps at hdv;change SeqE LEff wr ev (otx m.txns k).effs at hev;obtain ⟨da, dc, hq1, -, -, -, hd2⟩ := hdv.parts;obtain ⟨ea, ec, hq2, -, -, -, he2⟩ := hev.parts;subst hq1 hq2;obtain ⟨dn, hdn⟩ : ∃ n, (otx m.txns k).deps.length = n := ⟨_, rfl⟩;obtain ⟨en, hen⟩ : ∃ n, (otx m.txns k).effs.length = n := ⟨_, rfl⟩;rw [hdn] at hd2 t2;rw [hen] at he2 t3;have LEN := zH hen;clear hc hdv hev hdn hen;have hba := zB wr (.cells #[.int .i64 (otx m.txns k).node, .int .i64 (otx m.txns k).seq, .slice da dn dc, .slice ea en ec] 51);have XB := zH (XR.out.below hba);have TB := zH (txbox_new hd2 he2);have SB := zH (SU.out.below hba);have GBB : Hid (Below w0.heap.size w0 (wr.alloc (.cells #[.int .i64 (otx m.txns k).node, .int .i64 (otx m.txns k).seq, .slice da dn dc, .slice ea en ec] 51))) := zH (GB.out.trans (hba.mono GB.out.size));clear hba hd2 he2;obtain ⟨c0, c1, c2, c3, c4, c5, c6, c7, c8⟩ := XR.out.c;have k1 : (k : Int) < ln := by omega
   go_upto_region 6 with fail
   clear t0 t1 t2 t3 c0 c1 c2 c3 c4 c5 c6 c7 c8;generalize wr.heap.size = tb at *;generalize (wr.alloc (.cells #[.int .i64 (otx m.txns k).node, .int .i64 (otx m.txns k).seq, .slice da dn dc, .slice ea en ec] 51)) = wb at *;obtain ⟨y0, y1, y2, y3⟩ := TB.out.c;have KC := zH (efcontains_any (w := wb) TB.out.e (by have := FT.out.effs; omega) (fun e => !covers m.want e.key) 77 #[.pointer (some ⟨w.heap.size, 0, none⟩)] EG.out (fun W d tv _ hb ht => mgivesBeyond ht (XB.out.below hb).c.2.2.2.2.2.2.1 (XB.out.below hb).a.n hnl));replace KC : Hid (Calls Tryz.prog 78 #[.slice ea en ec, .func (.func 77) #[] #[.pointer (some ⟨w.heap.size, 0, none⟩)]] wb (GivesB wb (beyondB m.want (otx m.txns k)))) := KC
   cases hq : beyondB m.want (otx m.txns k) with
   | true =>
    rw [hq] at KC;obtain rfl : r = false := LNK.out hq;clear hq;go_wp2_with fail
    refine KC.out.mono ?_;rintro e w2 ⟨rfl, hb2⟩;have G2 := zH (hb.out.trans ((GBB.out.trans (hb2.mono GBB.out.size)).mono hb.out.size));clear hb2 KC y0 y1 y2 y3;go_wp2_with fail
    go_ret
    exact ⟨rfl, G2.out⟩
   | false =>
    rw [hq] at KC;have HX := zH (C2K.out hq);clear hq;go_wp2_with fail
    refine KC.out.mono ?_;rintro e w2 ⟨rfl, hb2⟩;have G2 := zH (GBB.out.trans (hb2.mono GBB.out.size));have TB2 := zH (TB.out.below hb2);have KN := zH (onextP_any (SB.out.below hb2) TB2.out.is C1.out);obtain ⟨nx, hnx⟩ : ∃ x, oNext (oEnd m.from_ (m.txns.take k)) (otx m.txns k) = x := ⟨_, rfl⟩;rw [hnx] at KN NL;have EX := zH (ET.out.trans hnx);clear hnx;clear hb2 KC y0 y1 y2 y3;obtain ⟨y0, y1, y2, y3⟩ := TB2.out.c;go_wp2_with fail
    refine KN.out.mono ?_;rintro e w3 ⟨v3, rfl, ho, hb3⟩;have G3 := zH (G2.out.trans (hb3.mono G2.out.size));have S3 := zH ho.seq;obtain ⟨a3, c3, rfl, -, -, -, -⟩ := ho.parts;clear hb3 KN y0 y1 y2 y3 ho;go_wp2_with fail
    go_roundw
    case rel => exact ⟨k + 1, by omega, by go_num, by rw [EX.out]; exact S3.out, by rw [EX.out]; exact NL.out, HX.out, G3.out⟩
    case measure => simp [intOf] <;> omega
  ·obtain rfl : k = ln := by omega
   have hall : m.txns.take k = m.txns := by rw [← D6.out]; exact List.take_length
   rw [hall] at C1 SU;have HR := zH (LY.out (fun j hj => C2.out j (by rw [← D6.out]; exact hj)));have KC := zH (chainP_any (seqI_of XR.out.a.f) XR.out.a.l htl HFW.out hfl);have KE := zH (fun W (hb : Below wr.heap.size wr W) => tsequal_any (seqI_of (XR.out.a.v.below hb)) (SU.out.below hb));have HC := zH (fun W (hb : Below wr.heap.size wr W) => (XR.out.below hb).c);obtain ⟨c0, c1, c2, c3, c4, c5, c6, c7, c8⟩ := XR.out.c;have GR := zH (hb.out.trans (GB.out.mono hb.out.size));have EV : Hid (m.vec.length = vn) := zH XR.out.a.v.dims.1;have EU := zH (by rw [hall] : (oEnd m.from_ (m.txns.take k)).length = (oEnd m.from_ m.txns).length);rw [hall];clear hall;generalize oChain m.from_ m.txns = r1 at *;generalize decide (m.vec = oEnd m.from_ m.txns) = r2 at *
   cases r1 with
   | false =>
    obtain rfl : r = false := HR.out;go_wp2_with fail
    refine KC.out.mono ?_;rintro e w2 ⟨rfl, hb2⟩;have G2 := zH (GR.out.trans (hb2.mono GR.out.size));clear hb2 KC c0 c1 c2 c3 c4 c5 c6 c7 c8;go_wp2_with fail
    go_ret
    exact ⟨rfl, G2.out⟩
   | true =>
    obtain rfl : r = r2 := HR.out;go_wp2_with fail
    refine KC.out.mono ?_;rintro e w2 ⟨rfl, hb2⟩;have G2 := zH (GR.out.trans (hb2.mono GR.out.size));have KE2 := KE.out w2 hb2;clear c0 c1 c2 c3 c4 c5 c6 c7 c8;obtain ⟨c0, c1, c2, c3, c4, c5, c6, c7, c8⟩ := HC.out w2 hb2;clear hb2 KC;go_wp2_with fail
    refine KE2.mono ?_;rintro e w3 ⟨rfl, q, rfl⟩;have G3 := zH (below_drewN G2.out q);clear KE2;go_wp2_with fail
    go_ret
    exact ⟨rfl, G3.out⟩
end Go.Proofs.YtfapkepfngddlaaGreat
