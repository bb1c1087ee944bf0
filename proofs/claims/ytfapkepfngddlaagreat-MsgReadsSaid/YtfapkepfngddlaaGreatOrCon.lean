/- Ready, Next, Chain: the program's and the document's own. (Written by gen-con.py.) -/
import Derived.Test.YtfapkepfngddlaaGreatVcAll
import Derived.Test.YtfapkepfngddlaaGreatEMades
import Derived.Test.YtfapkepfngddlaaGreatPaLists
import Derived.Test.YtfapkepfngddlaaGreatOrWait
import Derived.Test.YtfapkepfngddlaaGreatStItems
import Derived.Deep.RegionHeld3
import Derived.Deep.Cut
set_option maxRecDepth 100000
set_option maxHeartbeats 64000000
namespace Go.Proofs.YtfapkepfngddlaaGreat
open Go.RowKit Plain
set_option linter.unusedVariables false
theorem Calls.tell {P : Program} {f : FuncId} {args : Array Value} {w : World} {v : Value} (h : Calls P f args w fun e w' => e = .returned v ∧ w = w') : Calls P f args w fun e w' => e = .returned v ∧ Below w.heap.size w w' :=
 h.mono fun _ _ ⟨he, hw⟩ => ⟨he, by rw [← hw]; exact Below.refl _ _⟩
theorem oready_seq {v : Ints} {t : PTxn} (h : ¬ 1 ≤ t.seq) : oReady v t = false := Bool.eq_false_iff.2 fun e => h (oReady_iff.1 e).1
theorem oready_at {v : Ints} {t : PTxn} (h : ¬ saysI v t.node = t.seq - 1) : oReady v t = false := Bool.eq_false_iff.2 fun e => h (oReady_iff.1 e).2.1
theorem oready_in {v : Ints} {t : PTxn} (h1 : 1 ≤ t.seq) (h2 : saysI v t.node = t.seq - 1) : oReady v t = within t.deps v := by
 unfold oReady;rw [decide_eq_true (show 0 < t.seq from h1), decide_eq_true h2, Bool.true_and, Bool.true_and]
theorem seq_wrap {s : Int} (h1 : 1 ≤ s) (h2 : s ≤ 9223372036854775807) : IntKind.i64.wrap (s - 1) = s - 1 := by
 simp [IntKind.wrap, IntKind.bits, IntKind.signed]
 omega
theorem oreadyP_any {vv tv : Value} {xs : Ints} {t : PTxn} {w : World} (hv : SeqI w vv xs) (ht : IsTxn w tv t) (hl : xs.length ≤ 1000000) (hd : t.deps.length ≤ 1000000) (hs : t.seq ≤ 9223372036854775807) :
  Calls Tryz.prog 133 #[vv, tv] w (GivesB w (oReady xs t)) := by
 obtain ⟨da, dn, dc, ea, en, ec, rfl, k1, k2⟩ := ht.parts;obtain ⟨av, cv, rfl, -, -, -, hv'⟩ := hv.parts;have KB := txbox_new k1 k2;have hb := zB w (.cells #[.int .i64 t.node, .int .i64 t.seq, .slice da dn dc, .slice ea en ec] 51);have HV := hv'.below hb;have HB := zH hb;clear hv ht hv' k1 k2 hb;go_enter Tryz.func133, Tryz.ntmps133
 go_upto_region 1 with fail
 generalize (w.alloc (.cells #[.int .i64 t.node, .int .i64 t.seq, .slice da dn dc, .slice ea en ec] 51)) = wb at *;have KE : Hid (∀ u, Below wb.heap.size wb u → Below wb.heap.size wb u ∧ u.cell? ⟨w.heap.size, 0, none⟩ = some (.int .i64 t.node) ∧ u.cell? ⟨w.heap.size, 1, none⟩ = some (.int .i64 t.seq) ∧ u.cell? ⟨w.heap.size, 2, none⟩ = some (.slice da dn dc)) := zH (fun u h => ⟨h, (KB.below h).c.1, (KB.below h).c.2.1, (KB.below h).c.2.2.1⟩);have KA : Hid (∀ u, Below wb.heap.size wb u → Calls Tryz.prog 56 #[.slice av xs.length cv, .int .i64 t.node] u fun e w' => e = .returned (.int .i64 (saysI xs t.node)) ∧ Below u.heap.size u w') := zH (fun u h => Calls.tell (vc_at_any (HV.below h) t.node));have KW : Hid (∀ u, Below wb.heap.size wb u → Calls Tryz.prog 164 #[.slice da dn dc, .slice av xs.length cv] u fun e w' => e = .returned (.bool (within t.deps xs)) ∧ Below u.heap.size u w') := zH (fun u h => Calls.tell (vc_within_any (seqI_of ((KB.below h).d)) (HV.below h) hd));have OA := zH (oready_seq (v := xs) (t := t));have OB := zH (oready_at (v := xs) (t := t));have OC := zH (oready_in (v := xs) (t := t));clear KB HV hd hl;generalize xs.length = nv at *;generalize oReady xs t = r at *;generalize within t.deps xs = wi at *;generalize saysI xs t.node = sn at *
 by_cases h1 : 1 ≤ t.seq
 ·have e1 := seq_wrap h1 hs
  have h3 : decide (1 ≤ t.seq) = true := decide_eq_true h1;have h4 : decide (0 < t.seq) = true := decide_eq_true (show 0 < t.seq by omega)
  by_cases h2 : sn = t.seq - 1
  ·have RR := zH (OC.out h1 h2)
   have g1 : (t.seq - 1 == sn) = true := by simp [h2]
   have g2 : (sn == t.seq - 1) = true := by simp [h2]
   clear OA OB OC h2;refine wp_region_held_drew (S := fun u' => Below wb.heap.size wb u' ∧ u'.cell? ⟨w.heap.size, 0, none⟩ = some (.int .i64 t.node) ∧ u'.cell? ⟨w.heap.size, 1, none⟩ = some (.int .i64 t.seq) ∧ u'.cell? ⟨w.heap.size, 2, none⟩ = some (.slice da dn dc)) (by kernel_rfl) ?_ (fun hHeld => ?_)
   ·(exact KE.out _ (Below.refl _ _).drew)
   simp only [zS, Nat.zero_add, Nat.reduceAdd]
   refine tkB 0 hHeld ?_;refine tkB 1 hHeld ?_;refine tkB 2 hHeld ?_;refine tkB 3 hHeld ?_;refine tkB 4 hHeld ?_;refine tkB 5 hHeld ?_;refine tkB 6 hHeld ?_;refine tkB 7 hHeld ?_;refine tkB 8 hHeld ?_;refine tkB 9 hHeld ?_;refine rd 10 fun K hK => ?_
   go_simp
   refine (KA.out _ hHeld.1).mono ?_;rintro e s1 ⟨rfl, hb⟩;refine hK.out _ _ (KE.out _ (holdC hHeld hb)) (fun hHeld => ?_);clear hK K hb;refine tkB 11 hHeld ?_;refine tkB 12 hHeld ?_;refine tkB 13 hHeld ?_;refine tkB 14 hHeld ?_;refine tkB 15 hHeld ?_;refine tkB 16 hHeld ?_;refine rd 17 fun K hK => ?_
   go_simp
   refine (KW.out _ hHeld.1).mono ?_;rintro e s2 ⟨rfl, hb⟩;refine hK.out _ _ (KE.out _ (holdC hHeld hb)) (fun hHeld => ?_);clear hK K hb;refine tkB 18 hHeld ?_;refine tkB 19 hHeld ?_;refine wpAnyH_done (by kernel_rfl) ?_ _;have GZ : Hid (Below wb.heap.size wb _) := zH hHeld.1;clear hHeld;go_wp2_with fail
   go_ret
   exact ⟨by rw [RR.out]; rfl, HB.out.trans (GZ.out.mono HB.out.size)⟩
  ·have RR := zH (OB.out h2)
   have g1 : (t.seq - 1 == sn) = false := by simp; exact fun e => h2 e.symm
   have g2 : (sn == t.seq - 1) = false := by simp; exact h2
   clear OA OB OC h2;refine wp_region_held_drew (S := fun u' => Below wb.heap.size wb u' ∧ u'.cell? ⟨w.heap.size, 0, none⟩ = some (.int .i64 t.node) ∧ u'.cell? ⟨w.heap.size, 1, none⟩ = some (.int .i64 t.seq) ∧ u'.cell? ⟨w.heap.size, 2, none⟩ = some (.slice da dn dc)) (by kernel_rfl) ?_ (fun hHeld => ?_)
   ·(exact KE.out _ (Below.refl _ _).drew)
   simp only [zS, Nat.zero_add, Nat.reduceAdd]
   refine tkB 0 hHeld ?_;refine tkB 1 hHeld ?_;refine tkB 2 hHeld ?_;refine tkB 3 hHeld ?_;refine tkB 4 hHeld ?_;refine tkB 5 hHeld ?_;refine tkB 6 hHeld ?_;refine tkB 7 hHeld ?_;refine tkB 8 hHeld ?_;refine tkB 9 hHeld ?_;refine rd 10 fun K hK => ?_
   go_simp
   refine (KA.out _ hHeld.1).mono ?_;rintro e s1 ⟨rfl, hb⟩;refine hK.out _ _ (KE.out _ (holdC hHeld hb)) (fun hHeld => ?_);clear hK K hb;refine tkB 11 hHeld ?_;refine tkB 12 hHeld ?_;refine tkB 13 hHeld ?_;refine tkS 14 hHeld ?_;refine tkS 15 hHeld ?_;refine tkS 16 hHeld ?_;refine tkS 17 hHeld ?_;refine tkB 18 hHeld ?_;refine tkB 19 hHeld ?_;refine wpAnyH_done (by kernel_rfl) ?_ _;have GZ : Hid (Below wb.heap.size wb _) := zH hHeld.1;clear hHeld;go_wp2_with fail
   go_ret
   exact ⟨by rw [RR.out]; rfl, HB.out.trans (GZ.out.mono HB.out.size)⟩
 ·have RR := zH (OA.out h1)
  have h3 : decide (1 ≤ t.seq) = false := decide_eq_false h1;have h4 : decide (0 < t.seq) = false := decide_eq_false (show ¬ 0 < t.seq by omega);clear OA OB OC;refine wp_region_held_drew (S := fun u' => Below wb.heap.size wb u' ∧ u'.cell? ⟨w.heap.size, 0, none⟩ = some (.int .i64 t.node) ∧ u'.cell? ⟨w.heap.size, 1, none⟩ = some (.int .i64 t.seq) ∧ u'.cell? ⟨w.heap.size, 2, none⟩ = some (.slice da dn dc)) (by kernel_rfl) ?_ (fun hHeld => ?_)
  ·(exact KE.out _ (Below.refl _ _).drew)
  simp only [zS, Nat.zero_add, Nat.reduceAdd]
  refine tkB 0 hHeld ?_;refine tkB 1 hHeld ?_;refine tkB 2 hHeld ?_;refine tkB 3 hHeld ?_;refine tkS 4 hHeld ?_;refine tkS 5 hHeld ?_;refine tkS 6 hHeld ?_;refine tkS 7 hHeld ?_;refine tkS 8 hHeld ?_;refine tkS 9 hHeld ?_;refine tkS 10 hHeld ?_;refine tkS 11 hHeld ?_;refine tkB 12 hHeld ?_;refine tkB 13 hHeld ?_;refine tkS 14 hHeld ?_;refine tkS 15 hHeld ?_;refine tkS 16 hHeld ?_;refine tkS 17 hHeld ?_;refine tkB 18 hHeld ?_;refine tkB 19 hHeld ?_;refine wpAnyH_done (by kernel_rfl) ?_ _;have GZ : Hid (Below wb.heap.size wb _) := zH hHeld.1;clear hHeld;go_wp2_with fail
  go_ret
  exact ⟨by rw [RR.out]; rfl, HB.out.trans (GZ.out.mono HB.out.size)⟩
theorem oreadyR_any {vv tv : Value} {xs : Ints} {t : PTxn} {w : World} (hv : SeqI w vv xs) (ht : IsTxn w tv t) (hl : xs.length ≤ 1000000) (hd : t.deps.length ≤ 1000000) (hs : t.seq ≤ 9223372036854775807) :
  Calls Tryz.prog 39 #[vv, tv] w (GivesB w (oReady xs t)) := by
 obtain ⟨da, dn, dc, ea, en, ec, rfl, k1, k2⟩ := ht.parts;obtain ⟨av, cv, rfl, -, -, -, hv'⟩ := hv.parts;have KB := txbox_new k1 k2;have hb := zB w (.cells #[.int .i64 t.node, .int .i64 t.seq, .slice da dn dc, .slice ea en ec] 51);have HV := hv'.below hb;have HB := zH hb;clear hv ht hv' k1 k2 hb;go_enter Tryz.func39, Tryz.ntmps39
 go_upto_region 1 with fail
 generalize (w.alloc (.cells #[.int .i64 t.node, .int .i64 t.seq, .slice da dn dc, .slice ea en ec] 51)) = wb at *;have KE : Hid (∀ u, Below wb.heap.size wb u → Below wb.heap.size wb u ∧ u.cell? ⟨w.heap.size, 0, none⟩ = some (.int .i64 t.node) ∧ u.cell? ⟨w.heap.size, 1, none⟩ = some (.int .i64 t.seq) ∧ u.cell? ⟨w.heap.size, 2, none⟩ = some (.slice da dn dc)) := zH (fun u h => ⟨h, (KB.below h).c.1, (KB.below h).c.2.1, (KB.below h).c.2.2.1⟩);have KA : Hid (∀ u, Below wb.heap.size wb u → Calls Tryz.prog 35 #[.slice av xs.length cv, .int .i64 t.node] u fun e w' => e = .returned (.int .i64 (saysI xs t.node)) ∧ Below u.heap.size u w') := zH (fun u h => Calls.tell (vc_rat_any (HV.below h) t.node));have KW : Hid (∀ u, Below wb.heap.size wb u → Calls Tryz.prog 90 #[.slice da dn dc, .slice av xs.length cv] u fun e w' => e = .returned (.bool (within t.deps xs)) ∧ Below u.heap.size u w') := zH (fun u h => vc_rwithin_any (seqI_of ((KB.below h).d)) (HV.below h) hd hl);have OA := zH (oready_seq (v := xs) (t := t));have OB := zH (oready_at (v := xs) (t := t));have OC := zH (oready_in (v := xs) (t := t));clear KB HV hd hl;generalize xs.length = nv at *;generalize oReady xs t = r at *;generalize within t.deps xs = wi at *;generalize saysI xs t.node = sn at *
 by_cases h1 : 1 ≤ t.seq
 ·have e1 := seq_wrap h1 hs
  have h3 : decide (1 ≤ t.seq) = true := decide_eq_true h1;have h4 : decide (0 < t.seq) = true := decide_eq_true (show 0 < t.seq by omega)
  by_cases h2 : sn = t.seq - 1
  ·have RR := zH (OC.out h1 h2)
   have g1 : (t.seq - 1 == sn) = true := by simp [h2]
   have g2 : (sn == t.seq - 1) = true := by simp [h2]
   clear OA OB OC h2;refine wp_region_held_drew (S := fun u' => Below wb.heap.size wb u' ∧ u'.cell? ⟨w.heap.size, 0, none⟩ = some (.int .i64 t.node) ∧ u'.cell? ⟨w.heap.size, 1, none⟩ = some (.int .i64 t.seq) ∧ u'.cell? ⟨w.heap.size, 2, none⟩ = some (.slice da dn dc)) (by kernel_rfl) ?_ (fun hHeld => ?_)
   ·(exact KE.out _ (Below.refl _ _).drew)
   simp only [zS, Nat.zero_add, Nat.reduceAdd]
   refine tkB 0 hHeld ?_;refine tkB 1 hHeld ?_;refine tkB 2 hHeld ?_;refine tkB 3 hHeld ?_;refine tkB 4 hHeld ?_;refine tkB 5 hHeld ?_;refine tkB 6 hHeld ?_;refine tkB 8 hHeld ?_;refine tkB 9 hHeld ?_;refine tkB 10 hHeld ?_;refine rd 7 fun K hK => ?_
   go_simp
   refine (KA.out _ hHeld.1).mono ?_;rintro e s1 ⟨rfl, hb⟩;refine hK.out _ _ (KE.out _ (holdC hHeld hb)) (fun hHeld => ?_);clear hK K hb;refine tkB 11 hHeld ?_;refine tkB 12 hHeld ?_;refine tkB 13 hHeld ?_;refine tkB 14 hHeld ?_;refine tkB 15 hHeld ?_;refine tkB 16 hHeld ?_;refine rd 17 fun K hK => ?_
   go_simp
   refine (KW.out _ hHeld.1).mono ?_;rintro e s2 ⟨rfl, hb⟩;refine hK.out _ _ (KE.out _ (holdC hHeld hb)) (fun hHeld => ?_);clear hK K hb;refine tkB 18 hHeld ?_;refine tkB 19 hHeld ?_;refine wpAnyH_done (by kernel_rfl) ?_ _;have GZ : Hid (Below wb.heap.size wb _) := zH hHeld.1;clear hHeld;go_wp2_with fail
   go_ret
   exact ⟨by rw [RR.out]; rfl, HB.out.trans (GZ.out.mono HB.out.size)⟩
  ·have RR := zH (OB.out h2)
   have g1 : (t.seq - 1 == sn) = false := by simp; exact fun e => h2 e.symm
   have g2 : (sn == t.seq - 1) = false := by simp; exact h2
   clear OA OB OC h2;refine wp_region_held_drew (S := fun u' => Below wb.heap.size wb u' ∧ u'.cell? ⟨w.heap.size, 0, none⟩ = some (.int .i64 t.node) ∧ u'.cell? ⟨w.heap.size, 1, none⟩ = some (.int .i64 t.seq) ∧ u'.cell? ⟨w.heap.size, 2, none⟩ = some (.slice da dn dc)) (by kernel_rfl) ?_ (fun hHeld => ?_)
   ·(exact KE.out _ (Below.refl _ _).drew)
   simp only [zS, Nat.zero_add, Nat.reduceAdd]
   refine tkB 0 hHeld ?_;refine tkB 1 hHeld ?_;refine tkB 2 hHeld ?_;refine tkB 3 hHeld ?_;refine tkB 4 hHeld ?_;refine tkB 5 hHeld ?_;refine tkB 6 hHeld ?_;refine tkB 8 hHeld ?_;refine tkB 9 hHeld ?_;refine tkB 10 hHeld ?_;refine rd 7 fun K hK => ?_
   go_simp
   refine (KA.out _ hHeld.1).mono ?_;rintro e s1 ⟨rfl, hb⟩;refine hK.out _ _ (KE.out _ (holdC hHeld hb)) (fun hHeld => ?_);clear hK K hb;refine tkB 11 hHeld ?_;refine tkB 12 hHeld ?_;refine tkB 13 hHeld ?_;refine tkS 14 hHeld ?_;refine tkS 15 hHeld ?_;refine tkS 16 hHeld ?_;refine tkS 17 hHeld ?_;refine tkB 18 hHeld ?_;refine tkB 19 hHeld ?_;refine wpAnyH_done (by kernel_rfl) ?_ _;have GZ : Hid (Below wb.heap.size wb _) := zH hHeld.1;clear hHeld;go_wp2_with fail
   go_ret
   exact ⟨by rw [RR.out]; rfl, HB.out.trans (GZ.out.mono HB.out.size)⟩
 ·have RR := zH (OA.out h1)
  have h3 : decide (1 ≤ t.seq) = false := decide_eq_false h1;have h4 : decide (0 < t.seq) = false := decide_eq_false (show ¬ 0 < t.seq by omega);clear OA OB OC;refine wp_region_held_drew (S := fun u' => Below wb.heap.size wb u' ∧ u'.cell? ⟨w.heap.size, 0, none⟩ = some (.int .i64 t.node) ∧ u'.cell? ⟨w.heap.size, 1, none⟩ = some (.int .i64 t.seq) ∧ u'.cell? ⟨w.heap.size, 2, none⟩ = some (.slice da dn dc)) (by kernel_rfl) ?_ (fun hHeld => ?_)
  ·(exact KE.out _ (Below.refl _ _).drew)
  simp only [zS, Nat.zero_add, Nat.reduceAdd]
  refine tkB 0 hHeld ?_;refine tkB 1 hHeld ?_;refine tkB 2 hHeld ?_;refine tkB 3 hHeld ?_;refine tkS 4 hHeld ?_;refine tkS 5 hHeld ?_;refine tkS 6 hHeld ?_;refine tkS 8 hHeld ?_;refine tkS 9 hHeld ?_;refine tkS 10 hHeld ?_;refine tkS 7 hHeld ?_;refine tkS 11 hHeld ?_;refine tkB 12 hHeld ?_;refine tkB 13 hHeld ?_;refine tkS 14 hHeld ?_;refine tkS 15 hHeld ?_;refine tkS 16 hHeld ?_;refine tkS 17 hHeld ?_;refine tkB 18 hHeld ?_;refine tkB 19 hHeld ?_;refine wpAnyH_done (by kernel_rfl) ?_ _;have GZ : Hid (Below wb.heap.size wb _) := zH hHeld.1;clear hHeld;go_wp2_with fail
  go_ret
  exact ⟨by rw [RR.out]; rfl, HB.out.trans (GZ.out.mono HB.out.size)⟩
theorem onextP_any {vv tv : Value} {xs : Ints} {t : PTxn} {w : World} (hv : SeqI w vv xs) (ht : IsTxn w tv t) (hl : xs.length ≤ 1000000) :
  Calls Tryz.prog 79 #[vv, tv] w (MadeI w (oNext xs t)) := by
 obtain ⟨da, dn, dc, ea, en, ec, rfl, k1, k2⟩ := ht.parts;obtain ⟨av, cv, rfl, -, -, -, hv'⟩ := hv.parts;obtain ⟨⟨c0, c1, -, -⟩, -, -⟩ := txbox_new k1 k2;have hb := zB w (.cells #[.int .i64 t.node, .int .i64 t.seq, .slice da dn dc, .slice ea en ec] 51);have HV := zH (hv'.below hb);have HB := zH hb;clear hv ht hv' k1 k2 hb;go_enter Tryz.func79, Tryz.ntmps79
 go_upto_region 1 with fail
 generalize (w.alloc (.cells #[.int .i64 t.node, .int .i64 t.seq, .slice da dn dc, .slice ea en ec] 51)) = wb at *
 by_cases hq : oValid t = true
 ·have RR : Hid (oNext xs t = withN xs t.node.toNat t.seq) := zH (by unfold oNext; rw [if_pos hq])
  have HL := zH hl;obtain ⟨⟨q1, q2⟩, q3, q4⟩ := oValid_iff.1 hq;have KW := zH (vc_with_ok HV.out hl (k0 := t.node.toNat) (by omega) q3 q4);rw [show ((t.node.toNat : Nat) : Int) = t.node by omega] at KW;generalize withN xs t.node.toNat t.seq = ys at *;generalize xs.length = nv at *;clear hq hl q1 q2 q3 q4;go_wp2_with fail
  refine KW.out.mono ?_;rintro e w1 ⟨u, rfl, ho, hb1⟩;obtain ⟨ua, uc, rfl, -, -, ho, -⟩ := ho.parts;have HO := zH ho;have H1 := zH hb1;clear ho hb1 KW c0 c1;go_wp2_with fail
  go_ret
  have Z := HO.out.mono HB.out.size;exact ⟨_, rfl, by rw [RR.out]; exact Z, HB.out.trans (H1.out.mono HB.out.size)⟩
 ·have RR : Hid (oNext xs t = trim xs) := zH (by unfold oNext; rw [if_neg hq])
  have hq' : t.node < 0 ∨ 8 ≤ t.node ∨ t.seq < 0 ∨ 1073741824 < t.seq := by
   refine Decidable.byContradiction fun h => hq (oValid_iff.2 ?_)
   omega
  have KW := zH (vc_with_err HV.out t.node t.seq hq');have KT := zH (fun u (h : Below wb.heap.size wb u) => vc_trim_any (HV.out.below h) hl);generalize trim xs = ys at *;generalize xs.length = nv at *;clear hq hq' hl;go_wp2_with fail
  refine KW.out.mono ?_;rintro e w1 ⟨rfl, hb1⟩;have H1 := zH hb1;have KT2 := zH (KT.out _ H1.out);clear hb1 KW KT c0 c1;go_wp2_with fail
  refine KT2.out.mono ?_;rintro e w2 ⟨u, rfl, ho, hb2⟩;obtain ⟨ua, uc, rfl, -, -, ho, -⟩ := ho.parts;have HO := zH ho;have H2 := zH hb2;clear ho hb2 KT2;go_wp2_with fail
  go_ret
  have Z := HO.out.mono (Nat.le_trans HB.out.size H1.out.size);exact ⟨_, rfl, by rw [RR.out]; exact Z, HB.out.trans ((H1.out.trans (H2.out.mono H1.out.size)).mono HB.out.size)⟩
theorem onextR_any {vv tv : Value} {xs : Ints} {t : PTxn} {w : World} (hv : SeqI w vv xs) (ht : IsTxn w tv t) (hl : xs.length ≤ 1000000) :
  Calls Tryz.prog 42 #[vv, tv] w (MadeI w (oNext xs t)) := by
 obtain ⟨da, dn, dc, ea, en, ec, rfl, k1, k2⟩ := ht.parts;obtain ⟨av, cv, rfl, -, -, -, hv'⟩ := hv.parts;obtain ⟨⟨c0, c1, -, -⟩, -, -⟩ := txbox_new k1 k2;have hb := zB w (.cells #[.int .i64 t.node, .int .i64 t.seq, .slice da dn dc, .slice ea en ec] 51);have HV := zH (hv'.below hb);have HB := zH hb;clear hv ht hv' k1 k2 hb;go_enter Tryz.func42, Tryz.ntmps42
 go_upto_region 1 with fail
 generalize (w.alloc (.cells #[.int .i64 t.node, .int .i64 t.seq, .slice da dn dc, .slice ea en ec] 51)) = wb at *
 by_cases hq : oValid t = true
 ·have RR : Hid (oNext xs t = withN xs t.node.toNat t.seq) := zH (by unfold oNext; rw [if_pos hq])
  have HL := zH hl;obtain ⟨⟨q1, q2⟩, q3, q4⟩ := oValid_iff.1 hq;have KW := zH (vc_rwith_ok HV.out hl (k0 := t.node.toNat) (by omega) q3 q4);rw [show ((t.node.toNat : Nat) : Int) = t.node by omega] at KW;generalize withN xs t.node.toNat t.seq = ys at *;generalize xs.length = nv at *;clear hq hl q1 q2 q3 q4;go_wp2_with fail
  refine KW.out.mono ?_;rintro e w1 ⟨u, rfl, ho, hb1⟩;obtain ⟨ua, uc, rfl, -, -, ho, -⟩ := ho.parts;have HO := zH ho;have H1 := zH hb1;clear ho hb1 KW c0 c1;go_wp2_with fail
  go_ret
  have Z := HO.out.mono HB.out.size;exact ⟨_, rfl, by rw [RR.out]; exact Z, HB.out.trans (H1.out.mono HB.out.size)⟩
 ·have RR : Hid (oNext xs t = trim xs) := zH (by unfold oNext; rw [if_neg hq])
  have hq' : t.node < 0 ∨ 7 < t.node ∨ t.seq < 0 ∨ 1073741824 < t.seq := by
   refine Decidable.byContradiction fun h => hq (oValid_iff.2 ?_)
   omega
  have KW := zH (vc_rwith_err (.slice av xs.length cv) t.node t.seq wb hq');have KT := zH (fun u (h : Below wb.heap.size wb u) => vc_rtrim_any (HV.out.below h) hl);generalize trim xs = ys at *;generalize xs.length = nv at *;clear hq hq' hl;go_wp2_with fail
  refine KW.out.mono ?_;rintro e w1 ⟨rfl, hb1⟩;obtain ⟨m, rfl⟩ := hb1;have H1 := zH (below_drewN (Below.refl wb.heap.size wb) m);have KT2 := zH (KT.out _ H1.out);clear KW KT c0 c1;go_wp2_with fail
  refine KT2.out.mono ?_;rintro e w2 ⟨u, rfl, ho, hb2⟩;obtain ⟨ua, uc, rfl, -, -, ho, -⟩ := ho.parts;have HO := zH ho;have H2 := zH hb2;clear ho hb2 KT2;go_wp2_with fail
  go_ret
  have Z := HO.out.mono (Nat.le_trans HB.out.size H1.out.size);exact ⟨_, rfl, by rw [RR.out]; exact Z, HB.out.trans ((H1.out.trans (H2.out.mono H1.out.size)).mono HB.out.size)⟩
end Go.Proofs.YtfapkepfngddlaaGreat
