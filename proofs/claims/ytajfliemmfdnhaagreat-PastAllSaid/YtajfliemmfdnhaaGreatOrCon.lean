/- Ready, Next, Chain: the program's and the document's own. (Written by gen-con.py.) -/
import Derived.Test.YtajfliemmfdnhaaGreatVcAll
import Derived.Test.YtajfliemmfdnhaaGreatTxn
import Derived.Test.YtajfliemmfdnhaaGreatTxUses
import Derived.Test.YtajfliemmfdnhaaGreatPaMath
import Derived.Test.YtajfliemmfdnhaaGreatGives
import Derived.Deep.RegionHeld3
import Derived.Deep.Cut
namespace Go.Proofs.YtajfliemmfdnhaaGreat
open Go.RowKit Plain
set_option linter.unusedVariables false

theorem Calls.tell {P : Program} {f : FuncId} {args : Array Value} {w : World} {v : Value} (h : Calls P f args w fun e w' => e = .returned v ∧ w = w') : Calls P f args w fun e w' => e = .returned v ∧ Below w.heap.size w w' :=
 h.mono fun _ _ ⟨he, hw⟩ => ⟨he, by rw [← hw]; exact Below.refl _ _⟩
theorem oready_seq {v : Ints} {t : PTxn} (h : ¬ 1 ≤ t.seq) : oReady v t = false := Bool.eq_false_iff.2 fun e => h (oReady_iff.1 e).1
theorem oready_at {v : Ints} {t : PTxn} (h : ¬ saysI v t.node = t.seq - 1) : oReady v t = false := Bool.eq_false_iff.2 fun e => h (oReady_iff.1 e).2.1
theorem oready_in {v : Ints} {t : PTxn} (h1 : 1 ≤ t.seq) (h2 : saysI v t.node = t.seq - 1) : oReady v t = within t.deps v := by
 unfold oReady
 rw [decide_eq_true (show 0 < t.seq from h1), decide_eq_true h2, Bool.true_and, Bool.true_and]
theorem seq_wrap {s : Int} (h1 : 1 ≤ s) (h2 : s ≤ 9223372036854775807) : IntKind.i64.wrap (s - 1) = s - 1 := by
 simp [IntKind.wrap, IntKind.bits, IntKind.signed]
 omega

set_option maxRecDepth 100000 in
set_option maxHeartbeats 8000000 in
theorem oreadyP_any {vv tv : Value} {xs : Ints} {t : PTxn} {w : World} (hv : SeqI w vv xs) (ht : IsTxn w tv t) (hl : xs.length ≤ 1000000) (hd : t.deps.length ≤ 1000000) (hs : t.seq ≤ 9223372036854775807) :
  Calls Tryz.prog 28 #[vv, tv] w (GivesB w (oReady xs t)) := by
 obtain ⟨da, dn, dc, ea, en, ec, rfl, k1, k2⟩ := ht.parts
 obtain ⟨av, cv, rfl, -, -, -, hv'⟩ := hv.parts
 have KB := txbox_new k1 k2
 have hb := (Below.refl w.heap.size w).alloc (Nat.le_refl _) (.cells #[.int .i64 t.node, .int .i64 t.seq, .slice da dn dc, .slice ea en ec] 29)
 have HV := hv'.below hb
 have HB := Lib.hid hb
 clear hv ht hv' k1 k2 hb
 go_enter Tryz.func28, Tryz.ntmps28
 go_upto_region 1 with fail
 generalize (w.alloc (.cells #[.int .i64 t.node, .int .i64 t.seq, .slice da dn dc, .slice ea en ec] 29)) = wb at *
 have KE : Hid (∀ u, Below wb.heap.size wb u → Below wb.heap.size wb u ∧ u.cell? ⟨w.heap.size, 0, none⟩ = some (.int .i64 t.node) ∧ u.cell? ⟨w.heap.size, 1, none⟩ = some (.int .i64 t.seq) ∧ u.cell? ⟨w.heap.size, 2, none⟩ = some (.slice da dn dc)) := Lib.hid (fun u h => ⟨h, (KB.below h).c.1, (KB.below h).c.2.1, (KB.below h).c.2.2.1⟩)
 have KA : Hid (∀ u, Below wb.heap.size wb u → Calls Tryz.prog 52 #[.slice av xs.length cv, .int .i64 t.node] u fun e w' => e = .returned (.int .i64 (saysI xs t.node)) ∧ Below u.heap.size u w') := Lib.hid (fun u h => Calls.tell (vc_at_any (HV.below h) t.node))
 have KW : Hid (∀ u, Below wb.heap.size wb u → Calls Tryz.prog 48 #[.slice da dn dc, .slice av xs.length cv] u fun e w' => e = .returned (.bool (within t.deps xs)) ∧ Below u.heap.size u w') := Lib.hid (fun u h => Calls.tell (vc_within_any (seqI_of ((KB.below h).d)) (HV.below h) hd))
 have OA := Lib.hid (oready_seq (v := xs) (t := t))
 have OB := Lib.hid (oready_at (v := xs) (t := t))
 have OC := Lib.hid (oready_in (v := xs) (t := t))
 clear KB HV hd hl
 generalize xs.length = nv at *
 generalize oReady xs t = r at *
 generalize within t.deps xs = wi at *
 generalize saysI xs t.node = sn at *
 by_cases h1 : 1 ≤ t.seq
 ·have e1 := seq_wrap h1 hs
  have h3 : decide (1 ≤ t.seq) = true := decide_eq_true h1
  have h4 : decide (0 < t.seq) = true := decide_eq_true (show 0 < t.seq by omega)
  by_cases h2 : sn = t.seq - 1
  ·have RR := Lib.hid (OC.out h1 h2)
   have g1 : (t.seq - 1 == sn) = true := by simp [h2]
   have g2 : (sn == t.seq - 1) = true := by simp [h2]
   clear OA OB OC h2
   refine wp_region_held_drew (S := fun u' => Below wb.heap.size wb u' ∧ u'.cell? ⟨w.heap.size, 0, none⟩ = some (.int .i64 t.node) ∧ u'.cell? ⟨w.heap.size, 1, none⟩ = some (.int .i64 t.seq) ∧ u'.cell? ⟨w.heap.size, 2, none⟩ = some (.slice da dn dc)) (by kernel_rfl) ?_ (fun hHeld => ?_)
   ·(exact KE.out _ (Below.refl _ _).drew)
   simp only [List.size_toArray, List.length_cons, List.length_nil, Nat.zero_add, Nat.reduceAdd]
   refine tkB (i := 0) hHeld ?_
   refine tkB (i := 1) hHeld ?_
   refine tkB (i := 2) hHeld ?_
   refine tkB (i := 3) hHeld ?_
   refine tkB (i := 4) hHeld ?_
   refine tkB (i := 5) hHeld ?_
   refine tkB (i := 6) hHeld ?_
   refine tkB (i := 7) hHeld ?_
   refine tkB (i := 8) hHeld ?_
   refine tkB (i := 9) hHeld ?_
   refine wpAnyH_ready (rs := [10]) (by kernel_rfl) (by simp) ?_
   refine AllReadyH.cons rfl (fun K hK => ?_) AllReadyH.nil
   go_simp
   refine (KA.out _ hHeld.1).mono ?_
   rintro e s1 ⟨rfl, hb⟩
   refine hK.out _ _ (KE.out _ (holdC hHeld hb)) (fun hHeld => ?_)
   clear hK K hb
   refine tkB (i := 11) hHeld ?_
   refine tkB (i := 12) hHeld ?_
   refine tkB (i := 13) hHeld ?_
   refine tkB (i := 14) hHeld ?_
   refine tkB (i := 15) hHeld ?_
   refine tkB (i := 16) hHeld ?_
   refine wpAnyH_ready (rs := [17]) (by kernel_rfl) (by simp) ?_
   refine AllReadyH.cons rfl (fun K hK => ?_) AllReadyH.nil
   go_simp
   refine (KW.out _ hHeld.1).mono ?_
   rintro e s2 ⟨rfl, hb⟩
   refine hK.out _ _ (KE.out _ (holdC hHeld hb)) (fun hHeld => ?_)
   clear hK K hb
   refine tkB (i := 18) hHeld ?_
   refine tkB (i := 19) hHeld ?_
   refine wpAnyH_done (by kernel_rfl) ?_ _
   have GZ : Hid (Below wb.heap.size wb _) := Lib.hid hHeld.1
   clear hHeld
   go_wp2_with fail
   go_ret
   exact ⟨by rw [RR.out]; rfl, HB.out.trans (GZ.out.mono HB.out.size)⟩
  ·have RR := Lib.hid (OB.out h2)
   have g1 : (t.seq - 1 == sn) = false := by simp; exact fun e => h2 e.symm
   have g2 : (sn == t.seq - 1) = false := by simp; exact h2
   clear OA OB OC h2
   refine wp_region_held_drew (S := fun u' => Below wb.heap.size wb u' ∧ u'.cell? ⟨w.heap.size, 0, none⟩ = some (.int .i64 t.node) ∧ u'.cell? ⟨w.heap.size, 1, none⟩ = some (.int .i64 t.seq) ∧ u'.cell? ⟨w.heap.size, 2, none⟩ = some (.slice da dn dc)) (by kernel_rfl) ?_ (fun hHeld => ?_)
   ·(exact KE.out _ (Below.refl _ _).drew)
   simp only [List.size_toArray, List.length_cons, List.length_nil, Nat.zero_add, Nat.reduceAdd]
   refine tkB (i := 0) hHeld ?_
   refine tkB (i := 1) hHeld ?_
   refine tkB (i := 2) hHeld ?_
   refine tkB (i := 3) hHeld ?_
   refine tkB (i := 4) hHeld ?_
   refine tkB (i := 5) hHeld ?_
   refine tkB (i := 6) hHeld ?_
   refine tkB (i := 7) hHeld ?_
   refine tkB (i := 8) hHeld ?_
   refine tkB (i := 9) hHeld ?_
   refine wpAnyH_ready (rs := [10]) (by kernel_rfl) (by simp) ?_
   refine AllReadyH.cons rfl (fun K hK => ?_) AllReadyH.nil
   go_simp
   refine (KA.out _ hHeld.1).mono ?_
   rintro e s1 ⟨rfl, hb⟩
   refine hK.out _ _ (KE.out _ (holdC hHeld hb)) (fun hHeld => ?_)
   clear hK K hb
   refine tkB (i := 11) hHeld ?_
   refine tkB (i := 12) hHeld ?_
   refine tkB (i := 13) hHeld ?_
   refine tkS (i := 14) hHeld ?_
   refine tkS (i := 15) hHeld ?_
   refine tkS (i := 16) hHeld ?_
   refine tkS (i := 17) hHeld ?_
   refine tkB (i := 18) hHeld ?_
   refine tkB (i := 19) hHeld ?_
   refine wpAnyH_done (by kernel_rfl) ?_ _
   have GZ : Hid (Below wb.heap.size wb _) := Lib.hid hHeld.1
   clear hHeld
   go_wp2_with fail
   go_ret
   exact ⟨by rw [RR.out]; rfl, HB.out.trans (GZ.out.mono HB.out.size)⟩
 ·have RR := Lib.hid (OA.out h1)
  have h3 : decide (1 ≤ t.seq) = false := decide_eq_false h1
  have h4 : decide (0 < t.seq) = false := decide_eq_false (show ¬ 0 < t.seq by omega)
  clear OA OB OC
  refine wp_region_held_drew (S := fun u' => Below wb.heap.size wb u' ∧ u'.cell? ⟨w.heap.size, 0, none⟩ = some (.int .i64 t.node) ∧ u'.cell? ⟨w.heap.size, 1, none⟩ = some (.int .i64 t.seq) ∧ u'.cell? ⟨w.heap.size, 2, none⟩ = some (.slice da dn dc)) (by kernel_rfl) ?_ (fun hHeld => ?_)
  ·(exact KE.out _ (Below.refl _ _).drew)
  simp only [List.size_toArray, List.length_cons, List.length_nil, Nat.zero_add, Nat.reduceAdd]
  refine tkB (i := 0) hHeld ?_
  refine tkB (i := 1) hHeld ?_
  refine tkB (i := 2) hHeld ?_
  refine tkB (i := 3) hHeld ?_
  refine tkS (i := 4) hHeld ?_
  refine tkS (i := 5) hHeld ?_
  refine tkS (i := 6) hHeld ?_
  refine tkS (i := 7) hHeld ?_
  refine tkS (i := 8) hHeld ?_
  refine tkS (i := 9) hHeld ?_
  refine tkS (i := 10) hHeld ?_
  refine tkS (i := 11) hHeld ?_
  refine tkB (i := 12) hHeld ?_
  refine tkB (i := 13) hHeld ?_
  refine tkS (i := 14) hHeld ?_
  refine tkS (i := 15) hHeld ?_
  refine tkS (i := 16) hHeld ?_
  refine tkS (i := 17) hHeld ?_
  refine tkB (i := 18) hHeld ?_
  refine tkB (i := 19) hHeld ?_
  refine wpAnyH_done (by kernel_rfl) ?_ _
  have GZ : Hid (Below wb.heap.size wb _) := Lib.hid hHeld.1
  clear hHeld
  go_wp2_with fail
  go_ret
  exact ⟨by rw [RR.out]; rfl, HB.out.trans (GZ.out.mono HB.out.size)⟩

set_option maxRecDepth 100000 in
set_option maxHeartbeats 8000000 in
theorem oreadyR_any {vv tv : Value} {xs : Ints} {t : PTxn} {w : World} (hv : SeqI w vv xs) (ht : IsTxn w tv t) (hl : xs.length ≤ 1000000) (hd : t.deps.length ≤ 1000000) (hs : t.seq ≤ 9223372036854775807) :
  Calls Tryz.prog 34 #[vv, tv] w (GivesB w (oReady xs t)) := by
 obtain ⟨da, dn, dc, ea, en, ec, rfl, k1, k2⟩ := ht.parts
 obtain ⟨av, cv, rfl, -, -, -, hv'⟩ := hv.parts
 have KB := txbox_new k1 k2
 have hb := (Below.refl w.heap.size w).alloc (Nat.le_refl _) (.cells #[.int .i64 t.node, .int .i64 t.seq, .slice da dn dc, .slice ea en ec] 29)
 have HV := hv'.below hb
 have HB := Lib.hid hb
 clear hv ht hv' k1 k2 hb
 go_enter Tryz.func34, Tryz.ntmps34
 go_upto_region 1 with fail
 generalize (w.alloc (.cells #[.int .i64 t.node, .int .i64 t.seq, .slice da dn dc, .slice ea en ec] 29)) = wb at *
 have KE : Hid (∀ u, Below wb.heap.size wb u → Below wb.heap.size wb u ∧ u.cell? ⟨w.heap.size, 0, none⟩ = some (.int .i64 t.node) ∧ u.cell? ⟨w.heap.size, 1, none⟩ = some (.int .i64 t.seq) ∧ u.cell? ⟨w.heap.size, 2, none⟩ = some (.slice da dn dc)) := Lib.hid (fun u h => ⟨h, (KB.below h).c.1, (KB.below h).c.2.1, (KB.below h).c.2.2.1⟩)
 have KA : Hid (∀ u, Below wb.heap.size wb u → Calls Tryz.prog 58 #[.slice av xs.length cv, .int .i64 t.node] u fun e w' => e = .returned (.int .i64 (saysI xs t.node)) ∧ Below u.heap.size u w') := Lib.hid (fun u h => Calls.tell (vc_rat_any (HV.below h) t.node))
 have KW : Hid (∀ u, Below wb.heap.size wb u → Calls Tryz.prog 20 #[.slice da dn dc, .slice av xs.length cv] u fun e w' => e = .returned (.bool (within t.deps xs)) ∧ Below u.heap.size u w') := Lib.hid (fun u h => vc_rwithin_any (seqI_of ((KB.below h).d)) (HV.below h) hd hl)
 have OA := Lib.hid (oready_seq (v := xs) (t := t))
 have OB := Lib.hid (oready_at (v := xs) (t := t))
 have OC := Lib.hid (oready_in (v := xs) (t := t))
 clear KB HV hd hl
 generalize xs.length = nv at *
 generalize oReady xs t = r at *
 generalize within t.deps xs = wi at *
 generalize saysI xs t.node = sn at *
 by_cases h1 : 1 ≤ t.seq
 ·have e1 := seq_wrap h1 hs
  have h3 : decide (1 ≤ t.seq) = true := decide_eq_true h1
  have h4 : decide (0 < t.seq) = true := decide_eq_true (show 0 < t.seq by omega)
  by_cases h2 : sn = t.seq - 1
  ·have RR := Lib.hid (OC.out h1 h2)
   have g1 : (t.seq - 1 == sn) = true := by simp [h2]
   have g2 : (sn == t.seq - 1) = true := by simp [h2]
   clear OA OB OC h2
   refine wp_region_held_drew (S := fun u' => Below wb.heap.size wb u' ∧ u'.cell? ⟨w.heap.size, 0, none⟩ = some (.int .i64 t.node) ∧ u'.cell? ⟨w.heap.size, 1, none⟩ = some (.int .i64 t.seq) ∧ u'.cell? ⟨w.heap.size, 2, none⟩ = some (.slice da dn dc)) (by kernel_rfl) ?_ (fun hHeld => ?_)
   ·(exact KE.out _ (Below.refl _ _).drew)
   simp only [List.size_toArray, List.length_cons, List.length_nil, Nat.zero_add, Nat.reduceAdd]
   refine tkB (i := 0) hHeld ?_
   refine tkB (i := 1) hHeld ?_
   refine tkB (i := 2) hHeld ?_
   refine tkB (i := 3) hHeld ?_
   refine tkB (i := 4) hHeld ?_
   refine tkB (i := 5) hHeld ?_
   refine tkB (i := 6) hHeld ?_
   refine tkB (i := 8) hHeld ?_
   refine tkB (i := 9) hHeld ?_
   refine tkB (i := 10) hHeld ?_
   refine wpAnyH_ready (rs := [7]) (by kernel_rfl) (by simp) ?_
   refine AllReadyH.cons rfl (fun K hK => ?_) AllReadyH.nil
   go_simp
   refine (KA.out _ hHeld.1).mono ?_
   rintro e s1 ⟨rfl, hb⟩
   refine hK.out _ _ (KE.out _ (holdC hHeld hb)) (fun hHeld => ?_)
   clear hK K hb
   refine tkB (i := 11) hHeld ?_
   refine tkB (i := 12) hHeld ?_
   refine tkB (i := 13) hHeld ?_
   refine tkB (i := 14) hHeld ?_
   refine tkB (i := 15) hHeld ?_
   refine tkB (i := 16) hHeld ?_
   refine wpAnyH_ready (rs := [17]) (by kernel_rfl) (by simp) ?_
   refine AllReadyH.cons rfl (fun K hK => ?_) AllReadyH.nil
   go_simp
   refine (KW.out _ hHeld.1).mono ?_
   rintro e s2 ⟨rfl, hb⟩
   refine hK.out _ _ (KE.out _ (holdC hHeld hb)) (fun hHeld => ?_)
   clear hK K hb
   refine tkB (i := 18) hHeld ?_
   refine tkB (i := 19) hHeld ?_
   refine wpAnyH_done (by kernel_rfl) ?_ _
   have GZ : Hid (Below wb.heap.size wb _) := Lib.hid hHeld.1
   clear hHeld
   go_wp2_with fail
   go_ret
   exact ⟨by rw [RR.out]; rfl, HB.out.trans (GZ.out.mono HB.out.size)⟩
  ·have RR := Lib.hid (OB.out h2)
   have g1 : (t.seq - 1 == sn) = false := by simp; exact fun e => h2 e.symm
   have g2 : (sn == t.seq - 1) = false := by simp; exact h2
   clear OA OB OC h2
   refine wp_region_held_drew (S := fun u' => Below wb.heap.size wb u' ∧ u'.cell? ⟨w.heap.size, 0, none⟩ = some (.int .i64 t.node) ∧ u'.cell? ⟨w.heap.size, 1, none⟩ = some (.int .i64 t.seq) ∧ u'.cell? ⟨w.heap.size, 2, none⟩ = some (.slice da dn dc)) (by kernel_rfl) ?_ (fun hHeld => ?_)
   ·(exact KE.out _ (Below.refl _ _).drew)
   simp only [List.size_toArray, List.length_cons, List.length_nil, Nat.zero_add, Nat.reduceAdd]
   refine tkB (i := 0) hHeld ?_
   refine tkB (i := 1) hHeld ?_
   refine tkB (i := 2) hHeld ?_
   refine tkB (i := 3) hHeld ?_
   refine tkB (i := 4) hHeld ?_
   refine tkB (i := 5) hHeld ?_
   refine tkB (i := 6) hHeld ?_
   refine tkB (i := 8) hHeld ?_
   refine tkB (i := 9) hHeld ?_
   refine tkB (i := 10) hHeld ?_
   refine wpAnyH_ready (rs := [7]) (by kernel_rfl) (by simp) ?_
   refine AllReadyH.cons rfl (fun K hK => ?_) AllReadyH.nil
   go_simp
   refine (KA.out _ hHeld.1).mono ?_
   rintro e s1 ⟨rfl, hb⟩
   refine hK.out _ _ (KE.out _ (holdC hHeld hb)) (fun hHeld => ?_)
   clear hK K hb
   refine tkB (i := 11) hHeld ?_
   refine tkB (i := 12) hHeld ?_
   refine tkB (i := 13) hHeld ?_
   refine tkS (i := 14) hHeld ?_
   refine tkS (i := 15) hHeld ?_
   refine tkS (i := 16) hHeld ?_
   refine tkS (i := 17) hHeld ?_
   refine tkB (i := 18) hHeld ?_
   refine tkB (i := 19) hHeld ?_
   refine wpAnyH_done (by kernel_rfl) ?_ _
   have GZ : Hid (Below wb.heap.size wb _) := Lib.hid hHeld.1
   clear hHeld
   go_wp2_with fail
   go_ret
   exact ⟨by rw [RR.out]; rfl, HB.out.trans (GZ.out.mono HB.out.size)⟩
 ·have RR := Lib.hid (OA.out h1)
  have h3 : decide (1 ≤ t.seq) = false := decide_eq_false h1
  have h4 : decide (0 < t.seq) = false := decide_eq_false (show ¬ 0 < t.seq by omega)
  clear OA OB OC
  refine wp_region_held_drew (S := fun u' => Below wb.heap.size wb u' ∧ u'.cell? ⟨w.heap.size, 0, none⟩ = some (.int .i64 t.node) ∧ u'.cell? ⟨w.heap.size, 1, none⟩ = some (.int .i64 t.seq) ∧ u'.cell? ⟨w.heap.size, 2, none⟩ = some (.slice da dn dc)) (by kernel_rfl) ?_ (fun hHeld => ?_)
  ·(exact KE.out _ (Below.refl _ _).drew)
  simp only [List.size_toArray, List.length_cons, List.length_nil, Nat.zero_add, Nat.reduceAdd]
  refine tkB (i := 0) hHeld ?_
  refine tkB (i := 1) hHeld ?_
  refine tkB (i := 2) hHeld ?_
  refine tkB (i := 3) hHeld ?_
  refine tkS (i := 4) hHeld ?_
  refine tkS (i := 5) hHeld ?_
  refine tkS (i := 6) hHeld ?_
  refine tkS (i := 8) hHeld ?_
  refine tkS (i := 9) hHeld ?_
  refine tkS (i := 10) hHeld ?_
  refine tkS (i := 7) hHeld ?_
  refine tkS (i := 11) hHeld ?_
  refine tkB (i := 12) hHeld ?_
  refine tkB (i := 13) hHeld ?_
  refine tkS (i := 14) hHeld ?_
  refine tkS (i := 15) hHeld ?_
  refine tkS (i := 16) hHeld ?_
  refine tkS (i := 17) hHeld ?_
  refine tkB (i := 18) hHeld ?_
  refine tkB (i := 19) hHeld ?_
  refine wpAnyH_done (by kernel_rfl) ?_ _
  have GZ : Hid (Below wb.heap.size wb _) := Lib.hid hHeld.1
  clear hHeld
  go_wp2_with fail
  go_ret
  exact ⟨by rw [RR.out]; rfl, HB.out.trans (GZ.out.mono HB.out.size)⟩

set_option maxRecDepth 100000 in
set_option maxHeartbeats 4000000 in
theorem onextP_any {vv tv : Value} {xs : Ints} {t : PTxn} {w : World} (hv : SeqI w vv xs) (ht : IsTxn w tv t) (hl : xs.length ≤ 1000000) :
  Calls Tryz.prog 43 #[vv, tv] w (MadeI w (oNext xs t)) := by
 obtain ⟨da, dn, dc, ea, en, ec, rfl, k1, k2⟩ := ht.parts
 obtain ⟨av, cv, rfl, -, -, -, hv'⟩ := hv.parts
 obtain ⟨⟨c0, c1, -, -⟩, -, -⟩ := txbox_new k1 k2
 have hb := (Below.refl w.heap.size w).alloc (Nat.le_refl _) (.cells #[.int .i64 t.node, .int .i64 t.seq, .slice da dn dc, .slice ea en ec] 29)
 have HV := Lib.hid (hv'.below hb)
 have HB := Lib.hid hb
 clear hv ht hv' k1 k2 hb
 go_enter Tryz.func43, Tryz.ntmps43
 go_upto_region 1 with fail
 generalize (w.alloc (.cells #[.int .i64 t.node, .int .i64 t.seq, .slice da dn dc, .slice ea en ec] 29)) = wb at *
 by_cases hq : oValid t = true
 ·have RR : Hid (oNext xs t = withN xs t.node.toNat t.seq) := Lib.hid (by unfold oNext; rw [if_pos hq])
  have HL := Lib.hid hl
  obtain ⟨⟨q1, q2⟩, q3, q4⟩ := oValid_iff.1 hq
  have KW := Lib.hid (vc_with_ok HV.out hl (k0 := t.node.toNat) (by omega) q3 q4)
  rw [show ((t.node.toNat : Nat) : Int) = t.node by omega] at KW
  generalize withN xs t.node.toNat t.seq = ys at *
  generalize xs.length = nv at *
  clear hq hl q1 q2 q3 q4
  go_wp2_with fail
  refine KW.out.mono ?_
  rintro e w1 ⟨u, rfl, ho, hb1⟩
  obtain ⟨ua, uc, rfl, -, -, ho, -⟩ := ho.parts
  have HO := Lib.hid ho
  have H1 := Lib.hid hb1
  clear ho hb1 KW c0 c1
  go_wp2_with fail
  go_ret
  have Z := HO.out.mono HB.out.size
  exact ⟨_, rfl, by rw [RR.out]; exact Z, HB.out.trans (H1.out.mono HB.out.size)⟩
 ·have RR : Hid (oNext xs t = trim xs) := Lib.hid (by unfold oNext; rw [if_neg hq])
  have hq' : t.node < 0 ∨ 8 ≤ t.node ∨ t.seq < 0 ∨ 1073741824 < t.seq := by
   refine Decidable.byContradiction fun h => hq (oValid_iff.2 ?_)
   omega
  have KW := Lib.hid (vc_with_err HV.out t.node t.seq hq')
  have KT := Lib.hid (fun u (h : Below wb.heap.size wb u) => vc_trim_any (HV.out.below h) hl)
  generalize trim xs = ys at *
  generalize xs.length = nv at *
  clear hq hq' hl
  go_wp2_with fail
  refine KW.out.mono ?_
  rintro e w1 ⟨rfl, hb1⟩
  have H1 := Lib.hid hb1
  have KT2 := Lib.hid (KT.out _ H1.out)
  clear hb1 KW KT c0 c1
  go_wp2_with fail
  refine KT2.out.mono ?_
  rintro e w2 ⟨u, rfl, ho, hb2⟩
  obtain ⟨ua, uc, rfl, -, -, ho, -⟩ := ho.parts
  have HO := Lib.hid ho
  have H2 := Lib.hid hb2
  clear ho hb2 KT2
  go_wp2_with fail
  go_ret
  have Z := HO.out.mono (Nat.le_trans HB.out.size H1.out.size)
  exact ⟨_, rfl, by rw [RR.out]; exact Z, HB.out.trans ((H1.out.trans (H2.out.mono H1.out.size)).mono HB.out.size)⟩

set_option maxRecDepth 100000 in
set_option maxHeartbeats 4000000 in
theorem onextR_any {vv tv : Value} {xs : Ints} {t : PTxn} {w : World} (hv : SeqI w vv xs) (ht : IsTxn w tv t) (hl : xs.length ≤ 1000000) :
  Calls Tryz.prog 42 #[vv, tv] w (MadeI w (oNext xs t)) := by
 obtain ⟨da, dn, dc, ea, en, ec, rfl, k1, k2⟩ := ht.parts
 obtain ⟨av, cv, rfl, -, -, -, hv'⟩ := hv.parts
 obtain ⟨⟨c0, c1, -, -⟩, -, -⟩ := txbox_new k1 k2
 have hb := (Below.refl w.heap.size w).alloc (Nat.le_refl _) (.cells #[.int .i64 t.node, .int .i64 t.seq, .slice da dn dc, .slice ea en ec] 29)
 have HV := Lib.hid (hv'.below hb)
 have HB := Lib.hid hb
 clear hv ht hv' k1 k2 hb
 go_enter Tryz.func42, Tryz.ntmps42
 go_upto_region 1 with fail
 generalize (w.alloc (.cells #[.int .i64 t.node, .int .i64 t.seq, .slice da dn dc, .slice ea en ec] 29)) = wb at *
 by_cases hq : oValid t = true
 ·have RR : Hid (oNext xs t = withN xs t.node.toNat t.seq) := Lib.hid (by unfold oNext; rw [if_pos hq])
  have HL := Lib.hid hl
  obtain ⟨⟨q1, q2⟩, q3, q4⟩ := oValid_iff.1 hq
  have KW := Lib.hid (vc_rwith_ok HV.out hl (k0 := t.node.toNat) (by omega) q3 q4)
  rw [show ((t.node.toNat : Nat) : Int) = t.node by omega] at KW
  generalize withN xs t.node.toNat t.seq = ys at *
  generalize xs.length = nv at *
  clear hq hl q1 q2 q3 q4
  go_wp2_with fail
  refine KW.out.mono ?_
  rintro e w1 ⟨u, rfl, ho, hb1⟩
  obtain ⟨ua, uc, rfl, -, -, ho, -⟩ := ho.parts
  have HO := Lib.hid ho
  have H1 := Lib.hid hb1
  clear ho hb1 KW c0 c1
  go_wp2_with fail
  go_ret
  have Z := HO.out.mono HB.out.size
  exact ⟨_, rfl, by rw [RR.out]; exact Z, HB.out.trans (H1.out.mono HB.out.size)⟩
 ·have RR : Hid (oNext xs t = trim xs) := Lib.hid (by unfold oNext; rw [if_neg hq])
  have hq' : t.node < 0 ∨ 7 < t.node ∨ t.seq < 0 ∨ 1073741824 < t.seq := by
   refine Decidable.byContradiction fun h => hq (oValid_iff.2 ?_)
   omega
  have KW := Lib.hid (vc_rwith_err (.slice av xs.length cv) t.node t.seq wb hq')
  have KT := Lib.hid (fun u (h : Below wb.heap.size wb u) => vc_rtrim_any (HV.out.below h) hl)
  generalize trim xs = ys at *
  generalize xs.length = nv at *
  clear hq hq' hl
  go_wp2_with fail
  refine KW.out.mono ?_
  rintro e w1 ⟨rfl, hb1⟩
  obtain ⟨m, rfl⟩ := hb1
  have H1 := Lib.hid (below_drewN (Below.refl wb.heap.size wb) m)
  have KT2 := Lib.hid (KT.out _ H1.out)
  clear KW KT c0 c1
  go_wp2_with fail
  refine KT2.out.mono ?_
  rintro e w2 ⟨u, rfl, ho, hb2⟩
  obtain ⟨ua, uc, rfl, -, -, ho, -⟩ := ho.parts
  have HO := Lib.hid ho
  have H2 := Lib.hid hb2
  clear ho hb2 KT2
  go_wp2_with fail
  go_ret
  have Z := HO.out.mono (Nat.le_trans HB.out.size H1.out.size)
  exact ⟨_, rfl, by rw [RR.out]; exact Z, HB.out.trans ((H1.out.trans (H2.out.mono H1.out.size)).mono HB.out.size)⟩
end Go.Proofs.YtajfliemmfdnhaaGreat
