/- What the program's own Sound of a past leaves. (Written by gen-prog.py.) -/
import Derived.Test.YtajfliemmfdnhaaGreatPaEnd
import Derived.Test.YtajfliemmfdnhaaGreatPaSin
import Derived.Test.YtajfliemmfdnhaaGreatPaLists
import Derived.Test.YtajfliemmfdnhaaGreatTxDeps
import Derived.Test.YtajfliemmfdnhaaGreatVcAll
import Derived.Deep.RegionHeld3
import Derived.Deep.DeepCutAuto
namespace Go.Proofs.YtajfliemmfdnhaaGreat
open Go.RowKit Plain
set_option linter.unusedVariables false


theorem paEntersU : ∀ args w, (callFunc 35 args).run Tryz.prog w = .ok (.enter 35 args) w := enters_of Tryz.func35 (by kernel_rfl) rfl
set_option maxRecDepth 100000 in
set_option maxHeartbeats 4000000 in
theorem paUnformed {W : World} {t : PTxn} {tv : Value} (ht : IsTxn W tv t) (hf : FitTx t) : Calls Tryz.prog 35 (#[tv] ++ #[]) W (GivesB W (pUnformed t)) := by
 obtain ⟨da, dn, dc, ea, en, ec, rfl, k1, k2⟩ := ht.parts
 show Calls Tryz.prog 35 #[.agg #[.int .i64 t.node, .int .i64 t.seq, .slice da dn dc, .slice ea en ec]] W _
 have BE := Lib.hid ((Below.refl W.heap.size W).alloc (Nat.le_refl _) (.cells #[.int .i64 t.node, .int .i64 t.seq, .slice da dn dc, .slice ea en ec] 29))
 have TB := Lib.hid (txbox_new (w := W) (t := t) k1 k2)
 have KF := Lib.hid (txformedP TB.out.is hf _ rfl)
 have HU : Hid (pUnformed t = !tformedB t) := Lib.hid rfl
 clear ht k1 k2 hf
 generalize tformedB t = r at *
 generalize pUnformed t = r2 at *
 go_enter Tryz.func35, Tryz.ntmps35
 go_upto_region 1 with fail
 generalize (W.alloc (.cells #[.int .i64 t.node, .int .i64 t.seq, .slice da dn dc, .slice ea en ec] 29)) = wd at *
 obtain ⟨c0, c1, c2, c3⟩ := TB.out.c
 go_wp2_with fail
 refine KF.out.mono ?_
 rintro e w2 ⟨rfl, hb⟩
 have G2 := Lib.hid (BE.out.trans (hb.mono BE.out.size))
 clear hb KF c0 c1 c2 c3
 obtain rfl := HU.out
 go_wp2_with fail
 go_ret
 exact ⟨rfl, G2.out⟩
set_option maxRecDepth 100000 in
set_option maxHeartbeats 16000000 in
theorem pasound_any {v : Value} {p : PPast} {w : World} (h : IsPast w v p) (hl : p.floor.length ≤ 1000000) (hn : p.list.length ≤ 1000000) (hf : ∀ x ∈ p.list, FitTx x) (r : Bool) (hr : pSound p = r) : Calls Tryz.prog 12 #[v] w (GivesB w r) := by
 obtain ⟨fa, fn, fc, la, ln, lc, rfl, h1, h2⟩ := h.slices
 have PB := Lib.hid (pabox_new (p := p) h1 h2)
 have B0 := Lib.hid ((Below.refl w.heap.size w).alloc (Nat.le_refl _) (.cells #[.slice fa fn fc, .slice la ln lc] 26))
 have HFD := Lib.hid h1.dims
 obtain ⟨m, hm⟩ : ∃ m, m = min fn 8 := ⟨_, rfl⟩
 rw [← pSound_way] at hr
 subst hr
 have F8 : Hid (∀ u, Below (w.alloc (.cells #[.slice fa fn fc, .slice la ln lc] 26)).heap.size (w.alloc (.cells #[.slice fa fn fc, .slice la ln lc] 26)) u → SeqI u (.slice fa m fc) (p.floor.take 8)) := Lib.hid (fun u hb => by
  have h8 := (seqI_of (PB.out.below hb).f).first m (by have := HFD.out.1; omega)
  rwa [show p.floor.take m = p.floor.take 8 by
   by_cases h : fn ≤ 8
   ·rw [List.take_of_length_le (show p.floor.length ≤ m by have := HFD.out.1; omega), List.take_of_length_le (by have := HFD.out.1; omega)]
   ·rw [show m = 8 by omega]] at h8)
 have KE : Hid (∀ u, Below (w.alloc (.cells #[.slice fa fn fc, .slice la ln lc] 26)).heap.size (w.alloc (.cells #[.slice fa fn fc, .slice la ln lc] 26)) u → Below (w.alloc (.cells #[.slice fa fn fc, .slice la ln lc] 26)).heap.size (w.alloc (.cells #[.slice fa fn fc, .slice la ln lc] 26)) u ∧ (u.cell? ⟨w.heap.size, 0, none⟩ = some (.slice fa fn fc) ∧ u.cell? ⟨w.heap.size, 1, none⟩ = some (.slice la ln lc))) := Lib.hid (fun u hb => ⟨hb, (PB.out.below hb).c⟩)
 have KT := Lib.hid (fun u (hb : Below (w.alloc (.cells #[.slice fa fn fc, .slice la ln lc] 26)).heap.size (w.alloc (.cells #[.slice fa fn fc, .slice la ln lc] 26)) u) => vc_trim_any (seqI_of (PB.out.below hb).f) hl)
 have KQ := Lib.hid (fun u tv (hb : Below (w.alloc (.cells #[.slice fa fn fc, .slice la ln lc] 26)).heap.size (w.alloc (.cells #[.slice fa fn fc, .slice la ln lc] 26)) u) (hs : SeqI u tv (trim p.floor)) => (tsequal_any (seqI_of (PB.out.below hb).f) hs).mono (fun e w' (k : e = .returned (.bool (decide (p.floor = trim p.floor))) ∧ ∃ n, w' = u.drewN n) => (⟨k.1, below_of_drawn k.2⟩ : GivesB u (decide (p.floor = trim p.floor)) e w')))
 have KC := Lib.hid (fun u (hb : Below (w.alloc (.cells #[.slice fa fn fc, .slice la ln lc] 26)).heap.size (w.alloc (.cells #[.slice fa fn fc, .slice la ln lc] 26)) u) => txcontains_any (PB.out.below hb).l hn pUnformed 35 #[] paEntersU (fun W d tv hd _ ht => paUnformed ht (hf d hd)))
 have KO := Lib.hid (fun u (hb : Below (w.alloc (.cells #[.slice fa fn fc, .slice la ln lc] 26)).heap.size (w.alloc (.cells #[.slice fa fn fc, .slice la ln lc] 26)) u) => (ofnodes_any (a := fa) (w := u) hm HFD.out.2.1).mono (fun e w' (k : e = .returned (.slice fa m fc) ∧ u = w') => (⟨k.1, below_of_same k.2⟩ : e = .returned (.slice fa m fc) ∧ Below u.heap.size u w')))
 have KH := Lib.hid (fun u (hb : Below (w.alloc (.cells #[.slice fa fn fc, .slice la ln lc] 26)).heap.size (w.alloc (.cells #[.slice fa fn fc, .slice la ln lc] 26)) u) => chainP_any (F8.out u hb) (PB.out.below hb).l hn (fun t ht => (hf t ht).w) (by rw [List.length_take]; omega))
 clear h h1 h2 hl hn hf PB F8 hm HFD
 generalize oChain (p.floor.take 8) p.list = r3 at *
 generalize p.list.any pUnformed = r2 at *
 generalize decide (p.floor = trim p.floor) = r1 at *
 generalize trim p.floor = tf at *
 go_enter Tryz.func12, Tryz.ntmps12
 go_upto_region 2 with fail
 generalize (w.alloc (.cells #[.slice fa fn fc, .slice la ln lc] 26)) = wb at *
 cases r1 with
 | false =>
  refine wp_region_held_drew (S := fun u' => Below wb.heap.size wb u' ∧ (u'.cell? ⟨w.heap.size, 0, none⟩ = some (.slice fa fn fc) ∧ u'.cell? ⟨w.heap.size, 1, none⟩ = some (.slice la ln lc))) (by kernel_rfl) ?_ (fun hHeld => ?_)
  ·(exact KE.out _ (Below.refl _ _).drew)
  simp only [List.size_toArray, List.length_cons, List.length_nil, Nat.zero_add, Nat.reduceAdd]
  refine tkB (i := 0) hHeld ?_
  refine tkB (i := 1) hHeld ?_
  refine tkB (i := 2) hHeld ?_
  refine tkB (i := 3) hHeld ?_
  refine wpAnyH_ready (rs := [4]) (by kernel_rfl) (by simp) ?_
  refine AllReadyH.cons rfl (fun K hK => ?_) AllReadyH.nil
  go_simp
  refine (KT.out _ hHeld.1).mono ?_
  rintro e s1 ⟨v1, rfl, ho, hb⟩; have S1 := Lib.hid ho.seq; obtain ⟨a1, c1, rfl, -, -, -, -⟩ := ho.parts; clear ho
  refine hK.out _ _ (KE.out _ (holdC hHeld hb)) (fun hHeld => ?_)
  clear hK K hb
  refine wpAnyH_ready (rs := [5]) (by kernel_rfl) (by simp) ?_
  refine AllReadyH.cons rfl (fun K hK => ?_) AllReadyH.nil
  go_simp
  refine (KQ.out _ _ hHeld.1 S1.out).mono ?_
  rintro e s2 ⟨rfl, hb⟩
  refine hK.out _ _ (KE.out _ (holdC hHeld hb)) (fun hHeld => ?_)
  clear hK K hb
  refine tkB (i := 6) hHeld ?_
  refine tkS (i := 7) hHeld ?_
  refine tkS (i := 8) hHeld ?_
  refine tkS (i := 9) hHeld ?_
  refine tkS (i := 10) hHeld ?_
  refine tkS (i := 11) hHeld ?_
  refine tkB (i := 12) hHeld ?_
  refine tkB (i := 13) hHeld ?_
  refine tkS (i := 14) hHeld ?_
  refine tkS (i := 15) hHeld ?_
  refine tkS (i := 17) hHeld ?_
  refine tkS (i := 18) hHeld ?_
  refine tkS (i := 16) hHeld ?_
  refine tkS (i := 19) hHeld ?_
  refine tkB (i := 20) hHeld ?_
  refine tkB (i := 21) hHeld ?_
  refine wpAnyH_done (by kernel_rfl) ?_ _
  have GZ := Lib.hid hHeld.1
  clear hHeld
  go_wp2_with fail
  go_ret
  exact ⟨rfl, B0.out.trans (GZ.out.mono B0.out.size)⟩
 | true =>
  cases r2 with
  | true =>
   refine wp_region_held_drew (S := fun u' => Below wb.heap.size wb u' ∧ (u'.cell? ⟨w.heap.size, 0, none⟩ = some (.slice fa fn fc) ∧ u'.cell? ⟨w.heap.size, 1, none⟩ = some (.slice la ln lc))) (by kernel_rfl) ?_ (fun hHeld => ?_)
   ·(exact KE.out _ (Below.refl _ _).drew)
   simp only [List.size_toArray, List.length_cons, List.length_nil, Nat.zero_add, Nat.reduceAdd]
   refine tkB (i := 0) hHeld ?_
   refine tkB (i := 1) hHeld ?_
   refine tkB (i := 2) hHeld ?_
   refine tkB (i := 3) hHeld ?_
   refine wpAnyH_ready (rs := [4]) (by kernel_rfl) (by simp) ?_
   refine AllReadyH.cons rfl (fun K hK => ?_) AllReadyH.nil
   go_simp
   refine (KT.out _ hHeld.1).mono ?_
   rintro e s1 ⟨v1, rfl, ho, hb⟩; have S1 := Lib.hid ho.seq; obtain ⟨a1, c1, rfl, -, -, -, -⟩ := ho.parts; clear ho
   refine hK.out _ _ (KE.out _ (holdC hHeld hb)) (fun hHeld => ?_)
   clear hK K hb
   refine wpAnyH_ready (rs := [5]) (by kernel_rfl) (by simp) ?_
   refine AllReadyH.cons rfl (fun K hK => ?_) AllReadyH.nil
   go_simp
   refine (KQ.out _ _ hHeld.1 S1.out).mono ?_
   rintro e s2 ⟨rfl, hb⟩
   refine hK.out _ _ (KE.out _ (holdC hHeld hb)) (fun hHeld => ?_)
   clear hK K hb
   refine tkB (i := 6) hHeld ?_
   refine tkB (i := 7) hHeld ?_
   refine tkB (i := 8) hHeld ?_
   refine tkB (i := 9) hHeld ?_
   refine wpAnyH_ready (rs := [10]) (by kernel_rfl) (by simp) ?_
   refine AllReadyH.cons rfl (fun K hK => ?_) AllReadyH.nil
   go_simp
   refine (KC.out _ hHeld.1).mono ?_
   rintro e s3 ⟨rfl, hb⟩
   refine hK.out _ _ (KE.out _ (holdC hHeld hb)) (fun hHeld => ?_)
   clear hK K hb
   refine tkB (i := 11) hHeld ?_
   refine tkB (i := 12) hHeld ?_
   refine tkB (i := 13) hHeld ?_
   refine tkS (i := 14) hHeld ?_
   refine tkS (i := 15) hHeld ?_
   refine tkS (i := 17) hHeld ?_
   refine tkS (i := 18) hHeld ?_
   refine tkS (i := 16) hHeld ?_
   refine tkS (i := 19) hHeld ?_
   refine tkB (i := 20) hHeld ?_
   refine tkB (i := 21) hHeld ?_
   refine wpAnyH_done (by kernel_rfl) ?_ _
   have GZ := Lib.hid hHeld.1
   clear hHeld
   go_wp2_with fail
   go_ret
   exact ⟨rfl, B0.out.trans (GZ.out.mono B0.out.size)⟩
  | false =>
   simp only [Bool.true_and, Bool.not_false] at *
   refine wp_region_held_drew (S := fun u' => Below wb.heap.size wb u' ∧ (u'.cell? ⟨w.heap.size, 0, none⟩ = some (.slice fa fn fc) ∧ u'.cell? ⟨w.heap.size, 1, none⟩ = some (.slice la ln lc))) (by kernel_rfl) ?_ (fun hHeld => ?_)
   ·(exact KE.out _ (Below.refl _ _).drew)
   simp only [List.size_toArray, List.length_cons, List.length_nil, Nat.zero_add, Nat.reduceAdd]
   refine tkB (i := 0) hHeld ?_
   refine tkB (i := 1) hHeld ?_
   refine tkB (i := 2) hHeld ?_
   refine tkB (i := 3) hHeld ?_
   refine wpAnyH_ready (rs := [4]) (by kernel_rfl) (by simp) ?_
   refine AllReadyH.cons rfl (fun K hK => ?_) AllReadyH.nil
   go_simp
   refine (KT.out _ hHeld.1).mono ?_
   rintro e s1 ⟨v1, rfl, ho, hb⟩; have S1 := Lib.hid ho.seq; obtain ⟨a1, c1, rfl, -, -, -, -⟩ := ho.parts; clear ho
   refine hK.out _ _ (KE.out _ (holdC hHeld hb)) (fun hHeld => ?_)
   clear hK K hb
   refine wpAnyH_ready (rs := [5]) (by kernel_rfl) (by simp) ?_
   refine AllReadyH.cons rfl (fun K hK => ?_) AllReadyH.nil
   go_simp
   refine (KQ.out _ _ hHeld.1 S1.out).mono ?_
   rintro e s2 ⟨rfl, hb⟩
   refine hK.out _ _ (KE.out _ (holdC hHeld hb)) (fun hHeld => ?_)
   clear hK K hb
   refine tkB (i := 6) hHeld ?_
   refine tkB (i := 7) hHeld ?_
   refine tkB (i := 8) hHeld ?_
   refine tkB (i := 9) hHeld ?_
   refine wpAnyH_ready (rs := [10]) (by kernel_rfl) (by simp) ?_
   refine AllReadyH.cons rfl (fun K hK => ?_) AllReadyH.nil
   go_simp
   refine (KC.out _ hHeld.1).mono ?_
   rintro e s3 ⟨rfl, hb⟩
   refine hK.out _ _ (KE.out _ (holdC hHeld hb)) (fun hHeld => ?_)
   clear hK K hb
   refine tkB (i := 11) hHeld ?_
   refine tkB (i := 12) hHeld ?_
   refine tkB (i := 13) hHeld ?_
   refine tkB (i := 14) hHeld ?_
   refine tkB (i := 15) hHeld ?_
   refine tkB (i := 17) hHeld ?_
   refine tkB (i := 18) hHeld ?_
   refine wpAnyH_ready (rs := [16]) (by kernel_rfl) (by simp) ?_
   refine AllReadyH.cons rfl (fun K hK => ?_) AllReadyH.nil
   go_simp
   refine (KO.out _ hHeld.1).mono ?_
   rintro e s4 ⟨rfl, hb⟩
   refine hK.out _ _ (KE.out _ (holdC hHeld hb)) (fun hHeld => ?_)
   clear hK K hb
   refine wpAnyH_ready (rs := [19]) (by kernel_rfl) (by simp) ?_
   refine AllReadyH.cons rfl (fun K hK => ?_) AllReadyH.nil
   go_simp
   refine (KH.out _ hHeld.1).mono ?_
   rintro e s5 ⟨rfl, hb⟩
   refine hK.out _ _ (KE.out _ (holdC hHeld hb)) (fun hHeld => ?_)
   clear hK K hb
   refine tkB (i := 20) hHeld ?_
   refine tkB (i := 21) hHeld ?_
   refine wpAnyH_done (by kernel_rfl) ?_ _
   have GZ := Lib.hid hHeld.1
   clear hHeld
   go_wp2_with fail
   go_ret
   exact ⟨rfl, B0.out.trans (GZ.out.mono B0.out.size)⟩
end Go.Proofs.YtajfliemmfdnhaaGreat
