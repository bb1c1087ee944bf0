/- What the program's own isHeard, areOf and Sound of stores leave. (Written by gen-snd.py.) -/
import Derived.Test.YtpnpomocjkmncaaGreatTxDeps
import Derived.Test.YtpnpomocjkmncaaGreatIKeyF
import Derived.Test.YtpnpomocjkmncaaGreatINorms
import Derived.Test.YtpnpomocjkmncaaGreatStItems
import Derived.Test.YtpnpomocjkmncaaGreatStore
import Derived.Deep.RegionHeld3
namespace Go.Proofs.YtpnpomocjkmncaaGreat
open Go.RowKit Plain
set_option linter.unusedVariables false

set_option maxRecDepth 100000 in
set_option maxHeartbeats 1000000 in
theorem stgivesGreat (W : World) (d : Int) : Calls Tryz.prog 77 (#[.int .i64 d] ++ #[]) W (GivesB W (decide (d > 1073741824))) := by
 show Calls Tryz.prog 77 #[.int .i64 d] W _
 go_enter Tryz.func77, Tryz.ntmps77
 go_wp2_with fail
 go_ret
 exact ⟨rfl, Below.refl _ _⟩
set_option maxRecDepth 100000 in
set_option maxHeartbeats 4000000 in
theorem stHeard_any {v : Value} {xs : List Int} {w : World} (hv : SeqI w v xs) (hl : xs.length ≤ 1000000) : Calls Tryz.prog 45 #[v] w (GivesB w (areB xs)) := by
 obtain ⟨a, cap, rfl, g1, g2, g0, h⟩ := hv.parts
 have KT := Lib.hid (vc_trim_any h hl)
 have KE : Hid (∀ (W : World) (u : Value), Below w.heap.size w W → SeqI W u (trim xs) → Calls Tryz.prog 78 #[.slice a xs.length cap, u] W fun e w' => e = .returned (.bool (decide (xs = trim xs))) ∧ ∃ n, w' = W.drewN n) := Lib.hid (fun W u hb hs => tsequal_any (h.below hb) hs)
 have KC : Hid (∀ W, Below w.heap.size w W → Calls Tryz.prog 79 #[.slice a xs.length cap, .func (.func 77) #[] #[]] W (GivesB W (xs.any fun n => decide (n > 1073741824)))) := Lib.hid (fun W hb => tscontains_any (h.below hb) hl _ _ #[] (enters_of Tryz.func77 (by kernel_rfl) rfl) (fun W' d _ => stgivesGreat W' d))
 have HR : Hid (areB xs = (decide (xs.length ≤ 8) && (decide (xs = trim xs) && !xs.any (fun n => decide (n > 1073741824))))) := Lib.hid rfl
 clear hv h g0
 generalize areB xs = r at *
 generalize decide (xs = trim xs) = r1 at *
 generalize (xs.any fun n => decide (n > 1073741824)) = r2 at *
 generalize trim xs = ts at *
 generalize xs.length = n at *
 by_cases hn : n ≤ 8
 ·have hni : (n : Int) ≤ 8 := by omega
  rw [decide_eq_true hn, Bool.true_and] at HR
  clear hn
  go_enter Tryz.func45, Tryz.ntmps45
  go_wp2_with fail
  refine KT.out.mono ?_
  rintro e w1 ⟨v1, rfl, ho, hb⟩
  have B1 := Lib.hid hb
  have KE1 := KE.out w1 v1 hb ho.seq
  obtain ⟨a1, c1, rfl, -, -, -, -⟩ := ho.parts
  clear ho hb KT KE
  generalize ts.length = tn at *
  go_wp2_with fail
  refine KE1.mono ?_
  rintro e w2 ⟨rfl, q, rfl⟩
  have B2 := Lib.hid (below_drewN B1.out q)
  clear KE1
  generalize w1.drewN q = w2 at *
  cases r1 with
  | false =>
   obtain rfl : r = false := HR.out
   go_wp2_with fail
   go_ret
   exact ⟨rfl, B2.out⟩
  | true =>
   rw [Bool.true_and] at HR
   have KC2 := KC.out w2 B2.out
   clear KC
   go_wp2_with fail
   refine KC2.mono ?_
   rintro e w3 ⟨rfl, hb⟩
   have B3 := Lib.hid (B2.out.trans (hb.mono B2.out.size))
   clear hb KC2
   obtain rfl : r = !r2 := HR.out
   go_wp2_with fail
   go_ret
   exact ⟨rfl, B3.out⟩
 ·have hni : ¬ (n : Int) ≤ 8 := by omega
  rw [decide_eq_false hn, Bool.false_and] at HR
  obtain rfl : r = false := HR.out
  clear hn HR
  go_enter Tryz.func45, Tryz.ntmps45
  go_wp2_with fail
  go_ret
  exact ⟨rfl, Below.refl _ _⟩

def stWrong (v : Ints) (x : PItem) : Bool := !formedB x || !(decide (1 ≤ x.dot.seq) && decide (x.dot.seq ≤ saysI v x.dot.node))
theorem stWrong_is (v : Ints) (x : PItem) : stWrong v x = !sItemB v x := by
 unfold stWrong sItemB
 cases h : formedB x with
 | false => rfl
 | true =>
  have h1 : 1 ≤ x.dot.seq := by
   unfold formedB at h
   rw [Bool.and_eq_true] at h
   have := h.1
   unfold dotB at this
   have := of_decide_eq_true this
   omega
  rw [decide_eq_true h1]
  simp
theorem stWrong_any (v : Ints) (l : List PItem) : (!l.any (stWrong v)) = l.all (sItemB v) := by
 rw [List.not_any_eq_all_not]
 congr 1
 funext x
 rw [stWrong_is, Bool.not_not]
theorem sound_way (s : PStore) : soundB s = (areB s.heard && (decide (s.items = inorm s.items) && s.items.all (sItemB s.heard))) := by
 have e : (!s.heard.any (fun n => decide (n > 1073741824))) = s.heard.all (fun n => decide (n ≤ 1073741824)) := by
  rw [List.not_any_eq_all_not]
  congr 1
  funext n
  by_cases h : n > 1073741824
  ·rw [decide_eq_true h, decide_eq_false (show ¬ n ≤ 1073741824 by omega)]; rfl
  ·rw [decide_eq_false h, decide_eq_true (show n ≤ 1073741824 by omega)]; rfl
 have e1 : decide (s.heard = trim s.heard) = decide (trim s.heard = s.heard) := decide_eq_decide.2 ⟨Eq.symm, Eq.symm⟩
 have e2 : decide (s.items = inorm s.items) = decide (inorm s.items = s.items) := decide_eq_decide.2 ⟨Eq.symm, Eq.symm⟩
 unfold soundB areB
 rw [e, e1, e2]
 generalize decide (s.heard.length ≤ 8) = b1
 generalize decide (trim s.heard = s.heard) = b2
 generalize s.heard.all _ = b3
 generalize s.items.all _ = b4
 generalize decide (inorm s.items = s.items) = b5
 cases b1 <;> cases b2 <;> cases b3 <;> cases b4 <;> cases b5 <;> rfl
theorem entersWrong : ∀ args w, (callFunc 84 args).run Tryz.prog w = .ok (.enter 84 args) w := enters_of Tryz.func84 (by kernel_rfl) rfl
set_option maxRecDepth 100000 in
set_option maxHeartbeats 2000000 in
theorem givesWrong (x : PItem) {zv : Value} {xs : Ints} (g : Nat) (W : World) (hc : W.cell? ⟨g, 0, none⟩ = some zv) (hv : SeqI W zv xs) :
  Calls Tryz.prog 84 (#[itv x] ++ #[.pointer (some ⟨g, 0, none⟩)]) W (GivesB W (stWrong xs x)) := by
 show Calls Tryz.prog 84 #[.agg #[.string (bt x.key), .string (bt x.field), .int .i64 x.kind, .string (bt x.elem), .int .i64 x.n, .int .i64 x.dot.node, .int .i64 x.dot.seq, .int .i64 x.dot.pos], .pointer (some ⟨g, 0, none⟩)] W _
 have hb1 := (Below.refl W.heap.size W).alloc (Nat.le_refl _) (.cells #[.string (bt x.key), .string (bt x.field), .int .i64 x.kind, .string (bt x.elem), .int .i64 x.n, .int .i64 x.dot.node, .int .i64 x.dot.seq, .int .i64 x.dot.pos] 64)
 have hlt := World.block_lt_of_cell? W ⟨g, 0, none⟩ hc
 have HC := Lib.hid (fun u (hb : Below W.heap.size W u) => (hb.cell (p := ⟨g, 0, none⟩) hlt).trans hc)
 have HV := Lib.hid (fun u (hb : Below W.heap.size W u) => hv.below hb)
 have IB : Hid (∀ u, Below (W.alloc (.cells #[.string (bt x.key), .string (bt x.field), .int .i64 x.kind, .string (bt x.elem), .int .i64 x.n, .int .i64 x.dot.node, .int .i64 x.dot.seq, .int .i64 x.dot.pos] 64)).heap.size (W.alloc (.cells #[.string (bt x.key), .string (bt x.field), .int .i64 x.kind, .string (bt x.elem), .int .i64 x.n, .int .i64 x.dot.node, .int .i64 x.dot.seq, .int .i64 x.dot.pos] 64)) u → ItemAt u W.heap.size 0 x) := Lib.hid (fun u hb => ItemAt.below ⟨by simp, by simp, by simp, by simp, by simp, by simp, by simp, by simp⟩ hb (by simp))
 have HB := Lib.hid hb1
 have KF := Lib.hid (iformed_any x (W.alloc (.cells #[.string (bt x.key), .string (bt x.field), .int .i64 x.kind, .string (bt x.elem), .int .i64 x.n, .int .i64 x.dot.node, .int .i64 x.dot.seq, .int .i64 x.dot.pos] 64)))
 have HR : Hid (stWrong xs x = (!formedB x || !(decide (1 ≤ x.dot.seq) && decide (x.dot.seq ≤ saysI xs x.dot.node)))) := Lib.hid rfl
 have KH := Lib.hid (fun u (hb : Below W.heap.size W u) => vc_has_any (HV.out u hb) x.dot.node x.dot.seq x.dot.pos)
 rw [itv_eq4] at KF
 obtain ⟨a, cap, rfl, -⟩ := hv.parts
 clear hc hv hb1 hlt
 generalize stWrong xs x = r at *
 generalize formedB x = r1 at *
 generalize (decide (1 ≤ x.dot.seq) && decide (x.dot.seq ≤ saysI xs x.dot.node)) = r2 at *
 generalize xs.length = n at *
 go_enter Tryz.func84, Tryz.ntmps84
 go_upto_region 1 with fail
 generalize (W.alloc (.cells #[.string (bt x.key), .string (bt x.field), .int .i64 x.kind, .string (bt x.elem), .int .i64 x.n, .int .i64 x.dot.node, .int .i64 x.dot.seq, .int .i64 x.dot.pos] 64)) = wb at *
 have I0 := IB.out wb (Below.refl _ _)
 obtain ⟨c0, c1, c2, c3, c4, c5, c6, c7⟩ := I0
 simp only [Nat.zero_add] at c1 c2 c3 c4 c5 c6 c7
 go_wp2_with fail
 refine KF.out.mono ?_
 rintro e w2 ⟨rfl, hb⟩
 have G2 := Lib.hid (HB.out.trans (hb.mono HB.out.size))
 have I2 := IB.out w2 hb
 clear hb c0 c1 c2 c3 c4 c5 c6 c7 KF
 cases r1 with
 | false =>
  obtain rfl : r = true := HR.out
  go_wp2_with fail
  go_ret
  exact ⟨rfl, G2.out⟩
 | true =>
  obtain rfl : r = !r2 := HR.out
  obtain ⟨c0, c1, c2, c3, c4, c5, c6, c7⟩ := I2
  simp only [Nat.zero_add] at c1 c2 c3 c4 c5 c6 c7
  have cg := HC.out w2 G2.out
  have K2 := KH.out w2 G2.out
  go_wp2_with fail
  refine K2.mono ?_
  rintro e w3 ⟨rfl, hb⟩
  have G3 := Lib.hid (G2.out.trans (hb.mono G2.out.size))
  clear hb c0 c1 c2 c3 c4 c5 c6 c7 K2 cg
  go_wp2_with fail
  go_ret
  exact ⟨rfl, G3.out⟩
set_option maxRecDepth 100000 in
set_option maxHeartbeats 2000000 in
theorem stAre_any {u v : Value} {xs : Ints} {l : List PItem} {w : World} (hu : SeqI w u xs) (hv : SeqE LItem w v l) (hn : l.length ≤ 1000000) (r : Bool) (hr : l.all (sItemB xs) = r) : Calls Tryz.prog 48 #[u, v] w (GivesB w r) := by
 obtain ⟨ha, hcp, rfl, -⟩ := hu.parts
 have HB := Lib.hid ((Below.refl w.heap.size w).alloc (Nat.le_refl _) (.cells #[.slice ha xs.length hcp] 23))
 have KC := Lib.hid (stcontains_any (hv.below HB.out) hn (stWrong xs) 84 #[.pointer (some ⟨w.heap.size, 0, none⟩)] entersWrong (fun W d hb => givesWrong d w.heap.size W ((hb.cell (p := ⟨w.heap.size, 0, none⟩) (by simp)).trans (by simp)) (hu.below (HB.out.trans (hb.mono HB.out.size)))))
 have HR : Hid (r = !l.any (stWrong xs)) := Lib.hid (by rw [stWrong_any, hr])
 obtain ⟨a, cap, rfl, -⟩ := hv.parts
 clear hu hv hn hr
 generalize l.any (stWrong xs) = r2 at *
 generalize xs.length = n at *
 generalize l.length = m at *
 go_enter Tryz.func48, Tryz.ntmps48
 go_upto_region 1 with fail
 generalize (w.alloc (.cells #[.slice ha n hcp] 23)) = wb at *
 go_wp2_with fail
 refine KC.out.mono ?_
 rintro e w2 ⟨rfl, hb⟩
 have G2 := Lib.hid (HB.out.trans (hb.mono HB.out.size))
 clear hb KC
 obtain rfl : r = !r2 := HR.out
 go_wp2_with fail
 go_ret
 exact ⟨rfl, G2.out⟩

set_option maxRecDepth 100000 in
set_option maxHeartbeats 8000000 in
theorem stSound_any {v : Value} {s : PStore} {w : World} (h : IsStore w v s) (hl : s.heard.length ≤ 1000000) (hi : s.items.length ≤ 1000000) (hd : ∀ x ∈ s.items, dotOk x.dot) (r : Bool) (hr : soundB s = r) : Calls Tryz.prog 17 #[v] w (GivesB w r) := by
 obtain ⟨ha, hn, hc, ia, im, ic, rfl, h1, h2⟩ := h.slices
 have G0 := Lib.hid ((Below.refl w.heap.size w).alloc (Nat.le_refl _) (.cells #[.slice ha hn hc, .slice ia im ic] 26))
 have SB := Lib.hid (stbox_new (s := s) h1 h2)
 rw [sound_way] at hr
 subst hr
 have KE : Hid (∀ u, Below (w.alloc (.cells #[.slice ha hn hc, .slice ia im ic] 26)).heap.size (w.alloc (.cells #[.slice ha hn hc, .slice ia im ic] 26)) u → Below (w.alloc (.cells #[.slice ha hn hc, .slice ia im ic] 26)).heap.size (w.alloc (.cells #[.slice ha hn hc, .slice ia im ic] 26)) u ∧ (u.cell? ⟨w.heap.size, 0, none⟩ = some (.slice ha hn hc) ∧ u.cell? ⟨w.heap.size, 1, none⟩ = some (.slice ia im ic))) := Lib.hid (fun u hb => ⟨hb, (SB.out.below hb).c⟩)
 have KH := Lib.hid (fun u (hb : Below (w.alloc (.cells #[.slice ha hn hc, .slice ia im ic] 26)).heap.size (w.alloc (.cells #[.slice ha hn hc, .slice ia im ic] 26)) u) => stHeard_any (seqI_of (SB.out.below hb).h) hl)
 have KN := Lib.hid (fun u (hb : Below (w.alloc (.cells #[.slice ha hn hc, .slice ia im ic] 26)).heap.size (w.alloc (.cells #[.slice ha hn hc, .slice ia im ic] 26)) u) => inorm_any (SB.out.below hb).i hi hd)
 have KQ := Lib.hid (fun u nv (hb : Below (w.alloc (.cells #[.slice ha hn hc, .slice ia im ic] 26)).heap.size (w.alloc (.cells #[.slice ha hn hc, .slice ia im ic] 26)) u) (hs : SeqE LItem u nv (inorm s.items)) => (stequal_any (SB.out.below hb).i hs).mono (fun e w' (k : e = .returned (.bool (decide (s.items = inorm s.items))) ∧ ∃ n, w' = u.drewN n) => (⟨k.1, below_of_drawn k.2⟩ : GivesB u (decide (s.items = inorm s.items)) e w')))
 have KA := Lib.hid (fun u (hb : Below (w.alloc (.cells #[.slice ha hn hc, .slice ia im ic] 26)).heap.size (w.alloc (.cells #[.slice ha hn hc, .slice ia im ic] 26)) u) => stAre_any (seqI_of (SB.out.below hb).h) (SB.out.below hb).i hi _ rfl)
 clear h h1 h2 hl hi hd SB
 generalize areB s.heard = r1 at *
 generalize decide (s.items = inorm s.items) = r2 at *
 generalize s.items.all (sItemB s.heard) = r3 at *
 generalize inorm s.items = nn at *
 go_enter Tryz.func17, Tryz.ntmps17
 go_upto_region 1 with fail
 generalize (w.alloc (.cells #[.slice ha hn hc, .slice ia im ic] 26)) = wb at *
 cases r1 with
 | false =>
  refine wp_region_held_drew (S := fun u' => Below wb.heap.size wb u' ∧ (u'.cell? ⟨w.heap.size, 0, none⟩ = some (.slice ha hn hc) ∧ u'.cell? ⟨w.heap.size, 1, none⟩ = some (.slice ia im ic))) (by kernel_rfl) ?_ (fun hHeld => ?_)
  ·(exact KE.out _ (Below.refl _ _).drew)
  simp only [List.size_toArray, List.length_cons, List.length_nil, Nat.zero_add, Nat.reduceAdd]
  refine tkB (i := 0) hHeld ?_
  refine tkB (i := 1) hHeld ?_
  refine wpAnyH_ready (rs := [2]) (by kernel_rfl) (by simp) ?_
  refine AllReadyH.cons rfl (fun K hK => ?_) AllReadyH.nil
  go_simp
  refine (KH.out _ hHeld.1).mono ?_
  rintro e s1 ⟨rfl, hb⟩
  refine hK.out _ _ (KE.out _ (holdC hHeld hb)) (fun hHeld => ?_)
  clear hK K hb
  refine tkB (i := 3) hHeld ?_
  refine tkS (i := 4) hHeld ?_
  refine tkS (i := 5) hHeld ?_
  refine tkS (i := 6) hHeld ?_
  refine tkS (i := 7) hHeld ?_
  refine tkS (i := 8) hHeld ?_
  refine tkS (i := 9) hHeld ?_
  refine tkB (i := 10) hHeld ?_
  refine tkB (i := 11) hHeld ?_
  refine tkS (i := 12) hHeld ?_
  refine tkS (i := 13) hHeld ?_
  refine tkS (i := 14) hHeld ?_
  refine tkS (i := 15) hHeld ?_
  refine tkS (i := 16) hHeld ?_
  refine tkB (i := 17) hHeld ?_
  refine tkB (i := 18) hHeld ?_
  refine wpAnyH_done (by kernel_rfl) ?_ _
  have GZ := Lib.hid hHeld.1
  clear hHeld
  go_wp2_with fail
  go_ret
  exact ⟨rfl, G0.out.trans (GZ.out.mono G0.out.size)⟩
 | true =>
  cases r2 with
  | false =>
   refine wp_region_held_drew (S := fun u' => Below wb.heap.size wb u' ∧ (u'.cell? ⟨w.heap.size, 0, none⟩ = some (.slice ha hn hc) ∧ u'.cell? ⟨w.heap.size, 1, none⟩ = some (.slice ia im ic))) (by kernel_rfl) ?_ (fun hHeld => ?_)
   ·(exact KE.out _ (Below.refl _ _).drew)
   simp only [List.size_toArray, List.length_cons, List.length_nil, Nat.zero_add, Nat.reduceAdd]
   refine tkB (i := 0) hHeld ?_
   refine tkB (i := 1) hHeld ?_
   refine wpAnyH_ready (rs := [2]) (by kernel_rfl) (by simp) ?_
   refine AllReadyH.cons rfl (fun K hK => ?_) AllReadyH.nil
   go_simp
   refine (KH.out _ hHeld.1).mono ?_
   rintro e s1 ⟨rfl, hb⟩
   refine hK.out _ _ (KE.out _ (holdC hHeld hb)) (fun hHeld => ?_)
   clear hK K hb
   refine tkB (i := 3) hHeld ?_
   refine tkB (i := 4) hHeld ?_
   refine tkB (i := 5) hHeld ?_
   refine tkB (i := 6) hHeld ?_
   refine tkB (i := 7) hHeld ?_
   refine wpAnyH_ready (rs := [8]) (by kernel_rfl) (by simp) ?_
   refine AllReadyH.cons rfl (fun K hK => ?_) AllReadyH.nil
   go_simp
   refine (KN.out _ hHeld.1).mono ?_
   rintro e s2 ⟨nv, rfl, ho, hb⟩; have SN := Lib.hid ho.seq; clear ho
   refine hK.out _ _ (KE.out _ (holdC hHeld hb)) (fun hHeld => ?_)
   clear hK K hb
   refine wpAnyH_ready (rs := [9]) (by kernel_rfl) (by simp) ?_
   refine AllReadyH.cons rfl (fun K hK => ?_) AllReadyH.nil
   go_simp
   refine (KQ.out _ _ hHeld.1 SN.out).mono ?_
   rintro e s3 ⟨rfl, hb⟩
   refine hK.out _ _ (KE.out _ (holdC hHeld hb)) (fun hHeld => ?_)
   clear hK K hb
   refine tkB (i := 10) hHeld ?_
   refine tkB (i := 11) hHeld ?_
   refine tkS (i := 12) hHeld ?_
   refine tkS (i := 13) hHeld ?_
   refine tkS (i := 14) hHeld ?_
   refine tkS (i := 15) hHeld ?_
   refine tkS (i := 16) hHeld ?_
   refine tkB (i := 17) hHeld ?_
   refine tkB (i := 18) hHeld ?_
   refine wpAnyH_done (by kernel_rfl) ?_ _
   have GZ := Lib.hid hHeld.1
   clear hHeld
   go_wp2_with fail
   go_ret
   exact ⟨rfl, G0.out.trans (GZ.out.mono G0.out.size)⟩
  | true =>
   rw [Bool.true_and, Bool.true_and] at *
   refine wp_region_held_drew (S := fun u' => Below wb.heap.size wb u' ∧ (u'.cell? ⟨w.heap.size, 0, none⟩ = some (.slice ha hn hc) ∧ u'.cell? ⟨w.heap.size, 1, none⟩ = some (.slice ia im ic))) (by kernel_rfl) ?_ (fun hHeld => ?_)
   ·(exact KE.out _ (Below.refl _ _).drew)
   simp only [List.size_toArray, List.length_cons, List.length_nil, Nat.zero_add, Nat.reduceAdd]
   refine tkB (i := 0) hHeld ?_
   refine tkB (i := 1) hHeld ?_
   refine wpAnyH_ready (rs := [2]) (by kernel_rfl) (by simp) ?_
   refine AllReadyH.cons rfl (fun K hK => ?_) AllReadyH.nil
   go_simp
   refine (KH.out _ hHeld.1).mono ?_
   rintro e s1 ⟨rfl, hb⟩
   refine hK.out _ _ (KE.out _ (holdC hHeld hb)) (fun hHeld => ?_)
   clear hK K hb
   refine tkB (i := 3) hHeld ?_
   refine tkB (i := 4) hHeld ?_
   refine tkB (i := 5) hHeld ?_
   refine tkB (i := 6) hHeld ?_
   refine tkB (i := 7) hHeld ?_
   refine wpAnyH_ready (rs := [8]) (by kernel_rfl) (by simp) ?_
   refine AllReadyH.cons rfl (fun K hK => ?_) AllReadyH.nil
   go_simp
   refine (KN.out _ hHeld.1).mono ?_
   rintro e s2 ⟨nv, rfl, ho, hb⟩; have SN := Lib.hid ho.seq; clear ho
   refine hK.out _ _ (KE.out _ (holdC hHeld hb)) (fun hHeld => ?_)
   clear hK K hb
   refine wpAnyH_ready (rs := [9]) (by kernel_rfl) (by simp) ?_
   refine AllReadyH.cons rfl (fun K hK => ?_) AllReadyH.nil
   go_simp
   refine (KQ.out _ _ hHeld.1 SN.out).mono ?_
   rintro e s3 ⟨rfl, hb⟩
   refine hK.out _ _ (KE.out _ (holdC hHeld hb)) (fun hHeld => ?_)
   clear hK K hb
   refine tkB (i := 10) hHeld ?_
   refine tkB (i := 11) hHeld ?_
   refine tkB (i := 12) hHeld ?_
   refine tkB (i := 13) hHeld ?_
   refine tkB (i := 14) hHeld ?_
   refine tkB (i := 15) hHeld ?_
   refine wpAnyH_ready (rs := [16]) (by kernel_rfl) (by simp) ?_
   refine AllReadyH.cons rfl (fun K hK => ?_) AllReadyH.nil
   go_simp
   refine (KA.out _ hHeld.1).mono ?_
   rintro e s4 ⟨rfl, hb⟩
   refine hK.out _ _ (KE.out _ (holdC hHeld hb)) (fun hHeld => ?_)
   clear hK K hb
   refine tkB (i := 17) hHeld ?_
   refine tkB (i := 18) hHeld ?_
   refine wpAnyH_done (by kernel_rfl) ?_ _
   have GZ := Lib.hid hHeld.1
   clear hHeld
   go_wp2_with fail
   go_ret
   exact ⟨rfl, G0.out.trans (GZ.out.mono G0.out.size)⟩
end Go.Proofs.YtpnpomocjkmncaaGreat
