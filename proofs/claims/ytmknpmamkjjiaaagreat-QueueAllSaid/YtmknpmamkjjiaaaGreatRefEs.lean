/- What the document's own SameDots and Same of effects leave. (Written by gen-refsame.py.) What the document's own Same of effects leave. (Written by gen-refsame.py.) -/
import Derived.Test.YtmknpmamkjjiaaaGreatEff
import Derived.Test.YtmknpmamkjjiaaaGreatEqI
import Derived.Test.YtmknpmamkjjiaaaGreatGives
import Derived.Deep.QuietTactic
import Derived.Deep.RegionHeld3
import Derived.Deep.DeepCutAuto
import Derived.Deep.Cut
namespace Go.Proofs.YtmknpmamkjjiaaaGreat
open Go.RowKit Plain
set_option linter.unusedVariables false

theorem neq_dot (d e : PDot) (w : World) : (binOp .neq 54 (.agg #[.int .i64 d.node, .int .i64 d.seq, .int .i64 d.pos]) (.agg #[.int .i64 e.node, .int .i64 e.seq, .int .i64 e.pos])).run Tryz.prog w = .ok (.bool (!decide (d = e))) w := by
 rw [run_neq_struct, eq_dot 9998]
 rfl
set_option maxRecDepth 100000 in
set_option maxHeartbeats 4000000 in
theorem rsameD_any {u v : Value} {xs ys : List PDot} {w : World} (hu : SeqE LDot w u xs) (hv : SeqE LDot w v ys) :
  Calls Tryz.prog 36 #[u, v] w fun e w' => e = .returned (.bool (decide (xs = ys))) ∧ ∃ n, w' = w.drewN n := by
 obtain ⟨a, cap, rfl, g1, g2, g0, h⟩ := hu.parts
 obtain ⟨a', cap', rfl, e1, e2, e0, h'⟩ := hv.parts
 by_cases hl : xs.length = ys.length
 ·obtain ⟨n, hN⟩ : ∃ n, xs.length = n := ⟨_, rfl⟩
  have hM : ys.length = n := by omega
  have hT : (∀ j, j < n → xs.getD j default = ys.getD j default) → decide (xs = ys) = true := fun hall => decide_eq_true (by
   apply List.ext_getElem hl
   intro j h1 h2
   have := hall j (by omega)
   simpa [List.getD, List.getElem?_eq_getElem h1, List.getElem?_eq_getElem h2] using this)
  have hF : ∀ j, ¬ xs.getD j default = ys.getD j default → decide (xs = ys) = false := fun j hne => decide_eq_false (by
   intro e; subst e; exact hne rfl)
  have HT := Lib.hid hT
  have HF := Lib.hid hF
  generalize decide (xs = ys) = r at *
  rw [hN] at h g1 ⊢
  rw [hM] at h' e1 ⊢
  have HS := Lib.hid h
  have HS' := Lib.hid h'
  have LN := Lib.hid hN
  have LM := Lib.hid hM
  clear hu hv h h' g0 e0 hl hT hF hN hM
  go_enter Tryz.func36, Tryz.ntmps36
  go_wp2_with fail
  go_loopw [5] (fun i wr => ∃ k : Nat, k ≤ n ∧ i = .int .i64 k ∧ (∀ j, j < k → xs.getD j default = ys.getD j default) ∧ ∃ q, wr = w.drewN q) (fun i _ => n - (intOf i).toNat)
  case atStart => exact ⟨0, Nat.zero_le _, rfl, (fun j hj => absurd hj (by omega)), 0, rfl⟩
  case round =>
   obtain ⟨k, hk, rfl, hall, q, rfl⟩ := hrel
   have HALL := Lib.hid hall
   clear hall
   by_cases hlt : k < n
   ·obtain ⟨b, o, c, hv, -, -, -, hc⟩ := dots_spot HS.out (by rw [LN.out]; omega)
    rw [LN.out] at hv
    simp only [Value.slice.injEq] at hv
    obtain ⟨rfl, -, rfl⟩ := hv
    obtain ⟨b', o', c', hv', -, -, -, hc'⟩ := dots_spot HS'.out (by rw [LM.out]; omega)
    rw [LM.out] at hv'
    simp only [Value.slice.injEq] at hv'
    obtain ⟨rfl, -, rfl⟩ := hv'
    obtain ⟨c0, c1, c2⟩ := hc k (by rw [LN.out]; exact hlt)
    obtain ⟨d0, d1, d2⟩ := hc' k (by rw [LM.out]; exact hlt)
    have HFK := Lib.hid (HF.out k)
    have HNX : Hid (xs.getD k default = ys.getD k default → ∀ j, j < k + 1 → xs.getD j default = ys.getD j default) := Lib.hid (fun he j hj => by
     by_cases e : j = k
     ·rw [e]; exact he
     ·exact HALL.out j (by omega))
    clear hc hc'
    generalize xs.getD k default = x at *
    generalize ys.getD k default = y at *
    have hq := neq_dot x y
    by_cases he : x = y
    ·have HX := Lib.hid (HNX.out he)
     rw [decide_eq_true he] at hq
     clear he HNX HFK
     go_wp2_with fail
     go_quiet (fail)
     go_wp2_with fail
     go_roundw
     case rel => exact ⟨k + 1, by omega, by go_num, HX.out, _, rfl⟩
     case measure => simp [intOf]; omega
    ·obtain rfl : r = false := HFK.out he
     rw [decide_eq_false he] at hq
     clear he HNX HFK
     go_wp2_with fail
     go_quiet (fail)
     go_wp2_with fail
     go_ret
     exact ⟨rfl, _, World.drewN_drewN _ _ _⟩
   ·obtain rfl : k = n := by omega
    obtain rfl : r = true := HT.out HALL.out
    go_wp2_with fail
    go_ret
    exact ⟨rfl, _, rfl⟩
 ·have hne : ((xs.length : Int) == (ys.length : Int)) = false := by simp; omega
  rw [decide_eq_false (by intro e; subst e; exact hl rfl)]
  clear hu hv h h' g0 e0 g1 g2 e1 e2
  generalize xs.length = n at *
  generalize ys.length = m at *
  go_enter Tryz.func36, Tryz.ntmps36
  go_wp2_with fail
  go_ret
  exact ⟨rfl, 0, rfl⟩

theorem rsameDR {u v : Value} {xs ys : List PDot} {w : World} {r : Bool} (hu : SeqE LDot w u xs) (hv : SeqE LDot w v ys) (e : decide (xs = ys) = r) : Calls Tryz.prog 36 #[u, v] w (GivesB w r) := by
 rw [← e]
 exact (rsameD_any hu hv).mono fun _ _ ⟨h, hw⟩ => ⟨h, below_of_drawn hw⟩
end Go.Proofs.YtmknpmamkjjiaaaGreat
namespace Go.Proofs.YtmknpmamkjjiaaaGreat
open Go.RowKit Plain
set_option linter.unusedVariables false

set_option maxRecDepth 100000 in
set_option maxHeartbeats 8000000 in
/-- Same of effects -/
theorem rsameE_any {u v : Value} {xs ys : List PEff} {w : World} (hu : SeqE LEff w u xs) (hv : SeqE LEff w v ys) :
  Calls Tryz.prog 27 #[u, v] w (GivesB w (decide (xs = ys))) := by
 obtain ⟨a, cap, rfl, g1, g2, g0, h⟩ := hu.parts
 obtain ⟨a', cap', rfl, e1, e2, e0, h'⟩ := hv.parts
 by_cases hl : xs.length = ys.length
 rotate_left
 ·have hne : ((xs.length : Int) == (ys.length : Int)) = false := by simp; omega
  rw [decide_eq_false (by intro e; subst e; exact hl rfl)]
  clear hu hv h h' g0 e0 g1 g2 e1 e2
  generalize xs.length = n at *
  generalize ys.length = m at *
  go_enter Tryz.func27, Tryz.ntmps27
  go_wp2_with fail
  go_ret
  exact ⟨rfl, Below.refl _ _⟩
 obtain ⟨n, hN⟩ : ∃ n, xs.length = n := ⟨_, rfl⟩
 have hM : ys.length = n := by omega
 have hT : (∀ j, j < n → xs.getD j default = ys.getD j default) → decide (xs = ys) = true := fun hall => decide_eq_true (by
  apply List.ext_getElem hl
  intro j h1 h2
  have := hall j (by omega)
  simpa [List.getD, List.getElem?_eq_getElem h1, List.getElem?_eq_getElem h2] using this)
 have hF : ∀ j, ¬ xs.getD j default = ys.getD j default → decide (xs = ys) = false := fun j hne => decide_eq_false (by
  intro e; subst e; exact hne rfl)
 have HT := Lib.hid hT
 have HF := Lib.hid hF
 generalize decide (xs = ys) = r at *
 rw [hN] at h g1 ⊢
 rw [hM] at h' e1 ⊢
 have HS := Lib.hid h
 have HS' := Lib.hid h'
 have LN := Lib.hid hN
 have LM := Lib.hid hM
 clear hu hv h h' g0 e0 hl hT hF hN hM
 go_enter Tryz.func27, Tryz.ntmps27
 go_wp2_with fail
 go_loopw [5, 6, 7] (fun i _ _ wr => ∃ k : Nat, k ≤ n ∧ i = .int .i64 k ∧ (∀ j, j < k → xs.getD j default = ys.getD j default) ∧ Below w.heap.size w wr) (fun i _ _ _ => n - (intOf i).toNat)
 case atStart => exact ⟨0, Nat.zero_le _, rfl, (fun j hj => absurd hj (by omega)), Below.refl _ _⟩
 case round =>
  obtain ⟨k, hk, rfl, hall, hb⟩ := hrel
  have HALL := Lib.hid hall
  have HB := Lib.hid hb
  clear hall hb
  by_cases hlt : k < n
  rotate_left
  ·obtain rfl : k = n := by omega
   obtain rfl : r = true := HT.out HALL.out
   go_wp2_with fail
   go_ret
   exact ⟨rfl, HB.out⟩
  obtain ⟨b, o, c, hv, -, -, -, hc⟩ := effs_spot (HS.out.below HB.out) (by rw [LN.out]; omega)
  rw [LN.out] at hv
  simp only [Value.slice.injEq] at hv
  obtain ⟨rfl, -, rfl⟩ := hv
  obtain ⟨b2, o2, c', hv', -, -, -, hc'⟩ := effs_spot (HS'.out.below HB.out) (by rw [LM.out]; omega)
  rw [LM.out] at hv'
  simp only [Value.slice.injEq] at hv'
  obtain ⟨rfl, -, rfl⟩ := hv'
  obtain ⟨dv, EA, SD⟩ := hc k (by rw [LN.out]; exact hlt)
  obtain ⟨ev, EB, SE⟩ := hc' k (by rw [LM.out]; exact hlt)
  have HFK := Lib.hid (HF.out k)
  have HNX : Hid (xs.getD k default = ys.getD k default → ∀ j, j < k + 1 → xs.getD j default = ys.getD j default) := Lib.hid (fun he j hj => by
   by_cases e : j = k
   ·rw [e]; exact he
   ·exact HALL.out j (by omega))
  clear hc hc'
  generalize xs.getD k default = x at *
  generalize ys.getD k default = y at *
  obtain ⟨da, dn, dc, rfl⟩ : ∃ a n c, dv = .slice a n c := by obtain ⟨a, c, h, -⟩ := SD.parts; exact ⟨a, _, c, h⟩
  obtain ⟨ea, en, ec, rfl⟩ : ∃ a n c, ev = .slice a n c := by obtain ⟨a, c, h, -⟩ := SE.parts; exact ⟨a, _, c, h⟩
  have EAH := Lib.hid EA
  have EBH := Lib.hid EB
  have SDH := Lib.hid SD
  have SEH := Lib.hid SE
  clear EA EB SD SE
  have KE : Hid (∀ U, Below wr.heap.size wr U → Below wr.heap.size wr U ∧ (U.cell? ⟨b, o + k * 7, none⟩ = some (.int .i64 x.pos) ∧ U.cell? ⟨b, o + k * 7 + 1, none⟩ = some (.string (bt x.key)) ∧ U.cell? ⟨b, o + k * 7 + 2, none⟩ = some (.string (bt x.field)) ∧ U.cell? ⟨b, o + k * 7 + 3, none⟩ = some (.int .i64 x.kind) ∧ U.cell? ⟨b, o + k * 7 + 4, none⟩ = some (.string (bt x.elem)) ∧ U.cell? ⟨b, o + k * 7 + 5, none⟩ = some (.int .i64 x.n) ∧ U.cell? ⟨b, o + k * 7 + 6, none⟩ = some ((.slice da dn dc))) ∧ (U.cell? ⟨b2, o2 + k * 7, none⟩ = some (.int .i64 y.pos) ∧ U.cell? ⟨b2, o2 + k * 7 + 1, none⟩ = some (.string (bt y.key)) ∧ U.cell? ⟨b2, o2 + k * 7 + 2, none⟩ = some (.string (bt y.field)) ∧ U.cell? ⟨b2, o2 + k * 7 + 3, none⟩ = some (.int .i64 y.kind) ∧ U.cell? ⟨b2, o2 + k * 7 + 4, none⟩ = some (.string (bt y.elem)) ∧ U.cell? ⟨b2, o2 + k * 7 + 5, none⟩ = some (.int .i64 y.n) ∧ U.cell? ⟨b2, o2 + k * 7 + 6, none⟩ = some ((.slice ea en ec)))) := Lib.hid (fun U hU => ⟨hU, by obtain ⟨c0, c1, c2, c3, c4, c5, c6⟩ := EAH.out.below hU EAH.out.lt; exact ⟨c0, c1, c2, c3, c4, c5, c6⟩, by obtain ⟨c0, c1, c2, c3, c4, c5, c6⟩ := EBH.out.below hU EBH.out.lt; exact ⟨c0, c1, c2, c3, c4, c5, c6⟩⟩)
  obtain ⟨c0, c1, c2, c3, c4, c5, c6⟩ := EAH.out
  obtain ⟨d0, d1, d2, d3, d4, d5, d6⟩ := EBH.out
  go_upto_region 6 with fail
  clear c0 c1 c2 c3 c4 c5 c6 d0 d1 d2 d3 d4 d5 d6
  go_cut [6, 7] (fun s6 s7 wx => ∃ (g h : Nat), s6 = .pointer (some ⟨g, 0, none⟩) ∧ s7 = .pointer (some ⟨h, 0, none⟩) ∧ EffAt wx g 0 x (.slice da dn dc) ∧ EffAt wx h 0 y (.slice ea en ec) ∧ Below wr.heap.size wr wx)
  case first =>
   refine wp_region_held_drew (S := fun U => Below wr.heap.size wr U ∧ (U.cell? ⟨b, o + k * 7, none⟩ = some (.int .i64 x.pos) ∧ U.cell? ⟨b, o + k * 7 + 1, none⟩ = some (.string (bt x.key)) ∧ U.cell? ⟨b, o + k * 7 + 2, none⟩ = some (.string (bt x.field)) ∧ U.cell? ⟨b, o + k * 7 + 3, none⟩ = some (.int .i64 x.kind) ∧ U.cell? ⟨b, o + k * 7 + 4, none⟩ = some (.string (bt x.elem)) ∧ U.cell? ⟨b, o + k * 7 + 5, none⟩ = some (.int .i64 x.n) ∧ U.cell? ⟨b, o + k * 7 + 6, none⟩ = some ((.slice da dn dc))) ∧ (U.cell? ⟨b2, o2 + k * 7, none⟩ = some (.int .i64 y.pos) ∧ U.cell? ⟨b2, o2 + k * 7 + 1, none⟩ = some (.string (bt y.key)) ∧ U.cell? ⟨b2, o2 + k * 7 + 2, none⟩ = some (.string (bt y.field)) ∧ U.cell? ⟨b2, o2 + k * 7 + 3, none⟩ = some (.int .i64 y.kind) ∧ U.cell? ⟨b2, o2 + k * 7 + 4, none⟩ = some (.string (bt y.elem)) ∧ U.cell? ⟨b2, o2 + k * 7 + 5, none⟩ = some (.int .i64 y.n) ∧ U.cell? ⟨b2, o2 + k * 7 + 6, none⟩ = some ((.slice ea en ec)))) (by kernel_rfl) ?_ (fun hHeld => ?_)
   ·(exact KE.out _ (Below.refl _ _).drew)
   simp only [List.size_toArray, List.length_cons, List.length_nil, Nat.zero_add, Nat.reduceAdd]
   refine tkA (i := 0) (v := ?_) rfl (by kernel_rfl) (fun _ _ _ h => h) (Or.inl ⟨by rfl, ?_⟩) hHeld ?_
   rotate_left
   ·(intro w' hSw; (try dsimp only at hSw); go_simp; try with_reducible rfl)
   simp only [List.getElem_toArray, List.getElem_cons_zero, Act.put, List.setIfInBounds_toArray, List.set_cons_zero, List.set_cons_succ]
   refine tkA (i := 1) (v := ?_) rfl (by kernel_rfl) (fun _ _ _ h => h) (Or.inl ⟨by rfl, ?_⟩) hHeld ?_
   rotate_left
   ·(intro w' hSw; (try dsimp only at hSw); go_simp; try with_reducible rfl)
   simp only [List.getElem_toArray, List.getElem_cons_zero, List.getElem_cons_succ, Act.put, List.setIfInBounds_toArray, List.set_cons_zero, List.set_cons_succ]
   refine tkA (i := 2) (v := ?_) rfl (by kernel_rfl) (fun _ _ _ h => h) (Or.inl ⟨by rfl, ?_⟩) hHeld ?_
   rotate_left
   ·(intro w' hSw; (try dsimp only at hSw); go_simp; try with_reducible rfl)
   simp only [List.getElem_toArray, List.getElem_cons_zero, List.getElem_cons_succ, Act.put, List.setIfInBounds_toArray, List.set_cons_zero, List.set_cons_succ]
   refine tkA (i := 3) (v := ?_) rfl (by kernel_rfl) (fun _ _ _ h => h) (Or.inl ⟨by rfl, ?_⟩) hHeld ?_
   rotate_left
   ·(intro w' hSw; (try dsimp only at hSw); go_simp; try with_reducible rfl)
   simp only [List.getElem_toArray, List.getElem_cons_zero, List.getElem_cons_succ, Act.put, List.setIfInBounds_toArray, List.set_cons_zero, List.set_cons_succ]
   refine tkA (i := 4) (v := ?_) rfl (by kernel_rfl) (fun _ _ _ h => h) (Or.inl ⟨by rfl, ?_⟩) hHeld ?_
   rotate_left
   ·(intro w' hSw; (try dsimp only at hSw); go_simp; try with_reducible rfl)
   simp only [List.getElem_toArray, List.getElem_cons_zero, List.getElem_cons_succ, Act.put, List.setIfInBounds_toArray, List.set_cons_zero, List.set_cons_succ]
   refine tkA (i := 5) (v := ?_) rfl (by kernel_rfl) (fun _ _ _ h => h) (Or.inl ⟨by rfl, ?_⟩) hHeld ?_
   rotate_left
   ·(intro w' hSw; (try dsimp only at hSw); go_simp; try with_reducible rfl)
   simp only [List.getElem_toArray, List.getElem_cons_zero, List.getElem_cons_succ, Act.put, List.setIfInBounds_toArray, List.set_cons_zero, List.set_cons_succ]
   refine tkA (i := 6) (v := ?_) rfl (by kernel_rfl) (fun _ _ _ h => h) (Or.inl ⟨by rfl, ?_⟩) hHeld ?_
   rotate_left
   ·(intro w' hSw; (try dsimp only at hSw); go_simp; try with_reducible rfl)
   simp only [List.getElem_toArray, List.getElem_cons_zero, List.getElem_cons_succ, Act.put, List.setIfInBounds_toArray, List.set_cons_zero, List.set_cons_succ]
   refine tkA (i := 7) (v := ?_) rfl (by kernel_rfl) (fun _ _ _ h => h) (Or.inl ⟨by rfl, ?_⟩) hHeld ?_
   rotate_left
   ·(intro w' hSw; (try dsimp only at hSw); go_simp; try with_reducible rfl)
   simp only [List.getElem_toArray, List.getElem_cons_zero, List.getElem_cons_succ, Act.put, List.setIfInBounds_toArray, List.set_cons_zero, List.set_cons_succ]
   refine wpAnyH_ready (rs := [8, 9]) (by kernel_rfl) (by simp) ?_
   refine AllReadyH.cons rfl (fun K hK => ?_) (AllReadyH.cons rfl (fun K hK => ?_) AllReadyH.nil)
   ·go_simp
    refine hK.out _ _ (KE.out _ (((Below.refl wr.heap.size wr).alloc (Nat.le_refl _) _).drew)) (fun hHeld => ?_)
    clear hK K
    refine wpAnyH_ready (rs := [9]) (by kernel_rfl) (by simp) ?_
    refine AllReadyH.cons rfl (fun K hK => ?_) AllReadyH.nil
    go_simp
    refine hK.out _ _ (KE.out _ ((((Below.refl wr.heap.size wr).alloc (Nat.le_refl _) _).alloc (by simp) _).drew)) (fun hHeld => ?_)
    clear hK K
    refine wpAnyH_ready (rs := [10]) (by kernel_rfl) (by simp) ?_
    refine AllReadyH.cons rfl (fun K hK => ?_) AllReadyH.nil
    go_simp
    refine hK.out _ _ (KE.out _ ((((Below.refl wr.heap.size wr).alloc (Nat.le_refl _) _).alloc (by simp) _).drew)) (fun hHeld => ?_)
    clear hK K
    refine wpAnyH_ready (rs := [11]) (by kernel_rfl) (by simp) ?_
    refine AllReadyH.cons rfl (fun K hK => ?_) AllReadyH.nil
    go_simp
    refine hK.out _ _ (KE.out _ ((((Below.refl wr.heap.size wr).alloc (Nat.le_refl _) _).alloc (by simp) _).drew)) (fun hHeld => ?_)
    clear hK K
    refine wpAnyH_done (by kernel_rfl) ?_ _
    go_wp2_with fail
    go_meet
    refine ⟨wr.heap.size, wr.heap.size + 1, rfl, rfl, ?_, ?_, ((((Below.refl wr.heap.size wr).alloc (Nat.le_refl _) _).alloc (by simp) _).drew)⟩
    ·constructor <;> simp
    ·constructor <;> simp
   ·go_simp
    refine hK.out _ _ (KE.out _ (((Below.refl wr.heap.size wr).alloc (Nat.le_refl _) _).drew)) (fun hHeld => ?_)
    clear hK K
    refine wpAnyH_ready (rs := [8]) (by kernel_rfl) (by simp) ?_
    refine AllReadyH.cons rfl (fun K hK => ?_) AllReadyH.nil
    go_simp
    refine hK.out _ _ (KE.out _ ((((Below.refl wr.heap.size wr).alloc (Nat.le_refl _) _).alloc (by simp) _).drew)) (fun hHeld => ?_)
    clear hK K
    refine wpAnyH_ready (rs := [10]) (by kernel_rfl) (by simp) ?_
    refine AllReadyH.cons rfl (fun K hK => ?_) AllReadyH.nil
    go_simp
    refine hK.out _ _ (KE.out _ ((((Below.refl wr.heap.size wr).alloc (Nat.le_refl _) _).alloc (by simp) _).drew)) (fun hHeld => ?_)
    clear hK K
    refine wpAnyH_ready (rs := [11]) (by kernel_rfl) (by simp) ?_
    refine AllReadyH.cons rfl (fun K hK => ?_) AllReadyH.nil
    go_simp
    refine hK.out _ _ (KE.out _ ((((Below.refl wr.heap.size wr).alloc (Nat.le_refl _) _).alloc (by simp) _).drew)) (fun hHeld => ?_)
    clear hK K
    refine wpAnyH_done (by kernel_rfl) ?_ _
    go_wp2_with fail
    go_meet
    refine ⟨wr.heap.size + 1, wr.heap.size, rfl, rfl, ?_, ?_, ((((Below.refl wr.heap.size wr).alloc (Nat.le_refl _) _).alloc (by simp) _).drew)⟩
    ·constructor <;> simp
    ·constructor <;> simp
  case rest =>
   obtain ⟨g, h, rfl, rfl, EX, EY, hb⟩ := hcut
   have HBc := Lib.hid (HB.out.trans (hb.mono HB.out.size))
   have SDc := Lib.hid (SDH.out.below hb)
   have SEc := Lib.hid (SEH.out.below hb)
   obtain ⟨x0, x1, x2, x3, x4, x5, x6⟩ := EX
   obtain ⟨y0, y1, y2, y3, y4, y5, y6⟩ := EY
   clear hb EAH EBH SDH SEH KE
   simp only [Nat.zero_add] at x1 x2 x3 x4 x5 x6 y1 y2 y3 y4 y5 y6
   have t1 := text_eq x.key y.key
   have t2 := text_eq x.field y.field
   have t3 := text_eq x.elem y.elem
   by_cases q_pos : x.pos = y.pos
   rotate_left
   ·obtain rfl : r = false := HFK.out (fun e => q_pos (by rw [e]))
    have b_pos : (x.pos != y.pos) = true := bne_iff_ne.2 q_pos
    clear HFK HNX q_pos
    go_wp2_with fail
    go_ret
    exact ⟨rfl, HBc.out⟩
   have b_pos : (x.pos != y.pos) = false := by rw [q_pos]; simp
   by_cases q_key : x.key = y.key
   rotate_left
   ·obtain rfl : r = false := HFK.out (fun e => q_key (by rw [e]))
    rw [decide_eq_false q_key] at t1
    clear HFK HNX q_pos q_key
    go_wp2_with fail
    go_ret
    exact ⟨rfl, HBc.out⟩
   rw [decide_eq_true q_key] at t1
   by_cases q_field : x.field = y.field
   rotate_left
   ·obtain rfl : r = false := HFK.out (fun e => q_field (by rw [e]))
    rw [decide_eq_false q_field] at t2
    clear HFK HNX q_pos q_key q_field
    go_wp2_with fail
    go_ret
    exact ⟨rfl, HBc.out⟩
   rw [decide_eq_true q_field] at t2
   by_cases q_kind : x.kind = y.kind
   rotate_left
   ·obtain rfl : r = false := HFK.out (fun e => q_kind (by rw [e]))
    have b_kind : (x.kind != y.kind) = true := bne_iff_ne.2 q_kind
    clear HFK HNX q_pos q_key q_field q_kind
    go_wp2_with fail
    go_ret
    exact ⟨rfl, HBc.out⟩
   have b_kind : (x.kind != y.kind) = false := by rw [q_kind]; simp
   by_cases q_elem : x.elem = y.elem
   rotate_left
   ·obtain rfl : r = false := HFK.out (fun e => q_elem (by rw [e]))
    rw [decide_eq_false q_elem] at t3
    clear HFK HNX q_pos q_key q_field q_kind q_elem
    go_wp2_with fail
    go_ret
    exact ⟨rfl, HBc.out⟩
   rw [decide_eq_true q_elem] at t3
   by_cases q_n : x.n = y.n
   rotate_left
   ·obtain rfl : r = false := HFK.out (fun e => q_n (by rw [e]))
    have b_n : (x.n != y.n) = true := bne_iff_ne.2 q_n
    clear HFK HNX q_pos q_key q_field q_kind q_elem q_n
    go_wp2_with fail
    go_ret
    exact ⟨rfl, HBc.out⟩
   have b_n : (x.n != y.n) = false := by rw [q_n]; simp
   have K := rsameDR SDc.out SEc.out rfl
   cases hd : decide (x.drops = y.drops) with
   | false =>
    obtain rfl : r = false := HFK.out (fun e => by rw [e, decide_eq_true rfl] at hd; cases hd)
    rw [hd] at K
    clear HFK HNX hd q_pos q_key q_field q_kind q_elem q_n
    go_wp2_with fail
    refine K.mono ?_
    rintro e w3 ⟨rfl, hb⟩
    have G3 := Lib.hid (HBc.out.trans (hb.mono HBc.out.size))
    clear hb K
    go_wp2_with fail
    go_ret
    exact ⟨rfl, G3.out⟩
   | true =>
    have HU := Lib.hid (HNX.out (peff_ext q_pos q_key q_field q_kind q_elem q_n (of_decide_eq_true hd)))
    rw [hd] at K
    clear HFK HNX hd q_pos q_key q_field q_kind q_elem q_n
    go_wp2_with fail
    refine K.mono ?_
    rintro e w3 ⟨rfl, hb⟩
    have G3 := Lib.hid (HBc.out.trans (hb.mono HBc.out.size))
    clear hb K
    go_wp2_with fail
    go_roundw
    case rel => exact ⟨k + 1, by omega, by go_num, HU.out, G3.out⟩
    case measure => simp [intOf]; omega
theorem rsameER {u v : Value} {xs ys : List PEff} {w : World} {r : Bool} (hu : SeqE LEff w u xs) (hv : SeqE LEff w v ys) (e : decide (xs = ys) = r) : Calls Tryz.prog 27 #[u, v] w (GivesB w r) := by
 rw [← e]
 exact rsameE_any hu hv
end Go.Proofs.YtmknpmamkjjiaaaGreat
