/- What the document's own SameDots and Same of effects leave. (Written by gen-refsame.py.) What the document's own Same of effects leave. (Written by gen-refsame.py.) -/
import Derived.Test.YtfapkepfngddlaaGreatEMades
import Derived.Test.YtfapkepfngddlaaGreatEqI
import Derived.Test.YtfapkepfngddlaaGreatStItems
import Derived.Deep.QuietTactic
import Derived.Deep.RegionHeld3
import Derived.Deep.DeepCutAuto
import Derived.Deep.Cut
import Derived.Test.YtfapkepfngddlaaGreatISets
import Derived.Deep.LoopGhost
import Derived.BigQuiet
import Derived.Test.YtfapkepfngddlaaGreatVcAll
import Derived.Test.YtfapkepfngddlaaGreatByLibs
set_option maxRecDepth 100000
set_option maxHeartbeats 64000000
namespace Go.Proofs.YtfapkepfngddlaaGreat
open Go.RowKit Plain
set_option linter.unusedVariables false
theorem neq_dot (d e : PDot) (w : World) : (binOp .neq 45 (.agg #[.int .i64 d.node, .int .i64 d.seq, .int .i64 d.pos]) (.agg #[.int .i64 e.node, .int .i64 e.seq, .int .i64 e.pos])).run Tryz.prog w = .ok (.bool (!decide (d = e))) w := by
 rw [run_neq_struct, eq_dot 9998]
 rfl
theorem rsameD_any {u v : Value} {xs ys : List PDot} {w : World} (hu : SeqE LDot w u xs) (hv : SeqE LDot w v ys) :
  Calls Tryz.prog 138 #[u, v] w fun e w' => e = .returned (.bool (decide (xs = ys))) ∧ ∃ n, w' = w.drewN n := by
 obtain ⟨a, cap, rfl, g1, g2, g0, h⟩ := hu.parts;obtain ⟨a', cap', rfl, e1, e2, e0, h'⟩ := hv.parts
 by_cases hl : xs.length = ys.length
 ·obtain ⟨n, hN⟩ : ∃ n, xs.length = n := ⟨_, rfl⟩
  have hM : ys.length = n := by omega
  have hT : (∀ j, j < n → xs.getD j default = ys.getD j default) → decide (xs = ys) = true := fun hall => decide_eq_true (by
   apply List.ext_getElem hl
   intro j h1 h2;have := hall j (by omega)
   simpa [List.getD, List.getElem?_eq_getElem h1, List.getElem?_eq_getElem h2] using this)
  have hF : ∀ j, ¬ xs.getD j default = ys.getD j default → decide (xs = ys) = false := fun j hne => decide_eq_false (by
   intro e; subst e; exact hne rfl)
  have HT := zH hT;have HF := zH hF;generalize decide (xs = ys) = r at *;rw [hN] at h g1 ⊢;rw [hM] at h' e1 ⊢;have HS := zH h;have HS' := zH h';have LN := zH hN;have LM := zH hM;clear hu hv h h' g0 e0 hl hT hF hN hM;go_enter Tryz.func138, Tryz.ntmps138
  go_wp2_with fail
  go_loopw [5] (fun i wr => ∃ k : Nat, k ≤ n ∧ i = .int .i64 k ∧ (∀ j, j < k → xs.getD j default = ys.getD j default) ∧ ∃ q, wr = w.drewN q) (fun i _ => n - (intOf i).toNat)
  case atStart => exact ⟨0, Nat.zero_le _, rfl, (fun j hj => absurd hj (by omega)), 0, rfl⟩
  case round =>
   obtain ⟨k, hk, rfl, hall, q, rfl⟩ := hrel;have HALL := zH hall;clear hall
   by_cases hlt : k < n
   ·obtain ⟨b, o, c, hv, -, -, -, hc⟩ := dots_spot HS.out (by rw [LN.out]; omega)
    rw [LN.out] at hv;simp only [Value.slice.injEq] at hv
    obtain ⟨rfl, -, rfl⟩ := hv;obtain ⟨b', o', c', hv', -, -, -, hc'⟩ := dots_spot HS'.out (by rw [LM.out]; omega);rw [LM.out] at hv';simp only [Value.slice.injEq] at hv'
    obtain ⟨rfl, -, rfl⟩ := hv';obtain ⟨c0, c1, c2⟩ := hc k (by rw [LN.out]; exact hlt);obtain ⟨d0, d1, d2⟩ := hc' k (by rw [LM.out]; exact hlt);have HFK := zH (HF.out k);have HNX : Hid (xs.getD k default = ys.getD k default → ∀ j, j < k + 1 → xs.getD j default = ys.getD j default) := zH (fun he j hj => by
     by_cases e : j = k
     ·rw [e]; exact he
     ·exact HALL.out j (by omega))
    clear hc hc';generalize xs.getD k default = x at *;generalize ys.getD k default = y at *;have hq := neq_dot x y
    by_cases he : x = y
    ·have HX := zH (HNX.out he)
     rw [decide_eq_true he] at hq;clear he HNX HFK;go_wp2_with fail
     go_quiet (fail)
     go_wp2_with fail
     go_roundw
     case rel => exact ⟨k + 1, by omega, by go_num, HX.out, _, rfl⟩
     case measure => simp [intOf]; omega
    ·obtain rfl : r = false := HFK.out he
     rw [decide_eq_false he] at hq;clear he HNX HFK;go_wp2_with fail
     go_quiet (fail)
     go_wp2_with fail
     go_ret
     exact ⟨rfl, _, World.drewN_drewN _ _ _⟩
   ·obtain rfl : k = n := by omega
    obtain rfl : r = true := HT.out HALL.out;go_wp2_with fail
    go_ret
    exact ⟨rfl, _, rfl⟩
 ·have hne : ((xs.length : Int) == (ys.length : Int)) = false := by simp; omega
  rw [decide_eq_false (by intro e; subst e; exact hl rfl)];clear hu hv h h' g0 e0 g1 g2 e1 e2;generalize xs.length = n at *;generalize ys.length = m at *;go_enter Tryz.func138, Tryz.ntmps138
  go_wp2_with fail
  go_ret
  exact ⟨rfl, 0, rfl⟩
theorem rsameDR {u v : Value} {xs ys : List PDot} {w : World} {r : Bool} (hu : SeqE LDot w u xs) (hv : SeqE LDot w v ys) (e : decide (xs = ys) = r) : Calls Tryz.prog 138 #[u, v] w (GivesB w r) := by
 rw [← e];exact (rsameD_any hu hv).mono fun _ _ ⟨h, hw⟩ => ⟨h, below_of_drawn hw⟩
theorem rsameE_any {u v : Value} {xs ys : List PEff} {w : World} (hu : SeqE LEff w u xs) (hv : SeqE LEff w v ys) :
  Calls Tryz.prog 91 #[u, v] w (GivesB w (decide (xs = ys))) := by
 obtain ⟨a, cap, rfl, g1, g2, g0, h⟩ := hu.parts;obtain ⟨a', cap', rfl, e1, e2, e0, h'⟩ := hv.parts
 by_cases hl : xs.length = ys.length
 rotate_left
 ·have hne : ((xs.length : Int) == (ys.length : Int)) = false := by simp; omega
  rw [decide_eq_false (by intro e; subst e; exact hl rfl)];clear hu hv h h' g0 e0 g1 g2 e1 e2;generalize xs.length = n at *;generalize ys.length = m at *;go_enter Tryz.func91, Tryz.ntmps91
  go_wp2_with fail
  go_ret
  exact ⟨rfl, Below.refl _ _⟩
 obtain ⟨n, hN⟩ : ∃ n, xs.length = n := ⟨_, rfl⟩;have hM : ys.length = n := by omega
 have hT : (∀ j, j < n → xs.getD j default = ys.getD j default) → decide (xs = ys) = true := fun hall => decide_eq_true (by
  apply List.ext_getElem hl
  intro j h1 h2;have := hall j (by omega)
  simpa [List.getD, List.getElem?_eq_getElem h1, List.getElem?_eq_getElem h2] using this)
 have hF : ∀ j, ¬ xs.getD j default = ys.getD j default → decide (xs = ys) = false := fun j hne => decide_eq_false (by
  intro e; subst e; exact hne rfl)
 have HT := zH hT;have HF := zH hF;generalize decide (xs = ys) = r at *;rw [hN] at h g1 ⊢;rw [hM] at h' e1 ⊢;have HS := zH h;have HS' := zH h';have LN := zH hN;have LM := zH hM;clear hu hv h h' g0 e0 hl hT hF hN hM;go_enter Tryz.func91, Tryz.ntmps91
 go_wp2_with fail
 go_loopw [5, 6, 7] (fun i _ _ wr => ∃ k : Nat, k ≤ n ∧ i = .int .i64 k ∧ (∀ j, j < k → xs.getD j default = ys.getD j default) ∧ Below w.heap.size w wr) (fun i _ _ _ => n - (intOf i).toNat)
 case atStart => exact ⟨0, Nat.zero_le _, rfl, (fun j hj => absurd hj (by omega)), Below.refl _ _⟩
 case round =>
  obtain ⟨k, hk, rfl, hall, hb⟩ := hrel;have HALL := zH hall;have HB := zH hb;clear hall hb
  by_cases hlt : k < n
  rotate_left
  ·obtain rfl : k = n := by omega
   obtain rfl : r = true := HT.out HALL.out;go_wp2_with fail
   go_ret
   exact ⟨rfl, HB.out⟩
  obtain ⟨b, o, c, hv, -, -, -, hc⟩ := effs_spot (HS.out.below HB.out) (by rw [LN.out]; omega);rw [LN.out] at hv;simp only [Value.slice.injEq] at hv
  obtain ⟨rfl, -, rfl⟩ := hv;obtain ⟨b2, o2, c', hv', -, -, -, hc'⟩ := effs_spot (HS'.out.below HB.out) (by rw [LM.out]; omega);rw [LM.out] at hv';simp only [Value.slice.injEq] at hv'
  obtain ⟨rfl, -, rfl⟩ := hv';obtain ⟨dv, EA, SD⟩ := hc k (by rw [LN.out]; exact hlt);obtain ⟨ev, EB, SE⟩ := hc' k (by rw [LM.out]; exact hlt);have HFK := zH (HF.out k);have HNX : Hid (xs.getD k default = ys.getD k default → ∀ j, j < k + 1 → xs.getD j default = ys.getD j default) := zH (fun he j hj => by
   by_cases e : j = k
   ·rw [e]; exact he
   ·exact HALL.out j (by omega))
  clear hc hc';generalize xs.getD k default = x at *;generalize ys.getD k default = y at *;obtain ⟨da, dn, dc, rfl⟩ : ∃ a n c, dv = .slice a n c := by obtain ⟨a, c, h, -⟩ := SD.parts; exact ⟨a, _, c, h⟩
  obtain ⟨ea, en, ec, rfl⟩ : ∃ a n c, ev = .slice a n c := by obtain ⟨a, c, h, -⟩ := SE.parts; exact ⟨a, _, c, h⟩
  have EAH := zH EA;have EBH := zH EB;have SDH := zH SD;have SEH := zH SE;clear EA EB SD SE;have KE : Hid (∀ U, Below wr.heap.size wr U → Below wr.heap.size wr U ∧ (U.cell? ⟨b, o + k * 7, none⟩ = some (.int .i64 x.pos) ∧ U.cell? ⟨b, o + k * 7 + 1, none⟩ = some (.string (bt x.key)) ∧ U.cell? ⟨b, o + k * 7 + 2, none⟩ = some (.string (bt x.field)) ∧ U.cell? ⟨b, o + k * 7 + 3, none⟩ = some (.int .i64 x.kind) ∧ U.cell? ⟨b, o + k * 7 + 4, none⟩ = some (.string (bt x.elem)) ∧ U.cell? ⟨b, o + k * 7 + 5, none⟩ = some (.int .i64 x.n) ∧ U.cell? ⟨b, o + k * 7 + 6, none⟩ = some ((.slice da dn dc))) ∧ (U.cell? ⟨b2, o2 + k * 7, none⟩ = some (.int .i64 y.pos) ∧ U.cell? ⟨b2, o2 + k * 7 + 1, none⟩ = some (.string (bt y.key)) ∧ U.cell? ⟨b2, o2 + k * 7 + 2, none⟩ = some (.string (bt y.field)) ∧ U.cell? ⟨b2, o2 + k * 7 + 3, none⟩ = some (.int .i64 y.kind) ∧ U.cell? ⟨b2, o2 + k * 7 + 4, none⟩ = some (.string (bt y.elem)) ∧ U.cell? ⟨b2, o2 + k * 7 + 5, none⟩ = some (.int .i64 y.n) ∧ U.cell? ⟨b2, o2 + k * 7 + 6, none⟩ = some ((.slice ea en ec)))) := zH (fun U hU => ⟨hU, by obtain ⟨c0, c1, c2, c3, c4, c5, c6⟩ := EAH.out.below hU EAH.out.lt; exact ⟨c0, c1, c2, c3, c4, c5, c6⟩, by obtain ⟨c0, c1, c2, c3, c4, c5, c6⟩ := EBH.out.below hU EBH.out.lt; exact ⟨c0, c1, c2, c3, c4, c5, c6⟩⟩);obtain ⟨c0, c1, c2, c3, c4, c5, c6⟩ := EAH.out;obtain ⟨d0, d1, d2, d3, d4, d5, d6⟩ := EBH.out;go_upto_region 6 with fail
  clear c0 c1 c2 c3 c4 c5 c6 d0 d1 d2 d3 d4 d5 d6
  go_cut [6, 7] (fun s6 s7 wx => ∃ (g h : Nat), s6 = .pointer (some ⟨g, 0, none⟩) ∧ s7 = .pointer (some ⟨h, 0, none⟩) ∧ EffAt wx g 0 x (.slice da dn dc) ∧ EffAt wx h 0 y (.slice ea en ec) ∧ Below wr.heap.size wr wx)
  case first =>
   refine wp_region_held_drew (S := fun U => Below wr.heap.size wr U ∧ (U.cell? ⟨b, o + k * 7, none⟩ = some (.int .i64 x.pos) ∧ U.cell? ⟨b, o + k * 7 + 1, none⟩ = some (.string (bt x.key)) ∧ U.cell? ⟨b, o + k * 7 + 2, none⟩ = some (.string (bt x.field)) ∧ U.cell? ⟨b, o + k * 7 + 3, none⟩ = some (.int .i64 x.kind) ∧ U.cell? ⟨b, o + k * 7 + 4, none⟩ = some (.string (bt x.elem)) ∧ U.cell? ⟨b, o + k * 7 + 5, none⟩ = some (.int .i64 x.n) ∧ U.cell? ⟨b, o + k * 7 + 6, none⟩ = some ((.slice da dn dc))) ∧ (U.cell? ⟨b2, o2 + k * 7, none⟩ = some (.int .i64 y.pos) ∧ U.cell? ⟨b2, o2 + k * 7 + 1, none⟩ = some (.string (bt y.key)) ∧ U.cell? ⟨b2, o2 + k * 7 + 2, none⟩ = some (.string (bt y.field)) ∧ U.cell? ⟨b2, o2 + k * 7 + 3, none⟩ = some (.int .i64 y.kind) ∧ U.cell? ⟨b2, o2 + k * 7 + 4, none⟩ = some (.string (bt y.elem)) ∧ U.cell? ⟨b2, o2 + k * 7 + 5, none⟩ = some (.int .i64 y.n) ∧ U.cell? ⟨b2, o2 + k * 7 + 6, none⟩ = some ((.slice ea en ec)))) (by kernel_rfl) ?_ (fun hHeld => ?_)
   ·(exact KE.out _ (Below.refl _ _).drew)
   simp only [zS, Nat.zero_add, Nat.reduceAdd]
   refine tkB 0 hHeld ?_;refine tkB 1 hHeld ?_;refine tkB 2 hHeld ?_;refine tkB 3 hHeld ?_;refine tkB 4 hHeld ?_;refine tkB 5 hHeld ?_;refine tkB 6 hHeld ?_;refine tkB 7 hHeld ?_;refine wpAnyH_ready (rs := [8, 9]) (by kernel_rfl) (by simp) ?_;refine AllReadyH.cons rfl (fun K hK => ?_) (AllReadyH.cons rfl (fun K hK => ?_) AllReadyH.nil)
   ·go_simp
    refine hK.out _ _ (KE.out _ ((zB wr _).drew)) (fun hHeld => ?_);clear hK K;refine rd 9 fun K hK => ?_
    go_simp
    refine hK.out _ _ (KE.out _ (((zB wr _).alloc (by simp) _).drew)) (fun hHeld => ?_);clear hK K;refine rd 10 fun K hK => ?_
    go_simp
    refine hK.out _ _ (KE.out _ (((zB wr _).alloc (by simp) _).drew)) (fun hHeld => ?_);clear hK K;refine rd 11 fun K hK => ?_
    go_simp
    refine hK.out _ _ (KE.out _ (((zB wr _).alloc (by simp) _).drew)) (fun hHeld => ?_);clear hK K;refine wpAnyH_done (by kernel_rfl) ?_ _;go_wp2_with fail
    go_meet
    refine ⟨wr.heap.size, wr.heap.size + 1, rfl, rfl, ?_, ?_, (((zB wr _).alloc (by simp) _).drew)⟩
    ·constructor <;> simp
    ·constructor <;> simp
   ·go_simp
    refine hK.out _ _ (KE.out _ ((zB wr _).drew)) (fun hHeld => ?_);clear hK K;refine rd 8 fun K hK => ?_
    go_simp
    refine hK.out _ _ (KE.out _ (((zB wr _).alloc (by simp) _).drew)) (fun hHeld => ?_);clear hK K;refine rd 10 fun K hK => ?_
    go_simp
    refine hK.out _ _ (KE.out _ (((zB wr _).alloc (by simp) _).drew)) (fun hHeld => ?_);clear hK K;refine rd 11 fun K hK => ?_
    go_simp
    refine hK.out _ _ (KE.out _ (((zB wr _).alloc (by simp) _).drew)) (fun hHeld => ?_);clear hK K;refine wpAnyH_done (by kernel_rfl) ?_ _;go_wp2_with fail
    go_meet
    refine ⟨wr.heap.size + 1, wr.heap.size, rfl, rfl, ?_, ?_, (((zB wr _).alloc (by simp) _).drew)⟩
    ·constructor <;> simp
    ·constructor <;> simp
  case rest =>
   obtain ⟨g, h, rfl, rfl, EX, EY, hb⟩ := hcut;have HBc := zH (HB.out.trans (hb.mono HB.out.size));have SDc := zH (SDH.out.below hb);have SEc := zH (SEH.out.below hb);obtain ⟨x0, x1, x2, x3, x4, x5, x6⟩ := EX;obtain ⟨y0, y1, y2, y3, y4, y5, y6⟩ := EY;clear hb EAH EBH SDH SEH KE;simp only [Nat.zero_add] at x1 x2 x3 x4 x5 x6 y1 y2 y3 y4 y5 y6
   have t1 := text_eq x.key y.key;have t2 := text_eq x.field y.field;have t3 := text_eq x.elem y.elem
   by_cases q_pos : x.pos = y.pos
   rotate_left
   ·obtain rfl : r = false := HFK.out (fun e => q_pos (by rw [e]))
    have b_pos : (x.pos != y.pos) = true := bne_iff_ne.2 q_pos;clear HFK HNX q_pos;go_wp2_with fail
    go_ret
    exact ⟨rfl, HBc.out⟩
   have b_pos : (x.pos != y.pos) = false := by rw [q_pos]; simp
   by_cases q_key : x.key = y.key
   rotate_left
   ·obtain rfl : r = false := HFK.out (fun e => q_key (by rw [e]))
    rw [decide_eq_false q_key] at t1;clear HFK HNX q_pos q_key;go_wp2_with fail
    go_ret
    exact ⟨rfl, HBc.out⟩
   rw [decide_eq_true q_key] at t1
   by_cases q_field : x.field = y.field
   rotate_left
   ·obtain rfl : r = false := HFK.out (fun e => q_field (by rw [e]))
    rw [decide_eq_false q_field] at t2;clear HFK HNX q_pos q_key q_field;go_wp2_with fail
    go_ret
    exact ⟨rfl, HBc.out⟩
   rw [decide_eq_true q_field] at t2
   by_cases q_kind : x.kind = y.kind
   rotate_left
   ·obtain rfl : r = false := HFK.out (fun e => q_kind (by rw [e]))
    have b_kind : (x.kind != y.kind) = true := bne_iff_ne.2 q_kind;clear HFK HNX q_pos q_key q_field q_kind;go_wp2_with fail
    go_ret
    exact ⟨rfl, HBc.out⟩
   have b_kind : (x.kind != y.kind) = false := by rw [q_kind]; simp
   by_cases q_elem : x.elem = y.elem
   rotate_left
   ·obtain rfl : r = false := HFK.out (fun e => q_elem (by rw [e]))
    rw [decide_eq_false q_elem] at t3;clear HFK HNX q_pos q_key q_field q_kind q_elem;go_wp2_with fail
    go_ret
    exact ⟨rfl, HBc.out⟩
   rw [decide_eq_true q_elem] at t3
   by_cases q_n : x.n = y.n
   rotate_left
   ·obtain rfl : r = false := HFK.out (fun e => q_n (by rw [e]))
    have b_n : (x.n != y.n) = true := bne_iff_ne.2 q_n;clear HFK HNX q_pos q_key q_field q_kind q_elem q_n;go_wp2_with fail
    go_ret
    exact ⟨rfl, HBc.out⟩
   have b_n : (x.n != y.n) = false := by rw [q_n]; simp
   have K := rsameDR SDc.out SEc.out rfl
   cases hd : decide (x.drops = y.drops) with
   | false =>
    obtain rfl : r = false := HFK.out (fun e => by rw [e, decide_eq_true rfl] at hd; cases hd);rw [hd] at K;clear HFK HNX hd q_pos q_key q_field q_kind q_elem q_n;go_wp2_with fail
    refine K.mono ?_;rintro e w3 ⟨rfl, hb⟩;have G3 := zH (HBc.out.trans (hb.mono HBc.out.size));clear hb K;go_wp2_with fail
    go_ret
    exact ⟨rfl, G3.out⟩
   | true =>
    have HU := zH (HNX.out (peff_ext q_pos q_key q_field q_kind q_elem q_n (of_decide_eq_true hd)));rw [hd] at K;clear HFK HNX hd q_pos q_key q_field q_kind q_elem q_n;go_wp2_with fail
    refine K.mono ?_;rintro e w3 ⟨rfl, hb⟩;have G3 := zH (HBc.out.trans (hb.mono HBc.out.size));clear hb K;go_wp2_with fail
    go_roundw
    case rel => exact ⟨k + 1, by omega, by go_num, HU.out, G3.out⟩
    case measure => simp [intOf]; omega
theorem rsameER {u v : Value} {xs ys : List PEff} {w : World} {r : Bool} (hu : SeqE LEff w u xs) (hv : SeqE LEff w v ys) (e : decide (xs = ys) = r) : Calls Tryz.prog 91 #[u, v] w (GivesB w r) := by
 rw [← e];exact rsameE_any hu hv
theorem ptxn_dec (p q : PTxn) : decide (p = q) = (decide (p.node = q.node) && (decide (p.seq = q.seq) && (decide (p.deps = q.deps) && decide (p.effs = q.effs)))) := by
 rw [Bool.eq_iff_iff];simp only [Bool.and_eq_true, decide_eq_true_iff]
 exact ⟨fun h => by subst h; exact ⟨rfl, rfl, rfl, rfl⟩, fun ⟨h1, h2, h3, h4⟩ => ptxn_ext h1 h2 h3 h4⟩
theorem pair_cells' (w : World) (X Y : Array Value) (t u : TypeId) (i : Nat) :
  ((w.alloc (.cells X t)).alloc (.cells Y u)).cell? ⟨w.heap.size, i, none⟩ = X[i]? ∧ ((w.alloc (.cells X t)).alloc (.cells Y u)).cell? ⟨w.heap.size + 1, i, none⟩ = Y[i]? := by
 have s1 : (w.alloc (.cells X t)).heap.size = w.heap.size + 1 := by simp
 have h1 := World.cell?_alloc_new w X t i;have h2 := World.cell?_alloc_new (w.alloc (.cells X t)) Y u i;rw [s1] at h2;have b2 := (Below.refl (w.heap.size + 1) (w.alloc (.cells X t))).alloc (by rw [s1]; exact Nat.le_refl _) (.cells Y u);exact ⟨(b2.cell (p := ⟨w.heap.size, i, none⟩) (show w.heap.size < w.heap.size + 1 by omega)).trans h1, h2⟩
theorem rsameTx {u v : Value} {p q : PTxn} {w : World} (hu : IsTxn w u p) (hv : IsTxn w v q) (r : Bool) (hr : decide (p = q) = r) : Calls Tryz.prog 40 #[u, v] w (GivesB w r) := by
 have HD := zH (hr.symm.trans (ptxn_dec p q));obtain ⟨dv, ev, rfl, sd, se⟩ := hu;obtain ⟨dv', ev', rfl, sd', se'⟩ := hv;obtain ⟨da, dn, dc, rfl⟩ : ∃ a n c, dv = .slice a n c := by obtain ⟨a, c, h, -⟩ := sd.parts; exact ⟨a, _, c, h⟩
 obtain ⟨ea, en, ec, rfl⟩ : ∃ a n c, ev = .slice a n c := by obtain ⟨a, c, h, -⟩ := se.parts; exact ⟨a, _, c, h⟩
 obtain ⟨fa, fn, fc, rfl⟩ : ∃ a n c, dv' = .slice a n c := by obtain ⟨a, c, h, -⟩ := sd'.parts; exact ⟨a, _, c, h⟩
 obtain ⟨ga, gn, gc, rfl⟩ : ∃ a n c, ev' = .slice a n c := by obtain ⟨a, c, h, -⟩ := se'.parts; exact ⟨a, _, c, h⟩
 have hb := (zB w (.cells #[.int .i64 p.node, .int .i64 p.seq, .slice da dn dc, .slice ea en ec] 51)).alloc (by simp) (.cells #[.int .i64 q.node, .int .i64 q.seq, .slice fa fn fc, .slice ga gn gc] 51);have PC := fun i => pair_cells' w #[.int .i64 p.node, .int .i64 p.seq, .slice da dn dc, .slice ea en ec] #[.int .i64 q.node, .int .i64 q.seq, .slice fa fn fc, .slice ga gn gc] 51 51 i
 have XB : Hid (TxnAt ((w.alloc (.cells #[.int .i64 p.node, .int .i64 p.seq, .slice da dn dc, .slice ea en ec] 51)).alloc (.cells #[.int .i64 q.node, .int .i64 q.seq, .slice fa fn fc, .slice ga gn gc] 51)) w.heap.size 0 p (.slice da dn dc) (.slice ea en ec)) := zH ⟨(PC 0).1, (PC 1).1, (PC 2).1, (PC 3).1⟩;have YB : Hid (TxnAt ((w.alloc (.cells #[.int .i64 p.node, .int .i64 p.seq, .slice da dn dc, .slice ea en ec] 51)).alloc (.cells #[.int .i64 q.node, .int .i64 q.seq, .slice fa fn fc, .slice ga gn gc] 51)) (w.heap.size + 1) 0 q (.slice fa fn fc) (.slice ga gn gc)) := zH ⟨(PC 0).2, (PC 1).2, (PC 2).2, (PC 3).2⟩;have G := zH hb;have SD := zH (seqI_of (sd.below hb));have SD' := zH (seqI_of (sd'.below hb));have SE := zH (se.below hb);have SE' := zH (se'.below hb);clear sd se sd' se' PC hb hr;go_enter Tryz.func40, Tryz.ntmps40
 go_upto_region 1 with fail
 generalize ((w.alloc (.cells #[.int .i64 p.node, .int .i64 p.seq, .slice da dn dc, .slice ea en ec] 51)).alloc (.cells #[.int .i64 q.node, .int .i64 q.seq, .slice fa fn fc, .slice ga gn gc] 51)) = w1 at *;obtain ⟨x0, x1, x2, x3⟩ := XB.out;obtain ⟨y0, y1, y2, y3⟩ := YB.out;simp only [Nat.zero_add] at x1 x2 x3 y1 y2 y3
 by_cases h1 : p.node = q.node
 rotate_left
 ·have b1 : (p.node == q.node) = false := beq_false_of_ne h1
  obtain rfl : r = false := by rw [HD.out, decide_eq_false h1]; rfl
  clear HD h1;go_wp2_with fail
  go_ret
  exact ⟨rfl, G.out⟩
 have b1 : (p.node == q.node) = true := beq_iff_eq.2 h1;rw [decide_eq_true h1, Bool.true_and] at HD
 by_cases h2 : p.seq = q.seq
 rotate_left
 ·have b2 : (p.seq == q.seq) = false := beq_false_of_ne h2
  obtain rfl : r = false := by rw [HD.out, decide_eq_false h2]; rfl
  clear HD h1 h2;go_wp2_with fail
  go_ret
  exact ⟨rfl, G.out⟩
 have b2 : (p.seq == q.seq) = true := beq_iff_eq.2 h2;rw [decide_eq_true h2, Bool.true_and] at HD;have K := vc_requal_any SD.out SD'.out;clear h1 h2
 cases h3 : decide (p.deps = q.deps) with
 | false =>
  rw [h3] at K;obtain rfl : r = false := by rw [HD.out, h3]; rfl
  clear HD h3;go_wp2_with fail
  refine K.mono ?_;rintro e w2 ⟨rfl, nq, rfl⟩;go_wp2_with fail
  go_ret
  exact ⟨rfl, below_drewN G.out _⟩
 | true =>
  rw [h3] at K;rw [h3, Bool.true_and] at HD;clear h3;go_wp2_with fail
  refine K.mono ?_;rintro e w2 ⟨rfl, hdr⟩;have hb := below_of_drawn hdr;have z3 := (hb.cell (World.block_lt_of_cell? w1 _ x3)).trans x3;have u3 := (hb.cell (World.block_lt_of_cell? w1 _ y3)).trans y3;have K2 := rsameER (SE.out.below hb) (SE'.out.below hb) HD.out.symm;have G2 := zH (G.out.trans (hb.mono G.out.size));clear hdr hb K x0 x1 x2 x3 y0 y1 y2 y3 HD;go_wp2_with fail
  refine K2.mono ?_;rintro e w3 ⟨rfl, hb⟩;have G3 := zH (G2.out.trans (hb.mono G2.out.size));clear hb K2;go_wp2_with fail
  go_ret
  exact ⟨rfl, G3.out⟩
def IsTxnIn (Q : Nat → Prop) (w : World) (v : Value) (t : PTxn) : Prop := ∃ dv ev, v = .agg #[.int .i64 t.node, .int .i64 t.seq, dv, ev] ∧ Sq LInt Q w dv t.deps ∧ Sq LEff Q w ev t.effs
theorem IsTxn.all {w : World} {v : Value} {t : PTxn} (h : IsTxn w v t) : IsTxnIn (· < w.heap.size) w v t := h
theorem IsTxnIn.mono {P Q : Nat → Prop} {w : World} {v : Value} {t : PTxn} (h : IsTxnIn P w v t) (hq : ∀ b, P b → Q b) : IsTxnIn Q w v t := by
 obtain ⟨dv, ev, rfl, h1, h2⟩ := h;exact ⟨dv, ev, rfl, h1.mono hq, h2.mono hq⟩
theorem IsTxnIn.agree {Q : Nat → Prop} {w w' : World} {v : Value} {t : PTxn} (h : IsTxnIn Q w v t) (hq : ∀ b, Q b → w'.heap[b]? = w.heap[b]?) : IsTxnIn Q w' v t := by
 obtain ⟨dv, ev, rfl, h1, h2⟩ := h;exact ⟨dv, ev, rfl, h1.agree hq, h2.agree hq⟩
theorem IsTxnIn.below {Q : Nat → Prop} {w w' : World} {v : Value} {t : PTxn} (h : IsTxnIn Q w v t) (hb : Below w.heap.size w w') (hq : ∀ b, Q b → b < w.heap.size) : IsTxnIn Q w' v t := h.agree fun b hQ => hb.block b (hq b hQ)
def st4 (w : World) (g : Nat) (v0 v1 v2 v3 : Value) : World := (((w.setCell ⟨g, 0, none⟩ v0).setCell ⟨g, 1, none⟩ v1).setCell ⟨g, 2, none⟩ v2).setCell ⟨g, 3, none⟩ v3
theorem st4_other (w : World) (g : Nat) (v0 v1 v2 v3 : Value) (b : Nat) (h : b ≠ g) : (st4 w g v0 v1 v2 v3).heap[b]? = w.heap[b]? := by
 unfold st4;rw [Below.heap_setCell _ _ _ _ h, Below.heap_setCell _ _ _ _ h, Below.heap_setCell _ _ _ _ h, Below.heap_setCell _ _ _ _ h]
theorem st4_below {B : Nat} {w u : World} {g : Nat} {v0 v1 v2 v3 : Value} (h : Below B w u) (hg : B ≤ g) : Below B w (st4 u g v0 v1 v2 v3) := (((h.setCell hg _).setCell hg _).setCell hg _).setCell hg _
theorem st4_block {w : World} {g : Nat} {z0 z1 z2 z3 v0 v1 v2 v3 : Value} {t : TypeId} (h : w.heap[g]? = some (.cells #[z0, z1, z2, z3] t (0, 0))) : (st4 w g v0 v1 v2 v3).heap[g]? = some (.cells #[v0, v1, v2, v3] t (0, 0)) := by
 unfold st4;rw [heap_setCell_same _ g 3 _ _ _ (heap_setCell_same _ g 2 _ _ _ (heap_setCell_same _ g 1 _ _ _ (heap_setCell_same _ g 0 _ _ _ h)))]
 rfl
theorem st4_cells {w : World} {g : Nat} {z0 z1 z2 z3 : Value} {t : TypeId} (h : w.heap[g]? = some (.cells #[z0, z1, z2, z3] t (0, 0))) :
  (w.cell? ⟨g, 0, none⟩ = some z0 ∧ w.cell? ⟨g, 1, none⟩ = some z1 ∧ w.cell? ⟨g, 2, none⟩ = some z2 ∧ w.cell? ⟨g, 3, none⟩ = some z3) ∧
  w.frozen? ⟨g, 0, none⟩ = false ∧ w.frozen? ⟨g, 1, none⟩ = false ∧ w.frozen? ⟨g, 2, none⟩ = false ∧ w.frozen? ⟨g, 3, none⟩ = false := by
 refine ⟨⟨?_, ?_, ?_, ?_⟩, ?_, ?_, ?_, ?_⟩
 ·simp [World.cell?, h]
 ·simp [World.cell?, h]
 ·simp [World.cell?, h]
 ·simp [World.cell?, h]
 ·unfold World.frozen?; rw [h]; simp
 ·unfold World.frozen?; rw [h]; simp
 ·unfold World.frozen?; rw [h]; simp
 ·unfold World.frozen?; rw [h]; simp
theorem IsTxnIn.parts {Q : Nat → Prop} {w : World} {v : Value} {t : PTxn} (h : IsTxnIn Q w v t) : ∃ da dn dc ea en ec, v = .agg #[.int .i64 t.node, .int .i64 t.seq, .slice da dn dc, .slice ea en ec] ∧ IsTxnIn Q w (.agg #[.int .i64 t.node, .int .i64 t.seq, .slice da dn dc, .slice ea en ec]) t := by
 obtain ⟨dv, ev, rfl, h1, h2⟩ := h;obtain ⟨a1, c1, v1, rfl, r1⟩ := h1;obtain ⟨a2, c2, v2, rfl, r2⟩ := h2;exact ⟨_, _, _, _, _, _, rfl, _, _, rfl, ⟨a1, c1, v1, rfl, r1⟩, ⟨a2, c2, v2, rfl, r2⟩⟩
theorem infoBy : (Tryz.prog.info? 5).map (fun i => (i.zero, i.size, i.bytes)) = some (some (.int .u8 0), 1, 1) := by kernel_rfl
theorem oneBy {vs : List Value} {x : BitVec 8} (h : vs = [By.bv x]) : ∀ u ∈ vs, u.oneCell' = true := by
 subst h;intro u hu;rw [List.mem_singleton.1 hu]
 rfl
def LByte : El (BitVec 8) where
 k := 1
 E := 5
 S := 31
 zero := .int .u8 0
 bytes := 1
 R := fun _ _ vs x => vs = [By.bv x]
 pos := by decide
 small := by decide
 len := fun h => by rw [h]; rfl
 one := oneBy
 mono := fun h _ => h
 agree := fun h _ => h
 und := Tryz.underlying31
 info := infoBy
 zsize := rfl
theorem flat_byte : Flat LByte := fun h => h
theorem by_of {w : World} {v : Value} {xs : Bytes} (h : SeqE LByte w v xs) : By.Seq w v xs := by
 obtain ⟨a, cap, rfl, h1, h2, h0, h3⟩ := h.parts;refine ⟨a, cap, rfl, h1, h2, h0, fun hp => ?_⟩;obtain ⟨b, o, c, hv, -, -, -, hc⟩ := h.spot hp;simp only [Value.slice.injEq] at hv
 obtain ⟨rfl, -, rfl⟩ := hv;refine ⟨b, o, rfl, fun j hj => ?_⟩;have e : xs[j]? = some (xs.getD j 0#8) := by simp [List.getD, List.getElem?_eq_getElem hj]
 obtain ⟨vs, hr, hx⟩ := hc j _ e;obtain rfl : vs = [By.bv (xs.getD j 0#8)] := hr;have := hx 0 _ rfl;rw [show o + (j * LByte.k + 0) = o + j by show o + (j * 1 + 0) = o + j; omega] at this;exact this
theorem by_lit (w : World) (xs : Bytes) (C : Array Value) (hC : C.toList = xs.map By.bv) (hl : xs.length ≤ 1000000) : By.Seq (w.alloc (.cells C 5)) (.slice (some ⟨w.heap.size, 0, none⟩) xs.length xs.length) xs := by
 refine ⟨_, xs.length, rfl, Nat.le_refl _, by unfold maxLen; omega, (by simp), fun hp => ⟨w.heap.size, 0, rfl, fun j hj => ?_⟩⟩;have h := World.cell?_alloc_new w C 5 (0 + j);rw [Nat.zero_add] at h ⊢;rw [h, ← Array.getElem?_toList, hC, List.getElem?_map];simp [List.getD, List.getElem?_eq_getElem hj]
section
open Go.ChangeShapes Go.WideShapes Go.Joins
set_option maxRecDepth 100000
theorem cellsOfByte : Tryz.prog.cellsOf 5 = 1 := by kernel_rfl
theorem byte_of_cells {H : Type} {enc : TypeId × Value → H} {W : World} {n : Nat} {cs : List Value} {y : DataW H × List MemPlace} (ht : DataW.trod enc Tryz.prog W 0 (fun _ => true) true n 5 cs = some y) : ∃ x, LByte.R (· < W.heap.size) W cs x ∧ True := by
 obtain ⟨a0, g0, -, w0⟩ := DataW.trod_int Tryz.underlying5 ht;have h : 0 ≤ a0 ∧ a0 ≤ 255 := by simpa [Lit.wf, IntKind.min, IntKind.max, IntKind.signed, IntKind.bits] using w0
 refine ⟨BitVec.ofNat 8 a0.toNat, ?_, trivial⟩
 show cs = [By.bv (BitVec.ofNat 8 a0.toNat)]
 rw [g0];unfold By.bv;rw [BitVec.toNat_ofNat, Nat.mod_eq_of_lt (by omega)];rw [Int.toNat_of_nonneg h.1]
def IsBytesA (w : World) (v : Value) : Prop := ∃ xs : Bytes, By.Seq w v xs
theorem bytes_of_trod {H : Type} {enc : TypeId × Value → H} {W : World} {r : Reach} {b : Nat} {v : Value} {d : DataW H} {p : List MemPlace} (hv : Value.okWide Tryz.prog W r b 31 v) (h : DataW.Trod enc Tryz.prog W 0 (fun _ => true) true 31 v d p) : IsBytesA W v := by
 obtain ⟨xs, hs, -⟩ := elems_of_trod LByte (fun _ => True) flat_byte cellsOfByte (fun ht => byte_of_cells ht) hv h;exact ⟨xs, by_of hs⟩
end
end Go.Proofs.YtfapkepfngddlaaGreat
