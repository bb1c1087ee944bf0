/- What slices.Equal, slices.IndexFunc, slices.ContainsFunc, slices.Concat of items leave. (Written by gen-items.py.) -/
import Derived.Test.YtpnpomocjkmncaaGreatEqI
import Derived.Test.YtpnpomocjkmncaaGreatRefIs
import Derived.Test.YtpnpomocjkmncaaGreatISets
import Derived.Test.YtpnpomocjkmncaaGreatICompare
import Derived.Lib.AppendZeros
import Derived.WalkSpells
import Derived.Shelf.Abstract
namespace Go.Proofs.YtpnpomocjkmncaaGreat
open Go.RowKit Plain
set_option linter.unusedVariables false

set_option maxRecDepth 100000 in
set_option maxHeartbeats 4000000 in
theorem stequal_any {u v : Value} {xs ys : List PItem} {w : World} (hu : SeqE LItem w u xs) (hv : SeqE LItem w v ys) :
  Calls Tryz.prog 46 #[u, v] w fun e w' => e = .returned (.bool (decide (xs = ys))) ∧ ∃ n, w' = w.drewN n := by
 obtain ⟨a, cap, rfl, g1, g2, g0, h⟩ := hu.parts
 obtain ⟨a', cap', rfl, e1, e2, e0, h'⟩ := hv.parts
 by_cases hl : xs.length = ys.length
 ·obtain ⟨n, hN⟩ : ∃ n, xs.length = n := ⟨_, rfl⟩
  have hM : ys.length = n := by omega
  have hT : (∀ j, j < n → xs.getD j default = ys.getD j default) → decide (xs = ys) = true := fun hall => decide_eq_true (by
   apply List.ext_getElem hl
   intro j h1 h2
   have := hall j (by omega)
   simpa [List.getD, List.getElem?_eq_getElem h1, List.getElem?_eq_getElem h2] using this)
  have hF : ∀ j, ¬ xs.getD j default = ys.getD j default → decide (xs = ys) = false := fun j hne => decide_eq_false (by
   intro e; subst e; exact hne rfl)
  have HT := Lib.hid hT
  have HF := Lib.hid hF
  generalize decide (xs = ys) = r at *
  rw [hN] at h g1 ⊢
  rw [hM] at h' e1 ⊢
  have HS := Lib.hid h
  have HS' := Lib.hid h'
  have LN := Lib.hid hN
  have LM := Lib.hid hM
  clear hu hv h h' g0 e0 hl hT hF hN hM
  go_enter Tryz.func46, Tryz.ntmps46
  go_wp2_with fail
  go_loopw [13] (fun i wr => ∃ k : Nat, k ≤ n ∧ i = .int .i64 k ∧ (∀ j, j < k → xs.getD j default = ys.getD j default) ∧ ∃ q, wr = w.drewN q) (fun i _ => n - (intOf i).toNat)
  case atStart => exact ⟨0, Nat.zero_le _, rfl, (fun j hj => absurd hj (by omega)), 0, rfl⟩
  case round =>
   obtain ⟨k, hk, rfl, hall, q, rfl⟩ := hrel
   have HALL := Lib.hid hall
   clear hall
   by_cases hlt : k < n
   ·obtain ⟨b, o, c, hv, -, -, -, hc⟩ := items_spot HS.out (by rw [LN.out]; omega)
    rw [LN.out] at hv
    simp only [Value.slice.injEq] at hv
    obtain ⟨rfl, -, rfl⟩ := hv
    obtain ⟨b', o', c', hv', -, -, -, hc'⟩ := items_spot HS'.out (by rw [LM.out]; omega)
    rw [LM.out] at hv'
    simp only [Value.slice.injEq] at hv'
    obtain ⟨rfl, -, rfl⟩ := hv'
    obtain ⟨c0, c1, c2, c3, c4, c5, c6, c7⟩ := hc k (by rw [LN.out]; exact hlt)
    obtain ⟨d0, d1, d2, d3, d4, d5, d6, d7⟩ := hc' k (by rw [LM.out]; exact hlt)
    have HFK := Lib.hid (HF.out k)
    have HNX : Hid (xs.getD k default = ys.getD k default → ∀ j, j < k + 1 → xs.getD j default = ys.getD j default) := Lib.hid (fun he j hj => by
     by_cases e : j = k
     ·rw [e]; exact he
     ·exact HALL.out j (by omega))
    clear hc hc'
    generalize xs.getD k default = x at *
    generalize ys.getD k default = y at *
    have hq := neq_item x y
    by_cases he : x = y
    ·have HX := Lib.hid (HNX.out he)
     rw [decide_eq_true he] at hq
     clear he HNX HFK
     go_wp2_with fail
     go_quiet (fail)
     go_wp2_with fail
     go_roundw
     case rel => exact ⟨k + 1, by omega, by go_num, HX.out, _, rfl⟩
     case measure => simp [intOf]; omega
    ·obtain rfl : r = false := HFK.out he
     rw [decide_eq_false he] at hq
     clear he HNX HFK
     go_wp2_with fail
     go_quiet (fail)
     go_wp2_with fail
     go_ret
     exact ⟨rfl, _, World.drewN_drewN _ _ _⟩
   ·obtain rfl : k = n := by omega
    obtain rfl : r = true := HT.out HALL.out
    go_wp2_with fail
    go_ret
    exact ⟨rfl, _, rfl⟩
 ·have hne : ((xs.length : Int) != (ys.length : Int)) = true := bne_iff_ne.2 (by omega)
  rw [decide_eq_false (by intro e; subst e; exact hl rfl)]
  clear hu hv h h' g0 e0 g1 g2 e1 e2
  generalize xs.length = n at *
  generalize ys.length = m at *
  go_enter Tryz.func46, Tryz.ntmps46
  go_wp2_with fail
  go_ret
  exact ⟨rfl, 0, rfl⟩
set_option maxRecDepth 100000 in
set_option maxHeartbeats 2000000 in
theorem stindex_any {v : Value} {ds : List PItem} {w : World} (hv : SeqE LItem w v ds) (hn : ds.length ≤ 1000000) (p : PItem → Bool) (g : Nat) (lb : Array Value)
  (eg : ∀ args w, (callFunc g args).run Tryz.prog w = .ok (.enter g args) w)
  (hp : ∀ W d, Below w.heap.size w W → Calls Tryz.prog g (#[itv d] ++ lb) W (GivesB W (p d))) :
  Calls Tryz.prog 127 #[v, .func (.func g) #[] lb] w fun e w' => ∃ r : Int, e = .returned (.int .i64 r) ∧ decide (0 ≤ r) = ds.any p ∧ Below w.heap.size w w' := by
 obtain ⟨a, cap, rfl, g1, g2, g0, h⟩ := hv.parts
 have HS := Lib.hid h
 have HP := Lib.hid hp
 have HY : Hid (∀ k, k < ds.length → p (ds.getD k default) = true → ds.any p = true) := Lib.hid (fun k hk h => by
  rw [List.any_eq_true]
  exact ⟨_, by rw [show ds.getD k default = ds[k] by simp [List.getD, List.getElem?_eq_getElem hk]]; exact List.getElem_mem hk, h⟩)
 have HN : Hid ((∀ j, j < ds.length → p (ds.getD j default) = false) → ds.any p = false) := Lib.hid (fun h => by
  rw [List.any_eq_false]
  intro d hd
  obtain ⟨j, hj, rfl⟩ := List.getElem_of_mem hd
  have := h j hj
  rw [show ds.getD j default = ds[j] by simp [List.getD, List.getElem?_eq_getElem hj]] at this
  rw [this]
  decide)
 clear hp hv h g0
 obtain ⟨n, hN⟩ : ∃ n, ds.length = n := ⟨_, rfl⟩
 rw [hN] at hn g1 HS HY HN ⊢
 have LN := Lib.hid hN
 clear hN
 generalize ds.any p = r at *
 go_enter Tryz.func127, Tryz.ntmps127
 go_wp2_with fail
 go_loopw [8] (fun i wr => ∃ k : Nat, k ≤ n ∧ i = .int .i64 k ∧ (∀ j, j < k → p (ds.getD j default) = false) ∧ Below w.heap.size w wr) (fun i _ => n - (intOf i).toNat)
 case atStart => exact ⟨0, Nat.zero_le _, rfl, fun j hj => absurd hj (by omega), Below.refl _ _⟩
 case round =>
  obtain ⟨k, hk, rfl, hall, hb⟩ := hrel
  have HA := Lib.hid hall
  have HB := Lib.hid hb
  clear hall hb
  by_cases hlt : k < n
  ·obtain ⟨b, o, c, hv, -, -, -, hc⟩ := items_spot (HS.out.below HB.out) (by rw [LN.out]; omega)
   rw [LN.out] at hv
   simp only [Value.slice.injEq] at hv
   obtain ⟨rfl, -, rfl⟩ := hv
   obtain ⟨c0, c1, c2, c3, c4, c5, c6, c7⟩ := hc k (by rw [LN.out]; exact hlt)
   have HYK := Lib.hid (HY.out k hlt)
   have HAK : Hid (p (ds.getD k default) = false → ∀ j, j < k + 1 → p (ds.getD j default) = false) := Lib.hid (fun h j hj => by
    by_cases e : j = k
    ·rw [e]; exact h
    ·exact HA.out j (by omega))
   have K := HP.out wr (ds.getD k default) HB.out
   clear hc
   rw [itv_eq3] at K
   generalize ds.getD k default = d at *
   cases hpd : p d with
   | true =>
    rw [hpd] at K
    obtain rfl : r = true := HYK.out hpd
    clear hpd
    go_wp2_with (go_at_fn g; refine K.mono ?_; rintro e w1 ⟨rfl, hb⟩)
    have G := Lib.hid (HB.out.trans (hb.mono HB.out.size))
    clear hb c0 c1 c2 c3 c4 c5 c6 c7 K
    go_wp2_with fail
    go_ret
    exact ⟨k, rfl, by simp, G.out⟩
   | false =>
    rw [hpd] at K
    have HX := Lib.hid (HAK.out hpd)
    clear hpd
    go_wp2_with (go_at_fn g; refine K.mono ?_; rintro e w1 ⟨rfl, hb⟩)
    have G := Lib.hid (HB.out.trans (hb.mono HB.out.size))
    clear hb c0 c1 c2 c3 c4 c5 c6 c7 K
    go_wp2_with fail
    go_roundw
    case rel => exact ⟨k + 1, by omega, by go_num, HX.out, G.out⟩
    case measure => simp [intOf]; omega
  ·obtain rfl : k = n := by omega
   obtain rfl : r = false := HN.out HA.out
   go_wp2_with fail
   go_ret
   exact ⟨-1, rfl, by decide, HB.out⟩

set_option maxRecDepth 100000 in
set_option maxHeartbeats 1000000 in
theorem stcontains_any {v : Value} {ds : List PItem} {w : World} (hv : SeqE LItem w v ds) (hn : ds.length ≤ 1000000) (p : PItem → Bool) (g : Nat) (lb : Array Value)
  (eg : ∀ args w, (callFunc g args).run Tryz.prog w = .ok (.enter g args) w)
  (hp : ∀ W d, Below w.heap.size w W → Calls Tryz.prog g (#[itv d] ++ lb) W (GivesB W (p d))) :
  Calls Tryz.prog 86 #[v, .func (.func g) #[] lb] w (GivesB w (ds.any p)) := by
 have K := stindex_any hv hn p g lb eg hp
 obtain ⟨a, cap, rfl, -⟩ := hv.parts
 generalize ds.any p = r at *
 generalize ds.length = n at *
 clear hv hp
 go_enter Tryz.func86, Tryz.ntmps86
 go_wp2_with fail
 refine K.mono ?_
 rintro e w1 ⟨q, rfl, hq, hb⟩
 have G := Lib.hid hb
 clear hb K
 subst hq
 go_wp2_with fail
 go_ret
 exact ⟨rfl, G.out⟩

def flatI (f : Nat → List PItem) : Nat → List PItem
 | 0 => []
 | k + 1 => flatI f k ++ f k
theorem flatI_len (f : Nat → List PItem) (k n : Nat) (h : k ≤ n) : (flatI f k).length ≤ (flatI f n).length := by
 induction n with
 | zero =>
  obtain rfl : k = 0 := by omega
  exact Nat.le_refl _
 | succ n ih =>
  by_cases e : k = n + 1
  ·subst e; exact Nat.le_refl _
  ·have := ih (by omega)
   rw [flatI, List.length_append]; omega

set_option maxRecDepth 100000 in
set_option maxHeartbeats 4000000 in
theorem growI_nil (n : Nat) (hn : n ≤ 1073741824) (w : World) : Calls Tryz.prog 134 #[.slice none 0 0, .int .i64 n] w (MadeE LItem w []) := by
 obtain ⟨i0, hi, hz0, hz1, hz2⟩ := info_el LItem
 have hk8 : LItem.k = 8 := rfl
 have hb88 : LItem.bytes = 88 := rfl
 rw [hk8] at hz1
 rw [hb88] at hz2
 by_cases h0 : n = 0
 ·subst h0
  go_enter Tryz.func134, Tryz.ntmps134
  go_wp2_with fail
  go_ret
  exact ⟨_, rfl, OwnE.nil _ _, Below.refl _ _⟩
 ·have hp : 0 < n := by omega
  have hr := Lib.run_append_nil_zeros (P := Tryz.prog) w 24 3 24 64 i0 zeroIt .i64 .i64 Tryz.underlying24 Tryz.underlying3 hi hz0 n hp (by omega) (by omega) (by rw [hz2]; omega)
  have hge := grownCap_ge w n 0 64
  have hcm : grownCap w n 0 64 ≤ maxLen := grownCap_le_maxLen w n 0 64 (by unfold maxLen; omega)
  have hO : OwnE LItem w.heap.size (w.drew.alloc (.cells (Builtin.zeroCells zeroIt.cells n ++ Builtin.zeroCells zeroIt.cells (grownCap w n 0 64 - n)) 64)) (.slice (some ⟨w.heap.size, 0, none⟩) 0 (grownCap w n 0 64)) [] := by
   refine ⟨[], World.ownsRow_made (size := 8) w.drew _ _ (Nat.le_refl _) hcm ?_, Rows.nil _ _⟩
   have hz1 : zeroIt.cells.size = 8 := rfl
   simp only [Array.size_append, size_zeroCells, hz1]
   omega
  have hB : Below w.heap.size w (w.drew.alloc (.cells (Builtin.zeroCells zeroIt.cells n ++ Builtin.zeroCells zeroIt.cells (grownCap w n 0 64 - n)) 64)) := (Below.refl _ _).drew.alloc (Nat.le_refl _) _
  have HO := Lib.hid hO
  have HB := Lib.hid hB
  have HR := Lib.hid hr
  have hm : maxLen = 9223372036854775807 := rfl
  rw [hm] at hcm
  clear hO hB hr hz0 hz1 hz2 hi hm h0
  generalize hG : grownCap w n 0 64 = G at *
  clear hG
  generalize (Builtin.zeroCells zeroIt.cells n ++ Builtin.zeroCells zeroIt.cells (G - n)) = Z at *
  go_enter Tryz.func134, Tryz.ntmps134
  go_wp2_with (at_builtin; refine Lib.wpList_append_run _ rfl _ _ _ _ rfl _ _ rfl rfl _ _ HR.out ?_)
  go_ret
  exact ⟨_, rfl, HO.out, HB.out⟩

set_option maxRecDepth 100000 in
set_option maxHeartbeats 4000000 in
theorem concatI_any (b n c : Nat) (vs : Nat → Value) (f : Nat → List PItem) (w : World) (hn : n ≤ 1000) (hc : ∀ j, j < n → w.cell? ⟨b, j, none⟩ = some (vs j)) (hs : ∀ j, j < n → SeqE LItem w (vs j) (f j)) (hlen : (flatI f n).length ≤ 1000000000) :
  Calls Tryz.prog 95 #[.slice (some ⟨b, 0, none⟩) n c] w (MadeE LItem w (flatI f n)) := by
 have HC := Lib.hid hc
 have HS := Lib.hid hs
 clear hc hs
 go_enter Tryz.func95, Tryz.ntmps95
 go_wp2_with fail
 go_loop [3, 11] (fun s i => ∃ k : Nat, k ≤ n ∧ i = .int .i64 k ∧ s = .int .i64 (flatI f k).length) (fun _ i => n - (intOf i).toNat)
 case atStart => exact ⟨0, Nat.zero_le _, rfl, rfl⟩
 case round =>
  obtain ⟨k, hk, rfl, rfl⟩ := hrel
  have hl := flatI_len f k n hk
  by_cases hlt : k < n
  ·have hcell := HC.out k hlt
   obtain ⟨a, cap, hv, h1, h2, h0, hs⟩ := (HS.out k hlt).parts
   rw [hv] at hcell
   have hl' := flatI_len f (k + 1) n (by omega)
   have e : (flatI f (k + 1)).length = (flatI f k).length + (f k).length := by rw [flatI, List.length_append]
   have E := Lib.hid e
   have hl2 : (flatI f k).length + (f k).length ≤ 1000000000 := by omega
   clear h0 hs hv e hl'
   go_wp2_with fail
   go_round
   case rel => exact ⟨k + 1, by omega, by go_num, by rw [E.out]; go_num⟩
   case measure => simp [intOf]; omega
  ·obtain rfl : k = n := by omega
   go_wp2_with fail
   refine (growI_nil _ (by omega) _).mono ?_
   rintro e w1 ⟨v1, rfl, ho1, hb1⟩
   have O1 := Lib.hid ho1
   clear ho1
   go_wp2_with fail
   go_loopw [6, 27] (fun v i wr => ∃ j : Nat, j ≤ k ∧ i = .int .i64 j ∧ OwnE LItem w.heap.size wr v (flatI f j) ∧ Below w.heap.size w wr) (fun _ i _ => k - (intOf i).toNat)
   case atStart => exact ⟨0, Nat.zero_le _, rfl, O1.out, hb1⟩
   case round =>
    obtain ⟨j, hj, rfl, ho, hb⟩ := hrel
    have hl3 := flatI_len f j k hj
    by_cases hlt : j < k
    ·have hcell0 := HC.out j hlt
     have hblt : b < w.heap.size := World.block_lt_of_cell? w ⟨b, j, none⟩ hcell0
     obtain ⟨a, cap, hv, h1, h2, h0, hs⟩ := (HS.out j hlt).parts
     rw [hv] at hcell0
     have hcell := (hb.cell (p := ⟨b, j, none⟩) hblt).trans hcell0
     have hl' := flatI_len f (j + 1) k (by omega)
     have E : Hid (flatI f (j + 1) = flatI f j ++ f j) := Lib.hid rfl
     have hl2 : (flatI f j).length + (f j).length ≤ 1000000000 := by rw [E.out, List.length_append] at hl'; omega
     have hsz := hb.size
     have S1 := Lib.hid (SeqE.below hs hb)
     have O2 := Lib.hid ho
     have B2 := Lib.hid hb
     clear h0 hs hv hl' ho hb hcell0
     go_wp2_with (at_builtin; refine wpList_append_el LItem rfl (.tmp 31) (.tmp 32) rfl w.heap.size rfl O2.out rfl S1.out (fun _ _ h => h) (by omega) (by omega) ?_)
     intro v2 w2 ho2 hg2 _
     have hb2 : Below w.heap.size w w2 := B2.out.grown hg2 (by omega) (fun k hk => (O2.out.lt k hk).1)
     have O3 := Lib.hid ho2
     clear ho2 hg2 hcell
     go_wp2_with fail
     go_roundw
     case rel => exact ⟨j + 1, by omega, by go_num, by rw [E.out]; exact O3.out, hb2⟩
     case measure => simp [intOf]; omega
    ·obtain rfl : j = k := by omega
     have O2 := Lib.hid ho
     clear ho
     go_wp2_with fail
     go_ret
     exact ⟨_, rfl, O2.out, hb⟩

theorem concatI_two (b c : Nat) {u v : Value} {xs ys : List PItem} (w : World) (h0 : w.cell? ⟨b, 0, none⟩ = some u) (h1 : w.cell? ⟨b, 1, none⟩ = some v) (hu : SeqE LItem w u xs) (hv : SeqE LItem w v ys) (hlen : xs.length + ys.length ≤ 1000000000) :
  Calls Tryz.prog 95 #[.slice (some ⟨b, 0, none⟩) 2 c] w (MadeE LItem w (xs ++ ys)) := by
 have h := concatI_any b 2 c (fun j => if j = 0 then u else v) (fun j => if j = 0 then xs else ys) w (by omega)
  (fun j hj => by match j, hj with | 0, _ => exact h0 | 1, _ => exact h1) (fun j hj => by match j, hj with | 0, _ => exact hu | 1, _ => exact hv) (by simp [flatI]; omega)
 simpa [flatI] using h
end Go.Proofs.YtpnpomocjkmncaaGreat
