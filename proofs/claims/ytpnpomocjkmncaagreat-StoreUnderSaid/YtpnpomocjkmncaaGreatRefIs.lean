/- What the document's own Is, Without, Under, Of, Keys, Size, Same of items leave. What the document's own Less of items leaves. What the document's own Put and Norm of items leave. (Written by gen-put.py.) -/
import Derived.Test.YtpnpomocjkmncaaGreatISets
import Derived.Test.YtpnpomocjkmncaaGreatRefZs
import Derived.Test.YtpnpomocjkmncaaGreatEqI
import Derived.Deep.QuietTactic
import Derived.Deep.Cut
namespace Go.Proofs.YtpnpomocjkmncaaGreat
open Go.RowKit Plain
set_option linter.unusedVariables false

theorem hasDot_yes {xs : List PDot} {d : PDot} {k : Nat} (hk : k < xs.length) (h : xs.getD k default = d) : hasDot xs d = true := hasDot_iff.2 (by rw [← h]; exact mem_def hk)
theorem hasDot_no {xs : List PDot} {d : PDot} (h : ∀ j, j < xs.length → ¬ xs.getD j default = d) : hasDot xs d = false := by
 cases e : hasDot xs d with
 | false => rfl
 | true =>
  obtain ⟨j, hj, rfl⟩ := List.getElem_of_mem (hasDot_iff.1 e)
  exact absurd (by simp [List.getD, List.getElem?_eq_getElem hj]) (h j hj)
theorem dv_eq (d : PDot) : dv d = .agg #[.int .i64 d.node, .int .i64 d.seq, .int .i64 d.pos] := rfl

set_option maxRecDepth 100000 in
set_option maxHeartbeats 2000000 in
theorem ris_any {v : Value} {xs : List PDot} {w : World} (hv : SeqE LDot w v xs) (hn : xs.length ≤ 1000000) (d : PDot) :
  Calls Tryz.prog 59 #[v, dv d] w fun e w' => e = .returned (.bool (hasDot xs d)) ∧ Below w.heap.size w w' := by
 have HY := Lib.hid (fun k hk h => hasDot_yes (xs := xs) (d := d) (k := k) hk h)
 have HN := Lib.hid (hasDot_no (xs := xs) (d := d))
 have HW := Lib.hid ((Below.refl w.heap.size w).alloc (Nat.le_refl _) (.cells #[.int .i64 d.node, .int .i64 d.seq, .int .i64 d.pos] 62))
 have HD : Hid (DotAt (w.alloc (.cells #[.int .i64 d.node, .int .i64 d.seq, .int .i64 d.pos] 62)) w.heap.size 0 d) := Lib.hid ⟨by simp, by simp, by simp⟩
 obtain ⟨a, cap, rfl, g1, g2, g0, h⟩ := hv.parts
 have HS := Lib.hid (h.below_alloc (.cells #[.int .i64 d.node, .int .i64 d.seq, .int .i64 d.pos] 62))
 clear hv h g0
 generalize hasDot xs d = r at *
 rw [dv_eq]
 go_enter Tryz.func59, Tryz.ntmps59
 go_wp2_with fail
 generalize (w.alloc (.cells #[.int .i64 d.node, .int .i64 d.seq, .int .i64 d.pos] 62)) = W1 at *
 go_loopw [5] (fun i wr => ∃ k : Nat, k ≤ xs.length ∧ i = .int .i64 k ∧ (∀ j, j < k → ¬ xs.getD j default = d) ∧ ∃ q, wr = W1.drewN q) (fun i _ => xs.length - (intOf i).toNat)
 case atStart => exact ⟨0, Nat.zero_le _, rfl, (fun j hj => absurd hj (Nat.not_lt_zero _)), 0, rfl⟩
 case round =>
  obtain ⟨k, hk, rfl, hall, q, rfl⟩ := hrel
  have HA := Lib.hid hall
  clear hall
  by_cases hlt : k < xs.length
  ·obtain ⟨b, o, c, hv, -, -, -, hc⟩ := dots_spot HS.out (by omega)
   simp only [Value.slice.injEq] at hv
   obtain ⟨rfl, -, rfl⟩ := hv
   obtain ⟨c0, c1, c2⟩ := hc k hlt
   obtain ⟨d0, d1, d2⟩ := HD.out
   simp only [Nat.zero_add] at d1 d2
   clear hc
   have HYK := Lib.hid (HY.out k hlt)
   have HNX : Hid (¬ xs.getD k default = d → ∀ j, j < k + 1 → ¬ xs.getD j default = d) := Lib.hid (fun he j hj => by
     by_cases e : j = k
     ·rw [e]; exact he
     ·exact HA.out j (by omega))
   generalize xs.getD k default = y at *
   have hq := eql_dot y d
   by_cases he : y = d
   ·obtain rfl : r = true := HYK.out he
    rw [decide_eq_true he] at hq
    clear he
    go_wp2_with fail
    go_quiet (fail)
    go_wp2_with fail
    go_ret
    exact ⟨rfl, below_drewN (below_drewN HW.out _) _⟩
   ·have HA2 := Lib.hid (HNX.out he)
    rw [decide_eq_false he] at hq
    clear he
    go_wp2_with fail
    go_quiet (fail)
    go_wp2_with fail
    go_roundw
    case rel => exact ⟨k + 1, by omega, by go_num, HA2.out, _, rfl⟩
    case measure => simp [intOf]; omega
  ·obtain rfl : k = xs.length := by omega
   obtain rfl : r = false := HN.out HA.out
   go_wp2_with fail
   go_ret
   exact ⟨rfl, below_drewN HW.out _⟩

def pickG {α : Type} (f : α → Bool) (xs : List α) (k : Nat) : List α := (xs.take k).filter f
theorem takeG {α : Type} [Inhabited α] {xs : List α} {k : Nat} (hk : k < xs.length) : xs.take (k + 1) = xs.take k ++ [xs.getD k default] := by
 rw [List.take_succ_eq_append_getElem hk]
 simp [List.getD, List.getElem?_eq_getElem hk]
theorem pickG_yes {α : Type} [Inhabited α] {f : α → Bool} {xs : List α} {k : Nat} (hk : k < xs.length) (h : f (xs.getD k default) = true) : pickG f xs k ++ [xs.getD k default] = pickG f xs (k + 1) := by
 unfold pickG
 rw [takeG hk, List.filter_append]
 simp only [List.filter_cons, h, if_true, List.filter_nil]
theorem pickG_no {α : Type} [Inhabited α] {f : α → Bool} {xs : List α} {k : Nat} (hk : k < xs.length) (h : f (xs.getD k default) = false) : pickG f xs k = pickG f xs (k + 1) := by
 unfold pickG
 rw [takeG hk, List.filter_append, List.filter_cons, if_neg (by rw [h]; decide), List.filter_nil, List.append_nil]
theorem pickG_all {α : Type} (f : α → Bool) (xs : List α) : pickG f xs xs.length = xs.filter f := by unfold pickG; rw [List.take_length]
theorem pickG_len {α : Type} (f : α → Bool) (xs : List α) (k : Nat) : (pickG f xs k).length ≤ k := by
 unfold pickG
 have := List.length_filter_le f (xs.take k)
 have := List.length_take_le k xs
 omega

set_option maxRecDepth 100000 in
set_option maxHeartbeats 4000000 in
theorem rwithoutI_any {u v : Value} {xs : List PItem} {ds : List PDot} {w : World} (hu : SeqE LItem w u xs) (hv : SeqE LDot w v ds) (hn : xs.length ≤ 1000000) (hm : ds.length ≤ 1000000) :
  Calls Tryz.prog 75 #[u, v] w (MadeE LItem w (iwithout xs ds)) := by
 obtain ⟨a, cap, rfl, g1, g2, g0, h⟩ := hu.parts
 obtain ⟨a', cap', rfl, -, -, -, h'⟩ := hv.parts
 have HS := Lib.hid h
 have HW := Lib.hid (pickG_all (fun x : PItem => !hasDot ds x.dot) xs)
 have KC := Lib.hid (fun (W : World) (hb : Below w.heap.size w W) (d : PDot) => ris_any (h'.below hb) hm d)
 show Calls _ _ _ _ (MadeE LItem w (xs.filter fun x : PItem => !hasDot ds x.dot))
 rw [← HW.out]
 obtain ⟨f, hf⟩ : ∃ f : PItem → Bool, (fun x : PItem => !hasDot ds x.dot) = f := ⟨_, rfl⟩
 have HF := Lib.hid (fun x => (congrFun hf x).symm)
 rw [hf]
 obtain ⟨n, hN⟩ : ∃ n, xs.length = n := ⟨_, rfl⟩
 rw [hN] at g1 hn ⊢
 have LN := Lib.hid hN
 clear hu hv h h' g0 hf hN HW
 go_enter Tryz.func75, Tryz.ntmps75
 go_wp2_with fail
 go_loopw [5, 6] (fun o i wr => ∃ k : Nat, k ≤ n ∧ i = .int .i64 k ∧ OwnE LItem w.heap.size wr o (pickG f xs k) ∧ Below w.heap.size w wr) (fun _ i _ => n - (intOf i).toNat)
 case atStart => exact ⟨0, Nat.zero_le _, rfl, OwnE.nil _ _, Below.refl _ _⟩
 case round =>
  obtain ⟨k, hk, rfl, ho, hb⟩ := hrel
  have HO := Lib.hid ho
  have HB := Lib.hid hb
  have PL := pickG_len f xs k
  clear ho hb
  by_cases hlt : k < n
  ·have HK := Lib.hid (show k < xs.length by rw [LN.out]; exact hlt)
   obtain ⟨b, o, c, hv, -, -, -, hc⟩ := items_spot (HS.out.below HB.out) (by rw [LN.out]; omega)
   rw [LN.out] at hv
   simp only [Value.slice.injEq] at hv
   obtain ⟨rfl, -, rfl⟩ := hv
   have IA := Lib.hid (hc k HK.out)
   clear hc
   have K := KC.out wr HB.out (xs.getD k default).dot
   have hff := HF.out (xs.getD k default)
   have S1 := Lib.hid (fun (W : World) => one_item W (xs.getD k default))
   have PY := Lib.hid (fun h => pickG_yes (f := f) HK.out h)
   have PN := Lib.hid (fun h => pickG_no (f := f) HK.out h)
   generalize xs.getD k default = x at *
   obtain ⟨c0, c1, c2, c3, c4, c5, c6, c7⟩ := IA.out
   cases hcv : hasDot ds x.dot with
   | true =>
    rw [hcv] at K hff
    have HP := Lib.hid (PN.out hff)
    clear hcv hff PY PN
    go_wp2_with fail
    refine K.mono ?_
    rintro e w' ⟨rfl, hb⟩
    have O2 := Lib.hid (HO.out.below hb (Nat.le_refl _))
    have G2 : Hid (Below w.heap.size w w') := Lib.hid (HB.out.trans (hb.mono HB.out.size))
    rw [HP.out] at O2
    clear hb
    go_wp2_with fail
    go_roundw
    case rel => exact ⟨k + 1, by omega, by go_num, O2.out, G2.out⟩
    case measure => simp [intOf]; omega
   | false =>
    rw [hcv] at K hff
    have HP := Lib.hid (PY.out hff)
    clear hcv hff PY PN
    go_wp2_with fail
    refine K.mono ?_
    rintro e w' ⟨rfl, hb⟩
    have O1 := Lib.hid (HO.out.below hb (Nat.le_refl _))
    have G1 : Hid (Below w.heap.size w w') := Lib.hid (HB.out.trans (hb.mono HB.out.size))
    clear c0 c1 c2 c3 c4 c5 c6 c7
    obtain ⟨c0, c1, c2, c3, c4, c5, c6, c7⟩ := IA.out.below hb IA.out.lt
    clear K hb
    go_wp2_with (at_builtin; refine wpList_append_el LItem rfl (.tmp 21) (.tmp 26) rfl w.heap.size rfl (O1.out.alloc _) rfl (S1.out _) (fun _ _ h => h) (by simp; omega) (by have := G1.out.size; simp; omega) ?_)
    intro v' w1 ho' hgr _
    have O2 := Lib.hid ho'
    have G2 : Hid (Below w.heap.size w w1) := Lib.hid ((G1.out.alloc G1.out.size _).grown hgr (by have := G1.out.size; simp; omega) (fun j hj => (O1.out.lt j hj).1))
    clear ho' hgr
    rw [HP.out] at O2
    go_wp2_with fail
    go_roundw
    case rel => exact ⟨k + 1, by omega, by go_num, O2.out, G2.out⟩
    case measure => simp [intOf]; omega
  ·obtain rfl : k = n := by omega
   go_wp2_with fail
   go_ret
   exact ⟨_, rfl, HO.out, HB.out⟩
theorem rcoversB {v : Value} {zs : List Txt} {w : World} (hv : SeqT w v zs) (hz : FitT zs) (hm : zs.length ≤ 1000000) (s : Txt) (hs : s.length ≤ 1000000) :
  Calls Tryz.prog 58 #[v, .string (bt s)] w fun e w' => e = .returned (.bool (covers zs s)) ∧ Below w.heap.size w w' :=
 (rcovers_any hv hz hm s hs).mono fun _ _ ⟨h, q, hq⟩ => ⟨h, by rw [hq]; exact below_drewN (Below.refl _ _) q⟩
set_option maxRecDepth 100000 in
set_option maxHeartbeats 4000000 in
theorem runderI_any {u v : Value} {xs : List PItem} {zs : List Txt} {w : World} (hu : SeqE LItem w u xs) (hv : SeqT w v zs) (hz : FitT zs) (hxf : ∀ x ∈ xs, x.key.length ≤ 1000000) (hn : xs.length ≤ 1000000) (hm : zs.length ≤ 1000000) :
  Calls Tryz.prog 23 #[u, v] w (MadeE LItem w (iunder xs zs)) := by
 obtain ⟨a, cap, rfl, g1, g2, g0, h⟩ := hu.parts
 obtain ⟨a', cap', rfl, -, -, -, h'⟩ := hv.parts
 have HS := Lib.hid h
 have HW := Lib.hid (pickG_all (fun x : PItem => covers zs x.key) xs)
 have KC := Lib.hid (fun (W : World) (hb : Below w.heap.size w W) (k : Nat) (hk : k < xs.length) => rcoversB (h'.below hb) hz hm (xs.getD k default).key (hxf _ (mem_def hk)))
 show Calls _ _ _ _ (MadeE LItem w (xs.filter fun x : PItem => covers zs x.key))
 rw [← HW.out]
 obtain ⟨f, hf⟩ : ∃ f : PItem → Bool, (fun x : PItem => covers zs x.key) = f := ⟨_, rfl⟩
 have HF := Lib.hid (fun x => (congrFun hf x).symm)
 rw [hf]
 obtain ⟨n, hN⟩ : ∃ n, xs.length = n := ⟨_, rfl⟩
 rw [hN] at g1 hn ⊢
 have LN := Lib.hid hN
 clear hu hv h h' g0 hf hN HW hz hxf
 go_enter Tryz.func23, Tryz.ntmps23
 go_wp2_with fail
 go_loopw [5, 6] (fun o i wr => ∃ k : Nat, k ≤ n ∧ i = .int .i64 k ∧ OwnE LItem w.heap.size wr o (pickG f xs k) ∧ Below w.heap.size w wr) (fun _ i _ => n - (intOf i).toNat)
 case atStart => exact ⟨0, Nat.zero_le _, rfl, OwnE.nil _ _, Below.refl _ _⟩
 case round =>
  obtain ⟨k, hk, rfl, ho, hb⟩ := hrel
  have HO := Lib.hid ho
  have HB := Lib.hid hb
  have PL := pickG_len f xs k
  clear ho hb
  by_cases hlt : k < n
  ·have HK := Lib.hid (show k < xs.length by rw [LN.out]; exact hlt)
   obtain ⟨b, o, c, hv, -, -, -, hc⟩ := items_spot (HS.out.below HB.out) (by rw [LN.out]; omega)
   rw [LN.out] at hv
   simp only [Value.slice.injEq] at hv
   obtain ⟨rfl, -, rfl⟩ := hv
   have IA := Lib.hid (hc k HK.out)
   clear hc
   have K := KC.out wr HB.out k HK.out
   have hff := HF.out (xs.getD k default)
   have S1 := Lib.hid (fun (W : World) => one_item W (xs.getD k default))
   have PY := Lib.hid (fun h => pickG_yes (f := f) HK.out h)
   have PN := Lib.hid (fun h => pickG_no (f := f) HK.out h)
   generalize xs.getD k default = x at *
   obtain ⟨c0, c1, c2, c3, c4, c5, c6, c7⟩ := IA.out
   cases hcv : covers zs x.key with
   | true =>
    rw [hcv] at K hff
    have HP := Lib.hid (PY.out hff)
    clear hcv hff PY PN
    go_wp2_with fail
    refine K.mono ?_
    rintro e w' ⟨rfl, hb⟩
    have O1 := Lib.hid (HO.out.below hb (Nat.le_refl _))
    have G1 : Hid (Below w.heap.size w w') := Lib.hid (HB.out.trans (hb.mono HB.out.size))
    clear c0 c1 c2 c3 c4 c5 c6 c7
    obtain ⟨c0, c1, c2, c3, c4, c5, c6, c7⟩ := IA.out.below hb IA.out.lt
    clear K hb
    go_wp2_with (at_builtin; refine wpList_append_el LItem rfl (.tmp 20) (.tmp 25) rfl w.heap.size rfl (O1.out.alloc _) rfl (S1.out _) (fun _ _ h => h) (by simp; omega) (by have := G1.out.size; simp; omega) ?_)
    intro v' w1 ho' hgr _
    have O2 := Lib.hid ho'
    have G2 : Hid (Below w.heap.size w w1) := Lib.hid ((G1.out.alloc G1.out.size _).grown hgr (by have := G1.out.size; simp; omega) (fun j hj => (O1.out.lt j hj).1))
    clear ho' hgr
    rw [HP.out] at O2
    go_wp2_with fail
    go_roundw
    case rel => exact ⟨k + 1, by omega, by go_num, O2.out, G2.out⟩
    case measure => simp [intOf]; omega
   | false =>
    rw [hcv] at K hff
    have HP := Lib.hid (PN.out hff)
    clear hcv hff PY PN
    go_wp2_with fail
    refine K.mono ?_
    rintro e w' ⟨rfl, hb⟩
    have O2 := Lib.hid (HO.out.below hb (Nat.le_refl _))
    have G2 : Hid (Below w.heap.size w w') := Lib.hid (HB.out.trans (hb.mono HB.out.size))
    rw [HP.out] at O2
    clear hb
    go_wp2_with fail
    go_roundw
    case rel => exact ⟨k + 1, by omega, by go_num, O2.out, G2.out⟩
    case measure => simp [intOf]; omega
  ·obtain rfl : k = n := by omega
   go_wp2_with fail
   go_ret
   exact ⟨_, rfl, HO.out, HB.out⟩
set_option maxRecDepth 100000 in
set_option maxHeartbeats 4000000 in
theorem rsameI_any {u v : Value} {xs ys : List PItem} {w : World} (hu : SeqE LItem w u xs) (hv : SeqE LItem w v ys) :
  Calls Tryz.prog 44 #[u, v] w fun e w' => e = .returned (.bool (decide (xs = ys))) ∧ ∃ n, w' = w.drewN n := by
 obtain ⟨a, cap, rfl, g1, g2, g0, h⟩ := hu.parts
 obtain ⟨a', cap', rfl, e1, e2, e0, h'⟩ := hv.parts
 by_cases hl : xs.length = ys.length
 ·obtain ⟨n, hN⟩ : ∃ n, xs.length = n := ⟨_, rfl⟩
  have hM : ys.length = n := by omega
  have hT : (∀ j, j < n → xs.getD j default = ys.getD j default) → decide (xs = ys) = true := fun hall => decide_eq_true (by
   apply List.ext_getElem hl
   intro j h1 h2
   have := hall j (by omega)
   simpa [List.getD, List.getElem?_eq_getElem h1, List.getElem?_eq_getElem h2] using this)
  have hF : ∀ j, ¬ xs.getD j default = ys.getD j default → decide (xs = ys) = false := fun j hne => decide_eq_false (by
   intro e; subst e; exact hne rfl)
  have HT := Lib.hid hT
  have HF := Lib.hid hF
  generalize decide (xs = ys) = r at *
  rw [hN] at h g1 ⊢
  rw [hM] at h' e1 ⊢
  have HS := Lib.hid h
  have HS' := Lib.hid h'
  have LN := Lib.hid hN
  have LM := Lib.hid hM
  clear hu hv h h' g0 e0 hl hT hF hN hM
  go_enter Tryz.func44, Tryz.ntmps44
  go_wp2_with fail
  go_loopw [5] (fun i wr => ∃ k : Nat, k ≤ n ∧ i = .int .i64 k ∧ (∀ j, j < k → xs.getD j default = ys.getD j default) ∧ ∃ q, wr = w.drewN q) (fun i _ => n - (intOf i).toNat)
  case atStart => exact ⟨0, Nat.zero_le _, rfl, (fun j hj => absurd hj (by omega)), 0, rfl⟩
  case round =>
   obtain ⟨k, hk, rfl, hall, q, rfl⟩ := hrel
   have HALL := Lib.hid hall
   clear hall
   by_cases hlt : k < n
   ·obtain ⟨b, o, c, hv, -, -, -, hc⟩ := items_spot HS.out (by rw [LN.out]; omega)
    rw [LN.out] at hv
    simp only [Value.slice.injEq] at hv
    obtain ⟨rfl, -, rfl⟩ := hv
    obtain ⟨b', o', c', hv', -, -, -, hc'⟩ := items_spot HS'.out (by rw [LM.out]; omega)
    rw [LM.out] at hv'
    simp only [Value.slice.injEq] at hv'
    obtain ⟨rfl, -, rfl⟩ := hv'
    obtain ⟨c0, c1, c2, c3, c4, c5, c6, c7⟩ := hc k (by rw [LN.out]; exact hlt)
    obtain ⟨d0, d1, d2, d3, d4, d5, d6, d7⟩ := hc' k (by rw [LM.out]; exact hlt)
    have HFK := Lib.hid (HF.out k)
    have HNX : Hid (xs.getD k default = ys.getD k default → ∀ j, j < k + 1 → xs.getD j default = ys.getD j default) := Lib.hid (fun he j hj => by
     by_cases e : j = k
     ·rw [e]; exact he
     ·exact HALL.out j (by omega))
    clear hc hc'
    generalize xs.getD k default = x at *
    generalize ys.getD k default = y at *
    have hq := neq_item x y
    by_cases he : x = y
    ·have HX := Lib.hid (HNX.out he)
     rw [decide_eq_true he] at hq
     clear he HNX HFK
     go_wp2_with fail
     go_quiet (fail)
     go_wp2_with fail
     go_roundw
     case rel => exact ⟨k + 1, by omega, by go_num, HX.out, _, rfl⟩
     case measure => simp [intOf]; omega
    ·obtain rfl : r = false := HFK.out he
     rw [decide_eq_false he] at hq
     clear he HNX HFK
     go_wp2_with fail
     go_quiet (fail)
     go_wp2_with fail
     go_ret
     exact ⟨rfl, _, World.drewN_drewN _ _ _⟩
   ·obtain rfl : k = n := by omega
    obtain rfl : r = true := HT.out HALL.out
    go_wp2_with fail
    go_ret
    exact ⟨rfl, _, rfl⟩
 ·have hne : ((xs.length : Int) == (ys.length : Int)) = false := by simp; omega
  rw [decide_eq_false (by intro e; subst e; exact hl rfl)]
  clear hu hv h h' g0 e0 g1 g2 e1 e2
  generalize xs.length = n at *
  generalize ys.length = m at *
  go_enter Tryz.func44, Tryz.ntmps44
  go_wp2_with fail
  go_ret
  exact ⟨rfl, 0, rfl⟩
theorem rsameIR {u v : Value} {xs ys : List PItem} {w : World} {r : Bool} (hu : SeqE LItem w u xs) (hv : SeqE LItem w v ys) (e : decide (xs = ys) = r) :
  Calls Tryz.prog 44 #[u, v] w fun e w' => e = .returned (.bool r) ∧ Below w.heap.size w w' := by
 rw [← e]
 exact (rsameI_any hu hv).mono fun _ _ ⟨h, n, hw⟩ => ⟨h, by rw [hw]; exact below_drewN (Below.refl _ _) n⟩

end Go.Proofs.YtpnpomocjkmncaaGreat
namespace Go.Proofs.YtpnpomocjkmncaaGreat
open Go.RowKit Plain
set_option linter.unusedVariables false

theorem itv_eq2 (x : PItem) : itv x = .agg #[.string (bt x.key), .string (bt x.field), .int .i64 x.kind, .string (bt x.elem), .int .i64 x.n, .int .i64 x.dot.node, .int .i64 x.dot.seq, .int .i64 x.dot.pos] := rfl
def tailP (a b : PItem) : Prop := a.kind < b.kind ∨ (a.kind = b.kind ∧ (a.dot.node < b.dot.node ∨ (a.dot.node = b.dot.node ∧ (a.dot.seq < b.dot.seq ∨ (a.dot.seq = b.dot.seq ∧ (a.dot.pos < b.dot.pos ∨ (a.dot.pos = b.dot.pos ∧ (a.elem < b.elem ∨ (a.elem = b.elem ∧ a.n < b.n)))))))))
instance (a b : PItem) : Decidable (tailP a b) := by unfold tailP; infer_instance
theorem less_key {a b : PItem} (h : ¬ a.key = b.key) : lessB a b = decide (a.key < b.key) := by
 unfold lessB
 rw [decide_eq_decide]
 unfold iless
 constructor
 ·rintro (g | ⟨e, -⟩)
  ·exact g
  ·exact absurd e h
 ·exact .inl
theorem less_field {a b : PItem} (h : a.key = b.key) (g : ¬ a.field = b.field) : lessB a b = decide (a.field < b.field) := by
 unfold lessB
 rw [decide_eq_decide]
 unfold iless
 rw [h]
 constructor
 ·rintro (k | ⟨-, k | ⟨e, -⟩⟩)
  ·exact absurd k (lt_irrefl _)
  ·exact k
  ·exact absurd e g
 ·exact fun k => .inr ⟨rfl, .inl k⟩
theorem less_tail {a b : PItem} (h : a.key = b.key) (g : a.field = b.field) : lessB a b = decide (tailP a b) := by
 unfold lessB
 rw [decide_eq_decide]
 unfold iless tailP
 rw [h, g]
 constructor
 ·rintro (k | ⟨-, k | ⟨-, k⟩⟩)
  ·exact absurd k (lt_irrefl _)
  ·exact absurd k (lt_irrefl _)
  ·exact k
 ·exact fun k => .inr ⟨rfl, .inr ⟨rfl, k⟩⟩
set_option maxRecDepth 100000 in
set_option maxHeartbeats 2000000 in
theorem rless_key (x y : PItem) (w : World) (h : ¬ x.key = y.key) :
  Calls Tryz.prog 89 #[itv x, itv y] w fun e w' => e = .returned (.bool (lessB x y)) ∧ Below w.heap.size w w' := by
 rw [less_key h]
 have t1 := text_eq x.key y.key
 have t2 := text_lt x.key y.key
 rw [decide_eq_false h] at t1
 rw [← t2]
 clear t2 h
 have HB := Lib.hid (((Below.refl w.heap.size w).alloc (Nat.le_refl _) (.cells #[.string (bt x.key), .string (bt x.field), .int .i64 x.kind, .string (bt x.elem), .int .i64 x.n, .int .i64 x.dot.node, .int .i64 x.dot.seq, .int .i64 x.dot.pos] 64)).alloc (by simp) (.cells #[.string (bt y.key), .string (bt y.field), .int .i64 y.kind, .string (bt y.elem), .int .i64 y.n, .int .i64 y.dot.node, .int .i64 y.dot.seq, .int .i64 y.dot.pos] 64))
 rw [itv_eq2, itv_eq2]
 generalize bt x.key = K1 at *
 generalize bt y.key = K2 at *
 go_enter Tryz.func89, Tryz.ntmps89
 go_wp2_with fail
 go_ret
 exact ⟨rfl, HB.out⟩
set_option maxRecDepth 100000 in
set_option maxHeartbeats 2000000 in
theorem rless_field (x y : PItem) (w : World) (h : x.key = y.key) (g : ¬ x.field = y.field) :
  Calls Tryz.prog 89 #[itv x, itv y] w fun e w' => e = .returned (.bool (lessB x y)) ∧ Below w.heap.size w w' := by
 rw [less_field h g]
 have t1 := text_eq x.key y.key
 have t2 := text_lt x.field y.field
 have t3 := text_eq x.field y.field
 rw [decide_eq_true h] at t1
 rw [decide_eq_false g] at t3
 rw [← t2]
 clear t2 g h
 have HB := Lib.hid (((Below.refl w.heap.size w).alloc (Nat.le_refl _) (.cells #[.string (bt x.key), .string (bt x.field), .int .i64 x.kind, .string (bt x.elem), .int .i64 x.n, .int .i64 x.dot.node, .int .i64 x.dot.seq, .int .i64 x.dot.pos] 64)).alloc (by simp) (.cells #[.string (bt y.key), .string (bt y.field), .int .i64 y.kind, .string (bt y.elem), .int .i64 y.n, .int .i64 y.dot.node, .int .i64 y.dot.seq, .int .i64 y.dot.pos] 64))
 rw [itv_eq2, itv_eq2]
 generalize bt x.key = K1 at *
 generalize bt y.key = K2 at *
 generalize bt x.field = F1 at *
 generalize bt y.field = F2 at *
 go_enter Tryz.func89, Tryz.ntmps89
 go_wp2_with fail
 go_ret
 exact ⟨rfl, HB.out⟩

def num4 (x : PItem) : Nat → Int
 | 0 => x.kind
 | 1 => x.dot.node
 | 2 => x.dot.seq
 | _ => x.dot.pos
theorem tail_num {x y : PItem} {k : Nat} (hk : k < 4) (h : ∀ j, j < k → num4 x j = num4 y j) (g : ¬ num4 x k = num4 y k) : decide (tailP x y) = decide (num4 x k < num4 y k) := by
 rw [decide_eq_decide]
 unfold tailP
 match k, hk with
 | 0, _ =>
  have g0 : ¬ x.kind = y.kind := g
  show _ ↔ x.kind < y.kind
  constructor
  ·rintro (h | ⟨e, -⟩)
   ·exact h
   ·exact absurd e g0
  ·exact .inl
 | 1, _ =>
  have e0 : x.kind = y.kind := h 0 (by omega)
  have g0 : ¬ x.dot.node = y.dot.node := g
  show _ ↔ x.dot.node < y.dot.node
  rw [e0]
  constructor
  ·rintro (h | ⟨-, h | ⟨e, -⟩⟩)
   ·omega
   ·exact h
   ·exact absurd e g0
  ·exact fun h => .inr ⟨rfl, .inl h⟩
 | 2, _ =>
  have e0 : x.kind = y.kind := h 0 (by omega)
  have e1 : x.dot.node = y.dot.node := h 1 (by omega)
  have g0 : ¬ x.dot.seq = y.dot.seq := g
  show _ ↔ x.dot.seq < y.dot.seq
  rw [e0, e1]
  constructor
  ·rintro (h | ⟨-, h | ⟨-, h | ⟨e, -⟩⟩⟩)
   ·omega
   ·omega
   ·exact h
   ·exact absurd e g0
  ·exact fun h => .inr ⟨rfl, .inr ⟨rfl, .inl h⟩⟩
 | 3, _ =>
  have e0 : x.kind = y.kind := h 0 (by omega)
  have e1 : x.dot.node = y.dot.node := h 1 (by omega)
  have e2 : x.dot.seq = y.dot.seq := h 2 (by omega)
  have g0 : ¬ x.dot.pos = y.dot.pos := g
  show _ ↔ x.dot.pos < y.dot.pos
  rw [e0, e1, e2]
  constructor
  ·rintro (h | ⟨-, h | ⟨-, h | ⟨-, h | ⟨e, -⟩⟩⟩⟩)
   ·omega
   ·omega
   ·omega
   ·exact h
   ·exact absurd e g0
  ·exact fun h => .inr ⟨rfl, .inr ⟨rfl, .inr ⟨rfl, .inl h⟩⟩⟩
theorem tail_end {x y : PItem} (h : ∀ j, j < 4 → num4 x j = num4 y j) : tailP x y ↔ x.elem < y.elem ∨ (x.elem = y.elem ∧ x.n < y.n) := by
 have e0 : x.kind = y.kind := h 0 (by omega)
 have e1 : x.dot.node = y.dot.node := h 1 (by omega)
 have e2 : x.dot.seq = y.dot.seq := h 2 (by omega)
 have e3 : x.dot.pos = y.dot.pos := h 3 (by omega)
 unfold tailP
 rw [e0, e1, e2, e3]
 constructor
 ·rintro (h | ⟨-, h | ⟨-, h | ⟨-, h | ⟨-, h⟩⟩⟩⟩)
  ·omega
  ·omega
  ·omega
  ·omega
  ·exact h
 ·exact fun h => .inr ⟨rfl, .inr ⟨rfl, .inr ⟨rfl, .inr ⟨rfl, h⟩⟩⟩⟩
theorem tail_elem {x y : PItem} (h : ∀ j, j < 4 → num4 x j = num4 y j) (g : ¬ x.elem = y.elem) : decide (tailP x y) = decide (x.elem < y.elem) := by
 rw [decide_eq_decide, tail_end h]
 constructor
 ·rintro (h | ⟨e, -⟩)
  ·exact h
  ·exact absurd e g
 ·exact .inl
theorem tail_n {x y : PItem} (h : ∀ j, j < 4 → num4 x j = num4 y j) (g : x.elem = y.elem) : decide (tailP x y) = decide (x.n < y.n) := by
 rw [decide_eq_decide, tail_end h, g]
 constructor
 ·rintro (h | ⟨-, h⟩)
  ·exact absurd h (lt_irrefl _)
  ·exact h
 ·exact fun h => .inr ⟨rfl, h⟩
theorem pair_cells (W : World) (x y : PItem) (t : TypeId) : ∀ k, k < 4 → (W.alloc (.cells #[.int .i64 x.kind, .int .i64 y.kind, .int .i64 x.dot.node, .int .i64 y.dot.node, .int .i64 x.dot.seq, .int .i64 y.dot.seq, .int .i64 x.dot.pos, .int .i64 y.dot.pos] t)).cell? ⟨W.heap.size, k * 2, none⟩ = some (.int .i64 (num4 x k)) ∧
  (W.alloc (.cells #[.int .i64 x.kind, .int .i64 y.kind, .int .i64 x.dot.node, .int .i64 y.dot.node, .int .i64 x.dot.seq, .int .i64 y.dot.seq, .int .i64 x.dot.pos, .int .i64 y.dot.pos] t)).cell? ⟨W.heap.size, k * 2 + 1, none⟩ = some (.int .i64 (num4 y k))
 | 0, _ => ⟨by simp [num4], by simp [num4]⟩
 | 1, _ => ⟨by simp [num4], by simp [num4]⟩
 | 2, _ => ⟨by simp [num4], by simp [num4]⟩
 | 3, _ => ⟨by simp [num4], by simp [num4]⟩

set_option maxRecDepth 100000 in
set_option maxHeartbeats 4000000 in
theorem rless_tail (x y : PItem) (w : World) (h : x.key = y.key) (g : x.field = y.field) :
  Calls Tryz.prog 89 #[itv x, itv y] w fun e w' => e = .returned (.bool (lessB x y)) ∧ Below w.heap.size w w' := by
 rw [less_tail h g]
 have t1 := text_eq x.key y.key
 have t3 := text_eq x.field y.field
 rw [decide_eq_true h] at t1
 rw [decide_eq_true g] at t3
 clear g h
 have TN := Lib.hid (fun k hk h g => tail_num (x := x) (y := y) (k := k) hk h g)
 have TE := Lib.hid (fun h g => tail_elem (x := x) (y := y) h g)
 have TQ := Lib.hid (fun h g => tail_n (x := x) (y := y) h g)
 have t5 := text_eq x.elem y.elem
 have t6 := text_lt x.elem y.elem
 generalize decide (tailP x y) = r at *
 obtain ⟨W1, hW1⟩ : ∃ W1, (w.alloc (.cells #[.string (bt x.key), .string (bt x.field), .int .i64 x.kind, .string (bt x.elem), .int .i64 x.n, .int .i64 x.dot.node, .int .i64 x.dot.seq, .int .i64 x.dot.pos] 64)).alloc (.cells #[.string (bt y.key), .string (bt y.field), .int .i64 y.kind, .string (bt y.elem), .int .i64 y.n, .int .i64 y.dot.node, .int .i64 y.dot.seq, .int .i64 y.dot.pos] 64) = W1 := ⟨_, rfl⟩
 have HW1 := Lib.hid hW1
 have hs1 : W1.heap.size = w.heap.size + 2 := by rw [← hW1]; simp
 have HS1 := Lib.hid hs1
 have A1 : Hid (ItemAt W1 w.heap.size 0 x) := Lib.hid (by rw [← hW1]; exact ⟨by simp, by simp, by simp, by simp, by simp, by simp, by simp, by simp⟩)
 have A2 : Hid (ItemAt W1 (w.heap.size + 1) 0 y) := Lib.hid (by rw [← hW1]; exact ⟨by simp, by simp, by simp, by simp, by simp, by simp, by simp, by simp⟩)
 have HB1 : Hid (Below w.heap.size w W1) := Lib.hid (by rw [← hW1]; exact ((Below.refl w.heap.size w).alloc (Nat.le_refl _) _).alloc (by simp) _)
 have PC := Lib.hid (pair_cells W1 x y 141)
 clear hs1 hW1
 rw [itv_eq2, itv_eq2]
 go_enter Tryz.func89, Tryz.ntmps89
 go_upto_region 5 with fail
 rw [HW1.out]
 have HE1 := Lib.hid (text_eq x.elem y.elem)
 have HE2 := Lib.hid (text_lt x.elem y.elem)
 obtain ⟨c0, c1, c2, c3, c4, c5, c6, c7⟩ := A1.out
 obtain ⟨d0, d1, d2, d3, d4, d5, d6, d7⟩ := A2.out
 simp only [Nat.zero_add] at c1 c2 c3 c4 c5 c6 c7 d1 d2 d3 d4 d5 d6 d7
 clear t1 t3 t5 t6 c0 c1 d0 d1
 go_wp2_with fail
 have HB2 := Lib.hid (HB1.out.alloc HB1.out.size (.cells #[.int .i64 x.kind, .int .i64 y.kind, .int .i64 x.dot.node, .int .i64 y.dot.node, .int .i64 x.dot.seq, .int .i64 y.dot.seq, .int .i64 x.dot.pos, .int .i64 y.dot.pos] 141))
 have HS2 : Hid ((W1.alloc (.cells #[.int .i64 x.kind, .int .i64 y.kind, .int .i64 x.dot.node, .int .i64 y.dot.node, .int .i64 x.dot.seq, .int .i64 y.dot.seq, .int .i64 x.dot.pos, .int .i64 y.dot.pos] 141)).heap.size = W1.heap.size + 1) := Lib.hid (by simp)
 have A3 : Hid (ItemAt (W1.alloc (.cells #[.int .i64 x.kind, .int .i64 y.kind, .int .i64 x.dot.node, .int .i64 y.dot.node, .int .i64 x.dot.seq, .int .i64 y.dot.seq, .int .i64 x.dot.pos, .int .i64 y.dot.pos] 141)) w.heap.size 0 x) := Lib.hid (A1.out.below ((Below.refl W1.heap.size W1).alloc (Nat.le_refl _) _) (by rw [HS1.out]; omega))
 have A4 : Hid (ItemAt (W1.alloc (.cells #[.int .i64 x.kind, .int .i64 y.kind, .int .i64 x.dot.node, .int .i64 y.dot.node, .int .i64 x.dot.seq, .int .i64 y.dot.seq, .int .i64 x.dot.pos, .int .i64 y.dot.pos] 141)) (w.heap.size + 1) 0 y) := Lib.hid (A2.out.below ((Below.refl W1.heap.size W1).alloc (Nat.le_refl _) _) (by rw [HS1.out]; omega))
 clear c2 c3 c4 c5 c6 c7 d2 d3 d4 d5 d6 d7 A1 A2
 generalize (W1.alloc (.cells #[.int .i64 x.kind, .int .i64 y.kind, .int .i64 x.dot.node, .int .i64 y.dot.node, .int .i64 x.dot.seq, .int .i64 y.dot.seq, .int .i64 x.dot.pos, .int .i64 y.dot.pos] 141)) = W2 at *
 go_loopw [6, 55] (fun _ i wr => ∃ k : Nat, k ≤ 4 ∧ i = .int .i64 k ∧ Aside (∀ j, j < k → num4 x j = num4 y j) ∧ Below W2.heap.size W2 wr) (fun _ i _ => 4 - (intOf i).toNat)
 case atStart => exact ⟨0, Nat.zero_le _, rfl, (fun j hj => absurd hj (Nat.not_lt_zero _)), Below.refl _ _⟩
 case round =>
  obtain ⟨k, hk, rfl, HA, hb⟩ := hrel
  have HB := Lib.hid hb
  clear hb
  by_cases hlt : k < 4
  ·have hlz : (k : Int) < 4 := by omega
   have p1 := (HB.out.cell (p := ⟨W1.heap.size, k * 2, none⟩) (by rw [HS2.out]; exact Nat.lt_succ_self _)).trans (PC.out k hlt).1
   have p2 := (HB.out.cell (p := ⟨W1.heap.size, k * 2 + 1, none⟩) (by rw [HS2.out]; exact Nat.lt_succ_self _)).trans (PC.out k hlt).2
   have HTN := Lib.hid (TN.out k hlt HA.out)
   have HNX : Hid (num4 x k = num4 y k → ∀ j, j < k + 1 → num4 x j = num4 y j) := Lib.hid (fun h j hj => by
    by_cases e : j = k
    ·rw [e]; exact h
    ·exact HA.out j (by omega))
   have G1 := Lib.hid (fun o => HB.out.alloc HB.out.size o)
   have G2 := Lib.hid (fun o => (HB2.out.trans (HB.out.mono HB2.out.size)).alloc (HB2.out.trans (HB.out.mono HB2.out.size)).size o)
   generalize num4 x k = m at *
   generalize num4 y k = n at *
   by_cases he : m = n
   ·have HA2 := Lib.hid (HNX.out he)
    have q1 : (m == n) = true := by simp [he]
    clear he HTN HNX
    go_wp2_with fail
    go_roundw
    case rel => exact ⟨k + 1, by omega, by go_num, HA2.out, G1.out _⟩
    case measure => simp [intOf]; omega
   ·have hr := HTN.out he
    have q1 : (m == n) = false := by simp [he]
    have HR := Lib.hid hr
    clear he HTN HNX hr
    go_wp2_with fail
    go_ret
    exact ⟨ret_bool HR.out.symm, G2.out _⟩
  ·obtain rfl : k = 4 := by omega
   obtain ⟨-, -, -, c3, c4, -, -, -⟩ := A3.out.below HB.out A3.out.lt
   obtain ⟨-, -, -, d3, d4, -, -, -⟩ := A4.out.below HB.out A4.out.lt
   simp only [Nat.zero_add] at c3 c4 d3 d4
   have HTE := Lib.hid (TE.out HA.out)
   have HTQ := Lib.hid (TQ.out HA.out)
   have G2 := Lib.hid (HB2.out.trans (HB.out.mono HB2.out.size))
   have t5 := HE1.out
   have t6 := HE2.out
   by_cases he : x.elem = y.elem
   ·rw [decide_eq_true he] at t5
    have hr := HTQ.out he
    have HR := Lib.hid hr
    clear he hr t6
    generalize bt x.elem = X at *
    generalize bt y.elem = Y at *
    go_wp2_with fail
    go_ret
    exact ⟨ret_bool HR.out.symm, G2.out⟩
   ·rw [decide_eq_false he] at t5
    have hr := HTE.out he
    rw [← t6] at hr
    have HR := Lib.hid hr
    clear he hr t6
    generalize bt x.elem = X at *
    generalize bt y.elem = Y at *
    go_wp2_with fail
    go_ret
    exact ⟨ret_bool HR.out.symm, G2.out⟩
theorem rless_any (x y : PItem) (w : World) :
  Calls Tryz.prog 89 #[itv x, itv y] w fun e w' => e = .returned (.bool (lessB x y)) ∧ Below w.heap.size w w' := by
 by_cases h : x.key = y.key
 ·by_cases g : x.field = y.field
  ·exact rless_tail x y w h g
  ·exact rless_field x y w h g
 ·exact rless_key x y w h
end Go.Proofs.YtpnpomocjkmncaaGreat
namespace Go.Proofs.YtpnpomocjkmncaaGreat
open Go.RowKit Plain
set_option linter.unusedVariables false

theorem put_at {xs : List PItem} {x : PItem} {k : Nat} (hr : Ris iless xs) (hx : x ∉ xs) (h1 : ∀ j, j < k → lessB (xs.getD j default) x = true) (h2 : k < xs.length → lessB (xs.getD k default) x = false) (hk : k ≤ xs.length) :
  insR iless x xs = xs.take k ++ x :: xs.drop k := by
 have key : insR iless x (xs.take k ++ xs.drop k) = xs.take k ++ x :: xs.drop k := by
  refine insR_at sto_item (by rw [List.take_append_drop]; exact hr) (fun t ht => ?_) (fun t ht => ?_)
  ·obtain ⟨j, hj, rfl⟩ := List.getElem_of_mem ht
   rw [List.length_take] at hj
   have := of_decide_eq_true (h1 j (by omega))
   rw [List.getElem_take]
   rwa [show xs.getD j default = xs[j] by simp [List.getD, List.getElem?_eq_getElem (show j < xs.length by omega)]] at this
  ·obtain ⟨j, hj, rfl⟩ := List.getElem_of_mem ht
   rw [List.length_drop] at hj
   rw [List.getElem_drop]
   have hk' : k < xs.length := by omega
   have h3 := of_decide_eq_false (h2 hk')
   rw [show xs.getD k default = xs[k] by simp [List.getD, List.getElem?_eq_getElem hk']] at h3
   have h4 : iless x xs[k] := sto_item.total h3 (fun e => hx (by rw [← e]; exact List.getElem_mem hk'))
   by_cases e : j = 0
   ·subst e; simpa using h4
   ·exact sto_item.trans h4 (List.pairwise_iff_getElem.1 hr k (k + j) hk' (by omega) (by omega))
 rwa [List.take_append_drop] at key

set_option maxRecDepth 100000 in
set_option maxHeartbeats 8000000 in
theorem rput_any {u : Value} {xs : List PItem} {w : World} (hu : SeqE LItem w u xs) (hn : xs.length ≤ 1000000) (x : PItem) (hr : Ris iless xs) (hx : x ∉ xs) :
  Calls Tryz.prog 90 #[u, itv x] w (MadeE LItem w (insR iless x xs)) := by
 have HP := Lib.hid (fun k h1 h2 hk => put_at (k := k) hr hx h1 h2 hk)
 obtain ⟨a, cap, rfl, g1, g2, g0, h⟩ := hu.parts
 have HS := Lib.hid (h.below_alloc (.cells #[.string (bt x.key), .string (bt x.field), .int .i64 x.kind, .string (bt x.elem), .int .i64 x.n, .int .i64 x.dot.node, .int .i64 x.dot.seq, .int .i64 x.dot.pos] 64))
 have IA : Hid (ItemAt (w.alloc (.cells #[.string (bt x.key), .string (bt x.field), .int .i64 x.kind, .string (bt x.elem), .int .i64 x.n, .int .i64 x.dot.node, .int .i64 x.dot.seq, .int .i64 x.dot.pos] 64)) w.heap.size 0 x) := Lib.hid ⟨by simp, by simp, by simp, by simp, by simp, by simp, by simp, by simp⟩
 have HB1 := Lib.hid ((Below.refl w.heap.size w).alloc (Nat.le_refl _) (.cells #[.string (bt x.key), .string (bt x.field), .int .i64 x.kind, .string (bt x.elem), .int .i64 x.n, .int .i64 x.dot.node, .int .i64 x.dot.seq, .int .i64 x.dot.pos] 64))
 have HW1 : Hid ((w.alloc (.cells #[.string (bt x.key), .string (bt x.field), .int .i64 x.kind, .string (bt x.elem), .int .i64 x.n, .int .i64 x.dot.node, .int .i64 x.dot.seq, .int .i64 x.dot.pos] 64)).heap.size = w.heap.size + 1) := Lib.hid (by simp)
 obtain ⟨n, hN⟩ : ∃ n, xs.length = n := ⟨_, rfl⟩
 rw [hN] at HS g1 hn ⊢
 have LN := Lib.hid hN
 have H0 := Lib.hid (g0)
 have KL := Lib.hid (fun (W : World) (y : PItem) => rless_any y x W)
 clear hu h g0 hN hr hx
 rw [itv_eq2]
 generalize insR iless x xs = R at *
 go_enter Tryz.func90, Tryz.ntmps90
 go_wp2_with fail
 generalize (w.alloc (.cells #[.string (bt x.key), .string (bt x.field), .int .i64 x.kind, .string (bt x.elem), .int .i64 x.n, .int .i64 x.dot.node, .int .i64 x.dot.seq, .int .i64 x.dot.pos] 64)) = W1 at *
 go_loopw [5] (fun i wr => ∃ k : Nat, k ≤ n ∧ i = .int .i64 k ∧ Aside (∀ j, j < k → lessB (xs.getD j default) x = true) ∧ Below (w.heap.size + 1) W1 wr) (fun i _ => n - (intOf i).toNat)
 case atStart => exact ⟨0, Nat.zero_le _, rfl, (fun j hj => absurd hj (Nat.not_lt_zero _)), Below.refl _ _⟩
 case round =>
  obtain ⟨k, hk, rfl, HA, hb⟩ := hrel
  have HB := Lib.hid hb
  have KLE := Lib.hid hk
  clear hb
  by_cases hlt : k < n
  ·have HK := Lib.hid (show k < xs.length by rw [LN.out]; exact hlt)
   obtain ⟨b, o, c, hv, -, -, -, hc⟩ := items_spot (HS.out.below' HB.out (by rw [HW1.out]; omega)) (by rw [LN.out]; omega)
   rw [LN.out] at hv
   simp only [Value.slice.injEq] at hv
   obtain ⟨rfl, -, rfl⟩ := hv
   obtain ⟨c0, c1, c2, c3, c4, c5, c6, c7⟩ := hc k HK.out
   obtain ⟨d0, d1, d2, d3, d4, d5, d6, d7⟩ := IA.out.below HB.out (by omega)
   simp only [Nat.zero_add] at d1 d2 d3 d4 d5 d6 d7
   have K := Lib.hid (fun W => KL.out W (xs.getD k default))
   have HA2 : Hid (lessB (xs.getD k default) x = true → ∀ j, j < k + 1 → lessB (xs.getD j default) x = true) := Lib.hid (fun h j hj => by
    by_cases e : j = k
    ·rw [e]; exact h
    ·exact HA.out j (by omega))
   have HE : Hid (lessB (xs.getD k default) x = false → R = xs.take k ++ x :: xs.drop k) := Lib.hid (fun h => HP.out k HA.out (fun _ => h) (by rw [LN.out]; exact hk))
   clear hc
   generalize xs.getD k default = y at *
   have IY := Lib.hid (show ItemAt wr b (o + k * 8) y from ⟨c0, c1, c2, c3, c4, c5, c6, c7⟩)
   have IXX := Lib.hid (show ItemAt wr w.heap.size 0 x from IA.out.below HB.out (by omega))
   have KE : Hid (∀ u, Below wr.heap.size wr u → Below wr.heap.size wr u ∧ (u.cell? ⟨b, o + k * 8, none⟩ = some (.string (bt y.key)) ∧ u.cell? ⟨b, o + k * 8 + 1, none⟩ = some (.string (bt y.field)) ∧ u.cell? ⟨b, o + k * 8 + 2, none⟩ = some (.int .i64 y.kind) ∧ u.cell? ⟨b, o + k * 8 + 3, none⟩ = some (.string (bt y.elem)) ∧ u.cell? ⟨b, o + k * 8 + 4, none⟩ = some (.int .i64 y.n) ∧ u.cell? ⟨b, o + k * 8 + 5, none⟩ = some (.int .i64 y.dot.node) ∧ u.cell? ⟨b, o + k * 8 + 6, none⟩ = some (.int .i64 y.dot.seq) ∧ u.cell? ⟨b, o + k * 8 + 7, none⟩ = some (.int .i64 y.dot.pos)) ∧ (u.cell? ⟨w.heap.size, 0, none⟩ = some (.string (bt x.key)) ∧ u.cell? ⟨w.heap.size, 1, none⟩ = some (.string (bt x.field)) ∧ u.cell? ⟨w.heap.size, 2, none⟩ = some (.int .i64 x.kind) ∧ u.cell? ⟨w.heap.size, 3, none⟩ = some (.string (bt x.elem)) ∧ u.cell? ⟨w.heap.size, 4, none⟩ = some (.int .i64 x.n) ∧ u.cell? ⟨w.heap.size, 5, none⟩ = some (.int .i64 x.dot.node) ∧ u.cell? ⟨w.heap.size, 6, none⟩ = some (.int .i64 x.dot.seq) ∧ u.cell? ⟨w.heap.size, 7, none⟩ = some (.int .i64 x.dot.pos))) := Lib.hid (fun u hu => ⟨hu, by
    obtain ⟨c0, c1, c2, c3, c4, c5, c6, c7⟩ := IY.out.below hu IY.out.lt
    obtain ⟨d0, d1, d2, d3, d4, d5, d6, d7⟩ := IXX.out.below hu IXX.out.lt
    simp only [Nat.zero_add] at d1 d2 d3 d4 d5 d6 d7
    exact ⟨⟨c0, c1, c2, c3, c4, c5, c6, c7⟩, ⟨d0, d1, d2, d3, d4, d5, d6, d7⟩⟩⟩)
   cases hl : lessB y x with
   | true =>
    have HA3 := Lib.hid (HA2.out hl)
    rw [hl] at K
    clear hl HA2 HE
    go_wp2_with fail
    go_region_held3 (fun u => Below wr.heap.size wr u ∧ (u.cell? ⟨b, o + k * 8, none⟩ = some (.string (bt y.key)) ∧ u.cell? ⟨b, o + k * 8 + 1, none⟩ = some (.string (bt y.field)) ∧ u.cell? ⟨b, o + k * 8 + 2, none⟩ = some (.int .i64 y.kind) ∧ u.cell? ⟨b, o + k * 8 + 3, none⟩ = some (.string (bt y.elem)) ∧ u.cell? ⟨b, o + k * 8 + 4, none⟩ = some (.int .i64 y.n) ∧ u.cell? ⟨b, o + k * 8 + 5, none⟩ = some (.int .i64 y.dot.node) ∧ u.cell? ⟨b, o + k * 8 + 6, none⟩ = some (.int .i64 y.dot.seq) ∧ u.cell? ⟨b, o + k * 8 + 7, none⟩ = some (.int .i64 y.dot.pos)) ∧ (u.cell? ⟨w.heap.size, 0, none⟩ = some (.string (bt x.key)) ∧ u.cell? ⟨w.heap.size, 1, none⟩ = some (.string (bt x.field)) ∧ u.cell? ⟨w.heap.size, 2, none⟩ = some (.int .i64 x.kind) ∧ u.cell? ⟨w.heap.size, 3, none⟩ = some (.string (bt x.elem)) ∧ u.cell? ⟨w.heap.size, 4, none⟩ = some (.int .i64 x.n) ∧ u.cell? ⟨w.heap.size, 5, none⟩ = some (.int .i64 x.dot.node) ∧ u.cell? ⟨w.heap.size, 6, none⟩ = some (.int .i64 x.dot.seq) ∧ u.cell? ⟨w.heap.size, 7, none⟩ = some (.int .i64 x.dot.pos)))
     (first | (exact KE.out _ (Below.refl _ _).drew) | (exact KE.out _ (holdC (by assumption) hb)))
     ((go_at_call 89; refine (K.out _).mono ?_; rintro e u2 ⟨rfl, hb⟩; have hbu := holdC (by assumption) hb))
    have HB2 : Hid (Below (w.heap.size + 1) W1 u2) := Lib.hid (HB.out.trans (hbu.mono (by have := HB.out.size; rw [HW1.out] at this; exact this)))
    clear hbu hb c0 c1 c2 c3 c4 c5 c6 c7 d0 d1 d2 d3 d4 d5 d6 d7
    go_wp2_with fail
    go_roundw
    case rel => exact ⟨k + 1, by omega, by go_num, HA3.out, HB2.out⟩
    case measure => simp [intOf]; omega
   | false =>
    have HR := Lib.hid (HE.out hl)
    have hck : ¬ cap = k := by omega
    rw [hl] at K
    clear hl HA2 HE
    go_wp2_with fail
    go_region_held3 (fun u => Below wr.heap.size wr u ∧ (u.cell? ⟨b, o + k * 8, none⟩ = some (.string (bt y.key)) ∧ u.cell? ⟨b, o + k * 8 + 1, none⟩ = some (.string (bt y.field)) ∧ u.cell? ⟨b, o + k * 8 + 2, none⟩ = some (.int .i64 y.kind) ∧ u.cell? ⟨b, o + k * 8 + 3, none⟩ = some (.string (bt y.elem)) ∧ u.cell? ⟨b, o + k * 8 + 4, none⟩ = some (.int .i64 y.n) ∧ u.cell? ⟨b, o + k * 8 + 5, none⟩ = some (.int .i64 y.dot.node) ∧ u.cell? ⟨b, o + k * 8 + 6, none⟩ = some (.int .i64 y.dot.seq) ∧ u.cell? ⟨b, o + k * 8 + 7, none⟩ = some (.int .i64 y.dot.pos)) ∧ (u.cell? ⟨w.heap.size, 0, none⟩ = some (.string (bt x.key)) ∧ u.cell? ⟨w.heap.size, 1, none⟩ = some (.string (bt x.field)) ∧ u.cell? ⟨w.heap.size, 2, none⟩ = some (.int .i64 x.kind) ∧ u.cell? ⟨w.heap.size, 3, none⟩ = some (.string (bt x.elem)) ∧ u.cell? ⟨w.heap.size, 4, none⟩ = some (.int .i64 x.n) ∧ u.cell? ⟨w.heap.size, 5, none⟩ = some (.int .i64 x.dot.node) ∧ u.cell? ⟨w.heap.size, 6, none⟩ = some (.int .i64 x.dot.seq) ∧ u.cell? ⟨w.heap.size, 7, none⟩ = some (.int .i64 x.dot.pos)))
     (first | (exact KE.out _ (Below.refl _ _).drew) | (exact KE.out _ (holdC (by assumption) hb)))
     ((go_at_call 89; refine (K.out _).mono ?_; rintro e u2 ⟨rfl, hb⟩; have hbu := holdC (by assumption) hb))
    have HBX : Hid (Below (w.heap.size + 1) W1 u2) := Lib.hid (HB.out.trans (hbu.mono (by have := HB.out.size; rw [HW1.out] at this; exact this)))
    clear hbu hb c0 c1 c2 c3 c4 c5 c6 c7 d0 d1 d2 d3 d4 d5 d6 d7
    have HSW := Lib.hid (HS.out.below' HBX.out (by rw [HW1.out]; omega))
    have IX := Lib.hid (IA.out.below HBX.out (by omega))
    have HBW : Hid (Below w.heap.size w u2) := Lib.hid (HB1.out.trans (HBX.out.mono (by omega)))
    have hws : w.heap.size + 1 ≤ u2.heap.size := by have := HBX.out.size; rw [HW1.out] at this; exact this
    have HWS := Lib.hid hws
    have SF := Lib.hid ((HSW.out.first k KLE.out).below_alloc (.cells #[] LItem.E))
    have O0 := Lib.hid (OwnE.empty (L := LItem) u2 u2.heap.size (Nat.le_refl _))
    have HLK : Hid ((xs.take k).length = k) := Lib.hid (by rw [List.length_take, LN.out]; have := KLE.out; omega)
    have LEN0 : Hid (([] : List PItem).length + (xs.take k).length ≤ 1073741824) := Lib.hid (by rw [HLK.out]; simp <;> omega)
    go_wp2_with (at_builtin; refine wpList_append_el LItem rfl (.tmp 21) (.tmp 24) rfl u2.heap.size rfl O0.out rfl SF.out (fun _ _ h => h) LEN0.out (by simp) ?_)
    intro v1 w1 ho1 hg1 _
    have hb1 : Below u2.heap.size u2 w1 := ((Below.refl _ _).alloc (Nat.le_refl _) _).grown hg1 (by simp) (fun j hj => (O0.out.lt j hj).1)
    obtain ⟨a1, c1, rfl, -, -, ho2⟩ := ho1.at k HLK.out
    have O1 := Lib.hid (ho2.mono hws)
    have B1 := Lib.hid hb1
    have IW : Hid (∀ u, Below (w.heap.size + 1) w1 u → Below (w.heap.size + 1) w1 u ∧ (u.cell? ⟨w.heap.size, 0, none⟩ = some (.string (bt x.key)) ∧ u.cell? ⟨w.heap.size, 1, none⟩ = some (.string (bt x.field)) ∧ u.cell? ⟨w.heap.size, 2, none⟩ = some (.int .i64 x.kind) ∧ u.cell? ⟨w.heap.size, 3, none⟩ = some (.string (bt x.elem)) ∧ u.cell? ⟨w.heap.size, 4, none⟩ = some (.int .i64 x.n) ∧ u.cell? ⟨w.heap.size, 5, none⟩ = some (.int .i64 x.dot.node) ∧ u.cell? ⟨w.heap.size, 6, none⟩ = some (.int .i64 x.dot.seq) ∧ u.cell? ⟨w.heap.size, 7, none⟩ = some (.int .i64 x.dot.pos))) := Lib.hid (fun u hu => ⟨hu, by
     have I := (IX.out.below (B1.out.mono hws) (by omega)).below hu (by omega)
     obtain ⟨c0, c1, c2, c3, c4, c5, c6, c7⟩ := I
     simp only [Nat.zero_add] at c1 c2 c3 c4 c5 c6 c7
     exact ⟨c0, c1, c2, c3, c4, c5, c6, c7⟩⟩)
    have hN1 : w.heap.size + 1 ≤ w1.heap.size := by have := B1.out.size; omega
    have HN1 := Lib.hid hN1
    have SD : Hid (∀ u, Below (w.heap.size + 1) w1 u → SeqE LItem u (.slice (some ⟨b, o + k * 8, none⟩) (n - k) (cap - k)) (xs.drop k)) := Lib.hid (fun u hu => (HS.out.behind k KLE.out).below' ((HBX.out.trans (B1.out.mono HWS.out)).trans hu) (by rw [HW1.out]; omega))
    have X1 := Lib.hid (fun (W : World) => one_item W x)
    have LEN1 : Hid ((xs.take k).length + ([x] : List PItem).length ≤ 1073741824) := Lib.hid (by rw [HLK.out]; simp <;> omega)
    have LEN2 : Hid ((xs.take k ++ [x]).length + (xs.drop k).length ≤ 1073741824) := Lib.hid (by rw [List.length_append, HLK.out, List.length_drop, LN.out]; simp <;> omega)
    have LEN3 : Hid ((xs.take k ++ [x]).length = k + 1) := Lib.hid (by rw [List.length_append, HLK.out]; rfl)
    have HBA := Lib.hid (HBW.out.trans (B1.out.mono (by omega : w.heap.size ≤ u2.heap.size)))
    clear ho1 ho2 hg1 hb1 hws hN1
    go_wp2_with fail
    go_region_held3 (fun u => Below (w.heap.size + 1) w1 u ∧ (u.cell? ⟨w.heap.size, 0, none⟩ = some (.string (bt x.key)) ∧ u.cell? ⟨w.heap.size, 1, none⟩ = some (.string (bt x.field)) ∧ u.cell? ⟨w.heap.size, 2, none⟩ = some (.int .i64 x.kind) ∧ u.cell? ⟨w.heap.size, 3, none⟩ = some (.string (bt x.elem)) ∧ u.cell? ⟨w.heap.size, 4, none⟩ = some (.int .i64 x.n) ∧ u.cell? ⟨w.heap.size, 5, none⟩ = some (.int .i64 x.dot.node) ∧ u.cell? ⟨w.heap.size, 6, none⟩ = some (.int .i64 x.dot.seq) ∧ u.cell? ⟨w.heap.size, 7, none⟩ = some (.int .i64 x.dot.pos)))
     (first | (exact IW.out _ (Below.refl _ _).drew) | (exact IW.out _ ((Below.refl _ _).alloc HN1.out _).drew) | (exact IW.out _ (holdEA (by assumption) HN1.out _)) | (exact IW.out _ (holdE (by assumption) hb)))
     (first
      | (refine step_append_el LItem (by rfl) (.tmp 26) (.tmp 28) (by rfl) (w.heap.size + 1) (by rfl) (O1.out.below ((Below.refl w1.heap.size w1).drew.alloc (Nat.le_refl _) _) (Nat.le_refl _)) (by rfl) (X1.out _) (fun _ _ h => h) LEN1.out (held_le (by assumption) HN1.out) ?_; intro v2 u2 ho2 hb; obtain ⟨b2, d2, rfl, -, -, ho2⟩ := ho2.at (k + 1) LEN3.out)
      | (refine step_append_el LItem (by rfl) (.tmp 29) (.tmp 32) (by rfl) (w.heap.size + 1) (by rfl) ho2 (by rfl) (SD.out _ (by assumption : _ ∧ _).1) (fun _ _ h => h) LEN2.out (held_le (by assumption) HN1.out) ?_; intro v3 u3 ho3 hb; have hbe := holdE (by assumption) hb))
    have O3 := Lib.hid (show OwnE LItem w.heap.size u3 v3 R by rw [HR.out]; have := ho3.mono (C := w.heap.size) (by omega); rwa [List.append_assoc] at this)
    have G3 := Lib.hid (HBA.out.trans (hbe.mono (by omega)))
    clear ho3 hb hbe
    go_wp2_with fail
    go_ret
    exact ⟨_, rfl, O3.out, G3.out⟩
  ·obtain rfl : k = n := by omega
   have HR : Hid (R = xs.take k ++ x :: xs.drop k) := Lib.hid (HP.out k HA.out (fun h => absurd h (by rw [LN.out]; omega)) (by rw [LN.out]; exact Nat.le_refl _))
   cases a with
   | none =>
    obtain rfl := H0.out rfl
    obtain rfl : k = 0 := by omega
    go_wp2_with fail
    go_quiet (fail)
    have HBX : Hid (Below (w.heap.size + 1) W1 (wr.drewN nq)) := Lib.hid (below_drewN HB.out _)
    generalize wr.drewN nq = u2 at *
    have HSW := Lib.hid (HS.out.below' HBX.out (by rw [HW1.out]; omega))
    have IX := Lib.hid (IA.out.below HBX.out (by omega))
    have HBW : Hid (Below w.heap.size w u2) := Lib.hid (HB1.out.trans (HBX.out.mono (by omega)))
    have hws : w.heap.size + 1 ≤ u2.heap.size := by have := HBX.out.size; rw [HW1.out] at this; exact this
    have HWS := Lib.hid hws
    have SF := Lib.hid ((HSW.out.first 0 KLE.out).below_alloc (.cells #[] LItem.E))
    have O0 := Lib.hid (OwnE.empty (L := LItem) u2 u2.heap.size (Nat.le_refl _))
    have HLK : Hid ((xs.take 0).length = 0) := Lib.hid (by rw [List.length_take, LN.out]; have := KLE.out; omega)
    have LEN0 : Hid (([] : List PItem).length + (xs.take 0).length ≤ 1073741824) := Lib.hid (by rw [HLK.out]; simp <;> omega)
    go_wp2_with (at_builtin; refine wpList_append_el LItem rfl (.tmp 21) (.tmp 24) rfl u2.heap.size rfl O0.out rfl SF.out (fun _ _ h => h) LEN0.out (by simp) ?_)
    intro v1 w1 ho1 hg1 _
    have hb1 : Below u2.heap.size u2 w1 := ((Below.refl _ _).alloc (Nat.le_refl _) _).grown hg1 (by simp) (fun j hj => (O0.out.lt j hj).1)
    obtain ⟨a1, c1, rfl, -, -, ho2⟩ := ho1.at 0 HLK.out
    have O1 := Lib.hid (ho2.mono hws)
    have B1 := Lib.hid hb1
    have IW : Hid (∀ u, Below (w.heap.size + 1) w1 u → Below (w.heap.size + 1) w1 u ∧ (u.cell? ⟨w.heap.size, 0, none⟩ = some (.string (bt x.key)) ∧ u.cell? ⟨w.heap.size, 1, none⟩ = some (.string (bt x.field)) ∧ u.cell? ⟨w.heap.size, 2, none⟩ = some (.int .i64 x.kind) ∧ u.cell? ⟨w.heap.size, 3, none⟩ = some (.string (bt x.elem)) ∧ u.cell? ⟨w.heap.size, 4, none⟩ = some (.int .i64 x.n) ∧ u.cell? ⟨w.heap.size, 5, none⟩ = some (.int .i64 x.dot.node) ∧ u.cell? ⟨w.heap.size, 6, none⟩ = some (.int .i64 x.dot.seq) ∧ u.cell? ⟨w.heap.size, 7, none⟩ = some (.int .i64 x.dot.pos))) := Lib.hid (fun u hu => ⟨hu, by
     have I := (IX.out.below (B1.out.mono hws) (by omega)).below hu (by omega)
     obtain ⟨c0, c1, c2, c3, c4, c5, c6, c7⟩ := I
     simp only [Nat.zero_add] at c1 c2 c3 c4 c5 c6 c7
     exact ⟨c0, c1, c2, c3, c4, c5, c6, c7⟩⟩)
    have hN1 : w.heap.size + 1 ≤ w1.heap.size := by have := B1.out.size; omega
    have HN1 := Lib.hid hN1
    have SD : Hid (∀ u, Below (w.heap.size + 1) w1 u → SeqE LItem u (.slice none 0 0) (xs.drop 0)) := Lib.hid (fun u hu => by rw [List.drop_eq_nil_of_le (by rw [LN.out]; exact Nat.zero_le _)]; exact SeqE.nil u)
    have X1 := Lib.hid (fun (W : World) => one_item W x)
    have LEN1 : Hid ((xs.take 0).length + ([x] : List PItem).length ≤ 1073741824) := Lib.hid (by rw [HLK.out]; simp <;> omega)
    have LEN2 : Hid ((xs.take 0 ++ [x]).length + (xs.drop 0).length ≤ 1073741824) := Lib.hid (by rw [List.length_append, HLK.out, List.length_drop, LN.out]; simp <;> omega)
    have LEN3 : Hid ((xs.take 0 ++ [x]).length = 0 + 1) := Lib.hid (by rw [List.length_append, HLK.out]; rfl)
    have HBA := Lib.hid (HBW.out.trans (B1.out.mono (by omega : w.heap.size ≤ u2.heap.size)))
    clear ho1 ho2 hg1 hb1 hws hN1
    go_wp2_with fail
    go_region_held3 (fun u => Below (w.heap.size + 1) w1 u ∧ (u.cell? ⟨w.heap.size, 0, none⟩ = some (.string (bt x.key)) ∧ u.cell? ⟨w.heap.size, 1, none⟩ = some (.string (bt x.field)) ∧ u.cell? ⟨w.heap.size, 2, none⟩ = some (.int .i64 x.kind) ∧ u.cell? ⟨w.heap.size, 3, none⟩ = some (.string (bt x.elem)) ∧ u.cell? ⟨w.heap.size, 4, none⟩ = some (.int .i64 x.n) ∧ u.cell? ⟨w.heap.size, 5, none⟩ = some (.int .i64 x.dot.node) ∧ u.cell? ⟨w.heap.size, 6, none⟩ = some (.int .i64 x.dot.seq) ∧ u.cell? ⟨w.heap.size, 7, none⟩ = some (.int .i64 x.dot.pos)))
     (first | (exact IW.out _ (Below.refl _ _).drew) | (exact IW.out _ ((Below.refl _ _).alloc HN1.out _).drew) | (exact IW.out _ (holdEA (by assumption) HN1.out _)) | (exact IW.out _ (holdE (by assumption) hb)))
     (first
      | (refine step_append_el LItem (by rfl) (.tmp 26) (.tmp 28) (by rfl) (w.heap.size + 1) (by rfl) (O1.out.below ((Below.refl w1.heap.size w1).drew.alloc (Nat.le_refl _) _) (Nat.le_refl _)) (by rfl) (X1.out _) (fun _ _ h => h) LEN1.out (held_le (by assumption) HN1.out) ?_; intro v2 u2 ho2 hb; obtain ⟨b2, d2, rfl, -, -, ho2⟩ := ho2.at (0 + 1) LEN3.out)
      | (refine step_append_el LItem (by rfl) (.tmp 29) (.tmp 32) (by rfl) (w.heap.size + 1) (by rfl) ho2 (by rfl) (SD.out _ (by assumption : _ ∧ _).1) (fun _ _ h => h) LEN2.out (held_le (by assumption) HN1.out) ?_; intro v3 u3 ho3 hb; have hbe := holdE (by assumption) hb))
    have O3 := Lib.hid (show OwnE LItem w.heap.size u3 v3 R by rw [HR.out]; have := ho3.mono (C := w.heap.size) (by omega); rwa [List.append_assoc] at this)
    have G3 := Lib.hid (HBA.out.trans (hbe.mono (by omega)))
    clear ho3 hb hbe
    go_wp2_with fail
    go_ret
    exact ⟨_, rfl, O3.out, G3.out⟩
   | some ad =>
    by_cases hck : cap = k
    ·have hck2 := hck.symm
     subst hck2
     go_wp2_with fail
     go_quiet (fail)
     have HBX : Hid (Below (w.heap.size + 1) W1 (wr.drewN nq)) := Lib.hid (below_drewN HB.out _)
     generalize wr.drewN nq = u2 at *
     have HSW := Lib.hid (HS.out.below' HBX.out (by rw [HW1.out]; omega))
     have IX := Lib.hid (IA.out.below HBX.out (by omega))
     have HBW : Hid (Below w.heap.size w u2) := Lib.hid (HB1.out.trans (HBX.out.mono (by omega)))
     have hws : w.heap.size + 1 ≤ u2.heap.size := by have := HBX.out.size; rw [HW1.out] at this; exact this
     have HWS := Lib.hid hws
     have SF := Lib.hid ((HSW.out.first k KLE.out).below_alloc (.cells #[] LItem.E))
     have O0 := Lib.hid (OwnE.empty (L := LItem) u2 u2.heap.size (Nat.le_refl _))
     have HLK : Hid ((xs.take k).length = k) := Lib.hid (by rw [List.length_take, LN.out]; have := KLE.out; omega)
     have LEN0 : Hid (([] : List PItem).length + (xs.take k).length ≤ 1073741824) := Lib.hid (by rw [HLK.out]; simp <;> omega)
     go_wp2_with (at_builtin; refine wpList_append_el LItem rfl (.tmp 21) (.tmp 24) rfl u2.heap.size rfl O0.out rfl SF.out (fun _ _ h => h) LEN0.out (by simp) ?_)
     intro v1 w1 ho1 hg1 _
     have hb1 : Below u2.heap.size u2 w1 := ((Below.refl _ _).alloc (Nat.le_refl _) _).grown hg1 (by simp) (fun j hj => (O0.out.lt j hj).1)
     obtain ⟨a1, c1, rfl, -, -, ho2⟩ := ho1.at k HLK.out
     have O1 := Lib.hid (ho2.mono hws)
     have B1 := Lib.hid hb1
     have IW : Hid (∀ u, Below (w.heap.size + 1) w1 u → Below (w.heap.size + 1) w1 u ∧ (u.cell? ⟨w.heap.size, 0, none⟩ = some (.string (bt x.key)) ∧ u.cell? ⟨w.heap.size, 1, none⟩ = some (.string (bt x.field)) ∧ u.cell? ⟨w.heap.size, 2, none⟩ = some (.int .i64 x.kind) ∧ u.cell? ⟨w.heap.size, 3, none⟩ = some (.string (bt x.elem)) ∧ u.cell? ⟨w.heap.size, 4, none⟩ = some (.int .i64 x.n) ∧ u.cell? ⟨w.heap.size, 5, none⟩ = some (.int .i64 x.dot.node) ∧ u.cell? ⟨w.heap.size, 6, none⟩ = some (.int .i64 x.dot.seq) ∧ u.cell? ⟨w.heap.size, 7, none⟩ = some (.int .i64 x.dot.pos))) := Lib.hid (fun u hu => ⟨hu, by
      have I := (IX.out.below (B1.out.mono hws) (by omega)).below hu (by omega)
      obtain ⟨c0, c1, c2, c3, c4, c5, c6, c7⟩ := I
      simp only [Nat.zero_add] at c1 c2 c3 c4 c5 c6 c7
      exact ⟨c0, c1, c2, c3, c4, c5, c6, c7⟩⟩)
     have hN1 : w.heap.size + 1 ≤ w1.heap.size := by have := B1.out.size; omega
     have HN1 := Lib.hid hN1
     have SD : Hid (∀ u, Below (w.heap.size + 1) w1 u → SeqE LItem u (.slice (some ad) 0 0) (xs.drop k)) := Lib.hid (fun u hu => by rw [List.drop_eq_nil_of_le (by rw [LN.out]; exact Nat.le_refl _)]; exact SeqE.empty u _ _ (by unfold maxLen; omega))
     have X1 := Lib.hid (fun (W : World) => one_item W x)
     have LEN1 : Hid ((xs.take k).length + ([x] : List PItem).length ≤ 1073741824) := Lib.hid (by rw [HLK.out]; simp <;> omega)
     have LEN2 : Hid ((xs.take k ++ [x]).length + (xs.drop k).length ≤ 1073741824) := Lib.hid (by rw [List.length_append, HLK.out, List.length_drop, LN.out]; simp <;> omega)
     have LEN3 : Hid ((xs.take k ++ [x]).length = k + 1) := Lib.hid (by rw [List.length_append, HLK.out]; rfl)
     have HBA := Lib.hid (HBW.out.trans (B1.out.mono (by omega : w.heap.size ≤ u2.heap.size)))
     clear ho1 ho2 hg1 hb1 hws hN1
     go_wp2_with fail
     go_region_held3 (fun u => Below (w.heap.size + 1) w1 u ∧ (u.cell? ⟨w.heap.size, 0, none⟩ = some (.string (bt x.key)) ∧ u.cell? ⟨w.heap.size, 1, none⟩ = some (.string (bt x.field)) ∧ u.cell? ⟨w.heap.size, 2, none⟩ = some (.int .i64 x.kind) ∧ u.cell? ⟨w.heap.size, 3, none⟩ = some (.string (bt x.elem)) ∧ u.cell? ⟨w.heap.size, 4, none⟩ = some (.int .i64 x.n) ∧ u.cell? ⟨w.heap.size, 5, none⟩ = some (.int .i64 x.dot.node) ∧ u.cell? ⟨w.heap.size, 6, none⟩ = some (.int .i64 x.dot.seq) ∧ u.cell? ⟨w.heap.size, 7, none⟩ = some (.int .i64 x.dot.pos)))
      (first | (exact IW.out _ (Below.refl _ _).drew) | (exact IW.out _ ((Below.refl _ _).alloc HN1.out _).drew) | (exact IW.out _ (holdEA (by assumption) HN1.out _)) | (exact IW.out _ (holdE (by assumption) hb)))
      (first
       | (refine step_append_el LItem (by rfl) (.tmp 26) (.tmp 28) (by rfl) (w.heap.size + 1) (by rfl) (O1.out.below ((Below.refl w1.heap.size w1).drew.alloc (Nat.le_refl _) _) (Nat.le_refl _)) (by rfl) (X1.out _) (fun _ _ h => h) LEN1.out (held_le (by assumption) HN1.out) ?_; intro v2 u2 ho2 hb; obtain ⟨b2, d2, rfl, -, -, ho2⟩ := ho2.at (k + 1) LEN3.out)
       | (refine step_append_el LItem (by rfl) (.tmp 29) (.tmp 32) (by rfl) (w.heap.size + 1) (by rfl) ho2 (by rfl) (SD.out _ (by assumption : _ ∧ _).1) (fun _ _ h => h) LEN2.out (held_le (by assumption) HN1.out) ?_; intro v3 u3 ho3 hb; have hbe := holdE (by assumption) hb))
     have O3 := Lib.hid (show OwnE LItem w.heap.size u3 v3 R by rw [HR.out]; have := ho3.mono (C := w.heap.size) (by omega); rwa [List.append_assoc] at this)
     have G3 := Lib.hid (HBA.out.trans (hbe.mono (by omega)))
     clear ho3 hb hbe
     go_wp2_with fail
     go_ret
     exact ⟨_, rfl, O3.out, G3.out⟩
    ·go_wp2_with fail
     go_quiet (fail)
     have HBX : Hid (Below (w.heap.size + 1) W1 (wr.drewN nq)) := Lib.hid (below_drewN HB.out _)
     generalize wr.drewN nq = u2 at *
     have HSW := Lib.hid (HS.out.below' HBX.out (by rw [HW1.out]; omega))
     have IX := Lib.hid (IA.out.below HBX.out (by omega))
     have HBW : Hid (Below w.heap.size w u2) := Lib.hid (HB1.out.trans (HBX.out.mono (by omega)))
     have hws : w.heap.size + 1 ≤ u2.heap.size := by have := HBX.out.size; rw [HW1.out] at this; exact this
     have HWS := Lib.hid hws
     have SF := Lib.hid ((HSW.out.first k KLE.out).below_alloc (.cells #[] LItem.E))
     have O0 := Lib.hid (OwnE.empty (L := LItem) u2 u2.heap.size (Nat.le_refl _))
     have HLK : Hid ((xs.take k).length = k) := Lib.hid (by rw [List.length_take, LN.out]; have := KLE.out; omega)
     have LEN0 : Hid (([] : List PItem).length + (xs.take k).length ≤ 1073741824) := Lib.hid (by rw [HLK.out]; simp <;> omega)
     go_wp2_with (at_builtin; refine wpList_append_el LItem rfl (.tmp 21) (.tmp 24) rfl u2.heap.size rfl O0.out rfl SF.out (fun _ _ h => h) LEN0.out (by simp) ?_)
     intro v1 w1 ho1 hg1 _
     have hb1 : Below u2.heap.size u2 w1 := ((Below.refl _ _).alloc (Nat.le_refl _) _).grown hg1 (by simp) (fun j hj => (O0.out.lt j hj).1)
     obtain ⟨a1, c1, rfl, -, -, ho2⟩ := ho1.at k HLK.out
     have O1 := Lib.hid (ho2.mono hws)
     have B1 := Lib.hid hb1
     have IW : Hid (∀ u, Below (w.heap.size + 1) w1 u → Below (w.heap.size + 1) w1 u ∧ (u.cell? ⟨w.heap.size, 0, none⟩ = some (.string (bt x.key)) ∧ u.cell? ⟨w.heap.size, 1, none⟩ = some (.string (bt x.field)) ∧ u.cell? ⟨w.heap.size, 2, none⟩ = some (.int .i64 x.kind) ∧ u.cell? ⟨w.heap.size, 3, none⟩ = some (.string (bt x.elem)) ∧ u.cell? ⟨w.heap.size, 4, none⟩ = some (.int .i64 x.n) ∧ u.cell? ⟨w.heap.size, 5, none⟩ = some (.int .i64 x.dot.node) ∧ u.cell? ⟨w.heap.size, 6, none⟩ = some (.int .i64 x.dot.seq) ∧ u.cell? ⟨w.heap.size, 7, none⟩ = some (.int .i64 x.dot.pos))) := Lib.hid (fun u hu => ⟨hu, by
      have I := (IX.out.below (B1.out.mono hws) (by omega)).below hu (by omega)
      obtain ⟨c0, c1, c2, c3, c4, c5, c6, c7⟩ := I
      simp only [Nat.zero_add] at c1 c2 c3 c4 c5 c6 c7
      exact ⟨c0, c1, c2, c3, c4, c5, c6, c7⟩⟩)
     have hN1 : w.heap.size + 1 ≤ w1.heap.size := by have := B1.out.size; omega
     have HN1 := Lib.hid hN1
     have SD : Hid (∀ u, Below (w.heap.size + 1) w1 u → SeqE LItem u (.slice (some (ad.add (k * 8))) 0 (cap - k)) (xs.drop k)) := Lib.hid (fun u hu => by rw [List.drop_eq_nil_of_le (by rw [LN.out]; exact Nat.le_refl _)]; exact SeqE.empty u _ _ (by unfold maxLen; omega))
     have X1 := Lib.hid (fun (W : World) => one_item W x)
     have LEN1 : Hid ((xs.take k).length + ([x] : List PItem).length ≤ 1073741824) := Lib.hid (by rw [HLK.out]; simp <;> omega)
     have LEN2 : Hid ((xs.take k ++ [x]).length + (xs.drop k).length ≤ 1073741824) := Lib.hid (by rw [List.length_append, HLK.out, List.length_drop, LN.out]; simp <;> omega)
     have LEN3 : Hid ((xs.take k ++ [x]).length = k + 1) := Lib.hid (by rw [List.length_append, HLK.out]; rfl)
     have HBA := Lib.hid (HBW.out.trans (B1.out.mono (by omega : w.heap.size ≤ u2.heap.size)))
     clear ho1 ho2 hg1 hb1 hws hN1
     go_wp2_with fail
     go_region_held3 (fun u => Below (w.heap.size + 1) w1 u ∧ (u.cell? ⟨w.heap.size, 0, none⟩ = some (.string (bt x.key)) ∧ u.cell? ⟨w.heap.size, 1, none⟩ = some (.string (bt x.field)) ∧ u.cell? ⟨w.heap.size, 2, none⟩ = some (.int .i64 x.kind) ∧ u.cell? ⟨w.heap.size, 3, none⟩ = some (.string (bt x.elem)) ∧ u.cell? ⟨w.heap.size, 4, none⟩ = some (.int .i64 x.n) ∧ u.cell? ⟨w.heap.size, 5, none⟩ = some (.int .i64 x.dot.node) ∧ u.cell? ⟨w.heap.size, 6, none⟩ = some (.int .i64 x.dot.seq) ∧ u.cell? ⟨w.heap.size, 7, none⟩ = some (.int .i64 x.dot.pos)))
      (first | (exact IW.out _ (Below.refl _ _).drew) | (exact IW.out _ ((Below.refl _ _).alloc HN1.out _).drew) | (exact IW.out _ (holdEA (by assumption) HN1.out _)) | (exact IW.out _ (holdE (by assumption) hb)))
      (first
       | (refine step_append_el LItem (by rfl) (.tmp 26) (.tmp 28) (by rfl) (w.heap.size + 1) (by rfl) (O1.out.below ((Below.refl w1.heap.size w1).drew.alloc (Nat.le_refl _) _) (Nat.le_refl _)) (by rfl) (X1.out _) (fun _ _ h => h) LEN1.out (held_le (by assumption) HN1.out) ?_; intro v2 u2 ho2 hb; obtain ⟨b2, d2, rfl, -, -, ho2⟩ := ho2.at (k + 1) LEN3.out)
       | (refine step_append_el LItem (by rfl) (.tmp 29) (.tmp 32) (by rfl) (w.heap.size + 1) (by rfl) ho2 (by rfl) (SD.out _ (by assumption : _ ∧ _).1) (fun _ _ h => h) LEN2.out (held_le (by assumption) HN1.out) ?_; intro v3 u3 ho3 hb; have hbe := holdE (by assumption) hb))
     have O3 := Lib.hid (show OwnE LItem w.heap.size u3 v3 R by rw [HR.out]; have := ho3.mono (C := w.heap.size) (by omega); rwa [List.append_assoc] at this)
     have G3 := Lib.hid (HBA.out.trans (hbe.mono (by omega)))
     clear ho3 hb hbe
     go_wp2_with fail
     go_ret
     exact ⟨_, rfl, O3.out, G3.out⟩
end Go.Proofs.YtpnpomocjkmncaaGreat
