/- WHAT A CALL ANSWERS: a bool, an integer, a list of texts (zone/XRefS has the first three, too: not both in one seat). What strings.HasPrefix, slices.ContainsFunc, BinarySearch, Clone, DeleteFunc leave of texts: off the contracts that YtfapkepfngddlaaGreatShelf lays. -/
import Derived.Test.YtfapkepfngddlaaGreatEqI
import Derived.Test.YtfapkepfngddlaaGreatRefZs
import Derived.Lib.SlicesCompact
import Derived.Sort.Grow
import Derived.Shelf.Slices.CompactS
import Derived.Test.YtfapkepfngddlaaGreatMaths
import Derived.Test.YtfapkepfngddlaaGreatShelf
import Derived.Deep.QuietTactic
import Derived.BigQuiet
import Derived.Test.YtfapkepfngddlaaGreatRefIs
import Derived.Test.YtfapkepfngddlaaGreatISets
import Derived.Lib.AppendZeros
import Derived.WalkSpells
import Derived.Shelf.Abstract
set_option maxRecDepth 100000
set_option maxHeartbeats 64000000
namespace Go.Proofs.YtfapkepfngddlaaGreat
open Go.RowKit Plain
set_option linter.unusedVariables false
def GivesB (w : World) (r : Bool) (e : Ending) (w' : World) : Prop := e = .returned (.bool r) ∧ Below w.heap.size w w'
theorem below_of_drawn {w w' : World} (h : ∃ n, w' = w.drewN n) : Below w.heap.size w w' := by
 obtain ⟨n, rfl⟩ := h;exact below_drewN (Below.refl _ _) n
theorem below_of_same {w w' : World} (h : w = w') : Below w.heap.size w w' := by rw [h]; exact Below.refl _ _
theorem hasPrefix_any (s p : Txt) (w : World) : Calls Tryz.prog 54 #[.string (bt s), .string (bt p)] w fun e w' => e = .returned (.bool (beg s p)) ∧ w' = w :=
 Tryz.strings_HasPrefix (bt s) (bt p) w
theorem hasPrefixL (s p : Txt) (w : World) : Calls Tryz.prog 54 #[.string (bt s), .string (bt p)] w fun e w' => e = .returned (.bool (beg s p)) ∧ w = w' :=
 (hasPrefix_any s p w).mono fun _ _ ⟨h, e⟩ => ⟨h, e.symm⟩
theorem bang_getD (xs : List Txt) (j : Nat) (hj : j < xs.length) : xs[j]! = xs.getD j [] := by
 simp [getElem!_pos, hj, List.getD]
theorem contains_texts {v : Value} {xs : List Txt} {w : World} (hv : SeqT w v xs) (hn : xs.length ≤ 1000000) (p : Txt → Bool) (g : Nat) (lb : Array Value)
  (eg : ∀ args w, (callFunc g args).run Tryz.prog w = .ok (.enter g args) w) (hp : PredAt Tryz.prog g lb tv p w) :
  Calls Tryz.prog 55 #[v, .func (.func g) #[] lb] w fun e w' => e = .returned (.bool (xs.any p)) ∧ ∃ q, w' = w.drewN q := by
 by_cases h0 : 0 < xs.length
 ·obtain ⟨b, o, c, rfl, -, -, -, hc⟩ := hv.spot h0
  have := Tryz.slices_ContainsFunc tv p g lb eg b o xs.length c xs w hp (Nat.le_refl _) (by omega) (fun j hj => by rw [hc j hj, bang_getD xs j hj])
  rwa [List.take_length] at this
 ·obtain rfl : xs = [] := List.eq_nil_of_length_eq_zero (by omega)
  obtain ⟨a, cap, rfl, -⟩ := hv.parts;exact (Tryz.slices_ContainsFunc_empty (α := Txt) a cap _ w).mono fun _ _ ⟨h, e⟩ => ⟨h, 0, e⟩
theorem zletter_any (c : UInt8) (w : World) :
  Calls Tryz.prog 116 #[.int .u8 (c.toNat : Int)] w fun e w' => e = .returned (.bool (okByte c)) ∧ w = w' := by
 have hx := u8_lt c;have HT := ok_of (c := c);have HF := ok_not (c := c);generalize okByte c = r at *;generalize c.toNat = x at *
 by_cases h1 : 97 ≤ x
 ·have b1 : (97 : Int) ≤ x := by omega
  by_cases h2 : x ≤ 122
  ·obtain rfl : r = true := HT (.inr (.inr ⟨h1, h2⟩))
   have b2 : (x : Int) ≤ 122 := by omega
   clear HT HF h1 h2;go_enter Tryz.func116, Tryz.ntmps116
   go_wp2_with fail
   go_ret
   exact ⟨rfl, rfl⟩
  ·obtain rfl : r = false := HF (by omega)
   have b2 : ¬ (x : Int) ≤ 122 := by omega
   have b3 : (48 : Int) ≤ x := by omega
   have b4 : ¬ (x : Int) ≤ 57 := by omega
   have b5 : ((x : Int) == 47) = false := by simp; omega
   clear HT HF h1 h2;go_enter Tryz.func116, Tryz.ntmps116
   go_wp2_with fail
   go_ret
   exact ⟨rfl, rfl⟩
 ·have b1 : ¬ (97 : Int) ≤ x := by omega
  by_cases h2 : 48 ≤ x
  ·have b2 : (48 : Int) ≤ x := by omega
   by_cases h3 : x ≤ 57
   ·obtain rfl : r = true := HT (.inr (.inl ⟨h2, h3⟩))
    have b3 : (x : Int) ≤ 57 := by omega
    clear HT HF h1 h2 h3;go_enter Tryz.func116, Tryz.ntmps116
    go_wp2_with fail
    go_ret
    exact ⟨rfl, rfl⟩
   ·obtain rfl : r = false := HF (by omega)
    have b3 : ¬ (x : Int) ≤ 57 := by omega
    have b5 : ((x : Int) == 47) = false := by simp; omega
    clear HT HF h1 h2 h3;go_enter Tryz.func116, Tryz.ntmps116
    go_wp2_with fail
    go_ret
    exact ⟨rfl, rfl⟩
  ·have b2 : ¬ (48 : Int) ≤ x := by omega
   by_cases h3 : x = 47
   ·obtain rfl : r = true := HT (.inl h3)
    subst h3;clear HT HF h1 h2;go_enter Tryz.func116, Tryz.ntmps116
    go_wp2_with fail
    go_ret
    exact ⟨rfl, rfl⟩
   ·obtain rfl : r = false := HF (by omega)
    have b5 : ((x : Int) == 47) = false := by simp; omega
    clear HT HF h1 h2 h3;go_enter Tryz.func116, Tryz.ntmps116
    go_wp2_with fail
    go_ret
    exact ⟨rfl, rfl⟩
theorem zprefix_any (s : Txt) (w : World) :
  Calls Tryz.prog 68 #[.string (bt s)] w fun e w' => e = .returned (.bool (prefixB s)) ∧ w = w' := by
 have z1 := bt_size s;have HF := zH (fun k hk h => prefix_false (s := s) k hk h);have HT := zH (prefix_true (s := s));have HL := zH (prefix_long (s := s));have I1 := zH (index_run s);generalize prefixB s = r at *;generalize bt s = S at *
 by_cases hl : s.length ≤ 16
 ·have hd : ((s.length : Nat) : Int) ≤ 16 := by omega
  go_enter Tryz.func68, Tryz.ntmps68
  go_wp2_with fail
  go_loop [3, 9] (fun _ i => ∃ k : Nat, k ≤ s.length ∧ i = .int .i64 k ∧ ∀ j, j < k → okByte (s.getD j 0) = true) (fun _ i => s.length - (intOf i).toNat)
  case atStart => exact ⟨0, Nat.zero_le _, rfl, fun j hj => absurd hj (by omega)⟩
  case round =>
   obtain ⟨k, hk, rfl, hall⟩ := hrel;have HA := zH hall;clear hall
   by_cases hlt : k < s.length
   ·have i1 := I1.out k hlt
    have K := zletter_any (s.getD k 0) w
    cases he : okByte (s.getD k 0) with
    | true =>
     rw [he] at K;have HA2 : Hid (∀ j, j < k + 1 → okByte (s.getD j 0) = true) := zH (fun j hj => by
       by_cases h : j < k
       ·exact HA.out j h
       ·obtain rfl : j = k := by omega
        exact he)
     clear he;generalize (s.getD k 0).toNat = x at *;go_wp2_with fail
     refine K.mono ?_;rintro e w' ⟨rfl, rfl⟩;go_wp2_with fail
     go_round
     case rel => exact ⟨k + 1, by omega, by go_num, HA2.out⟩
     case measure => simp [intOf]; omega
    | false =>
     rw [he] at K;obtain rfl : r = false := HF.out k hlt he;clear he;generalize (s.getD k 0).toNat = x at *;go_wp2_with fail
     refine K.mono ?_;rintro e w' ⟨rfl, rfl⟩;go_wp2_with fail
     go_ret
     exact ⟨rfl, rfl⟩
   ·obtain rfl : k = s.length := by omega
    obtain rfl : r = true := HT.out hl HA.out;go_wp2_with fail
    go_ret
    exact ⟨rfl, rfl⟩
 ·obtain rfl : r = false := HL.out hl
  have hd : ¬ ((s.length : Nat) : Int) ≤ 16 := by omega
  have hd2 : (16 : Int) < ((s.length : Nat) : Int) := by omega
  go_enter Tryz.func68, Tryz.ntmps68
  go_wp2_with fail
  go_ret
  exact ⟨rfl, rfl⟩
theorem zkey_any (s : Txt) (w : World) :
  Calls Tryz.prog 117 #[.string (bt s)] w fun e w' => e = .returned (.bool (keyB s)) ∧ w = w' := by
 have z1 := bt_size s;have K := zprefix_any s w;have hk : keyB s = (decide (0 < s.length) && prefixB s) := rfl;have t1 := text_eq s [];generalize prefixB s = r at *;rw [hk];clear hk;rw [show (bt []).toList = [] from toList_bt []] at t1
 by_cases h : 0 < s.length
 ·rw [decide_eq_true h, Bool.true_and]
  rw [decide_eq_false (by rintro rfl; simp at h)] at t1;generalize bt s = S at *;go_enter Tryz.func117, Tryz.ntmps117
  go_wp2_with fail
  refine K.mono ?_;rintro e w' ⟨rfl, rfl⟩;go_wp2_with fail
  go_ret
  exact ⟨rfl, rfl⟩
 ·rw [decide_eq_false h, Bool.false_and]
  rw [decide_eq_true (List.eq_nil_of_length_eq_zero (by omega))] at t1;generalize bt s = S at *;go_enter Tryz.func117, Tryz.ntmps117
  go_wp2_with fail
  go_ret
  exact ⟨rfl, rfl⟩
theorem enters41 : ∀ args w, (callFunc 53 args).run Tryz.prog w = .ok (.enter 53 args) w := enters_of Tryz.func53 (by kernel_rfl) rfl
theorem gives41 (x key : Txt) (B : Nat) (W : World) (hc : W.cell? ⟨B, 0, none⟩ = some (.string (bt key))) : FnGives Tryz.prog 53 #[.pointer (some ⟨B, 0, none⟩)] #[tv x] (.bool (beg key x)) W := by
 show Calls Tryz.prog 53 #[.string (bt x), .pointer (some ⟨B, 0, none⟩)] W _
 have KH := zH (fun W => hasPrefixL key x W);generalize beg key x = r at *;generalize bt x = X at *;generalize bt key = S at *;go_enter Tryz.func53, Tryz.ntmps53
 go_wp2_with fail
 refine (KH.out _).mono ?_;rintro e w' ⟨rfl, rfl⟩;go_wp2_with fail
 go_ret
 exact ⟨rfl, 0, rfl⟩
theorem stequal_any {u v : Value} {xs ys : List PItem} {w : World} (hu : SeqE LItem w u xs) (hv : SeqE LItem w v ys) :
  Calls Tryz.prog 72 #[u, v] w fun e w' => e = .returned (.bool (decide (xs = ys))) ∧ ∃ n, w' = w.drewN n := by
 obtain ⟨a, cap, rfl, g1, g2, g0, h⟩ := hu.parts;obtain ⟨a', cap', rfl, e1, e2, e0, h'⟩ := hv.parts
 by_cases hl : xs.length = ys.length
 ·obtain ⟨n, hN⟩ : ∃ n, xs.length = n := ⟨_, rfl⟩
  have hM : ys.length = n := by omega
  have hT : (∀ j, j < n → xs.getD j default = ys.getD j default) → decide (xs = ys) = true := fun hall => decide_eq_true (by
   apply List.ext_getElem hl
   intro j h1 h2;have := hall j (by omega)
   simpa [List.getD, List.getElem?_eq_getElem h1, List.getElem?_eq_getElem h2] using this)
  have hF : ∀ j, ¬ xs.getD j default = ys.getD j default → decide (xs = ys) = false := fun j hne => decide_eq_false (by
   intro e; subst e; exact hne rfl)
  have HT := zH hT;have HF := zH hF;generalize decide (xs = ys) = r at *;rw [hN] at h g1 ⊢;rw [hM] at h' e1 ⊢;have HS := zH h;have HS' := zH h';have LN := zH hN;have LM := zH hM;clear hu hv h h' g0 e0 hl hT hF hN hM;go_enter Tryz.func72, Tryz.ntmps72
  go_wp2_with fail
  go_loopw [13] (fun i wr => ∃ k : Nat, k ≤ n ∧ i = .int .i64 k ∧ (∀ j, j < k → xs.getD j default = ys.getD j default) ∧ ∃ q, wr = w.drewN q) (fun i _ => n - (intOf i).toNat)
  case atStart => exact ⟨0, Nat.zero_le _, rfl, (fun j hj => absurd hj (by omega)), 0, rfl⟩
  case round =>
   obtain ⟨k, hk, rfl, hall, q, rfl⟩ := hrel;have HALL := zH hall;clear hall
   by_cases hlt : k < n
   ·obtain ⟨b, o, c, hv, -, -, -, hc⟩ := items_spot HS.out (by rw [LN.out]; omega)
    rw [LN.out] at hv;simp only [Value.slice.injEq] at hv
    obtain ⟨rfl, -, rfl⟩ := hv;obtain ⟨b', o', c', hv', -, -, -, hc'⟩ := items_spot HS'.out (by rw [LM.out]; omega);rw [LM.out] at hv';simp only [Value.slice.injEq] at hv'
    obtain ⟨rfl, -, rfl⟩ := hv';obtain ⟨c0, c1, c2, c3, c4, c5, c6, c7⟩ := hc k (by rw [LN.out]; exact hlt);obtain ⟨d0, d1, d2, d3, d4, d5, d6, d7⟩ := hc' k (by rw [LM.out]; exact hlt);have HFK := zH (HF.out k);have HNX : Hid (xs.getD k default = ys.getD k default → ∀ j, j < k + 1 → xs.getD j default = ys.getD j default) := zH (fun he j hj => by
     by_cases e : j = k
     ·rw [e]; exact he
     ·exact HALL.out j (by omega))
    clear hc hc';generalize xs.getD k default = x at *;generalize ys.getD k default = y at *;have hq := neq_item x y
    by_cases he : x = y
    ·have HX := zH (HNX.out he)
     rw [decide_eq_true he] at hq;clear he HNX HFK;go_wp2_with fail
     go_quiet (fail)
     go_wp2_with fail
     go_roundw
     case rel => exact ⟨k + 1, by omega, by go_num, HX.out, _, rfl⟩
     case measure => simp [intOf]; omega
    ·obtain rfl : r = false := HFK.out he
     rw [decide_eq_false he] at hq;clear he HNX HFK;go_wp2_with fail
     go_quiet (fail)
     go_wp2_with fail
     go_ret
     exact ⟨rfl, _, World.drewN_drewN _ _ _⟩
   ·obtain rfl : k = n := by omega
    obtain rfl : r = true := HT.out HALL.out;go_wp2_with fail
    go_ret
    exact ⟨rfl, _, rfl⟩
 ·have hne : ((xs.length : Int) != (ys.length : Int)) = true := bne_iff_ne.2 (by omega)
  rw [decide_eq_false (by intro e; subst e; exact hl rfl)];clear hu hv h h' g0 e0 g1 g2 e1 e2;generalize xs.length = n at *;generalize ys.length = m at *;go_enter Tryz.func72, Tryz.ntmps72
  go_wp2_with fail
  go_ret
  exact ⟨rfl, 0, rfl⟩
theorem stindex_any {v : Value} {ds : List PItem} {w : World} (hv : SeqE LItem w v ds) (hn : ds.length ≤ 1000000) (p : PItem → Bool) (g : Nat) (lb : Array Value)
  (eg : ∀ args w, (callFunc g args).run Tryz.prog w = .ok (.enter g args) w)
  (hp : ∀ W d, Below w.heap.size w W → Calls Tryz.prog g (#[itv d] ++ lb) W (GivesB W (p d))) :
  Calls Tryz.prog 121 #[v, .func (.func g) #[] lb] w fun e w' => ∃ r : Int, e = .returned (.int .i64 r) ∧ decide (0 ≤ r) = ds.any p ∧ Below w.heap.size w w' := by
 obtain ⟨a, cap, rfl, g1, g2, g0, h⟩ := hv.parts;have HS := zH h;have HP := zH hp;have HY : Hid (∀ k, k < ds.length → p (ds.getD k default) = true → ds.any p = true) := zH (fun k hk h => by
  rw [List.any_eq_true];exact ⟨_, by rw [show ds.getD k default = ds[k] by simp [List.getD, List.getElem?_eq_getElem hk]]; exact List.getElem_mem hk, h⟩)
 have HN : Hid ((∀ j, j < ds.length → p (ds.getD j default) = false) → ds.any p = false) := zH (fun h => by
  rw [List.any_eq_false];intro d hd;obtain ⟨j, hj, rfl⟩ := List.getElem_of_mem hd;have := h j hj;rw [show ds.getD j default = ds[j] by simp [List.getD, List.getElem?_eq_getElem hj]] at this;rw [this]
  decide)
 clear hp hv h g0;obtain ⟨n, hN⟩ : ∃ n, ds.length = n := ⟨_, rfl⟩;rw [hN] at hn g1 HS HY HN ⊢;have LN := zH hN;clear hN;generalize ds.any p = r at *;go_enter Tryz.func121, Tryz.ntmps121
 go_wp2_with fail
 go_loopw [8] (fun i wr => ∃ k : Nat, k ≤ n ∧ i = .int .i64 k ∧ (∀ j, j < k → p (ds.getD j default) = false) ∧ Below w.heap.size w wr) (fun i _ => n - (intOf i).toNat)
 case atStart => exact ⟨0, Nat.zero_le _, rfl, fun j hj => absurd hj (by omega), Below.refl _ _⟩
 case round =>
  obtain ⟨k, hk, rfl, hall, hb⟩ := hrel;have HA := zH hall;have HB := zH hb;clear hall hb
  by_cases hlt : k < n
  ·obtain ⟨b, o, c, hv, -, -, -, hc⟩ := items_spot (HS.out.below HB.out) (by rw [LN.out]; omega)
   rw [LN.out] at hv;simp only [Value.slice.injEq] at hv
   obtain ⟨rfl, -, rfl⟩ := hv;obtain ⟨c0, c1, c2, c3, c4, c5, c6, c7⟩ := hc k (by rw [LN.out]; exact hlt);have HYK := zH (HY.out k hlt);have HAK : Hid (p (ds.getD k default) = false → ∀ j, j < k + 1 → p (ds.getD j default) = false) := zH (fun h j hj => by
    by_cases e : j = k
    ·rw [e]; exact h
    ·exact HA.out j (by omega))
   have K := HP.out wr (ds.getD k default) HB.out;clear hc;rw [itv_eq3] at K;generalize ds.getD k default = d at *
   cases hpd : p d with
   | true =>
    rw [hpd] at K;obtain rfl : r = true := HYK.out hpd;clear hpd;go_wp2_with (go_at_fn g; refine K.mono ?_; rintro e w1 ⟨rfl, hb⟩)
    have G := zH (HB.out.trans (hb.mono HB.out.size));clear hb c0 c1 c2 c3 c4 c5 c6 c7 K;go_wp2_with fail
    go_ret
    exact ⟨k, rfl, by simp, G.out⟩
   | false =>
    rw [hpd] at K;have HX := zH (HAK.out hpd);clear hpd;go_wp2_with (go_at_fn g; refine K.mono ?_; rintro e w1 ⟨rfl, hb⟩)
    have G := zH (HB.out.trans (hb.mono HB.out.size));clear hb c0 c1 c2 c3 c4 c5 c6 c7 K;go_wp2_with fail
    go_roundw
    case rel => exact ⟨k + 1, by omega, by go_num, HX.out, G.out⟩
    case measure => simp [intOf]; omega
  ·obtain rfl : k = n := by omega
   obtain rfl : r = false := HN.out HA.out;go_wp2_with fail
   go_ret
   exact ⟨-1, rfl, by decide, HB.out⟩
theorem stcontains_any {v : Value} {ds : List PItem} {w : World} (hv : SeqE LItem w v ds) (hn : ds.length ≤ 1000000) (p : PItem → Bool) (g : Nat) (lb : Array Value)
  (eg : ∀ args w, (callFunc g args).run Tryz.prog w = .ok (.enter g args) w)
  (hp : ∀ W d, Below w.heap.size w W → Calls Tryz.prog g (#[itv d] ++ lb) W (GivesB W (p d))) :
  Calls Tryz.prog 71 #[v, .func (.func g) #[] lb] w (GivesB w (ds.any p)) := by
 have K := stindex_any hv hn p g lb eg hp;obtain ⟨a, cap, rfl, -⟩ := hv.parts;generalize ds.any p = r at *;generalize ds.length = n at *;clear hv hp;go_enter Tryz.func71, Tryz.ntmps71
 go_wp2_with fail
 refine K.mono ?_;rintro e w1 ⟨q, rfl, hq, hb⟩;have G := zH hb;clear hb K;subst hq;go_wp2_with fail
 go_ret
 exact ⟨rfl, G.out⟩
end Go.Proofs.YtfapkepfngddlaaGreat
