/- What the program's own isLetter, isPrefix, Key of texts leave. What the program's own beginsIn and Right of texts leave, and the functions that it hands to the library. What slices.Sort and slices.Compact, and the program's own rising and heads of texts leave. What the program's own Union, Covers, Within, Without, Inter of texts leave. -/
import Derived.Test.YtmknpmamkjjiaaaGreatGives
import Derived.Test.YtmknpmamkjjiaaaGreatRefZs
import Derived.Test.YtmknpmamkjjiaaaGreatMaths
import Derived.Test.YtmknpmamkjjiaaaGreatShelfC
import Derived.Deep.QuietTactic
import Derived.BigQuiet
namespace Go.Proofs.YtmknpmamkjjiaaaGreat
open Go.RowKit Plain
set_option linter.unusedVariables false

set_option maxRecDepth 100000 in
set_option maxHeartbeats 1000000 in
/-- isLetter -/
theorem zletter_any (c : UInt8) (w : World) :
  Calls Tryz.prog 91 #[.int .u8 (c.toNat : Int)] w fun e w' => e = .returned (.bool (okByte c)) ∧ w = w' := by
 have hx := u8_lt c
 have HT := ok_of (c := c)
 have HF := ok_not (c := c)
 generalize okByte c = r at *
 generalize c.toNat = x at *
 by_cases h1 : 97 ≤ x
 ·have b1 : (97 : Int) ≤ x := by omega
  by_cases h2 : x ≤ 122
  ·obtain rfl : r = true := HT (.inr (.inr ⟨h1, h2⟩))
   have b2 : (x : Int) ≤ 122 := by omega
   clear HT HF h1 h2
   go_enter Tryz.func91, Tryz.ntmps91
   go_wp2_with fail
   go_ret
   exact ⟨rfl, rfl⟩
  ·obtain rfl : r = false := HF (by omega)
   have b2 : ¬ (x : Int) ≤ 122 := by omega
   have b3 : (48 : Int) ≤ x := by omega
   have b4 : ¬ (x : Int) ≤ 57 := by omega
   have b5 : ((x : Int) == 47) = false := by simp; omega
   clear HT HF h1 h2
   go_enter Tryz.func91, Tryz.ntmps91
   go_wp2_with fail
   go_ret
   exact ⟨rfl, rfl⟩
 ·have b1 : ¬ (97 : Int) ≤ x := by omega
  by_cases h2 : 48 ≤ x
  ·have b2 : (48 : Int) ≤ x := by omega
   by_cases h3 : x ≤ 57
   ·obtain rfl : r = true := HT (.inr (.inl ⟨h2, h3⟩))
    have b3 : (x : Int) ≤ 57 := by omega
    clear HT HF h1 h2 h3
    go_enter Tryz.func91, Tryz.ntmps91
    go_wp2_with fail
    go_ret
    exact ⟨rfl, rfl⟩
   ·obtain rfl : r = false := HF (by omega)
    have b3 : ¬ (x : Int) ≤ 57 := by omega
    have b5 : ((x : Int) == 47) = false := by simp; omega
    clear HT HF h1 h2 h3
    go_enter Tryz.func91, Tryz.ntmps91
    go_wp2_with fail
    go_ret
    exact ⟨rfl, rfl⟩
  ·have b2 : ¬ (48 : Int) ≤ x := by omega
   by_cases h3 : x = 47
   ·obtain rfl : r = true := HT (.inl h3)
    subst h3
    clear HT HF h1 h2
    go_enter Tryz.func91, Tryz.ntmps91
    go_wp2_with fail
    go_ret
    exact ⟨rfl, rfl⟩
   ·obtain rfl : r = false := HF (by omega)
    have b5 : ((x : Int) == 47) = false := by simp; omega
    clear HT HF h1 h2 h3
    go_enter Tryz.func91, Tryz.ntmps91
    go_wp2_with fail
    go_ret
    exact ⟨rfl, rfl⟩

set_option maxRecDepth 100000 in
set_option maxHeartbeats 2000000 in
/-- isPrefix -/
theorem zprefix_any (s : Txt) (w : World) :
  Calls Tryz.prog 80 #[.string (bt s)] w fun e w' => e = .returned (.bool (prefixB s)) ∧ w = w' := by
 have z1 := bt_size s
 have HF := Lib.hid (fun k hk h => prefix_false (s := s) k hk h)
 have HT := Lib.hid (prefix_true (s := s))
 have HL := Lib.hid (prefix_long (s := s))
 have I1 := Lib.hid (index_run s)
 generalize prefixB s = r at *
 generalize bt s = S at *
 by_cases hl : s.length ≤ 16
 ·have hd : ((s.length : Nat) : Int) ≤ 16 := by omega
  go_enter Tryz.func80, Tryz.ntmps80
  go_wp2_with fail
  go_loop [3, 9] (fun _ i => ∃ k : Nat, k ≤ s.length ∧ i = .int .i64 k ∧ ∀ j, j < k → okByte (s.getD j 0) = true) (fun _ i => s.length - (intOf i).toNat)
  case atStart => exact ⟨0, Nat.zero_le _, rfl, fun j hj => absurd hj (by omega)⟩
  case round =>
   obtain ⟨k, hk, rfl, hall⟩ := hrel
   have HA := Lib.hid hall
   clear hall
   by_cases hlt : k < s.length
   ·have i1 := I1.out k hlt
    have K := zletter_any (s.getD k 0) w
    cases he : okByte (s.getD k 0) with
    | true =>
     rw [he] at K
     have HA2 : Hid (∀ j, j < k + 1 → okByte (s.getD j 0) = true) := Lib.hid (fun j hj => by
       by_cases h : j < k
       ·exact HA.out j h
       ·obtain rfl : j = k := by omega
        exact he)
     clear he
     generalize (s.getD k 0).toNat = x at *
     go_wp2_with fail
     refine K.mono ?_
     rintro e w' ⟨rfl, rfl⟩
     go_wp2_with fail
     go_round
     case rel => exact ⟨k + 1, by omega, by go_num, HA2.out⟩
     case measure => simp [intOf]; omega
    | false =>
     rw [he] at K
     obtain rfl : r = false := HF.out k hlt he
     clear he
     generalize (s.getD k 0).toNat = x at *
     go_wp2_with fail
     refine K.mono ?_
     rintro e w' ⟨rfl, rfl⟩
     go_wp2_with fail
     go_ret
     exact ⟨rfl, rfl⟩
   ·obtain rfl : k = s.length := by omega
    obtain rfl : r = true := HT.out hl HA.out
    go_wp2_with fail
    go_ret
    exact ⟨rfl, rfl⟩
 ·obtain rfl : r = false := HL.out hl
  have hd : ¬ ((s.length : Nat) : Int) ≤ 16 := by omega
  have hd2 : (16 : Int) < ((s.length : Nat) : Int) := by omega
  go_enter Tryz.func80, Tryz.ntmps80
  go_wp2_with fail
  go_ret
  exact ⟨rfl, rfl⟩

set_option maxRecDepth 100000 in
set_option maxHeartbeats 1000000 in
/-- Key -/
theorem zkey_any (s : Txt) (w : World) :
  Calls Tryz.prog 67 #[.string (bt s)] w fun e w' => e = .returned (.bool (keyB s)) ∧ w = w' := by
 have z1 := bt_size s
 have K := zprefix_any s w
 have hk : keyB s = (decide (0 < s.length) && prefixB s) := rfl
 have t1 := text_eq s []
 generalize prefixB s = r at *
 rw [hk]
 clear hk
 rw [show (bt []).toList = [] from toList_bt []] at t1
 by_cases h : 0 < s.length
 ·rw [decide_eq_true h, Bool.true_and]
  rw [decide_eq_false (by rintro rfl; simp at h)] at t1
  generalize bt s = S at *
  go_enter Tryz.func67, Tryz.ntmps67
  go_wp2_with fail
  refine K.mono ?_
  rintro e w' ⟨rfl, rfl⟩
  go_wp2_with fail
  go_ret
  exact ⟨rfl, rfl⟩
 ·rw [decide_eq_false h, Bool.false_and]
  rw [decide_eq_true (List.eq_nil_of_length_eq_zero (by omega))] at t1
  generalize bt s = S at *
  go_enter Tryz.func67, Tryz.ntmps67
  go_wp2_with fail
  go_ret
  exact ⟨rfl, rfl⟩
end Go.Proofs.YtmknpmamkjjiaaaGreat
namespace Go.Proofs.YtmknpmamkjjiaaaGreat
open Go.RowKit Plain
set_option linter.unusedVariables false

set_option maxRecDepth 100000 in
set_option maxHeartbeats 2000000 in
/-- beginsIn -/
theorem zbegins_any {v : Value} {zs : List Txt} {w : World} (hv : SeqT w v zs) (hr : Rising zs) (ha : Apart1 zs) (hn : zs.length ≤ 1000000) (s : Txt) :
  Calls Tryz.prog 89 #[v, .string (bt s)] w fun e w' => e = .returned (.bool (covers zs s)) ∧ ∃ q, w' = w.drewN q := by
 obtain ⟨k, hk, h1, h2, K⟩ := search_texts hv hr hn s
 rw [covers_near hr ha hk h1 h2]
 clear h1 h2 hr ha
 by_cases hf : k < zs.length ∧ zs.getD k [] = s
 ·rw [decide_eq_true hf] at K ⊢
  rw [Bool.true_or]
  clear hf
  obtain ⟨a, cap, rfl, -⟩ := hv.parts
  clear hv
  generalize bt s = S at *
  go_enter Tryz.func89, Tryz.ntmps89
  go_wp2_with fail
  refine K.mono ?_
  rintro e w' ⟨rfl, q, rfl⟩
  go_wp2_with fail
  go_ret
  exact ⟨rfl, _, rfl⟩
 ·rw [decide_eq_false hf] at K ⊢
  rw [Bool.false_or]
  clear hf
  by_cases h0 : 0 < k
  ·rw [decide_eq_true h0, Bool.true_and]
   obtain ⟨p, rfl⟩ : ∃ p, k = p + 1 := ⟨k - 1, by omega⟩
   rw [Nat.add_sub_cancel]
   obtain ⟨b, o, c, rfl, g1, g2, -, hc⟩ := hv.spot (by omega)
   have c1 := hc p (by omega)
   unfold tv at c1
   have KH := Lib.hid (fun W => hasPrefixL s (zs.getD p []) W)
   have hm : maxLen = 9223372036854775807 := rfl
   rw [hm] at g2
   clear hc hv h0 hm
   generalize beg s (zs.getD p []) = r at *
   generalize bt (zs.getD p []) = X at *
   generalize bt s = S at *
   go_enter Tryz.func89, Tryz.ntmps89
   go_wp2_with fail
   refine K.mono ?_
   rintro e w' ⟨rfl, q, hq⟩
   have HQ := Lib.hid hq
   have c2 : w'.cell? ⟨b, o + p, none⟩ = some (.string X) := by rw [hq]; exact c1
   clear hq c1
   have q1 : (0 : Int) < ((p + 1 : Nat) : Int) := by omega
   have q2 : (0 : Int) < (p : Int) + 1 := by omega
   go_wp2_with fail
   refine (KH.out _).mono ?_
   rintro e w2 ⟨rfl, rfl⟩
   go_wp2_with fail
   go_ret
   exact ⟨rfl, q, HQ.out⟩
  ·obtain rfl : k = 0 := by omega
   rw [decide_eq_false h0, Bool.false_and]
   obtain ⟨a, cap, rfl, -⟩ := hv.parts
   clear hv
   generalize bt s = S at *
   go_enter Tryz.func89, Tryz.ntmps89
   go_wp2_with fail
   refine K.mono ?_
   rintro e w' ⟨rfl, q, rfl⟩
   go_wp2_with fail
   go_ret
   exact ⟨rfl, _, rfl⟩

/-! ### the functions that are handed to the library -/
theorem enters38 : ∀ args w, (callFunc 88 args).run Tryz.prog w = .ok (.enter 88 args) w := enters_of Tryz.func88 (by kernel_rfl) rfl
set_option maxHeartbeats 1000000 in
theorem gives38 (x : Txt) {v : Value} {zs : List Txt} (B : Nat) (W : World) (hc : W.cell? ⟨B, 0, none⟩ = some v) (hv : SeqT W v zs) (hr : Rising zs) (ha : Apart1 zs) (hn : zs.length ≤ 1000000) : FnGives Tryz.prog 88 #[.pointer (some ⟨B, 0, none⟩)] #[tv x] (.bool (covers zs x)) W := by
 show Calls Tryz.prog 88 #[.string (bt x), .pointer (some ⟨B, 0, none⟩)] W _
 have K := zbegins_any hv hr ha hn x
 obtain ⟨a, cap, rfl, -⟩ := hv.parts
 clear hv hr ha hn
 generalize covers zs x = r at *
 generalize bt x = X at *
 go_enter Tryz.func88, Tryz.ntmps88
 go_wp2_with fail
 refine K.mono ?_
 rintro e w' ⟨rfl, q, rfl⟩
 go_wp2_with fail
 go_ret
 exact ⟨rfl, _, rfl⟩
end Go.Proofs.YtmknpmamkjjiaaaGreat
namespace Go.Proofs.YtmknpmamkjjiaaaGreat
open Go.RowKit Plain
set_option linter.unusedVariables false

/-- a slice of the call's own: nil, or at the head of a block -/
theorem owned_at {B : Nat} {w : World} {v : Value} {xs : List Txt} (h : OwnsT B w v xs) : (v = .slice none 0 0 ∧ xs = []) ∨ ∃ g c, v = .slice (some ⟨g, 0, none⟩) xs.length c ∧ xs.length ≤ c ∧ c ≤ maxLen ∧ B ≤ g ∧ g < w.heap.size := by
 have hb := h.lt
 rcases h.2 with ⟨rfl, hn⟩ | ⟨g, cap, cur, rfl, h1, hg, hnc, hcm, -, -⟩
 ·exact .inl ⟨rfl, List.eq_nil_of_length_eq_zero hn⟩
 ·exact .inr ⟨g, cap, rfl, hnc, hcm, h1, (hb g rfl).2⟩

/-- slices.Sort of texts of the call's own, then slices.Compact -/
theorem sort_texts {B : Nat} {v : Value} {xs : List Txt} {w0 w : World} (hv : OwnsT B w v xs) (hb : Below B w0 w) (hB : B ≤ w.heap.size) (hx : xs.length ≤ 1000000) :
  Calls Tryz.prog 73 #[v] w fun e w' => e = .returned (.tuple #[]) ∧ Below B w0 w' ∧ Calls Tryz.prog 74 #[v] w' fun e w'' => ∃ u, e = .returned u ∧ RowT B w'' u (once xs) ∧ Below B w0 w'' := by
 rcases owned_at hv with ⟨rfl, rfl⟩ | ⟨g, c, rfl, h1, h2, h3, h4⟩
 ·refine (Tryz.slices_Sort_string_none none 0 w).mono fun e w' ⟨he, hw⟩ => ?_
  subst hw
  refine ⟨he, hb, ?_⟩
  exact (Tryz.slices_Compact_string_empty none 0 w').mono fun e w'' ⟨he, hw⟩ => ⟨_, he, .inl ⟨rfl, rfl⟩, by rw [hw]; exact hb⟩
 ·have hH := holds_of_owns hv
  refine (Tryz.slices_Sort_string g 0 c xs w hH h4 (by omega)).mono fun e w' ⟨he, n, os, hw⟩ => ?_
  have hl : (xs.mergeSort fun x y => decide (x ≤ y)).length = xs.length := List.length_mergeSort _
  have hH2 : Sort.Holds encStr w' g 0 (xs.mergeSort fun x y => decide (x ≤ y)).toArray := by rw [hw]; exact holds_put hH (by simp [hl]) h4 n os
  have hb2 : Below B w0 w' := by rw [hw]; exact below_put hb hB h3 n os
  have hs2 : B ≤ w'.heap.size := by
   rw [hw, Sort.size_grow, Sort.size_putRow]
   show B ≤ w.heap.size + os.size
   omega
  have h4' : g < w'.heap.size := by
   rw [hw, Sort.size_grow, Sort.size_putRow]
   show g < w.heap.size + os.size
   omega
  have hm : maxLen = 9223372036854775807 := rfl
  refine ⟨he, hb2, ?_⟩
  have K := Tryz.slices_Compact_string g 0 c (xs.mergeSort fun x y => decide (x ≤ y)) w' hH2 (by omega) (by omega)
  rw [hl] at K
  refine K.mono fun e w'' ⟨he, q, hw2⟩ => ?_
  have hlc : (once xs).length ≤ xs.length := once_len xs
  rw [compact_sort] at he hw2
  have hH3 : Sort.Holds encStr w'' g 0 (once xs ++ List.replicate (xs.length - (once xs).length) []).toArray := by
   rw [hw2, ← Sort.grow_empty (Sort.putRow _ _ _ _ _)]
   exact holds_put hH2 (by simp [hl]; omega) h4' q #[]
  refine ⟨_, he, .inr ⟨g, 0, c, rfl, by omega, h2, h3, ?_, holds_first hH3⟩, ?_⟩
  ·rw [hw2, Sort.size_putRow]
   exact h4'
  rw [hw2, ← Sort.grow_empty (Sort.putRow _ _ _ _ _)]
  exact below_put hb2 hs2 h3 q #[]


set_option maxHeartbeats 1000000 in
/-- rising -/
theorem zrising_any {v : Value} {xs : List Txt} {w : World} (hv : SeqT w v xs) (hx : xs.length ≤ 1000000) : Calls Tryz.prog 87 #[v] w (RowsT w (once xs)) := by
 have K := clone_texts hv hx
 obtain ⟨a, cap, rfl, -⟩ := hv.parts
 obtain ⟨n, hN⟩ : ∃ n, xs.length = n := ⟨_, rfl⟩
 rw [hN]
 rw [hN] at K
 have LN := Lib.hid hN
 clear hv hN
 go_enter Tryz.func87, Tryz.ntmps87
 go_wp2_with fail
 refine K.mono ?_
 rintro e w1 ⟨v1, rfl, ho, hb⟩
 have KS := sort_texts ho hb hb.size hx
 obtain ⟨a1, c1, rfl, -, -, -⟩ := ho.at n LN.out
 clear ho hb K
 go_wp2_with fail
 refine KS.mono ?_
 rintro e w2 ⟨rfl, hb, K⟩
 go_wp2_with fail
 refine K.mono ?_
 rintro e w3 ⟨u, rfl, hr, hb3⟩
 have HR := Lib.hid hr
 have HB := Lib.hid hb3
 have hseq := hr.seq
 obtain ⟨a2, c2, rfl, -⟩ := hseq.parts
 clear hr hb3 hb hseq K KS
 go_wp2_with fail
 go_ret
 exact ⟨_, rfl, HR.out, HB.out⟩

set_option maxRecDepth 100000 in
set_option maxHeartbeats 4000000 in
/-- heads -/
theorem zheads_any {v : Value} {xs : List Txt} {w : World} (hv : SeqT w v xs) (hx : xs.length ≤ 1000000) : Calls Tryz.prog 85 #[v] w (MadeT w (least xs)) := by
 have K := zrising_any hv hx
 have HE := Lib.hid (heads_all xs)
 have hrr := rising_once xs
 have hlen : (once xs).length ≤ 1000000 := by have := once_len xs; omega
 rw [← HE.out]
 obtain ⟨a0, cap0, rfl, -⟩ := hv.parts
 generalize once xs = r at *
 clear HE hv
 have HRR := Lib.hid hrr
 obtain ⟨n, hN⟩ : ∃ n, r.length = n := ⟨_, rfl⟩
 rw [hN] at hlen ⊢
 have LN := Lib.hid hN
 clear hrr hN
 go_enter Tryz.func85, Tryz.ntmps85
 go_wp2_with fail
 refine K.mono ?_
 rintro e w1 ⟨v1, rfl, ho, hb⟩
 have hq := ho.seq
 obtain ⟨a1, c1, hv1, g1, g2, g0, hs⟩ := hq.parts
 rw [LN.out] at hv1 g1 hs
 subst hv1
 have HS := Lib.hid hs
 have HB1 := Lib.hid hb
 have hm : maxLen = 9223372036854775807 := rfl
 rw [hm] at g2
 clear ho hb hq hs g0 hm K
 go_wp2_with fail
 go_loopw [3, 5, 9] (fun z _ i wr => ∃ k : Nat, k ≤ n ∧ i = .int .i64 k ∧ OwnsT w1.heap.size wr z (headsTo r k) ∧ Below w1.heap.size w1 wr) (fun _ _ i _ => n - (intOf i).toNat)
 case atStart => exact ⟨0, Nat.zero_le _, rfl, OwnsT.nil _ _, Below.refl _ _⟩
 case round =>
  obtain ⟨k, hk, rfl, ho, hb⟩ := hrel
  have HB := Lib.hid hb
  have HSW := Lib.hid (HS.out.below hb)
  have hl := headsTo_len r k
  rw [LN.out] at hl
  obtain ⟨M, hM⟩ : ∃ M, (headsTo r k).length = M := ⟨_, rfl⟩
  obtain ⟨a2, c2, rfl, g3, g4, ho2⟩ := ho.at M hM
  have HO := Lib.hid ho2
  have HM := Lib.hid hM
  rw [hM] at hl
  clear ho ho2 hb hM
  by_cases hlt : k < n
  ·have HK : Hid (k < r.length) := Lib.hid (by rw [LN.out]; exact hlt)
   obtain ⟨b, o, c, hv, -, -, -, hc⟩ := HSW.out.spot (by rw [LN.out]; omega)
   rw [LN.out] at hv
   simp only [Value.slice.injEq] at hv
   obtain ⟨rfl, -, rfl⟩ := hv
   have cc := hc k HK.out
   unfold tv at cc
   clear hc
   have HA := Lib.hid (alone_next HRR.out HK.out)
   have HX := Lib.hid (headsTo_next HK.out)
   have S1 := Lib.hid (fun (W : World) => SeqT.one W (r.getD k []))
   unfold tv at S1
   rw [HM.out] at HA
   by_cases h0 : M = 0
   ·have HA1 : Hid (headsTo r (k + 1) = headsTo r k ++ [r.getD k []]) := Lib.hid (by rw [HX.out, if_pos (by rw [HA.out, h0]; rfl)])
    subst h0
    clear HA HX
    generalize r.getD k [] = x at *
    generalize bt x = X at *
    go_wp2_with (at_builtin; refine wpList_append_texts rfl (.tmp 27) (.tmp 29) rfl w1.heap.size rfl (HO.out.alloc _) rfl (S1.out _) (by rw [HM.out]; simp <;> omega) (by have := HB.out.size; simp; omega) ?_)
    intro v' w2 ho' hgr _
    have O2 := Lib.hid ho'
    have G2 : Hid (Below w1.heap.size w1 w2) := Lib.hid ((HB.out.alloc HB.out.size _).grown hgr (by have := HB.out.size; simp; omega) (fun j hj => (HO.out.lt j hj).1))
    clear ho' hgr
    rw [← HA1.out] at O2
    go_wp2_with fail
    go_roundw
    case rel => exact ⟨k + 1, by omega, by go_num, O2.out, G2.out⟩
    case measure => simp [intOf]; omega
   ·obtain ⟨p, rfl⟩ : ∃ p, M = p + 1 := ⟨M - 1, by omega⟩
    rw [Nat.add_sub_cancel] at HA
    obtain ⟨b2, p2, d2, hv2, -, -, -, hc2⟩ := HO.out.seq.spot (by rw [HM.out]; omega)
    rw [HM.out] at hv2
    simp only [Value.slice.injEq] at hv2
    obtain ⟨rfl, -, rfl⟩ := hv2
    have cl := hc2 p (by rw [HM.out]; omega)
    unfold tv at cl
    have KH := Lib.hid (fun W => hasPrefixL (r.getD k []) ((headsTo r k).getD p []) W)
    have q0 : (((p + 1 : Nat) : Int) == 0) = false := by simp; omega
    have q1 : ((p : Int) + 1 == 0) = false := by simp; omega
    clear hc2 h0
    cases hb : beg (r.getD k []) ((headsTo r k).getD p []) with
    | false =>
     have HA1 : Hid (headsTo r (k + 1) = headsTo r k ++ [r.getD k []]) := Lib.hid (by rw [HX.out, if_pos (by rw [HA.out, hb]; simp)])
     rw [hb] at KH
     clear HA HX hb
     generalize bt ((headsTo r k).getD p []) = Y at *
     generalize r.getD k [] = x at *
     generalize bt x = X at *
     go_wp2_with fail
     refine (KH.out _).mono ?_
     rintro e w' ⟨rfl, rfl⟩
     go_wp2_with (at_builtin; refine wpList_append_texts rfl (.tmp 27) (.tmp 29) rfl w1.heap.size rfl (HO.out.alloc _) rfl (S1.out _) (by rw [HM.out]; simp <;> omega) (by have := HB.out.size; simp; omega) ?_)
     intro v' w2 ho' hgr _
     have O2 := Lib.hid ho'
     have G2 : Hid (Below w1.heap.size w1 w2) := Lib.hid ((HB.out.alloc HB.out.size _).grown hgr (by have := HB.out.size; simp; omega) (fun j hj => (HO.out.lt j hj).1))
     clear ho' hgr
     rw [← HA1.out] at O2
     go_wp2_with fail
     go_roundw
     case rel => exact ⟨k + 1, by omega, by go_num, O2.out, G2.out⟩
     case measure => simp [intOf]; omega
    | true =>
     have HA1 : Hid (headsTo r (k + 1) = headsTo r k) := Lib.hid (by rw [HX.out, if_neg (by rw [HA.out, hb]; simp)])
     rw [hb] at KH
     clear HA HX hb
     have O2 : Hid (OwnsT w1.heap.size wr (.slice (some ⟨b2, p2, none⟩) (p + 1) c2) (headsTo r (k + 1))) := Lib.hid (by rw [HA1.out]; exact HO.out)
     generalize bt ((headsTo r k).getD p []) = Y at *
     generalize r.getD k [] = x at *
     generalize bt x = X at *
     go_wp2_with fail
     refine (KH.out _).mono ?_
     rintro e w' ⟨rfl, rfl⟩
     go_wp2_with fail
     go_roundw
     case rel => exact ⟨k + 1, by omega, by go_num, O2.out, HB.out⟩
     case measure => simp [intOf]; omega
  ·obtain rfl : k = n := by omega
   have O2 := Lib.hid (HO.out.mono HB1.out.size)
   have G2 := Lib.hid (HB1.out.trans (HB.out.mono HB1.out.size))
   go_wp2_with fail
   go_ret
   exact ⟨_, rfl, O2.out, G2.out⟩
end Go.Proofs.YtmknpmamkjjiaaaGreat
namespace Go.Proofs.YtmknpmamkjjiaaaGreat
open Go.RowKit Plain
set_option linter.unusedVariables false

/-- heads of ys in a variable of the call's own: what the functions that hold it read in every later world -/
structure Held (w wb : World) (k : Nat) (zv : Value) (ys : List Txt) : Prop where
 low : Below w.heap.size w wb
 lt : k < wb.heap.size
 cell : wb.cell? ⟨k, 0, none⟩ = some zv
 seq : SeqT wb zv (least ys)
theorem held_of {w w2 : World} {zv : Value} {ys : List Txt} (hb : Below w.heap.size w w2) (hs : SeqT w2 zv (least ys)) : Held w (w2.alloc (.cells #[zv] 66)) w2.heap.size zv ys :=
 ⟨hb.alloc hb.size _, by simp, by simp, hs.below_alloc _⟩
theorem Held.later {w wb W : World} {k : Nat} {zv : Value} {ys : List Txt} (h : Held w wb k zv ys) (hb : Below wb.heap.size wb W) : W.cell? ⟨k, 0, none⟩ = some zv ∧ SeqT W zv (least ys) :=
 ⟨(hb.cell (p := ⟨k, 0, none⟩) h.lt).trans h.cell, h.seq.below hb⟩
theorem held38 {w wb : World} {k : Nat} {zv : Value} {ys : List Txt} (h : Held w wb k zv ys) (hy : ys.length ≤ 1000000) (W : World) (x : Txt) (hb : Below wb.heap.size wb W) : FnGives Tryz.prog 88 #[.pointer (some ⟨k, 0, none⟩)] #[tv x] (.bool (covers ys x)) W := by
 have := gives38 x k W (h.later hb).1 (h.later hb).2 (rising_once _) (apart_least ys) (by have := least_len ys; omega)
 rwa [covers_least] at this
theorem filter_once (p : Txt → Bool) (xs : List Txt) : (once xs).filter p = once (xs.filter p) := rising_ext ((rising_once xs).filter p) (rising_once _) fun t => by rw [List.mem_filter, mem_once, mem_once, List.mem_filter]

set_option maxRecDepth 100000 in
set_option maxHeartbeats 1000000 in
/-- Without -/
theorem zwithout_any {u v : Value} {xs ys : List Txt} {w : World} (hu : SeqT w u xs) (hv : SeqT w v ys) (hx : xs.length ≤ 1000000) (hy : ys.length ≤ 1000000) :
  Calls Tryz.prog 75 #[u, v] w (GivesT w (without xs ys)) := by
 have K1 := zheads_any hv hy
 have KC := Lib.hid (fun (w2 : World) (zv : Value) (hb : Below w.heap.size w w2) (hs : SeqT w2 zv (least ys)) => zrising_any (hu.below (held_of hb hs).low) hx)
 have HW : Hid ((once xs).filter (fun s => !covers ys s) = without xs ys) := Lib.hid (filter_once _ _)
 have hol := once_len xs
 obtain ⟨a, cap, rfl, -⟩ := hu.parts
 obtain ⟨a', cap', rfl, -⟩ := hv.parts
 generalize without xs ys = r at *
 clear hu hv
 go_enter Tryz.func75, Tryz.ntmps75
 go_wp2_with fail
 refine K1.mono ?_
 rintro e w2 ⟨v2, rfl, ho, hb⟩
 have K2 := KC.out w2 v2 hb ho.seq
 have HH := Lib.hid (held_of hb ho.seq)
 obtain ⟨a2, c2, rfl, -, -, -⟩ := ho.at _ rfl
 generalize (least ys).length = m at *
 clear ho hb K1 KC
 go_wp2_with fail
 refine K2.mono ?_
 rintro e w3 ⟨v3, rfl, hr, hb3⟩
 have K3 := delete_texts hr hb3 hb3.size (by omega) (fun s => covers ys s) 88 #[.pointer (some ⟨w2.heap.size, 0, none⟩)] enters38 (fun W x hW => held38 HH.out hy W x hW)
 rw [HW.out] at K3
 obtain ⟨a3, c3, rfl, -⟩ := hr.seq.parts
 generalize (once xs).length = m3 at *
 clear hr hb3 K2
 go_wp2_with fail
 refine K3.mono ?_
 rintro e w4 ⟨v4, rfl, hr, hb4⟩
 have G : Hid (Below w.heap.size w w4) := Lib.hid (HH.out.low.trans (hb4.mono HH.out.low.size))
 have O := Lib.hid hr.seq
 obtain ⟨a4, c4, rfl, -⟩ := hr.seq.parts
 generalize r.length = m4 at *
 clear hr hb4 K3
 go_wp2_with fail
 go_ret
 exact ⟨_, rfl, O.out, G.out⟩

end Go.Proofs.YtmknpmamkjjiaaaGreat
