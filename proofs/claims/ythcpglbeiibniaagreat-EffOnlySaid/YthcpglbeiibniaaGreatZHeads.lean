/- What slices.Sort and slices.Compact, and the program's own rising and heads of texts leave. -/
import Derived.Test.YthcpglbeiibniaaGreatZBeg
namespace Go.Proofs.YthcpglbeiibniaaGreat
open Go.RowKit Plain
set_option linter.unusedVariables false

/-- a slice of the call's own: nil, or at the head of a block -/
theorem owned_at {B : Nat} {w : World} {v : Value} {xs : List Txt} (h : OwnsT B w v xs) : (v = .slice none 0 0 ∧ xs = []) ∨ ∃ g c, v = .slice (some ⟨g, 0, none⟩) xs.length c ∧ xs.length ≤ c ∧ c ≤ maxLen ∧ B ≤ g ∧ g < w.heap.size := by
  have hb := h.lt
  rcases h.2 with ⟨rfl, hn⟩ | ⟨g, cap, cur, rfl, h1, hg, hnc, hcm, -, -⟩
  · exact .inl ⟨rfl, List.eq_nil_of_length_eq_zero hn⟩
  · exact .inr ⟨g, cap, rfl, hnc, hcm, h1, (hb g rfl).2⟩

/-- slices.Sort of texts of the call's own, then slices.Compact -/
theorem sort_texts {B : Nat} {v : Value} {xs : List Txt} {w0 w : World} (hv : OwnsT B w v xs) (hb : Below B w0 w) (hB : B ≤ w.heap.size) (hx : xs.length ≤ 1000000) :
    Calls Tryz.prog 41 #[v] w fun e w' => e = .returned (.tuple #[]) ∧ Below B w0 w' ∧ Calls Tryz.prog 42 #[v] w' fun e w'' => ∃ u, e = .returned u ∧ RowT B w'' u (once xs) ∧ Below B w0 w'' := by
  rcases owned_at hv with ⟨rfl, rfl⟩ | ⟨g, c, rfl, h1, h2, h3, h4⟩
  · refine (Tryz.slices_Sort_string_none none 0 w).mono fun e w' ⟨he, hw⟩ => ?_
    subst hw
    refine ⟨he, hb, ?_⟩
    exact (Tryz.slices_Compact_string_empty none 0 w').mono fun e w'' ⟨he, hw⟩ => ⟨_, he, .inl ⟨rfl, rfl⟩, by rw [hw]; exact hb⟩
  · have hH := holds_of_owns hv
    refine (Tryz.slices_Sort_string g 0 c xs w hH h4 (by omega)).mono fun e w' ⟨he, n, os, hw⟩ => ?_
    have hl : (xs.mergeSort fun x y => decide (x ≤ y)).length = xs.length := List.length_mergeSort _
    have hH2 : Sort.Holds encStr w' g 0 (xs.mergeSort fun x y => decide (x ≤ y)).toArray := by rw [hw]; exact holds_put hH (by simp [hl]) h4 n os
    have hb2 : Below B w0 w' := by rw [hw]; exact below_put hb hB h3 n os
    have hs2 : B ≤ w'.heap.size := by
      rw [hw, Sort.size_grow, Sort.size_putRow]
      show B ≤ w.heap.size + os.size
      omega
    have h4' : g < w'.heap.size := by
      rw [hw, Sort.size_grow, Sort.size_putRow]
      show g < w.heap.size + os.size
      omega
    have hm : maxLen = 9223372036854775807 := rfl
    refine ⟨he, hb2, ?_⟩
    have K := Tryz.slices_Compact_string g 0 c (xs.mergeSort fun x y => decide (x ≤ y)) w' hH2 (by omega) (by omega)
    rw [hl] at K
    refine K.mono fun e w'' ⟨he, q, hw2⟩ => ?_
    have hlc : (once xs).length ≤ xs.length := once_len xs
    rw [compact_sort] at he hw2
    have hH3 : Sort.Holds encStr w'' g 0 (once xs ++ List.replicate (xs.length - (once xs).length) []).toArray := by
      rw [hw2, ← Sort.grow_empty (Sort.putRow _ _ _ _ _)]
      exact holds_put hH2 (by simp [hl]; omega) h4' q #[]
    refine ⟨_, he, .inr ⟨g, 0, c, rfl, by omega, h2, h3, ?_, holds_first hH3⟩, ?_⟩
    · rw [hw2, Sort.size_putRow]
      exact h4'
    rw [hw2, ← Sort.grow_empty (Sort.putRow _ _ _ _ _)]
    exact below_put hb2 hs2 h3 q #[]


set_option maxHeartbeats 1000000 in
/-- rising -/
theorem zrising_any {v : Value} {xs : List Txt} {w : World} (hv : SeqT w v xs) (hx : xs.length ≤ 1000000) : Calls Tryz.prog 63 #[v] w (RowsT w (once xs)) := by
  have K := clone_texts hv hx
  obtain ⟨a, cap, rfl, -⟩ := hv.parts
  obtain ⟨n, hN⟩ : ∃ n, xs.length = n := ⟨_, rfl⟩
  rw [hN]
  rw [hN] at K
  have LN := Lib.hid hN
  clear hv hN
  go_enter Tryz.func63, Tryz.ntmps63
  go_wp2_with fail
  refine K.mono ?_
  rintro e w1 ⟨v1, rfl, ho, hb⟩
  have KS := sort_texts ho hb hb.size hx
  obtain ⟨a1, c1, rfl, -, -, -⟩ := ho.at n LN.out
  clear ho hb K
  go_wp2_with fail
  refine KS.mono ?_
  rintro e w2 ⟨rfl, hb, K⟩
  go_wp2_with fail
  refine K.mono ?_
  rintro e w3 ⟨u, rfl, hr, hb3⟩
  have HR := Lib.hid hr
  have HB := Lib.hid hb3
  have hseq := hr.seq
  obtain ⟨a2, c2, rfl, -⟩ := hseq.parts
  clear hr hb3 hb hseq K KS
  go_wp2_with fail
  go_ret
  exact ⟨_, rfl, HR.out, HB.out⟩

set_option maxRecDepth 100000 in
set_option maxHeartbeats 4000000 in
/-- heads -/
theorem zheads_any {v : Value} {xs : List Txt} {w : World} (hv : SeqT w v xs) (hx : xs.length ≤ 1000000) : Calls Tryz.prog 61 #[v] w (MadeT w (least xs)) := by
  have K := zrising_any hv hx
  have HE := Lib.hid (heads_all xs)
  have hrr := rising_once xs
  have hlen : (once xs).length ≤ 1000000 := by have := once_len xs; omega
  rw [← HE.out]
  obtain ⟨a0, cap0, rfl, -⟩ := hv.parts
  generalize once xs = r at *
  clear HE hv
  have HRR := Lib.hid hrr
  obtain ⟨n, hN⟩ : ∃ n, r.length = n := ⟨_, rfl⟩
  rw [hN] at hlen ⊢
  have LN := Lib.hid hN
  clear hrr hN
  go_enter Tryz.func61, Tryz.ntmps61
  go_wp2_with fail
  refine K.mono ?_
  rintro e w1 ⟨v1, rfl, ho, hb⟩
  have hq := ho.seq
  obtain ⟨a1, c1, hv1, g1, g2, g0, hs⟩ := hq.parts
  rw [LN.out] at hv1 g1 hs
  subst hv1
  have HS := Lib.hid hs
  have HB1 := Lib.hid hb
  have hm : maxLen = 9223372036854775807 := rfl
  rw [hm] at g2
  clear ho hb hq hs g0 hm K
  go_wp2_with fail
  go_loopw [3, 5, 9] (fun z _ i wr => ∃ k : Nat, k ≤ n ∧ i = .int .i64 k ∧ OwnsT w1.heap.size wr z (headsTo r k) ∧ Below w1.heap.size w1 wr) (fun _ _ i _ => n - (intOf i).toNat)
  case atStart => exact ⟨0, Nat.zero_le _, rfl, OwnsT.nil _ _, Below.refl _ _⟩
  case round =>
    obtain ⟨k, hk, rfl, ho, hb⟩ := hrel
    have HB := Lib.hid hb
    have HSW := Lib.hid (HS.out.below hb)
    have hl := headsTo_len r k
    rw [LN.out] at hl
    obtain ⟨M, hM⟩ : ∃ M, (headsTo r k).length = M := ⟨_, rfl⟩
    obtain ⟨a2, c2, rfl, g3, g4, ho2⟩ := ho.at M hM
    have HO := Lib.hid ho2
    have HM := Lib.hid hM
    rw [hM] at hl
    clear ho ho2 hb hM
    by_cases hlt : k < n
    · have HK : Hid (k < r.length) := Lib.hid (by rw [LN.out]; exact hlt)
      obtain ⟨b, o, c, hv, -, -, -, hc⟩ := HSW.out.spot (by rw [LN.out]; omega)
      rw [LN.out] at hv
      simp only [Value.slice.injEq] at hv
      obtain ⟨rfl, -, rfl⟩ := hv
      have cc := hc k HK.out
      unfold tv at cc
      clear hc
      have HA := Lib.hid (alone_next HRR.out HK.out)
      have HX := Lib.hid (headsTo_next HK.out)
      have S1 := Lib.hid (fun (W : World) => SeqT.one W (r.getD k []))
      unfold tv at S1
      rw [HM.out] at HA
      by_cases h0 : M = 0
      · have HA1 : Hid (headsTo r (k + 1) = headsTo r k ++ [r.getD k []]) := Lib.hid (by rw [HX.out, if_pos (by rw [HA.out, h0]; rfl)])
        subst h0
        clear HA HX
        generalize r.getD k [] = x at *
        generalize bt x = X at *
        go_wp2_with (at_builtin; refine wpList_append_texts rfl (.tmp 27) (.tmp 29) rfl w1.heap.size rfl (HO.out.alloc _) rfl (S1.out _) (by rw [HM.out]; simp <;> omega) (by have := HB.out.size; simp; omega) ?_)
        intro v' w2 ho' hgr _
        have O2 := Lib.hid ho'
        have G2 : Hid (Below w1.heap.size w1 w2) := Lib.hid ((HB.out.alloc HB.out.size _).grown hgr (by have := HB.out.size; simp; omega) (fun j hj => (HO.out.lt j hj).1))
        clear ho' hgr
        rw [← HA1.out] at O2
        go_wp2_with fail
        go_roundw
        case rel => exact ⟨k + 1, by omega, by go_num, O2.out, G2.out⟩
        case measure => simp [intOf]; omega
      · obtain ⟨p, rfl⟩ : ∃ p, M = p + 1 := ⟨M - 1, by omega⟩
        rw [Nat.add_sub_cancel] at HA
        obtain ⟨b2, p2, d2, hv2, -, -, -, hc2⟩ := HO.out.seq.spot (by rw [HM.out]; omega)
        rw [HM.out] at hv2
        simp only [Value.slice.injEq] at hv2
        obtain ⟨rfl, -, rfl⟩ := hv2
        have cl := hc2 p (by rw [HM.out]; omega)
        unfold tv at cl
        have KH := Lib.hid (fun W => hasPrefixL (r.getD k []) ((headsTo r k).getD p []) W)
        have q0 : (((p + 1 : Nat) : Int) == 0) = false := by simp; omega
        have q1 : ((p : Int) + 1 == 0) = false := by simp; omega
        clear hc2 h0
        cases hb : beg (r.getD k []) ((headsTo r k).getD p []) with
        | false =>
          have HA1 : Hid (headsTo r (k + 1) = headsTo r k ++ [r.getD k []]) := Lib.hid (by rw [HX.out, if_pos (by rw [HA.out, hb]; simp)])
          rw [hb] at KH
          clear HA HX hb
          generalize bt ((headsTo r k).getD p []) = Y at *
          generalize r.getD k [] = x at *
          generalize bt x = X at *
          go_wp2_with fail
          refine (KH.out _).mono ?_
          rintro e w' ⟨rfl, rfl⟩
          go_wp2_with (at_builtin; refine wpList_append_texts rfl (.tmp 27) (.tmp 29) rfl w1.heap.size rfl (HO.out.alloc _) rfl (S1.out _) (by rw [HM.out]; simp <;> omega) (by have := HB.out.size; simp; omega) ?_)
          intro v' w2 ho' hgr _
          have O2 := Lib.hid ho'
          have G2 : Hid (Below w1.heap.size w1 w2) := Lib.hid ((HB.out.alloc HB.out.size _).grown hgr (by have := HB.out.size; simp; omega) (fun j hj => (HO.out.lt j hj).1))
          clear ho' hgr
          rw [← HA1.out] at O2
          go_wp2_with fail
          go_roundw
          case rel => exact ⟨k + 1, by omega, by go_num, O2.out, G2.out⟩
          case measure => simp [intOf]; omega
        | true =>
          have HA1 : Hid (headsTo r (k + 1) = headsTo r k) := Lib.hid (by rw [HX.out, if_neg (by rw [HA.out, hb]; simp)])
          rw [hb] at KH
          clear HA HX hb
          have O2 : Hid (OwnsT w1.heap.size wr (.slice (some ⟨b2, p2, none⟩) (p + 1) c2) (headsTo r (k + 1))) := Lib.hid (by rw [HA1.out]; exact HO.out)
          generalize bt ((headsTo r k).getD p []) = Y at *
          generalize r.getD k [] = x at *
          generalize bt x = X at *
          go_wp2_with fail
          refine (KH.out _).mono ?_
          rintro e w' ⟨rfl, rfl⟩
          go_wp2_with fail
          go_roundw
          case rel => exact ⟨k + 1, by omega, by go_num, O2.out, HB.out⟩
          case measure => simp [intOf]; omega
    · obtain rfl : k = n := by omega
      have O2 := Lib.hid (HO.out.mono HB1.out.size)
      have G2 := Lib.hid (HB1.out.trans (HB.out.mono HB1.out.size))
      go_wp2_with fail
      go_ret
      exact ⟨_, rfl, O2.out, G2.out⟩
end Go.Proofs.YthcpglbeiibniaaGreat
