/- What the document's own Lay leaves, up and down. -/
import Derived.Test.YtogmafopgglelaaRefV
namespace Go.Proofs.Ytogmafopgglelaa
open Go.RowKit Plain
set_option linter.unusedVariables false

set_option maxRecDepth 100000 in
set_option maxHeartbeats 8000000 in
/-- Lay, true -/
theorem rlay_true {u v : Value} {xs ys : Ints} {w : World} (hs : SeqI w u xs) (ht : SeqI w v ys) (hl : xs.length ≤ 1000000) (hm : ys.length ≤ 1000000) :
    Calls Try.prog 18 #[u, v, .bool true] w (MadeI w (laid (fun i => max (says xs i) (says ys i)) (max xs.length ys.length))) := by
  obtain ⟨a, cap, rfl, g1, g2, g0, h⟩ := hs.parts
  obtain ⟨a', cap', rfl, g1', g2', g0', h'⟩ := ht.parts
  have HS := Lib.hid h
  have HT := Lib.hid h'
  have HTR := Lib.hid (trim_of_range (fun i => max (says xs i) (says ys i)) (fun i => join_pos xs ys i) (max xs.length ys.length))
  rw [← HTR.out]
  clear HTR hs h g0 ht h' g0' g2 g2'
  obtain ⟨c, hc⟩ : ∃ c : Nat → Int, c = fun i => max (says xs i) (says ys i) := ⟨_, rfl⟩
  rw [← hc]
  have HC := Lib.hid hc
  obtain ⟨N, hN⟩ : ∃ N : Nat, N = max xs.length ys.length := ⟨_, rfl⟩
  rw [← hN]
  have n1 : xs.length ≤ N := by omega
  have n2 : ys.length ≤ N := by omega
  have n3 : N ≤ 1000000 := by omega
  have HN := Lib.hid hN
  clear hc hN hl hm
  generalize hA : xs.length = la at *
  generalize hB : ys.length = lb at *
  clear hA hB
  go_enter Try.func18, Try.ntmps18
  go_wp2_with fail
  go_loopw [7, 8] (fun o i wr => ∃ k : Nat, k ≤ N ∧ i = .int .i64 k ∧ OwnsI w.heap.size wr o ((List.range k).map c) ∧ Below w.heap.size w wr) (fun _ i _ => N - (intOf i).toNat)
  case atStart => exact ⟨0, Nat.zero_le _, rfl, OwnsI.nil _ _, Below.refl _ _⟩
  case round =>
    obtain ⟨k, hk, rfl, ho, hb⟩ := hrel
    have HO := Lib.hid ho
    have HB := Lib.hid hb
    have HL := Lib.hid (show ((List.range k).map c).length = k by simp)
    clear ho hb
    by_cases hlt : k < N
    · have K1 := rat_any (HS.out.below HB.out) (k : Int)
      have K2 := rat_any (HT.out.below HB.out) (k : Int)
      rw [saysI_nat] at K1 K2
      have RP := Lib.hid (range_push c k)
      have CK : Hid (c k = max (says xs k) (says ys k)) := Lib.hid (by rw [HC.out])
      generalize says xs k = x at *
      generalize says ys k = y at *
      generalize c k = z at *
      by_cases h1 : k < la <;> by_cases h2 : k < lb
      all_goals first | (exfalso; have := HN.out; omega) | skip
      all_goals (by_cases hxy : x < y)
      all_goals first
        | (have hz : z = x := (by rw [CK.out]; omega); have hd : decide (x < y) = false := (by simp; omega))
        | (have hz : z = y := (by rw [CK.out]; omega); have hd : decide (x < y) = true := (by simp; omega))
      all_goals
        clear CK
        subst hz
        go_wp2_with fail
        refine K1.mono ?_
        rintro e w' ⟨rfl, rfl⟩
        go_wp2_with fail
        refine K2.mono ?_
        rintro e w' ⟨rfl, rfl⟩
        clear K1 K2
        go_wp2_with (at_builtin; refine wpList_append_ints rfl (.tmp 35) (.tmp 37) rfl w.heap.size rfl (HO.out.alloc _) rfl (SeqI.one _ _) (by rw [HL.out]; simp; omega) (by have := HB.out.size; simp; omega) ?_)
        intro v' w1 ho' hg _
        have O2 := Lib.hid ho'
        have G2 : Hid (Below w.heap.size w w1) := Lib.hid ((HB.out.alloc HB.out.size _).grown hg (by have := HB.out.size; simp; omega) (fun j hj => (HO.out.lt j hj).1))
        clear ho' hg
        rw [RP.out] at O2
        go_wp2_with fail
        go_roundw
        case rel => exact ⟨k + 1, by omega, by go_num, O2.out, G2.out⟩
        case measure => simp [intOf]; omega
    · obtain rfl : k = N := by omega
      have K3 := rtrim_any HO.out.seq (by rw [HL.out]; exact n3)
      have q1 : ¬ k < la := by omega
      have q2 : ¬ k < lb := by omega
      go_wp2_with fail
      refine K3.mono ?_
      rintro e w2 ⟨v2, rfl, ho, hb⟩
      have O2 := Lib.hid (ho.mono HB.out.size)
      have G2 := Lib.hid (HB.out.trans (hb.mono HB.out.size))
      clear ho hb
      go_wp2_with fail
      go_ret
      exact ⟨_, rfl, O2.out, G2.out⟩

set_option maxRecDepth 100000 in
set_option maxHeartbeats 8000000 in
/-- Lay, false -/
theorem rlay_false {u v : Value} {xs ys : Ints} {w : World} (hs : SeqI w u xs) (ht : SeqI w v ys) (hl : xs.length ≤ 1000000) (hm : ys.length ≤ 1000000) :
    Calls Try.prog 18 #[u, v, .bool false] w (MadeI w (laid (fun i => min (says xs i) (says ys i)) (max xs.length ys.length))) := by
  obtain ⟨a, cap, rfl, g1, g2, g0, h⟩ := hs.parts
  obtain ⟨a', cap', rfl, g1', g2', g0', h'⟩ := ht.parts
  have HS := Lib.hid h
  have HT := Lib.hid h'
  have HTR := Lib.hid (trim_of_range (fun i => min (says xs i) (says ys i)) (fun i => meet_pos xs ys i) (max xs.length ys.length))
  rw [← HTR.out]
  clear HTR hs h g0 ht h' g0' g2 g2'
  obtain ⟨c, hc⟩ : ∃ c : Nat → Int, c = fun i => min (says xs i) (says ys i) := ⟨_, rfl⟩
  rw [← hc]
  have HC := Lib.hid hc
  obtain ⟨N, hN⟩ : ∃ N : Nat, N = max xs.length ys.length := ⟨_, rfl⟩
  rw [← hN]
  have n1 : xs.length ≤ N := by omega
  have n2 : ys.length ≤ N := by omega
  have n3 : N ≤ 1000000 := by omega
  have HN := Lib.hid hN
  clear hc hN hl hm
  generalize hA : xs.length = la at *
  generalize hB : ys.length = lb at *
  clear hA hB
  go_enter Try.func18, Try.ntmps18
  go_wp2_with fail
  go_loopw [7, 8] (fun o i wr => ∃ k : Nat, k ≤ N ∧ i = .int .i64 k ∧ OwnsI w.heap.size wr o ((List.range k).map c) ∧ Below w.heap.size w wr) (fun _ i _ => N - (intOf i).toNat)
  case atStart => exact ⟨0, Nat.zero_le _, rfl, OwnsI.nil _ _, Below.refl _ _⟩
  case round =>
    obtain ⟨k, hk, rfl, ho, hb⟩ := hrel
    have HO := Lib.hid ho
    have HB := Lib.hid hb
    have HL := Lib.hid (show ((List.range k).map c).length = k by simp)
    clear ho hb
    by_cases hlt : k < N
    · have K1 := rat_any (HS.out.below HB.out) (k : Int)
      have K2 := rat_any (HT.out.below HB.out) (k : Int)
      rw [saysI_nat] at K1 K2
      have RP := Lib.hid (range_push c k)
      have CK : Hid (c k = min (says xs k) (says ys k)) := Lib.hid (by rw [HC.out])
      generalize says xs k = x at *
      generalize says ys k = y at *
      generalize c k = z at *
      by_cases h1 : k < la <;> by_cases h2 : k < lb
      all_goals first | (exfalso; have := HN.out; omega) | skip
      all_goals (by_cases hxy : x < y)
      all_goals first
        | (have hz : z = x := (by rw [CK.out]; omega); have hd : decide (x < y) = true := (by simp; omega))
        | (have hz : z = y := (by rw [CK.out]; omega); have hd : decide (x < y) = false := (by simp; omega))
      all_goals
        clear CK
        subst hz
        go_wp2_with fail
        refine K1.mono ?_
        rintro e w' ⟨rfl, rfl⟩
        go_wp2_with fail
        refine K2.mono ?_
        rintro e w' ⟨rfl, rfl⟩
        clear K1 K2
        go_wp2_with (at_builtin; refine wpList_append_ints rfl (.tmp 35) (.tmp 37) rfl w.heap.size rfl (HO.out.alloc _) rfl (SeqI.one _ _) (by rw [HL.out]; simp; omega) (by have := HB.out.size; simp; omega) ?_)
        intro v' w1 ho' hg _
        have O2 := Lib.hid ho'
        have G2 : Hid (Below w.heap.size w w1) := Lib.hid ((HB.out.alloc HB.out.size _).grown hg (by have := HB.out.size; simp; omega) (fun j hj => (HO.out.lt j hj).1))
        clear ho' hg
        rw [RP.out] at O2
        go_wp2_with fail
        go_roundw
        case rel => exact ⟨k + 1, by omega, by go_num, O2.out, G2.out⟩
        case measure => simp [intOf]; omega
    · obtain rfl : k = N := by omega
      have K3 := rtrim_any HO.out.seq (by rw [HL.out]; exact n3)
      have q1 : ¬ k < la := by omega
      have q2 : ¬ k < lb := by omega
      go_wp2_with fail
      refine K3.mono ?_
      rintro e w2 ⟨v2, rfl, ho, hb⟩
      have O2 := Lib.hid (ho.mono HB.out.size)
      have G2 := Lib.hid (HB.out.trans (hb.mono HB.out.size))
      clear ho hb
      go_wp2_with fail
      go_ret
      exact ⟨_, rfl, O2.out, G2.out⟩

end Go.Proofs.Ytogmafopgglelaa
