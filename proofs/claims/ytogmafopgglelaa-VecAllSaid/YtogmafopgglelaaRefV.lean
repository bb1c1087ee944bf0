/- What the document's own functions of vectors leave: At, Trim, Lay, With, Same, Within, Equal, Copy. -/
import Derived.Test.YtogmafopgglelaaVWords
import Derived.BigQuiet
import Derived.Deep.Cut
namespace Go.Proofs.Ytogmafopgglelaa
open Go.RowKit Plain
set_option linter.unusedVariables false

set_option maxRecDepth 100000 in
set_option maxHeartbeats 2000000 in
/-- At -/
theorem rat_any {v : Value} {xs : Ints} {w : World} (hs : SeqI w v xs) (n : Int) :
    Calls Try.prog 14 #[v, .int .i64 n] w fun e w' => e = .returned (.int .i64 (saysI xs n)) ∧ w = w' := by
  obtain ⟨a, cap, rfl, g1, g2, g0, h⟩ := hs.parts
  have hq : ∀ k : Nat, k < xs.length → (k : Int) = n → 0 < xs.getD k 0 → saysI xs n = xs.getD k 0 := by
    intro k _ e hp; subst e; rw [saysI_nat]; unfold says; omega
  have hz : (∀ k : Nat, k < xs.length → (k : Int) = n → ¬ 0 < xs.getD k 0) → saysI xs n = 0 := by
    intro hall
    unfold saysI
    split
    · obtain ⟨k, rfl⟩ : ∃ k : Nat, n = (k : Int) := ⟨n.toNat, by omega⟩
      show says xs k = 0
      by_cases hk : k < xs.length
      · have := hall k hk rfl; unfold says; omega
      · exact says_end xs k (by omega)
    · rfl
  have hm : maxLen = 9223372036854775807 := rfl
  rw [hm] at g2
  have HQ := Lib.hid hq
  have HZ := Lib.hid hz
  have HS := Lib.hid h
  clear hs h g0 hq hz hm
  generalize saysI xs n = r at *
  go_enter Try.func14, Try.ntmps14
  go_wp2_with fail
  go_loop [5] (fun i => ∃ k : Nat, k ≤ xs.length ∧ i = .int .i64 k ∧ (∀ j : Nat, j < k → (j : Int) = n → ¬ 0 < xs.getD j 0)) (fun i => xs.length - (intOf i).toNat)
  case atStart => exact ⟨0, Nat.zero_le _, rfl, fun j hj => absurd hj (by omega)⟩
  case round =>
    obtain ⟨k, hk, rfl, hall⟩ := hrel
    have HA := Lib.hid hall
    clear hall
    by_cases hlt : k < xs.length
    · obtain ⟨b, o, c, hv, -, -, -, hc⟩ := HS.out.spot (by omega)
      simp only [Value.slice.injEq] at hv
      obtain ⟨rfl, -, rfl⟩ := hv
      have c1 := hc k hlt
      clear hc
      by_cases he : (k : Int) = n
      · subst he
        have hb2 : ((k : Int) == (k : Int)) = true := by simp
        by_cases hp : 0 < xs.getD k 0
        · have hr := HQ.out k hlt rfl hp
          generalize xs.getD k 0 = x at *
          subst hr
          go_wp2_with fail
          go_ret
          exact ⟨rfl, rfl⟩
        · have HA2 : Hid (∀ j : Nat, j < k + 1 → (j : Int) = (k : Int) → ¬ 0 < xs.getD j 0) := Lib.hid (fun j hj e => by
            by_cases h : j < k
            · exact HA.out j h e
            · obtain rfl : j = k := by omega
              exact hp)
          generalize xs.getD k 0 = x at c1 hp
          go_wp2_with fail
          go_round
          case rel => exact ⟨k + 1, by omega, by go_num, HA2.out⟩
          case measure => simp [intOf]; omega
      · have hb1 : decide ((k : Int) = n) = false := decide_eq_false he
        have hb2 : ((k : Int) == n) = false := by simpa using he
        have HA2 : Hid (∀ j : Nat, j < k + 1 → (j : Int) = n → ¬ 0 < xs.getD j 0) := Lib.hid (fun j hj e => by
            by_cases h : j < k
            · exact HA.out j h e
            · obtain rfl : j = k := by omega
              exact absurd e he)
        go_wp2_with fail
        go_round
        case rel => exact ⟨k + 1, by omega, by go_num, HA2.out⟩
        case measure => simp [intOf]; omega
    · obtain rfl : k = xs.length := by omega
      have hr := HZ.out fun j h e => by have := HA.out j h e; omega
      subst hr
      go_wp2_with fail
      go_ret
      exact ⟨rfl, rfl⟩

theorem trim_step_pos {xs : Ints} {k : Nat} (h : 0 < xs.getD k 0) : (laid (says xs) (k + 1)).length = k + 1 := laid_some_len _ _ (by unfold says; omega)
theorem trim_step_neg {xs : Ints} {k : Nat} (h : ¬ 0 < xs.getD k 0) : (laid (says xs) (k + 1)).length = (laid (says xs) k).length := by rw [laid_zero _ _ (by unfold says; omega)]
/-- what c says of the first k, one more -/
theorem range_push (c : Nat → Int) (k : Nat) : (List.range k).map c ++ [c k] = (List.range (k + 1)).map c := by rw [List.range_succ, List.map_append]; rfl

set_option maxRecDepth 100000 in
set_option maxHeartbeats 4000000 in
/-- Trim -/
theorem rtrim_any {v : Value} {xs : Ints} {w : World} (hs : SeqI w v xs) (hl : xs.length ≤ 1000000) :
    Calls Try.prog 16 #[v] w (MadeI w (trim xs)) := by
  obtain ⟨a, cap, rfl, g1, g2, g0, h⟩ := hs.parts
  have hm : maxLen = 9223372036854775807 := rfl
  rw [hm] at g2
  have HS := Lib.hid h
  have HT := Lib.hid (show trim xs = (List.range (laid (says xs) xs.length).length).map (says xs) from laid_range _ _)
  clear hs h g0 hm
  rw [HT.out]
  go_enter Try.func16, Try.ntmps16
  go_wp2_with fail
  go_loop [3, 4] (fun l i => ∃ k : Nat, k ≤ xs.length ∧ i = .int .i64 k ∧ l = .int .i64 ((laid (says xs) k).length - 1)) (fun _ i => xs.length - (intOf i).toNat)
  case atStart => exact ⟨0, Nat.zero_le _, rfl, rfl⟩
  case round =>
    obtain ⟨k, hk, rfl, rfl⟩ := hrel
    by_cases hlt : k < xs.length
    · obtain ⟨b, o, c, hv, -, -, -, hc⟩ := HS.out.spot (by omega)
      simp only [Value.slice.injEq] at hv
      obtain ⟨rfl, -, rfl⟩ := hv
      have c1 := hc k hlt
      clear hc
      by_cases hp : 0 < xs.getD k 0
      · have e := Lib.hid (trim_step_pos hp)
        generalize (laid (says xs) k).length = q at *
        generalize xs.getD k 0 = x at *
        go_wp2_with fail
        go_round
        case rel => exact ⟨k + 1, by omega, by go_num, by rw [e.out]; go_num⟩
        case measure => simp [intOf]; omega
      · have e := Lib.hid (trim_step_neg hp)
        generalize xs.getD k 0 = x at *
        generalize hq : (laid (says xs) k).length = q at *
        have HQ := Lib.hid hq
        clear hq
        go_wp2_with fail
        go_round
        case rel => exact ⟨k + 1, by omega, by go_num, by rw [e.out]⟩
        case measure => simp [intOf]; omega
    · obtain rfl : k = xs.length := by omega
      have hq := laid_len (says xs) xs.length
      generalize (laid (says xs) xs.length).length = q at *
      clear hk hlt
      go_wp2_with fail
      go_loopw [5, 6] (fun o i wr => ∃ k : Nat, k ≤ q ∧ i = .int .i64 k ∧ OwnsI w.heap.size wr o ((List.range k).map (says xs)) ∧ Below w.heap.size w wr) (fun _ i _ => q - (intOf i).toNat)
      case atStart => exact ⟨0, Nat.zero_le _, rfl, OwnsI.nil _ _, Below.refl _ _⟩
      case round =>
        obtain ⟨k, hk, rfl, ho, hb⟩ := hrel
        by_cases hlt : k < q
        · have K := rat_any (HS.out.below hb) (k : Int)
          rw [saysI_nat] at K
          have HO := Lib.hid ho
          have HB := Lib.hid hb
          have RP := Lib.hid (range_push (says xs) k)
          have HL := Lib.hid (show ((List.range k).map (says xs)).length = k by simp)
          clear ho hb
          generalize says xs k = x at *
          go_wp2_with (first | (go_at_call 14; refine K.mono ?_; rintro e w' ⟨rfl, rfl⟩) | (at_builtin; refine wpList_append_ints rfl (.tmp 24) (.tmp 28) rfl w.heap.size rfl (HO.out.alloc _) rfl (SeqI.one _ x) (by rw [HL.out]; simp; omega) (by have := HB.out.size; simp; omega) ?_))
          intro v' w1 ho' hg _
          have O2 := Lib.hid ho'
          have G2 : Hid (Below w.heap.size w w1) := Lib.hid ((HB.out.alloc HB.out.size _).grown hg (by have := HB.out.size; simp; omega) (fun j hj => (HO.out.lt j hj).1))
          clear ho' hg
          rw [RP.out] at O2
          go_wp2_with fail
          go_roundw
          case rel => exact ⟨k + 1, by omega, by go_num, O2.out, G2.out⟩
          case measure => simp [intOf]; omega
        · obtain rfl : k = q := by omega
          have O2 := Lib.hid ho
          have G2 := Lib.hid hb
          clear ho hb
          go_wp2_with fail
          go_ret
          exact ⟨_, rfl, O2.out, G2.out⟩

end Go.Proofs.Ytogmafopgglelaa
