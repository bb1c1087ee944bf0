/- What the document's own With, Same, Equal, Copy of vectors leave. -/
import Derived.Test.YtogmafopgglelaaRefV
import Derived.Laws.IdiomStrings
namespace Go.Proofs.Ytogmafopgglelaa
open Go.RowKit Plain
set_option linter.unusedVariables false

set_option maxRecDepth 100000 in
set_option maxHeartbeats 4000000 in
/-- Same -/
theorem rsame_any (r : Bool) {u v : Value} {xs ys : Ints} {w : World} (hr : r = true ↔ ∀ i, says xs i = says ys i) (hs : SeqI w u xs) (ht : SeqI w v ys) (hl : xs.length ≤ 1000000) (hm : ys.length ≤ 1000000) :
    Calls Try.prog 28 #[u, v] w fun e w' => e = .returned (.bool r) ∧ w = w' := by
  obtain ⟨a, cap, rfl, g1, g2, g0, h⟩ := hs.parts
  obtain ⟨a', cap', rfl, g1', g2', g0', h'⟩ := ht.parts
  have HR := Lib.hid hr
  have HE : Hid (∀ i, xs.length ≤ i → ys.length ≤ i → says xs i = says ys i) := Lib.hid fun i p q => by rw [says_end xs i p, says_end ys i q]
  have KA : Hid (∀ k : Nat, Calls Try.prog 14 #[.slice a xs.length cap, .int .i64 (k : Int)] w fun e w' => e = .returned (.int .i64 (says xs k)) ∧ w = w') := Lib.hid fun k => by
    have := rat_any h (k : Int); rwa [saysI_nat] at this
  have KB : Hid (∀ k : Nat, Calls Try.prog 14 #[.slice a' ys.length cap', .int .i64 (k : Int)] w fun e w' => e = .returned (.int .i64 (says ys k)) ∧ w = w') := Lib.hid fun k => by
    have := rat_any h' (k : Int); rwa [saysI_nat] at this
  clear hr hs h g0 ht h' g0' g2 g2'
  generalize xs.length = la at *
  generalize ys.length = lb at *
  go_enter Try.func28, Try.ntmps28
  go_wp2_with fail
  go_loop [5] (fun i => ∃ k : Nat, k ≤ max la lb ∧ i = .int .i64 k ∧ ∀ j, j < k → says xs j = says ys j) (fun i => max la lb - (intOf i).toNat)
  case atStart => exact ⟨0, Nat.zero_le _, rfl, fun j hj => absurd hj (by omega)⟩
  case round =>
    obtain ⟨k, hk, rfl, hall⟩ := hrel
    have HA := Lib.hid hall
    clear hall
    have K1 := KA.out k
    have K2 := KB.out k
    by_cases hlt : k < max la lb
    · by_cases he : says xs k = says ys k
      · have HA2 : Hid (∀ j, j < k + 1 → says xs j = says ys j) := Lib.hid (fun j hj => by
            by_cases h : j < k
            · exact HA.out j h
            · obtain rfl : j = k := by omega
              exact he)
        rw [he] at K1
        clear he
        generalize says ys k = y at *
        by_cases h1 : k < la <;> by_cases h2 : k < lb
        all_goals first | (exfalso; omega) | skip
        all_goals
          go_wp2_with fail
          refine K1.mono ?_
          rintro e w' ⟨rfl, rfl⟩
          go_wp2_with fail
          refine K2.mono ?_
          rintro e w' ⟨rfl, rfl⟩
          clear K1 K2
          go_wp2_with fail
          go_round
          case rel => exact ⟨k + 1, by omega, by go_num, HA2.out⟩
          case measure => simp [intOf]; omega
      · obtain rfl : r = false := by
          cases r with
          | false => rfl
          | true => exact absurd (HR.out.1 rfl k) he
        generalize says xs k = x at *
        generalize says ys k = y at *
        have hb2 : (x != y) = true := by simpa using he
        by_cases h1 : k < la <;> by_cases h2 : k < lb
        all_goals first | (exfalso; omega) | skip
        all_goals
          go_wp2_with fail
          refine K1.mono ?_
          rintro e w' ⟨rfl, rfl⟩
          go_wp2_with fail
          refine K2.mono ?_
          rintro e w' ⟨rfl, rfl⟩
          clear K1 K2
          go_wp2_with fail
          go_ret
          exact ⟨rfl, rfl⟩
    · obtain rfl : k = max la lb := by omega
      obtain rfl : r = true := HR.out.2 fun i => by
        by_cases h : i < max la lb
        · exact HA.out i h
        · exact HE.out i (by omega) (by omega)
      clear K1 K2
      go_wp2_with fail
      go_ret
      exact ⟨rfl, rfl⟩

set_option maxRecDepth 100000 in
set_option maxHeartbeats 4000000 in
/-- Equal -/
theorem requal_yes {u v : Value} {xs : Ints} {w : World} (hs : SeqI w u xs) (ht : SeqI w v xs) :
    Calls Try.prog 12 #[u, v] w fun e w' => e = .returned (.bool true) ∧ ∃ n, w' = w.drewN n := by
  by_cases hp : 0 < xs.length
  · obtain ⟨b1, o1, c1, rfl, g1, m1, -, k1⟩ := hs.spot hp
    obtain ⟨b2, o2, c2, rfl, g2, m2, -, k2⟩ := ht.spot hp
    have HU := Lib.hid k1
    have HV := Lib.hid k2
    have hm : maxLen = 9223372036854775807 := rfl
    rw [hm] at m1 m2
    clear hs ht k1 k2 hm
    go_enter Try.func12, Try.ntmps12
    go_wp2_with fail
    go_loopw [5] (fun i wr => ∃ k : Nat, k ≤ xs.length ∧ i = .int .i64 k ∧ ∃ n, wr = w.drewN n) (fun i _ => xs.length - (intOf i).toNat)
    case atStart => exact ⟨0, Nat.zero_le _, rfl, 0, rfl⟩
    case round =>
      obtain ⟨k, hk, rfl, n, rfl⟩ := hrel
      by_cases hlt : k < xs.length
      · have c1' := HU.out k hlt
        have c2' := HV.out k hlt
        generalize xs.getD k 0 = x at *
        go_wp2_with fail
        go_quiet (fail)
        go_wp2_with fail
        go_roundw
        case rel => exact ⟨k + 1, by omega, by go_num, _, rfl⟩
        case measure => simp [intOf]; omega
      · obtain rfl : k = xs.length := by omega
        go_wp2_with fail
        go_ret
        exact ⟨rfl, _, rfl⟩
  · obtain rfl : xs = [] := List.eq_nil_of_length_eq_zero (by omega)
    obtain ⟨a1, c1, rfl, -⟩ := hs
    obtain ⟨a2, c2, rfl, -⟩ := ht
    simp only [List.length_nil]
    go_enter Try.func12, Try.ntmps12
    go_wp2_with fail
    go_loop [5] (fun i => i = .int .i64 0) (fun _ => 0)
    case atStart => rfl
    case round =>
      obtain rfl := hrel
      go_wp2_with fail
      go_ret
      exact ⟨rfl, 0, rfl⟩

set_option maxRecDepth 100000 in
set_option maxHeartbeats 4000000 in
theorem requal_no {u v : Value} {xs ys : Ints} {w : World} (hs : SeqI w u xs) (ht : SeqI w v ys) (hne : ¬ xs = ys) :
    Calls Try.prog 12 #[u, v] w fun e w' => e = .returned (.bool false) ∧ ∃ n, w' = w.drewN n := by
  by_cases hl : xs.length = ys.length
  · have hp : 0 < xs.length := by
      by_cases h : 0 < xs.length
      · exact h
      · exfalso
        apply hne
        rw [List.eq_nil_of_length_eq_zero (show xs.length = 0 by omega), List.eq_nil_of_length_eq_zero (show ys.length = 0 by omega)]
    have hex : ∃ j, j < xs.length ∧ xs.getD j 0 ≠ ys.getD j 0 := by
      refine Classical.byContradiction fun hno => hne ?_
      apply List.ext_getElem hl
      intro j h1 h2
      have hj : xs.getD j 0 = ys.getD j 0 := Classical.byContradiction fun h => hno ⟨j, h1, h⟩
      simpa [List.getD, List.getElem?_eq_getElem h1, List.getElem?_eq_getElem h2] using hj
    obtain ⟨b1, o1, c1, rfl, g1, m1, -, k1⟩ := hs.spot hp
    obtain ⟨b2, o2, c2, rfl, g2, m2, -, k2⟩ := ht.spot (by omega)
    rw [← hl] at k2 g2 ⊢
    have HU := Lib.hid k1
    have HV := Lib.hid k2
    have HEX := Lib.hid hex
    have hm : maxLen = 9223372036854775807 := rfl
    rw [hm] at m1 m2
    clear hs ht k1 k2 hm hl hex hne
    go_enter Try.func12, Try.ntmps12
    go_wp2_with fail
    go_loopw [5] (fun i wr => ∃ k : Nat, k ≤ xs.length ∧ i = .int .i64 k ∧ (∀ j, j < k → xs.getD j 0 = ys.getD j 0) ∧ ∃ n, wr = w.drewN n) (fun i _ => xs.length - (intOf i).toNat)
    case atStart => exact ⟨0, Nat.zero_le _, rfl, (fun j hj => absurd hj (by omega)), 0, rfl⟩
    case round =>
      obtain ⟨k, hk, rfl, hall, n, rfl⟩ := hrel
      have HALL := Lib.hid hall
      clear hall
      by_cases hlt : k < xs.length
      · have c1' := HU.out k hlt
        have c2' := HV.out k hlt
        by_cases he : xs.getD k 0 = ys.getD k 0
        · have HE := Lib.hid he
          rw [he] at c1'
          clear he
          have HALL2 : Hid (∀ j, j < k + 1 → xs.getD j 0 = ys.getD j 0) := Lib.hid (fun j hj => by
            by_cases h : j < k
            · exact HALL.out j h
            · obtain rfl : j = k := by omega
              exact HE.out)
          generalize ys.getD k 0 = x at *
          go_wp2_with fail
          go_quiet (fail)
          go_wp2_with fail
          go_roundw
          case rel => exact ⟨k + 1, by omega, by go_num, HALL2.out, _, rfl⟩
          case measure => simp [intOf]; omega
        · generalize xs.getD k 0 = x at *
          generalize ys.getD k 0 = y at *
          have hb2 : (x != y) = true := bne_iff_ne.2 he
          clear he
          go_wp2_with fail
          go_quiet (fail)
          go_wp2_with fail
          go_ret
          exact ⟨rfl, _, World.drewN_drewN _ _ _⟩
      · exfalso
        obtain ⟨j, hj, hne⟩ := HEX.out
        exact hne (HALL.out j (by omega))
  · obtain ⟨a1, c1, rfl, -⟩ := hs
    obtain ⟨a2, c2, rfl, -⟩ := ht
    generalize xs.length = la at *
    generalize ys.length = lb at *
    have h1 : ¬ ((la : Int) = (lb : Int)) := by omega
    have h2 : ((la : Int) != (lb : Int)) = true := bne_iff_ne.2 h1
    clear hl h1 hne
    go_enter Try.func12, Try.ntmps12
    go_wp2_with fail
    go_ret
    exact ⟨rfl, 0, rfl⟩
/-- Equal -/
theorem requal_any {u v : Value} {xs ys : Ints} {w : World} (hs : SeqI w u xs) (ht : SeqI w v ys) :
    Calls Try.prog 12 #[u, v] w fun e w' => e = .returned (.bool (decide (xs = ys))) ∧ ∃ n, w' = w.drewN n := by
  by_cases h : xs = ys
  · subst h
    rw [decide_eq_true rfl]
    exact requal_yes hs ht
  · rw [decide_eq_false h]
    exact requal_no hs ht h

set_option maxRecDepth 100000 in
set_option maxHeartbeats 1000000 in
/-- Copy: a slice of the call's own that reads as the other did -/
theorem rcopy_any {v : Value} {xs : Ints} {w : World} (hs : SeqI w v xs) (hlen : xs.length ≤ 1000000) :
    Calls Try.prog 9 #[v] w (MadeI w xs) := by
  obtain ⟨a, cap, rfl, h1, h2, h0, hs⟩ := hs.parts
  have hga : Below w.heap.size w (w.alloc (.cells #[] 3)) := (Below.refl _ _).alloc (Nat.le_refl _) _
  have S1 := Lib.hid (SeqI.below hs hga)
  clear hs h0
  go_enter Try.func9, Try.ntmps9
  go_wp2_with (at_builtin; refine wpList_append_ints rfl (.tmp 3) (.tmp 4) rfl w.heap.size rfl (OwnsI.empty w _ (Nat.le_refl _)) rfl S1.out (by simp; omega) (by simp) ?_)
  intro v1 W3 hv1 hg3 _
  have hgb : Below w.heap.size w W3 := hga.grown hg3 (by simp) (by intro k hk; cases hk; exact Nat.le_refl _)
  have V := Lib.hid hv1
  clear hg3 hga hv1
  go_wp2_with fail
  go_ret
  exact ⟨_, rfl, V.out, hgb⟩

end Go.Proofs.Ytogmafopgglelaa
