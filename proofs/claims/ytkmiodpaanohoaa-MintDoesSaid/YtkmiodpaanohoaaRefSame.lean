/- What the document's own Same and Short of texts leave (zone/XRefK, without Inter and Without).  -/
import Derived.Test.YtkmiodpaanohoaaRefZs
import Derived.Deep.QuietTactic
import Derived.BigQuiet
namespace Go.Proofs.Ytkmiodpaanohoaa
open Go.RowKit Plain
set_option linter.unusedVariables false

set_option maxRecDepth 100000 in
set_option maxHeartbeats 4000000 in
/-- Same -/
theorem rsameT_any {u v : Value} {xs ys : List Txt} {w : World} (hu : SeqT w u xs) (hv : SeqT w v ys) :
    Calls Try.prog 30 #[u, v] w fun e w' => e = .returned (.bool (decide (xs = ys))) ∧ ∃ n, w' = w.drewN n := by
  obtain ⟨a, cap, rfl, g1, g2, g0, h⟩ := hu.parts
  obtain ⟨a', cap', rfl, e1, e2, e0, h'⟩ := hv.parts
  have hmx : maxLen = 9223372036854775807 := rfl
  rw [hmx] at g2 e2
  by_cases hl : xs.length = ys.length
  · obtain ⟨n, hN⟩ : ∃ n, xs.length = n := ⟨_, rfl⟩
    have hM : ys.length = n := by omega
    have hT : (∀ j, j < n → xs.getD j [] = ys.getD j []) → decide (xs = ys) = true := fun hall => decide_eq_true (by
      apply List.ext_getElem hl
      intro j h1 h2
      have := hall j (by omega)
      simpa [List.getD, List.getElem?_eq_getElem h1, List.getElem?_eq_getElem h2] using this)
    have hF : ∀ j, ¬ xs.getD j [] = ys.getD j [] → decide (xs = ys) = false := fun j hne => decide_eq_false (by
      intro e; subst e; exact hne rfl)
    have HT := Lib.hid hT
    have HF := Lib.hid hF
    generalize decide (xs = ys) = r at *
    rw [hN] at h g1 ⊢
    rw [hM] at h' e1 ⊢
    have HS := Lib.hid h
    have HS' := Lib.hid h'
    have LN := Lib.hid hN
    have LM := Lib.hid hM
    clear hu hv h h' g0 e0 hmx hl hT hF hN hM
    go_enter Try.func30, Try.ntmps30
    go_wp2_with fail
    go_loopw [5] (fun i wr => ∃ k : Nat, k ≤ n ∧ i = .int .i64 k ∧ (∀ j, j < k → xs.getD j [] = ys.getD j []) ∧ ∃ q, wr = w.drewN q) (fun i _ => n - (intOf i).toNat)
    case atStart => exact ⟨0, Nat.zero_le _, rfl, (fun j hj => absurd hj (by omega)), 0, rfl⟩
    case round =>
      obtain ⟨k, hk, rfl, hall, q, rfl⟩ := hrel
      have HALL := Lib.hid hall
      clear hall
      by_cases hlt : k < n
      · obtain ⟨b, o, c, hv, -, -, -, hc⟩ := HS.out.spot (by rw [LN.out]; omega)
        rw [LN.out] at hv
        simp only [Value.slice.injEq] at hv
        obtain ⟨rfl, -, rfl⟩ := hv
        obtain ⟨b', o', c', hv', -, -, -, hc'⟩ := HS'.out.spot (by rw [LM.out]; omega)
        rw [LM.out] at hv'
        simp only [Value.slice.injEq] at hv'
        obtain ⟨rfl, -, rfl⟩ := hv'
        have c1 := hc k (by rw [LN.out]; exact hlt)
        have c2 := hc' k (by rw [LM.out]; exact hlt)
        unfold tv at c1 c2
        have t1 := text_eq (xs.getD k []) (ys.getD k [])
        clear hc hc'
        by_cases he : xs.getD k [] = ys.getD k []
        · rw [decide_eq_true he] at t1
          have HALL2 : Hid (∀ j, j < k + 1 → xs.getD j [] = ys.getD j []) := Lib.hid (fun j hj => by
            by_cases h : j < k
            · exact HALL.out j h
            · obtain rfl : j = k := by omega
              exact he)
          clear he
          generalize bt (xs.getD k []) = X at *
          generalize bt (ys.getD k []) = Y at *
          go_wp2_with fail
          go_quiet (fail)
          go_wp2_with fail
          go_roundw
          case rel => exact ⟨k + 1, by omega, by go_num, HALL2.out, _, rfl⟩
          case measure => simp [intOf]; omega
        · rw [decide_eq_false he] at t1
          obtain rfl : r = false := HF.out k he
          clear he
          generalize bt (xs.getD k []) = X at *
          generalize bt (ys.getD k []) = Y at *
          go_wp2_with fail
          go_quiet (fail)
          go_wp2_with fail
          go_ret
          exact ⟨rfl, _, World.drewN_drewN _ _ _⟩
      · obtain rfl : k = n := by omega
        obtain rfl : r = true := HT.out HALL.out
        go_wp2_with fail
        go_ret
        exact ⟨rfl, _, rfl⟩
  · have hd : decide (xs = ys) = false := decide_eq_false (fun e => hl (by rw [e]))
    rw [hd]
    generalize xs.length = la at *
    generalize ys.length = lb at *
    have h1 : ¬ ((la : Int) = (lb : Int)) := by omega
    have h2 : ((la : Int) != (lb : Int)) = true := bne_iff_ne.2 h1
    clear hl h1 hd hu hv h h'
    go_enter Try.func30, Try.ntmps30
    go_wp2_with fail
    go_ret
    exact ⟨rfl, 0, rfl⟩

/-- a list that isn't too long for a look -/
def shortB (xs : List Txt) : Bool := decide (xs.length ≤ 60) && xs.all fun t => decide (t.length ≤ 200)
theorem short_iff {xs : List Txt} : shortB xs = true ↔ xs.length ≤ 60 ∧ ∀ t ∈ xs, t.length ≤ 200 := by
  unfold shortB
  simp

end Go.Proofs.Ytkmiodpaanohoaa
