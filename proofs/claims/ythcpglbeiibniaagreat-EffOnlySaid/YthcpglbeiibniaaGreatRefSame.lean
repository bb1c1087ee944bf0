/- What the document's own Same and Short of texts leave (zone/XRefK, without Inter and Without).  -/
import Derived.Test.YthcpglbeiibniaaGreatRefZs
import Derived.Deep.QuietTactic
import Derived.BigQuiet
namespace Go.Proofs.YthcpglbeiibniaaGreat
open Go.RowKit Plain
set_option linter.unusedVariables false

/-- a list that isn't too long for a look -/
def shortB (xs : List Txt) : Bool := decide (xs.length ≤ 60) && xs.all fun t => decide (t.length ≤ 200)
theorem short_iff {xs : List Txt} : shortB xs = true ↔ xs.length ≤ 60 ∧ ∀ t ∈ xs, t.length ≤ 200 := by
  unfold shortB
  simp

set_option maxRecDepth 100000 in
set_option maxHeartbeats 4000000 in
/-- Short -/
theorem rshort_any {u : Value} {xs : List Txt} {w : World} (hu : SeqT w u xs) :
    Calls Tryz.prog 7 #[u] w fun e w' => e = .returned (.bool (shortB xs)) ∧ w = w' := by
  obtain ⟨a, cap, rfl, g1, g2, g0, h⟩ := hu.parts
  have hmx : maxLen = 9223372036854775807 := rfl
  rw [hmx] at g2
  obtain ⟨n, hN⟩ : ∃ n, xs.length = n := ⟨_, rfl⟩
  have hT : n ≤ 60 → (∀ j, j < n → (xs.getD j []).length ≤ 200) → shortB xs = true := fun h1 h2 => short_iff.2 ⟨by omega, fun t ht => by
    obtain ⟨j, hj, rfl⟩ := mem_at ht
    exact h2 j (by omega)⟩
  have hF : ∀ j, j < n → ¬ (xs.getD j []).length ≤ 200 → shortB xs = false := fun j hj hne => by
    cases e : shortB xs with
    | false => rfl
    | true => exact absurd ((short_iff.1 e).2 _ (mem_getD (by omega))) hne
  have hG : ¬ n ≤ 60 → shortB xs = false := fun hne => by
    cases e : shortB xs with
    | false => rfl
    | true => exact absurd (by have := (short_iff.1 e).1; omega) hne
  have HT := Lib.hid hT
  have HF := Lib.hid hF
  have HG := Lib.hid hG
  generalize shortB xs = r at *
  rw [hN] at h g1 ⊢
  have HS := Lib.hid h
  have LN := Lib.hid hN
  clear hu h g0 hmx hT hF hG hN
  by_cases hl : n ≤ 60
  · have hl' : ¬ (60 : Int) < n := by omega
    go_enter Tryz.func7, Tryz.ntmps7
    go_wp2_with fail
    go_loop [3] (fun i => ∃ k : Nat, k ≤ n ∧ i = .int .i64 k ∧ ∀ j, j < k → (xs.getD j []).length ≤ 200) (fun i => n - (intOf i).toNat)
    case atStart => exact ⟨0, Nat.zero_le _, rfl, fun j hj => absurd hj (by omega)⟩
    case round =>
      obtain ⟨k, hk, rfl, hall⟩ := hrel
      have HALL := Lib.hid hall
      clear hall
      by_cases hlt : k < n
      · obtain ⟨b, o, c, hv, -, -, -, hc⟩ := HS.out.spot (by rw [LN.out]; omega)
        rw [LN.out] at hv
        simp only [Value.slice.injEq] at hv
        obtain ⟨rfl, -, rfl⟩ := hv
        have c1 := hc k (by rw [LN.out]; exact hlt)
        unfold tv at c1
        have z1 := bt_size (xs.getD k [])
        clear hc
        by_cases he : (xs.getD k []).length ≤ 200
        · have HALL2 : Hid (∀ j, j < k + 1 → (xs.getD j []).length ≤ 200) := Lib.hid (fun j hj => by
            by_cases h : j < k
            · exact HALL.out j h
            · obtain rfl : j = k := by omega
              exact he)
          generalize bt (xs.getD k []) = X at *
          generalize (xs.getD k []).length = l at *
          go_wp2_with fail
          go_round
          case rel => exact ⟨k + 1, by omega, by go_num, HALL2.out⟩
          case measure => simp [intOf]; omega
        · obtain rfl : r = false := HF.out k hlt he
          generalize bt (xs.getD k []) = X at *
          generalize (xs.getD k []).length = l at *
          go_wp2_with fail
          go_ret
          exact ⟨rfl, rfl⟩
      · obtain rfl : k = n := by omega
        obtain rfl : r = true := HT.out hl HALL.out
        go_wp2_with fail
        go_ret
        exact ⟨rfl, rfl⟩
  · obtain rfl : r = false := HG.out hl
    have hl' : (60 : Int) < n := by omega
    go_enter Tryz.func7, Tryz.ntmps7
    go_wp2_with fail
    go_ret
    exact ⟨rfl, rfl⟩
end Go.Proofs.YthcpglbeiibniaaGreat
