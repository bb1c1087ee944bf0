/- What the document's own Is, Without, Under, Of, Keys, Size, Same of items leave. -/
import Derived.Test.YtpkmjddjllpglaaRefA
import Derived.Test.YtpkmjddjllpglaaRefZ
import Derived.Test.YtpkmjddjllpglaaRefO
import Derived.Test.YtpkmjddjllpglaaEqI
import Derived.Deep.QuietTactic
namespace Go.Proofs.Ytpkmjddjllpglaa
open Go.RowKit Plain
set_option linter.unusedVariables false

theorem hasDot_yes {xs : List PDot} {d : PDot} {k : Nat} (hk : k < xs.length) (h : xs.getD k default = d) : hasDot xs d = true := hasDot_iff.2 (by rw [← h]; exact mem_def hk)
theorem hasDot_no {xs : List PDot} {d : PDot} (h : ∀ j, j < xs.length → ¬ xs.getD j default = d) : hasDot xs d = false := by
  cases e : hasDot xs d with
  | false => rfl
  | true =>
    obtain ⟨j, hj, rfl⟩ := List.getElem_of_mem (hasDot_iff.1 e)
    exact absurd (by simp [List.getD, List.getElem?_eq_getElem hj]) (h j hj)
theorem dv_eq (d : PDot) : dv d = .agg #[.int .i64 d.node, .int .i64 d.seq, .int .i64 d.pos] := rfl

/-! ### those of which f holds, one behind the other -/
def pickG {α : Type} (f : α → Bool) (xs : List α) (k : Nat) : List α := (xs.take k).filter f
theorem takeG {α : Type} [Inhabited α] {xs : List α} {k : Nat} (hk : k < xs.length) : xs.take (k + 1) = xs.take k ++ [xs.getD k default] := by
  rw [List.take_succ_eq_append_getElem hk]
  simp [List.getD, List.getElem?_eq_getElem hk]
theorem pickG_yes {α : Type} [Inhabited α] {f : α → Bool} {xs : List α} {k : Nat} (hk : k < xs.length) (h : f (xs.getD k default) = true) : pickG f xs k ++ [xs.getD k default] = pickG f xs (k + 1) := by
  unfold pickG
  rw [takeG hk, List.filter_append]
  simp only [List.filter_cons, h, if_true, List.filter_nil]
theorem pickG_no {α : Type} [Inhabited α] {f : α → Bool} {xs : List α} {k : Nat} (hk : k < xs.length) (h : f (xs.getD k default) = false) : pickG f xs k = pickG f xs (k + 1) := by
  unfold pickG
  rw [takeG hk, List.filter_append, List.filter_cons, if_neg (by rw [h]; decide), List.filter_nil, List.append_nil]
theorem pickG_all {α : Type} (f : α → Bool) (xs : List α) : pickG f xs xs.length = xs.filter f := by unfold pickG; rw [List.take_length]
theorem pickG_len {α : Type} (f : α → Bool) (xs : List α) (k : Nat) : (pickG f xs k).length ≤ k := by
  unfold pickG
  have := List.length_filter_le f (xs.take k)
  have := List.length_take_le k xs
  omega

set_option maxRecDepth 100000 in
set_option maxHeartbeats 4000000 in
/-- Same -/
theorem rsameI_any {u v : Value} {xs ys : List PItem} {w : World} (hu : SeqE LItem w u xs) (hv : SeqE LItem w v ys) :
    Calls Try.prog 19 #[u, v] w fun e w' => e = .returned (.bool (decide (xs = ys))) ∧ ∃ n, w' = w.drewN n := by
  obtain ⟨a, cap, rfl, g1, g2, g0, h⟩ := hu.parts
  obtain ⟨a', cap', rfl, e1, e2, e0, h'⟩ := hv.parts
  by_cases hl : xs.length = ys.length
  · obtain ⟨n, hN⟩ : ∃ n, xs.length = n := ⟨_, rfl⟩
    have hM : ys.length = n := by omega
    have hT : (∀ j, j < n → xs.getD j default = ys.getD j default) → decide (xs = ys) = true := fun hall => decide_eq_true (by
      apply List.ext_getElem hl
      intro j h1 h2
      have := hall j (by omega)
      simpa [List.getD, List.getElem?_eq_getElem h1, List.getElem?_eq_getElem h2] using this)
    have hF : ∀ j, ¬ xs.getD j default = ys.getD j default → decide (xs = ys) = false := fun j hne => decide_eq_false (by
      intro e; subst e; exact hne rfl)
    have HT := Lib.hid hT
    have HF := Lib.hid hF
    generalize decide (xs = ys) = r at *
    rw [hN] at h g1 ⊢
    rw [hM] at h' e1 ⊢
    have HS := Lib.hid h
    have HS' := Lib.hid h'
    have LN := Lib.hid hN
    have LM := Lib.hid hM
    clear hu hv h h' g0 e0 hl hT hF hN hM
    go_enter Try.func19, Try.ntmps19
    go_wp2_with fail
    go_loopw [5] (fun i wr => ∃ k : Nat, k ≤ n ∧ i = .int .i64 k ∧ (∀ j, j < k → xs.getD j default = ys.getD j default) ∧ ∃ q, wr = w.drewN q) (fun i _ => n - (intOf i).toNat)
    case atStart => exact ⟨0, Nat.zero_le _, rfl, (fun j hj => absurd hj (by omega)), 0, rfl⟩
    case round =>
      obtain ⟨k, hk, rfl, hall, q, rfl⟩ := hrel
      have HALL := Lib.hid hall
      clear hall
      by_cases hlt : k < n
      · obtain ⟨b, o, c, hv, -, -, -, hc⟩ := items_spot HS.out (by rw [LN.out]; omega)
        rw [LN.out] at hv
        simp only [Value.slice.injEq] at hv
        obtain ⟨rfl, -, rfl⟩ := hv
        obtain ⟨b', o', c', hv', -, -, -, hc'⟩ := items_spot HS'.out (by rw [LM.out]; omega)
        rw [LM.out] at hv'
        simp only [Value.slice.injEq] at hv'
        obtain ⟨rfl, -, rfl⟩ := hv'
        obtain ⟨c0, c1, c2, c3, c4, c5, c6, c7⟩ := hc k (by rw [LN.out]; exact hlt)
        obtain ⟨d0, d1, d2, d3, d4, d5, d6, d7⟩ := hc' k (by rw [LM.out]; exact hlt)
        have HFK := Lib.hid (HF.out k)
        have HNX : Hid (xs.getD k default = ys.getD k default → ∀ j, j < k + 1 → xs.getD j default = ys.getD j default) := Lib.hid (fun he j hj => by
          by_cases e : j = k
          · rw [e]; exact he
          · exact HALL.out j (by omega))
        clear hc hc'
        generalize xs.getD k default = x at *
        generalize ys.getD k default = y at *
        have hq := neq_item x y
        by_cases he : x = y
        · have HX := Lib.hid (HNX.out he)
          rw [decide_eq_true he] at hq
          clear he HNX HFK
          go_wp2_with fail
          go_quiet (fail)
          go_wp2_with fail
          go_roundw
          case rel => exact ⟨k + 1, by omega, by go_num, HX.out, _, rfl⟩
          case measure => simp [intOf]; omega
        · obtain rfl : r = false := HFK.out he
          rw [decide_eq_false he] at hq
          clear he HNX HFK
          go_wp2_with fail
          go_quiet (fail)
          go_wp2_with fail
          go_ret
          exact ⟨rfl, _, World.drewN_drewN _ _ _⟩
      · obtain rfl : k = n := by omega
        obtain rfl : r = true := HT.out HALL.out
        go_wp2_with fail
        go_ret
        exact ⟨rfl, _, rfl⟩
  · have hne : ((xs.length : Int) == (ys.length : Int)) = false := by simp; omega
    rw [decide_eq_false (by intro e; subst e; exact hl rfl)]
    clear hu hv h h' g0 e0 g1 g2 e1 e2
    generalize xs.length = n at *
    generalize ys.length = m at *
    go_enter Try.func19, Try.ntmps19
    go_wp2_with fail
    go_ret
    exact ⟨rfl, 0, rfl⟩
theorem rsameIR {u v : Value} {xs ys : List PItem} {w : World} {r : Bool} (hu : SeqE LItem w u xs) (hv : SeqE LItem w v ys) (e : decide (xs = ys) = r) :
    Calls Try.prog 19 #[u, v] w fun e w' => e = .returned (.bool r) ∧ Below w.heap.size w w' := by
  rw [← e]
  exact (rsameI_any hu hv).mono fun _ _ ⟨h, n, hw⟩ => ⟨h, by rw [hw]; exact below_drewN (Below.refl _ _) n⟩

/-- the size of the first k -/
def sizeTo (xs : List PItem) (k : Nat) : Nat := isize (xs.take k)
theorem sizeTo_next {xs : List PItem} {k : Nat} (hk : k < xs.length) : sizeTo xs (k + 1) = sizeTo xs k + isize1 (xs.getD k default) := by
  unfold sizeTo
  rw [takeG hk, isize_append]
  rfl
theorem isize_count (xs : List PItem) (k : Nat) (hk : k ≤ xs.length) : 24 * k ≤ sizeTo xs k := by
  induction k with
  | zero => omega
  | succ k ih =>
    rw [sizeTo_next (by omega)]
    have := ih (by omega)
    unfold isize1
    omega

end Go.Proofs.Ytpkmjddjllpglaa
