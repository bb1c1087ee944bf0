/- What the document's own SameDots and Same of effects leave. (Written by gen-refsame.py.) What the document's own Same of effects leave. (Written by gen-refsame.py.) -/
import Derived.Test.YtkmiodpaanohoaaGreatEff
import Derived.Test.YtkmiodpaanohoaaGreatEqI
import Derived.Test.YtkmiodpaanohoaaGreatGives
import Derived.Deep.QuietTactic
import Derived.Deep.RegionHeld3
import Derived.Deep.DeepCutAuto
import Derived.Deep.Cut
namespace Go.Proofs.YtkmiodpaanohoaaGreat
open Go.RowKit Plain
set_option linter.unusedVariables false

theorem neq_dot (d e : PDot) (w : World) : (binOp .neq 36 (.agg #[.int .i64 d.node, .int .i64 d.seq, .int .i64 d.pos]) (.agg #[.int .i64 e.node, .int .i64 e.seq, .int .i64 e.pos])).run Tryz.prog w = .ok (.bool (!decide (d = e))) w := by
  rw [run_neq_struct, eq_dot 9998]
  rfl
set_option maxRecDepth 100000 in
set_option maxHeartbeats 4000000 in
theorem rsameD_any {u v : Value} {xs ys : List PDot} {w : World} (hu : SeqE LDot w u xs) (hv : SeqE LDot w v ys) :
    Calls Tryz.prog 12 #[u, v] w fun e w' => e = .returned (.bool (decide (xs = ys))) ∧ ∃ n, w' = w.drewN n := by
  obtain ⟨a, cap, rfl, g1, g2, g0, h⟩ := hu.parts
  obtain ⟨a', cap', rfl, e1, e2, e0, h'⟩ := hv.parts
  by_cases hl : xs.length = ys.length
  · obtain ⟨n, hN⟩ : ∃ n, xs.length = n := ⟨_, rfl⟩
    have hM : ys.length = n := by omega
    have hT : (∀ j, j < n → xs.getD j default = ys.getD j default) → decide (xs = ys) = true := fun hall => decide_eq_true (by
      apply List.ext_getElem hl
      intro j h1 h2
      have := hall j (by omega)
      simpa [List.getD, List.getElem?_eq_getElem h1, List.getElem?_eq_getElem h2] using this)
    have hF : ∀ j, ¬ xs.getD j default = ys.getD j default → decide (xs = ys) = false := fun j hne => decide_eq_false (by
      intro e; subst e; exact hne rfl)
    have HT := Lib.hid hT
    have HF := Lib.hid hF
    generalize decide (xs = ys) = r at *
    rw [hN] at h g1 ⊢
    rw [hM] at h' e1 ⊢
    have HS := Lib.hid h
    have HS' := Lib.hid h'
    have LN := Lib.hid hN
    have LM := Lib.hid hM
    clear hu hv h h' g0 e0 hl hT hF hN hM
    go_enter Tryz.func12, Tryz.ntmps12
    go_wp2_with fail
    go_loopw [5] (fun i wr => ∃ k : Nat, k ≤ n ∧ i = .int .i64 k ∧ (∀ j, j < k → xs.getD j default = ys.getD j default) ∧ ∃ q, wr = w.drewN q) (fun i _ => n - (intOf i).toNat)
    case atStart => exact ⟨0, Nat.zero_le _, rfl, (fun j hj => absurd hj (by omega)), 0, rfl⟩
    case round =>
      obtain ⟨k, hk, rfl, hall, q, rfl⟩ := hrel
      have HALL := Lib.hid hall
      clear hall
      by_cases hlt : k < n
      · obtain ⟨b, o, c, hv, -, -, -, hc⟩ := dots_spot HS.out (by rw [LN.out]; omega)
        rw [LN.out] at hv
        simp only [Value.slice.injEq] at hv
        obtain ⟨rfl, -, rfl⟩ := hv
        obtain ⟨b', o', c', hv', -, -, -, hc'⟩ := dots_spot HS'.out (by rw [LM.out]; omega)
        rw [LM.out] at hv'
        simp only [Value.slice.injEq] at hv'
        obtain ⟨rfl, -, rfl⟩ := hv'
        obtain ⟨c0, c1, c2⟩ := hc k (by rw [LN.out]; exact hlt)
        obtain ⟨d0, d1, d2⟩ := hc' k (by rw [LM.out]; exact hlt)
        have HFK := Lib.hid (HF.out k)
        have HNX : Hid (xs.getD k default = ys.getD k default → ∀ j, j < k + 1 → xs.getD j default = ys.getD j default) := Lib.hid (fun he j hj => by
          by_cases e : j = k
          · rw [e]; exact he
          · exact HALL.out j (by omega))
        clear hc hc'
        generalize xs.getD k default = x at *
        generalize ys.getD k default = y at *
        have hq := neq_dot x y
        by_cases he : x = y
        · have HX := Lib.hid (HNX.out he)
          rw [decide_eq_true he] at hq
          clear he HNX HFK
          go_wp2_with fail
          go_quiet (fail)
          go_wp2_with fail
          go_roundw
          case rel => exact ⟨k + 1, by omega, by go_num, HX.out, _, rfl⟩
          case measure => simp [intOf]; omega
        · obtain rfl : r = false := HFK.out he
          rw [decide_eq_false he] at hq
          clear he HNX HFK
          go_wp2_with fail
          go_quiet (fail)
          go_wp2_with fail
          go_ret
          exact ⟨rfl, _, World.drewN_drewN _ _ _⟩
      · obtain rfl : k = n := by omega
        obtain rfl : r = true := HT.out HALL.out
        go_wp2_with fail
        go_ret
        exact ⟨rfl, _, rfl⟩
  · have hne : ((xs.length : Int) == (ys.length : Int)) = false := by simp; omega
    rw [decide_eq_false (by intro e; subst e; exact hl rfl)]
    clear hu hv h h' g0 e0 g1 g2 e1 e2
    generalize xs.length = n at *
    generalize ys.length = m at *
    go_enter Tryz.func12, Tryz.ntmps12
    go_wp2_with fail
    go_ret
    exact ⟨rfl, 0, rfl⟩

theorem rsameDR {u v : Value} {xs ys : List PDot} {w : World} {r : Bool} (hu : SeqE LDot w u xs) (hv : SeqE LDot w v ys) (e : decide (xs = ys) = r) : Calls Tryz.prog 12 #[u, v] w (GivesB w r) := by
  rw [← e]
  exact (rsameD_any hu hv).mono fun _ _ ⟨h, hw⟩ => ⟨h, below_of_drawn hw⟩
end Go.Proofs.YtkmiodpaanohoaaGreat
namespace Go.Proofs.YtkmiodpaanohoaaGreat
open Go.RowKit Plain
set_option linter.unusedVariables false

end Go.Proofs.YtkmiodpaanohoaaGreat
