/- The document's own Same of bytes, whatever they are (msg/XMsSame for a seat without transactions; not both in one seat). (Written out of msg/XMsSame.) -/
import Derived.Test.YtgllaoanpemjlaaByLib
import Derived.Test.YtgllaoanpemjlaaGives
namespace Go.Proofs.Ytgllaoanpemjlaa.By
open Go.RowKit Plain
set_option linter.unusedVariables false

set_option maxRecDepth 100000 in
set_option maxHeartbeats 4000000 in
theorem same_no {u v : Value} {xs ys : Bytes} {w : World} (hu : Seq w u xs) (hv : Seq w v ys) (hl : xs.length = ys.length) (hne : xs ≠ ys) :
    Calls Try.prog 20 #[u, v] w fun e w' => e = .returned (.bool false) ∧ ∃ n, w' = w.drewN n := by
  have hp : 0 < xs.length := by
    by_cases h : 0 < xs.length
    · exact h
    · exfalso
      apply hne
      rw [List.eq_nil_of_length_eq_zero (show xs.length = 0 by omega), List.eq_nil_of_length_eq_zero (show ys.length = 0 by omega)]
  have hex : ∃ j, j < xs.length ∧ xs.getD j 0#8 ≠ ys.getD j 0#8 := by
    refine Classical.byContradiction fun hno => hne ?_
    apply List.ext_getElem hl
    intro j h1 h2
    have hj : xs.getD j 0#8 = ys.getD j 0#8 := Classical.byContradiction fun h => hno ⟨j, h1, h⟩
    simpa [List.getD, List.getElem?_eq_getElem h1, List.getElem?_eq_getElem h2] using hj
  obtain ⟨b1, o1, c1, rfl, g1, m1, -, k1⟩ := hu.spot hp
  obtain ⟨b2, o2, c2, rfl, g2, m2, -, k2⟩ := hv.spot (by omega)
  rw [← hl] at k2 g2 ⊢
  have HU := Lib.hid k1
  have HV := Lib.hid k2
  have HEX := Lib.hid hex
  have hm : maxLen = 9223372036854775807 := rfl
  rw [hm] at m1 m2
  clear hu hv k1 k2 hm hl hex hne
  go_enter Try.func20, Try.ntmps20
  go_wp2_with fail
  go_loopw [5] (fun i wr => ∃ k : Nat, k ≤ xs.length ∧ i = .int .i64 k ∧ (∀ j, j < k → xs.getD j 0#8 = ys.getD j 0#8) ∧ ∃ n, wr = w.drewN n) (fun i _ => xs.length - (intOf i).toNat)
  case atStart => exact ⟨0, Nat.zero_le _, rfl, (fun j hj => absurd hj (by omega)), 0, rfl⟩
  case round =>
    obtain ⟨k, hk, rfl, hall, n, rfl⟩ := hrel
    have HALL := Lib.hid hall
    clear hall
    by_cases hlt : k < xs.length
    · have c1' := HU.out k hlt
      have c2' := HV.out k hlt
      unfold bv at c1' c2'
      by_cases he : xs.getD k 0#8 = ys.getD k 0#8
      · have HE := Lib.hid he
        rw [he] at c1'
        clear he
        have HALL2 : Hid (∀ j, j < k + 1 → xs.getD j 0#8 = ys.getD j 0#8) := Lib.hid (fun j hj => by
          by_cases h : j < k
          · exact HALL.out j h
          · obtain rfl : j = k := by omega
            exact HE.out)
        generalize ys.getD k 0#8 = x at *
        have hx := x.isLt
        go_wp2_with fail
        go_quiet (fail)
        go_wp2_with fail
        go_roundw
        case rel => exact ⟨k + 1, by omega, by go_num, HALL2.out, _, rfl⟩
        case measure => simp [intOf]; omega
      · generalize xs.getD k 0#8 = x at *
        generalize ys.getD k 0#8 = y at *
        have hx := x.isLt
        have hy := y.isLt
        have hb : ((x.toNat : Int) == (y.toNat : Int)) = false := beq_eq_false_iff_ne.2 (fun e => he (BitVec.eq_of_toNat_eq (by omega)))
        have hb2 : ((x.toNat : Int) != (y.toNat : Int)) = true := bne_iff_ne.2 (fun e => he (BitVec.eq_of_toNat_eq (by omega)))
        clear he
        go_wp2_with fail
        go_quiet (fail)
        go_wp2_with fail
        go_ret
        exact ⟨rfl, _, World.drewN_drewN _ _ _⟩
    · exfalso
      obtain ⟨j, hj, hne⟩ := HEX.out
      exact hne (HALL.out j (by omega))
set_option maxRecDepth 100000 in
set_option maxHeartbeats 1000000 in
theorem same_long {u v : Value} {xs ys : Bytes} {w : World} (hu : Seq w u xs) (hv : Seq w v ys) (hl : ¬ xs.length = ys.length) :
    Calls Try.prog 20 #[u, v] w fun e w' => e = .returned (.bool false) ∧ ∃ n, w' = w.drewN n := by
  obtain ⟨a1, c1, rfl, -⟩ := hu
  obtain ⟨a2, c2, rfl, -⟩ := hv
  generalize xs.length = n at *
  generalize ys.length = k at *
  have h1 : ((n : Int) != (k : Int)) = true := bne_iff_ne.2 (by omega)
  have h2 : ((n : Int) == (k : Int)) = false := beq_eq_false_iff_ne.2 (by omega)
  clear hl
  go_enter Try.func20, Try.ntmps20
  go_wp2_with fail
  go_ret
  exact ⟨rfl, 0, rfl⟩
end Go.Proofs.Ytgllaoanpemjlaa.By
namespace Go.Proofs.Ytgllaoanpemjlaa
open Go.RowKit Plain
theorem rsameBy {u v : Value} {xs : Bytes} {w : World} (hu : By.Seq w u xs) (hv : By.Seq w v xs) : Calls Try.prog 20 #[u, v] w (GivesB w true) := (By.same_yes hu hv).mono fun _ _ ⟨h, hd⟩ => ⟨h, below_of_drawn hd⟩
theorem rsameBys {u v : Value} {xs ys : Bytes} {w : World} (hu : By.Seq w u xs) (hv : By.Seq w v ys) (r : Bool) (hr : decide (xs = ys) = r) : Calls Try.prog 20 #[u, v] w (GivesB w r) := by
  by_cases h : xs = ys
  · subst h
    obtain rfl : true = r := by rw [← hr]; simp
    exact rsameBy hu hv
  · obtain rfl : false = r := by rw [← hr]; simp [h]
    by_cases hl : xs.length = ys.length
    · exact (By.same_no hu hv hl h).mono fun _ _ ⟨h, hd⟩ => ⟨h, below_of_drawn hd⟩
    · exact (By.same_long hu hv hl).mono fun _ _ ⟨h, hd⟩ => ⟨h, below_of_drawn hd⟩
end Go.Proofs.Ytgllaoanpemjlaa
