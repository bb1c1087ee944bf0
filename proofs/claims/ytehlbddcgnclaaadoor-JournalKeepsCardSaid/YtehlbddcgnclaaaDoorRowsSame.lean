/- What the document's own Same of rows of bytes leaves for rows that read alike. -/
import Derived.Test.YtehlbddcgnclaaaDoorSame
import Derived.Test.YtehlbddcgnclaaaDoorList
namespace Go.Proofs.YtehlbddcgnclaaaDoor
open Go.RowKit Plain
set_option linter.unusedVariables false

set_option maxRecDepth 100000 in
set_option maxHeartbeats 2000000 in
theorem rowsSame_yes {u v : Value} {ls : List Bytes} {w : World} (hu : SeqR w u ls) (hv : SeqR w v ls) :
    Calls Tryd.prog 16 #[u, v] w fun e w' => e = .returned (.bool true) ∧ ∃ n, w' = w.drewN n := by
  by_cases hp : 0 < ls.length
  · obtain ⟨b1, o1, c1, rfl, g1, m1, -, k1⟩ := hu.spot hp
    obtain ⟨b2, o2, c2, rfl, g2, m2, -, k2⟩ := hv.spot hp
    have HU := Lib.hid k1
    have HV := Lib.hid k2
    have hm : maxLen = 9223372036854775807 := rfl
    rw [hm] at m1 m2
    clear hu hv k1 k2 hm
    go_enter Tryd.func16, Tryd.ntmps16
    go_wp2_with fail
    go_loopw [5] (fun i wr => ∃ k : Nat, k ≤ ls.length ∧ i = .int .i64 k ∧ ∃ n, wr = w.drewN n) (fun i _ => ls.length - (intOf i).toNat)
    case atStart => exact ⟨0, Nat.zero_le _, rfl, 0, rfl⟩
    case round =>
      obtain ⟨k, hk, rfl, n, hwr⟩ := hrel
      have HW := Lib.hid hwr
      by_cases hlt : k < ls.length
      · obtain ⟨a1, n1, q1, hc1, e1, l1, l2, l0, s1⟩ := HU.out k hlt
        obtain ⟨a2, n2, q2, hc2, e2, r1, r2, r0, s2⟩ := HV.out k hlt
        have hd1 : wr.cell? ⟨b1, o1 + k, none⟩ = some (.slice a1 n1 q1) := by rw [hwr]; exact hc1
        have hd2 : wr.cell? ⟨b2, o2 + k, none⟩ = some (.slice a2 n2 q2) := by rw [hwr]; exact hc2
        have KS : Hid (∀ m, _) := Lib.hid (fun m => quiet_drawn (w := wr) (n := m) (same_yes (w := wr.drewN m) (by rw [hwr]; exact (s1.drawn n).drawn m) (by rw [hwr]; exact (s2.drawn n).drawn m)))
        clear hc1 hc2 e1 e2 s1 s2 l0 r0 hwr
        go_wp2_with fail
        go_quiet ((go_at_call 22; exact KS.out _))
        go_wp2_with fail
        go_roundw
        case rel => exact ⟨k + 1, by omega, by go_num, by rw [HW.out]; exact ⟨_, World.drewN_drewN _ _ _⟩⟩
        case measure => simp [intOf]; omega
      · obtain rfl : k = ls.length := by omega
        clear hwr
        go_wp2_with fail
        go_ret
        exact ⟨rfl, _, HW.out⟩
  · obtain rfl : ls = [] := List.eq_nil_of_length_eq_zero (by omega)
    obtain ⟨a1, c1, rfl, -⟩ := hu.parts
    obtain ⟨a2, c2, rfl, -⟩ := hv.parts
    simp only [List.length_nil]
    go_enter Tryd.func16, Tryd.ntmps16
    go_wp2_with fail
    go_loop [5] (fun i => i = .int .i64 0) (fun _ => 0)
    case atStart => rfl
    case round =>
      obtain rfl := hrel
      go_wp2_with fail
      go_ret
      exact ⟨rfl, 0, rfl⟩
theorem rowsB {u v : Value} {ls : List Bytes} {w : World} (hu : SeqR w u ls) (hv : SeqR w v ls) :
    Calls Tryd.prog 16 #[u, v] w fun e w' => e = .returned (.bool true) ∧ Below w.heap.size w w' :=
  (rowsSame_yes hu hv).mono fun _ _ ⟨he, n, hw⟩ => ⟨he, by rw [hw]; exact below_drewN (Below.refl _ _) n⟩
end Go.Proofs.YtehlbddcgnclaaaDoor
