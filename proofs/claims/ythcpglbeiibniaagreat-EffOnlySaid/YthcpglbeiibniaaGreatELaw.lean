/- What the law's own functions names and has leave. -/
import Derived.Test.YthcpglbeiibniaaGreatEMades
import Derived.Test.YthcpglbeiibniaaGreatGives
namespace Go.Proofs.YthcpglbeiibniaaGreat
open Go.RowKit Plain
set_option linter.unusedVariables false

theorem hasB_is (l : List PItem) (node seq : Int) : hasB l node seq = l.any fun x => isOfB node seq x.dot := rfl
theorem namesB_is (l : List PEff) (node seq : Int) : namesB l node seq = l.any fun e => e.drops.any (isOfB node seq) := rfl
theorem any_yes {α : Type} [Inhabited α] {l : List α} {p : α → Bool} {k : Nat} (hk : k < l.length) (h : p (l.getD k default) = true) : l.any p = true := by
  rw [List.any_eq_true]
  refine ⟨_, ?_, h⟩
  rw [show l.getD k default = l[k] by simp [List.getD, List.getElem?_eq_getElem hk]]
  exact List.getElem_mem hk
theorem any_no {α : Type} [Inhabited α] {l : List α} {p : α → Bool} (h : ∀ j, j < l.length → p (l.getD j default) = false) : l.any p = false := by
  rw [List.any_eq_false]
  intro d hd
  obtain ⟨j, hj, rfl⟩ := List.getElem_of_mem hd
  have := h j hj
  rw [show l.getD j default = l[j] by simp [List.getD, List.getElem?_eq_getElem hj]] at this
  rw [this]
  decide
set_option maxRecDepth 100000 in
set_option maxHeartbeats 4000000 in
/-- has -/
theorem has_any (node seq : Int) {v : Value} {l : List PItem} {w : World} (hv : SeqE LItem w v l) (hn : l.length ≤ 1000000) :
    Calls Tryz.prog 9 #[v, .int .i64 node, .int .i64 seq] w (GivesB w (hasB l node seq)) := by
  rw [hasB_is]
  have HY := Lib.hid (fun k (hk : k < l.length) h => any_yes (l := l) (p := fun x => isOfB node seq x.dot) (k := k) hk h)
  have HN := Lib.hid (fun h => any_no (l := l) (p := fun x => isOfB node seq x.dot) h)
  obtain ⟨a, cap, rfl, g1, g2, g0, h⟩ := hv.parts
  have HS := Lib.hid h
  clear hv h g0
  obtain ⟨n, hN⟩ : ∃ n, l.length = n := ⟨_, rfl⟩
  rw [hN] at g1 hn HS HY HN ⊢
  have LN := Lib.hid hN
  clear hN
  generalize (l.any fun x => isOfB node seq x.dot) = r at *
  go_enter Tryz.func9, Tryz.ntmps9
  go_wp2_with fail
  go_loop [7] (fun i => ∃ k : Nat, k ≤ n ∧ i = .int .i64 k ∧ ∀ j, j < k → isOfB node seq (l.getD j default).dot = false) (fun i => n - (intOf i).toNat)
  case atStart => exact ⟨0, Nat.zero_le _, rfl, fun j hj => absurd hj (by omega)⟩
  case round =>
    obtain ⟨k, hk, rfl, hall⟩ := hrel
    have HA := Lib.hid hall
    clear hall
    by_cases hlt : k < n
    · obtain ⟨b, o, c, hv, -, -, -, hc⟩ := items_spot HS.out (by rw [LN.out]; omega)
      rw [LN.out] at hv
      simp only [Value.slice.injEq] at hv
      obtain ⟨rfl, -, rfl⟩ := hv
      obtain ⟨c0, c1, c2, c3, c4, c5, c6, c7⟩ := hc k (by rw [LN.out]; exact hlt)
      have HYK := Lib.hid (HY.out k hlt)
      have HAK : Hid (isOfB node seq (l.getD k default).dot = false → ∀ j, j < k + 1 → isOfB node seq (l.getD j default).dot = false) := Lib.hid (fun h j hj => by
        by_cases e : j = k
        · rw [e]; exact h
        · exact HA.out j (by omega))
      have HO : Hid (isOfB node seq (l.getD k default).dot = (decide ((l.getD k default).dot.node = node) && decide ((l.getD k default).dot.seq = seq))) := Lib.hid rfl
      clear hc c0 c1 c2 c3 c4 c7
      generalize l.getD k default = x at *
      generalize isOfB node seq x.dot = rr at *
      generalize x.dot.node = dn at *
      generalize x.dot.seq = ds at *
      by_cases h1 : dn = node
      · rw [decide_eq_true h1, Bool.true_and] at HO
        have e1 : (dn == node) = true := by simp [h1]
        by_cases h2 : ds = seq
        · rw [decide_eq_true h2] at HO
          have e2 : (ds == seq) = true := by simp [h2]
          obtain rfl : r = true := HYK.out HO.out
          clear h1 h2
          go_wp2_with fail
          go_ret
          exact ⟨rfl, Below.refl _ _⟩
        · rw [decide_eq_false h2] at HO
          have e2 : (ds == seq) = false := by simp [h2]
          have HX := Lib.hid (HAK.out HO.out)
          clear h1 h2
          go_wp2_with fail
          go_round
          case rel => exact ⟨k + 1, by omega, by go_num, HX.out⟩
          case measure => simp [intOf]; omega
      · rw [decide_eq_false h1, Bool.false_and] at HO
        have e1 : (dn == node) = false := by simp [h1]
        have HX := Lib.hid (HAK.out HO.out)
        clear h1
        go_wp2_with fail
        go_round
        case rel => exact ⟨k + 1, by omega, by go_num, HX.out⟩
        case measure => simp [intOf]; omega
    · obtain rfl : k = n := by omega
      obtain rfl : r = false := HN.out HA.out
      go_wp2_with fail
      go_ret
      exact ⟨rfl, Below.refl _ _⟩

end Go.Proofs.YthcpglbeiibniaaGreat
