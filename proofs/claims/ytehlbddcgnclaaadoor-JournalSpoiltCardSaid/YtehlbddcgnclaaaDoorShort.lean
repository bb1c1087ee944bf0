/- What the document's own Short leaves: whether rows aren't too many, and not too long together. -/
import Derived.Test.YtehlbddcgnclaaaDoorRowsSame
import Derived.Test.YtehlbddcgnclaaaDoorScan
namespace Go.Proofs.YtehlbddcgnclaaaDoor
open Go.RowKit Plain
set_option linter.unusedVariables false

def tot : List Bytes → Nat
  | [] => 0
  | p :: l => p.length + tot l
def shB (ls : List Bytes) : Bool := decide (ls.length ≤ 60 ∧ tot ls ≤ 3000)
theorem tot_append (a b : List Bytes) : tot (a ++ b) = tot a + tot b := by
  induction a with
  | nil => show tot b = 0 + tot b; omega
  | cons p a ih => rw [List.cons_append, tot, ih, tot]; omega
theorem tot_snoc (ls : List Bytes) (k : Nat) (h : k < ls.length) : tot (ls.take (k + 1)) = tot (ls.take k) + (ls.getD k []).length := by
  rw [List.take_succ_eq_append_getElem h, tot_append]
  simp [tot, List.getD, List.getElem?_eq_getElem h]
theorem tot_take (ls : List Bytes) (k : Nat) : tot (ls.take k) ≤ tot ls := by
  have := tot_append (ls.take k) (ls.drop k)
  rw [List.take_append_drop] at this
  omega
theorem tot_all (ls : List Bytes) (k : Nat) (h : k < ls.length) : (ls.getD k []).length ≤ tot ls := by
  have := tot_snoc ls k h
  have := tot_take ls (k + 1)
  omega
set_option maxRecDepth 100000 in
set_option maxHeartbeats 2000000 in
theorem short_any {v : Value} {ls : List Bytes} {w : World} (hv : SeqR w v ls) :
    Calls Tryd.prog 20 #[v] w fun e w' => e = .returned (.bool (shB ls)) ∧ w = w' := by
  by_cases h60 : ls.length ≤ 60
  · by_cases hp : 0 < ls.length
    · obtain ⟨b1, o1, c1, rfl, g1, m1, -, k1⟩ := hv.spot hp
      have HV := Lib.hid k1
      have hT : ∀ k, k < ls.length → _ := tot_snoc ls
      have HT := Lib.hid hT
      have HA := Lib.hid (tot_all ls)
      have hm : maxLen = 9223372036854775807 := rfl
      rw [hm] at m1
      have E : Hid (tot ls ≤ 3000 → shB ls = true) := Lib.hid (fun h => decide_eq_true ⟨h60, h⟩)
      have E2 : Hid (¬ tot ls ≤ 3000 → shB ls = false) := Lib.hid (fun h => decide_eq_false (fun g => h g.2))
      have ET : Hid (ls.take ls.length = ls) := Lib.hid (List.take_of_length_le (Nat.le_refl _))
      clear hv k1 hT hm
      generalize shB ls = r at *
      go_enter Tryd.func20, Tryd.ntmps20
      go_wp2_with fail
      go_loop [3, 4] (fun t i => ∃ k : Nat, k ≤ ls.length ∧ i = .int .i64 k ∧ t = .int .i64 (tot (ls.take k)) ∧ tot (ls.take k) ≤ 3000 * k) (fun _ i => ls.length - (intOf i).toNat)
      case atStart => exact ⟨0, Nat.zero_le _, rfl, rfl, Nat.zero_le _⟩
      case round =>
        obtain ⟨k, hk, rfl, rfl, hb⟩ := hrel
        by_cases hlt : k < ls.length
        · obtain ⟨a1, n1, q1, hc1, e1, l1, l2, l0, s1⟩ := HV.out k hlt
          have ht := HT.out k hlt
          have ha := HA.out k hlt
          rw [← e1] at ht ha
          have HTT := Lib.hid ht
          have HAA := Lib.hid ha
          clear e1 s1 l0 ht ha
          have hbi : (tot (ls.take k) : Int) ≤ 3000 * 60 := by omega
          have hb2 : tot (ls.take k) ≤ 180000 := by omega
          have HB := Lib.hid hb
          clear hb
          generalize htk : tot (ls.take k) = t at *
          have HTK := Lib.hid htk
          clear htk
          by_cases hn : 3000 < n1
          · go_wp2_with fail
            go_ret
            exact ⟨ret_bool (E2.out (by have := HAA.out; omega)).symm, rfl⟩
          · have hn2 : (n1 : Int) ≤ 3000 := by omega
            go_wp2_with fail
            go_round
            case rel => exact ⟨k + 1, by omega, by go_num, by rw [HTT.out]; go_num, by rw [HTT.out]; have := HB.out; omega⟩
            case measure => simp [intOf]; omega
        · obtain rfl : k = ls.length := by omega
          rw [ET.out] at hb ⊢
          by_cases hn : tot ls ≤ 3000
          · have hni : (tot ls : Int) ≤ 3000 := by omega
            clear hb
            go_wp2_with fail
            go_ret
            exact ⟨ret_bool (by rw [E.out hn]), rfl⟩
          · have hni : ¬ (tot ls : Int) ≤ 3000 := by omega
            clear hb
            go_wp2_with fail
            go_ret
            exact ⟨ret_bool (by rw [E2.out hn]), rfl⟩
    · obtain rfl : ls = [] := List.eq_nil_of_length_eq_zero (by omega)
      obtain ⟨a1, c1, rfl, -⟩ := hv.parts
      simp only [List.length_nil]
      have E : Hid (shB [] = true) := Lib.hid rfl
      go_enter Tryd.func20, Tryd.ntmps20
      go_wp2_with fail
      go_loop [3, 4] (fun t i => i = .int .i64 0 ∧ t = .int .i64 0) (fun _ _ => 0)
      case atStart => exact ⟨rfl, rfl⟩
      case round =>
        obtain ⟨rfl, rfl⟩ := hrel
        go_wp2_with fail
        go_ret
        exact ⟨ret_bool (by rw [E.out]), rfl⟩
  · obtain ⟨a1, c1, rfl, -⟩ := hv.parts
    have E : Hid (shB ls = false) := Lib.hid (decide_eq_false (fun g => h60 g.1))
    clear hv
    generalize shB ls = r at *
    have h60i : (60 : Int) < ls.length := by omega
    generalize ls.length = n at *
    go_enter Tryd.func20, Tryd.ntmps20
    go_wp2_with fail
    go_ret
    exact ⟨ret_bool (by rw [E.out]), rfl⟩
end Go.Proofs.YtehlbddcgnclaaaDoor
