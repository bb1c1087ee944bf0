/- What the program's own function first leaves: the record of the frame at the beginning, where one stands. -/
import Derived.Test.YtehlbddcgnclaaaDoorFrame
namespace Go.Proofs.YtehlbddcgnclaaaDoor
open Go.RowKit Plain
set_option linter.unusedVariables false

/-- none stands -/
def NoT (w : World) (e : Ending) (w' : World) : Prop := ∃ u, e = .returned (.tuple #[u, .bool false]) ∧ Below w.heap.size w w'
/-- p stands, a piece of what came in -/
def YesT (p : Bytes) (w : World) (e : Ending) (w' : World) : Prop := ∃ a c, e = .returned (.tuple #[.slice (some a) p.length c, .bool true]) ∧ p.length ≤ c ∧ c ≤ maxLen ∧ Seq w' (.slice (some a) p.length c) p ∧ Below w.heap.size w w'

set_option maxRecDepth 100000 in
theorem first_few (a : Option Addr) (n cap : Nat) (w : World) (hn : n < 8) :
    Calls Tryd.prog 35 #[.slice a n cap] w (NoT w) := by
  go_enter Tryd.func35, Tryd.ntmps35
  go_wp2_with fail
  go_ret2
  exact ⟨_, rfl, Below.refl _ _⟩

set_option maxRecDepth 100000 in
set_option maxHeartbeats 1000000 in
theorem first_much {v : Value} {xs : Bytes} {w : World} (hs : Seq w v xs) (hlen : xs.length ≤ 900000000) (h8 : 8 ≤ xs.length) (hb : 1048576 < ival (xs.take 4) ∨ xs.length < 8 + ival (xs.take 4)) :
    Calls Tryd.prog 35 #[v] w (NoT w) := by
  obtain ⟨b, o, cap, rfl, g1, g2, hs, -⟩ := hs.spot (by omega)
  have hf := hs.first 8 h8
  have K := Lib.hid (head_any hf (by rw [List.length_take]; omega) (by rw [List.length_take]; omega))
  rw [List.take_take, Nat.min_eq_left (by omega : 4 ≤ 8)] at K
  have h4 := ival4_lt (xs.take 4) (by rw [List.length_take]; omega)
  generalize ival (xs.take 4) = n at *
  generalize ival ((List.drop 4 (List.take 8 xs)).take 4) = s at *
  generalize xs.length = len at *
  have hm : maxLen = 9223372036854775807 := rfl
  rw [hm] at g2
  have h8i : (8 : Int) ≤ len := by omega
  have h8c : (8 : Int) ≤ cap := by omega
  have hni : (n : Int) ≤ 4294967295 := by omega
  have hli : (len : Int) ≤ 900000000 := by omega
  have hcl : (len : Int) ≤ cap := by omega
  have hci : (cap : Int) ≤ 9223372036854775807 := by omega
  by_cases hb1 : 1048576 < n
  · have hb2 : (1048576 : Int) < n := by omega
    clear hb hs hf hm hb1 hlen h4 g2 g1
    go_enter Tryd.func35, Tryd.ntmps35
    go_wp2_with fail
    refine K.out.mono ?_
    rintro e w1 ⟨rfl, hbe⟩
    go_wp2_with fail
    go_ret2
    exact ⟨_, rfl, hbe⟩
  · have hb2 : (n : Int) ≤ 1048576 := by omega
    have hb3 : (len : Int) - 8 < n := by omega
    clear hb hs hf hm hb1 hlen h4 g2 g1
    go_enter Tryd.func35, Tryd.ntmps35
    go_wp2_with fail
    refine K.out.mono ?_
    rintro e w1 ⟨rfl, hbe⟩
    go_wp2_with fail
    go_ret2
    exact ⟨_, rfl, hbe⟩

set_option maxRecDepth 100000 in
set_option maxHeartbeats 2000000 in
theorem first_fits {v : Value} {xs : Bytes} {w : World} (hs : Seq w v xs) (hT : HasTab w) (hlen : xs.length ≤ 900000000) (h8 : 8 ≤ xs.length) (h1 : ival (xs.take 4) ≤ 1048576) (h2 : 8 + ival (xs.take 4) ≤ xs.length) :
    Calls Tryd.prog 35 #[v] w fun e w' => ∃ a c, e = .returned (.tuple #[.slice (some a) ((xs.drop 8).take (ival (xs.take 4))).length c, .bool ((((psum ((xs.drop 8).take (ival (xs.take 4)))).toNat : Nat) : Int) == ((ival ((xs.drop 4).take 4) : Nat) : Int))]) ∧
      ((xs.drop 8).take (ival (xs.take 4))).length ≤ c ∧ c ≤ maxLen ∧ Seq w' (.slice (some a) ((xs.drop 8).take (ival (xs.take 4))).length c) ((xs.drop 8).take (ival (xs.take 4))) ∧ Below w.heap.size w w' := by
  obtain ⟨b, o, cap, rfl, g1, g2, hs, -⟩ := hs.spot (by omega)
  have hf := hs.first 8 h8
  have hf4 := hs.first 4 (by omega)
  have K := Lib.hid (head_any hf (by rw [List.length_take]; omega) (by rw [List.length_take]; omega))
  rw [List.take_take, Nat.min_eq_left (by omega : 4 ≤ 8)] at K
  have e84 : (List.drop 4 (List.take 8 xs)).take 4 = (List.drop 4 xs).take 4 := by
    rw [List.drop_take, List.take_take]
    rfl
  rw [e84] at K
  have hp := (hs.from 8 h8).first (ival (xs.take 4)) (by rw [List.length_drop]; omega)
  have hpl : ((xs.drop 8).take (ival (xs.take 4))).length = ival (xs.take 4) := by rw [List.length_take, List.length_drop]; omega
  have he : xs.take 4 = le4 (ival (xs.take 4)) := (le4_ival _ (by rw [List.length_take]; omega)).symm
  have ES : Hid (sum (xs.take 4 ++ (xs.drop 8).take (ival (xs.take 4))) = psum ((xs.drop 8).take (ival (xs.take 4)))) := Lib.hid (by unfold psum; rw [hpl, ← he])
  have HF4 := Lib.hid hf4
  have HP := Lib.hid hp
  have HT := Lib.hid hT
  have HPL := Lib.hid hpl
  have hm : maxLen = 9223372036854775807 := rfl
  rw [hm] at g2
  have KS : Hid (∀ u, Below w.heap.size w u → _) := Lib.hid (fun u (hb : Below w.heap.size w u) => sumOf_any (hf4.below hb) (hp.below hb) (hT.below hb))
  rw [ES.out] at KS
  clear hf hf4 hp hT hs hm e84 he
  generalize (psum ((xs.drop 8).take (ival (xs.take 4)))) = z at *
  generalize ((xs.drop 8).take (ival (xs.take 4))) = p at *
  have hq : 8 + ival (xs.take 4) = ival (xs.take 4) + 8 := Nat.add_comm _ _
  generalize ival (xs.take 4) = n at *
  generalize ival ((List.drop 4 xs).take 4) = s at *
  generalize xs.length = len at *
  have h8i : (8 : Int) ≤ len := by omega
  have h8c : (8 : Int) ≤ cap := by omega
  have hni : (n : Int) ≤ 1048576 := by omega
  have hli : (len : Int) ≤ 900000000 := by omega
  have hcl : (len : Int) ≤ cap := by omega
  have hnl : (n : Int) ≤ (len : Int) - 8 := by omega
  have hnl2 : 8 + (n : Int) ≤ len := by omega
  have hnl3 : 8 + (n : Int) ≤ cap := by omega
  have hci : (cap : Int) ≤ 9223372036854775807 := by omega
  have hn0 : (0 : Int) ≤ n := by omega
  have hzl := z.isLt
  rw [HPL.out]
  clear hpl hlen h1 h2 g2 hq g1
  by_cases hcs : cap = 8
  · subst hcs
    obtain rfl : len = 8 := by omega
    obtain rfl : n = 0 := by omega
    simp only [if_true, Nat.sub_self] at KS HP
    clear hs h8i h8c hnl hnl2 hnl3 hci hcl hli hni hn0
    go_enter Tryd.func35, Tryd.ntmps35
    go_wp2_with fail
    refine K.out.mono ?_
    rintro e w1 ⟨rfl, hbe⟩
    have HB := Lib.hid hbe
    clear hbe
    go_wp2_with fail
    refine (KS.out _ HB.out).mono ?_
    rintro e w2 ⟨rfl, rfl⟩
    go_wp2_with fail
    go_ret2
    exact ⟨_, 0, rfl, Nat.le_refl _, Nat.zero_le _, HP.out.below HB.out, HB.out⟩
  · rw [if_neg hcs] at KS HP
    have hg : n ≤ cap - 8 := by omega
    have hg2 : cap - 8 ≤ maxLen := by unfold maxLen; omega
    have HG := Lib.hid hg
    have HG2 := Lib.hid hg2
    clear hs hg hg2
    go_enter Tryd.func35, Tryd.ntmps35
    go_wp2_with fail
    refine K.out.mono ?_
    rintro e w1 ⟨rfl, hbe⟩
    have HB := Lib.hid hbe
    clear hbe
    go_wp2_with fail
    refine (KS.out _ HB.out).mono ?_
    rintro e w2 ⟨rfl, rfl⟩
    go_wp2_with fail
    go_ret2
    exact ⟨_, cap - 8, rfl, HG.out, HG2.out, HP.out.below HB.out, HB.out⟩

theorem first_no {v : Value} {xs : Bytes} {w : World} (hs : Seq w v xs) (hT : HasTab w) (hlen : xs.length ≤ 900000000) (h : Plain.first xs = none) :
    Calls Tryd.prog 35 #[v] w (NoT w) := by
  by_cases h8 : 8 ≤ xs.length
  · by_cases hb : 1048576 < ival (xs.take 4) ∨ xs.length < 8 + ival (xs.take 4)
    · exact first_much hs hlen h8 hb
    · have h1 : ival (xs.take 4) ≤ 1048576 := by omega
      have h2 : 8 + ival (xs.take 4) ≤ xs.length := by omega
      rw [first_sum xs h8 h1 h2] at h
      split at h
      · cases h
      · rename_i hne
        refine (first_fits hs hT hlen h8 h1 h2).mono ?_
        rintro e w' ⟨a, c, rfl, -, -, -, hb⟩
        have e : (((psum ((xs.drop 8).take (ival (xs.take 4)))).toNat : Nat) : Int) == ((ival ((xs.drop 4).take 4) : Nat) : Int) ↔ False := by
          rw [beq_iff_eq]
          refine ⟨fun e => hne ?_, fun h => h.elim⟩
          apply BitVec.eq_of_toNat_eq
          rw [BitVec.toNat_ofNat, Nat.mod_eq_of_lt (ival4_lt _ (by rw [List.length_take, List.length_drop]; omega))]
          omega
        rw [show ((((psum ((xs.drop 8).take (ival (xs.take 4)))).toNat : Nat) : Int) == ((ival ((xs.drop 4).take 4) : Nat) : Int)) = false from Bool.eq_false_iff.2 (fun h => e.1 h)]
        exact ⟨_, rfl, hb⟩
  · obtain ⟨a, cap, rfl, -, -, -, -⟩ := hs.parts
    exact first_few a xs.length cap w (by omega)
theorem first_yes {v : Value} {xs p : Bytes} {w : World} (hs : Seq w v xs) (hT : HasTab w) (hlen : xs.length ≤ 900000000) (h : Plain.first xs = some p) :
    Calls Tryd.prog 35 #[v] w (YesT p w) := by
  by_cases h8 : 8 ≤ xs.length
  · by_cases hb : 1048576 < ival (xs.take 4) ∨ xs.length < 8 + ival (xs.take 4)
    · rw [first_big xs hb] at h; cases h
    · have h1 : ival (xs.take 4) ≤ 1048576 := by omega
      have h2 : 8 + ival (xs.take 4) ≤ xs.length := by omega
      rw [first_sum xs h8 h1 h2] at h
      split at h
      · rename_i he
        have hp := Option.some.inj h
        refine (first_fits hs hT hlen h8 h1 h2).mono ?_
        rintro e w' ⟨a, c, rfl, k1, k2, k3, hb⟩
        rw [he, BitVec.toNat_ofNat, Nat.mod_eq_of_lt (ival4_lt _ (by rw [List.length_take, List.length_drop]; omega)), beq_self_eq_true]
        rw [hp] at k1 k3 ⊢
        exact ⟨a, c, rfl, k1, k2, k3, hb⟩
      · cases h
  · rw [first_short xs (by omega)] at h; cases h
end Go.Proofs.YtehlbddcgnclaaaDoor
