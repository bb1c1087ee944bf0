/- What the statements' own helper laid leaves: the frames of all records, one behind the other. -/
import Derived.Test.YtmbklheelinjfaaDoorShort
namespace Go.Proofs.YtmbklheelinjfaaDoor
open Go.RowKit Plain
set_option linter.unusedVariables false

theorem flatF_snoc (ls : List Bytes) (k : Nat) (h : k < ls.length) : flatF (ls.take (k + 1)) = flatF (ls.take k) ++ frm (ls.getD k []) := by
  rw [List.take_succ_eq_append_getElem h, flatF_append]
  simp [flatF, List.getD, List.getElem?_eq_getElem h]
theorem sizeF_tot (ls : List Bytes) : sizeF ls = 8 * ls.length + tot ls := by
  induction ls with
  | nil => rfl
  | cons p l ih => rw [sizeF, ih, List.length_cons, tot]; omega
theorem small_sh {ls : List Bytes} (h : shB ls = true) : Small ls ∧ ls.length ≤ 60 ∧ tot ls ≤ 3000 ∧ sizeF ls ≤ 3480 ∧ ∀ k, k < ls.length → (ls.getD k []).length ≤ 3000 := by
  have h2 := of_decide_eq_true h
  have h3 : ∀ k, k < ls.length → (ls.getD k []).length ≤ 3000 := fun k hk => by have := tot_all ls k hk; omega
  refine ⟨fun p hp => ?_, h2.1, h2.2, by rw [sizeF_tot]; omega, h3⟩
  obtain ⟨j, hj, rfl⟩ := List.getElem_of_mem hp
  have := h3 j hj
  simp [List.getD, List.getElem?_eq_getElem hj] at this
  omega
theorem sizeF_take (ls : List Bytes) (k : Nat) : sizeF (ls.take k) ≤ sizeF ls := by
  have := sizeF_append (ls.take k) (ls.drop k)
  rw [List.take_append_drop] at this
  omega

theorem sizeF_snoc (ls : List Bytes) (k : Nat) (h : k < ls.length) : sizeF (ls.take (k + 1)) = sizeF (ls.take k) + (8 + (ls.getD k []).length) := by
  rw [List.take_succ_eq_append_getElem h, sizeF_append, sizeF_one]
  simp [List.getD, List.getElem?_eq_getElem h]
theorem part_at (ls : List Bytes) (k : Nat) (h : k < ls.length) : ls = ls.take k ++ ls.getD k [] :: ls.drop (k + 1) := by
  have : ls.getD k [] = ls[k] := by simp [List.getD, List.getElem?_eq_getElem h]
  rw [this, List.getElem_cons_drop, List.take_append_drop]

/-- bytes and 'all went well' -/
def LaidT (xs : Bytes) (w : World) (e : Ending) (w' : World) : Prop := ∃ v, e = .returned (.tuple #[v, .bool true]) ∧ Owns w.heap.size w' v xs ∧ Below w.heap.size w w'

set_option maxRecDepth 100000 in
set_option maxHeartbeats 2000000 in
theorem laid_ok {v : Value} {ls : List Bytes} {w : World} (hv : SeqR w v ls) (hT : HasTab w) (hs : shB ls = true) :
    Calls Tryd.prog 18 #[v] w (LaidT (flatF ls) w) := by
  obtain ⟨s1, s2, s3, s4, s5⟩ := small_sh hs
  have HT := Lib.hid hT
  have ET : Hid (ls.take ls.length = ls) := Lib.hid (List.take_of_length_le (Nat.le_refl _))
  by_cases hp : 0 < ls.length
  · obtain ⟨b1, o1, c1, rfl, g1, m1, -, k1⟩ := hv.spot hp
    have HV := Lib.hid k1
    have HS5 := Lib.hid s5
    have HS4 := Lib.hid s4
    have HST := Lib.hid (sizeF_take ls)
    have FS := Lib.hid (flatF_snoc ls)
    have hm : maxLen = 9223372036854775807 := rfl
    rw [hm] at m1
    clear hv k1 hT hm hs s1 s3 s4 s5
    go_enter Tryd.func18, Tryd.ntmps18
    go_wp2_with fail
    go_loopw [4, 5] (fun b i wr => ∃ k : Nat, k ≤ ls.length ∧ i = .int .i64 k ∧ Owns w.heap.size wr b (flatF (ls.take k)) ∧ Below w.heap.size w wr) (fun _ i _ => ls.length - (intOf i).toNat)
    case atStart => exact ⟨0, Nat.zero_le _, rfl, Owns.nil _ _, Below.refl _ _⟩
    case round =>
      obtain ⟨k, hk, rfl, ho, hb⟩ := hrel
      have O1 := Lib.hid ho
      have B1 := Lib.hid hb
      by_cases hlt : k < ls.length
      · obtain ⟨a1, n1, q1, hc1, e1, l1, l2, l0, sq⟩ := HV.out k hlt
        have hblt : b1 < w.heap.size := World.block_lt_of_cell? w ⟨b1, o1 + k, none⟩ hc1
        have hc2 := (hb.cell (p := ⟨b1, o1 + k, none⟩) hblt).trans hc1
        have h5 := HS5.out k hlt
        have hfl : (flatF (ls.take k)).length ≤ 3480 := by rw [flatF_len]; have := HST.out k; have := HS4.out; omega
        have KL := Lib.hid (lay_ok ho.seq (sq.below hb) (HT.out.below hb) (by omega) (by omega))
        rw [← FS.out k hlt] at KL
        clear e1 sq l0 h5 hfl hc1 ho hb
        go_wp2_with fail
        refine KL.out.mono ?_
        rintro e w1 ⟨v1, rfl, ho1, hb1⟩
        have O2 := Lib.hid (ho1.mono B1.out.size)
        have B2 := Lib.hid (B1.out.trans (hb1.mono B1.out.size))
        clear ho1 hb1 hc2
        go_wp2_with fail
        go_roundw
        case rel => exact ⟨k + 1, by omega, by go_num, O2.out, B2.out⟩
        case measure => simp [intOf]; omega
      · obtain rfl : k = ls.length := by omega
        rw [ET.out] at O1
        clear ho hb
        go_wp2_with fail
        go_ret2
        exact ⟨_, rfl, O1.out, B1.out⟩
  · obtain rfl : ls = [] := List.eq_nil_of_length_eq_zero (by omega)
    obtain ⟨a1, c1, rfl, -⟩ := hv.parts
    simp only [List.length_nil]
    clear hT s1 s2 s3 s4 s5 ET hs hv
    go_enter Tryd.func18, Tryd.ntmps18
    go_wp2_with fail
    go_loop [4, 5] (fun b i => i = .int .i64 0 ∧ b = .slice none 0 0) (fun _ _ => 0)
    case atStart => exact ⟨rfl, rfl⟩
    case round =>
      obtain ⟨rfl, rfl⟩ := hrel
      go_wp2_with fail
      go_ret2
      exact ⟨_, rfl, Owns.nil _ _, Below.refl _ _⟩
end Go.Proofs.YtmbklheelinjfaaDoor
