/- The fixed answers with which each statement of layer 3 begins hold. -/
import Derived.Test.YtbfhhlbnhcngfaaBin5
namespace Go.Proofs.Ytbfhhlbnhcngfaa
open Go.RowKit Plain
set_option linter.unusedVariables false

/-- bytes that are written out in the program's text -/
theorem seq_lit (w : World) (xs : Bytes) (C : Array Value) (hC : C.toList = xs.map bv) (hl : xs.length ≤ 1000000) : Seq (w.alloc (.cells C 5)) (.slice (some ⟨w.heap.size, 0, none⟩) xs.length xs.length) xs := by
  have h := World.ownsRow_lit (base := w.heap.size) (e := 5) (size := 1) w C xs.length (Nat.le_refl _) (by unfold maxLen; omega) (by rw [← Array.length_toList, hC, List.length_map, Nat.mul_one])
  rw [hC] at h
  exact seq_of_row h rfl

theorem form300 : [] ++ form 300 = [172#8, 2#8] := by
  rw [List.nil_append, form_high (by omega), form_low (by omega)]; rfl
theorem text_ab : sb ((List.drop 1 [2#8, 97#8, 98#8, 9#8]).take 2) = ⟨#[97, 98]⟩ := rfl
theorem read_ab : read [2#8, 97#8, 98#8, 9#8] = (2, 1, 0) := by
  have h := read_form 2 [97#8, 98#8, 9#8] (by omega)
  rw [form_low (by omega)] at h
  exact h

set_option maxRecDepth 100000 in
set_option maxHeartbeats 1000000 in
theorem awake_any (w : World) : Calls Try.prog 7 #[] w fun e w' => e = .returned (.bool true) ∧ Below w.heap.size w w' := by
  have K1 := Lib.hid (putNum_ok (Seq.nil w) (by simp) 300 (by omega))
  rw [form300] at K1
  have K2 : Hid (∀ u, _) := Lib.hid (fun u => text_ok (w := u.alloc (.cells #[.int .u8 2, .int .u8 97, .int .u8 98, .int .u8 9] 5)) (seq_lit u [2#8, 97#8, 98#8, 9#8] #[.int .u8 2, .int .u8 97, .int .u8 98, .int .u8 9] rfl (by simp)) (by simp) read_ab (by omega) (by simp))
  rw [text_ab] at K2
  go_enter Try.func7, Try.ntmps7
  go_wp2_with fail
  refine K1.out.mono ?_
  rintro e w1 ⟨v1, rfl, ho1, hb1⟩
  obtain ⟨a1, c1, rfl, q1, q2, ho1, -⟩ := ho1.parts
  have O1 := Lib.hid ho1
  have B1 := Lib.hid hb1
  clear ho1
  go_wp2_with fail
  refine (K2.out _).mono ?_
  rintro e w2 ⟨v2, rfl, ho2, hb2⟩
  obtain ⟨a2, c2, rfl, q3, q4, ho2, -⟩ := ho2.parts
  have O2 := Lib.hid ho2
  have B2 := Lib.hid hb2
  clear ho2
  go_wp2_with fail
  have hb12 : Below w.heap.size w w2 := (B1.out.alloc B1.out.size _).trans (B2.out.mono (by have := B1.out.size; simp; omega))
  have O1' := (O1.out.alloc _).below B2.out (Nat.le_refl _)
  refine (same_yes (O1'.seq.below_alloc _) (seq_lit w2 [172#8, 2#8] _ rfl (by simp))).mono ?_
  rintro e w3 ⟨rfl, n, rfl⟩
  have hbe : Below w.heap.size w ((w2.alloc (.cells #[.int .u8 172, .int .u8 2] 5)).drewN n) := below_drewN (hb12.alloc hb12.size _) n
  have BE := Lib.hid hbe
  clear hbe O1' hb12
  go_wp2_with fail
  go_ret
  exact ⟨rfl, BE.out⟩

theorem i64_in {n : Int} (h : (Lit.int .i64 n).wf = true) : -9223372036854775808 ≤ n ∧ n ≤ 9223372036854775807 := by simpa [Lit.wf, IntKind.min, IntKind.max, IntKind.signed, IntKind.bits] using h
theorem out_of (n : Int) (h : ¬ (0 ≤ n ∧ n ≤ 72057594037927935)) : n < 0 ∨ 72057594037927935 < n := by omega
end Go.Proofs.Ytbfhhlbnhcngfaa
