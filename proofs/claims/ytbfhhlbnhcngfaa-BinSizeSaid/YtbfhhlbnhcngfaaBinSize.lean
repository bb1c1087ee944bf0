/-
  For any two numbers the law BinSize answers true: a number within 0 to 2^56 - 1 is put in as many bytes as its bits need, seven a byte, and the greater one never has fewer; a number beyond is put in none. No condition.
  (The frame was written by the guide's proof-skeleton.mjs; the walk is ours.)
-/
import Derived.Test.YtbfhhlbnhcngfaaRows
import Derived.WalkKit
import Derived.ProofKit
import Derived.OpenShut
import Derived.ShutString
import Derived.Test.YtbfhhlbnhcngfaaAwake
import Derived.Below
import Derived.ChangeOld
namespace Go.Proofs.Ytbfhhlbnhcngfaa.binSize
open Go.ChangeShapes Go.WideShapes Go.ChangeAt Go.RowKit
open Go.ChangeMaps (open_string shut_string)
set_option linter.unusedVariables false      -- a walk need not use every 'w<i>' (that an integer argument fits its kind)

theorem own : ownKnob Try.prog.godebug = none := by kernel_rfl
theorem laidOut : laidOutB Try.prog = true := by kernel_rfl

open Plain

/-- how many bytes are still to count -/
def rest (q : Nat) : Nat := if q = 0 then 0 else (form q).length
theorem rest_step {q : Nat} (h : 0 < q) : rest q = 1 + rest (q / 128) := by
  unfold rest
  rw [if_neg (by omega)]
  by_cases g : q < 128
  · rw [form_low g, if_pos (by omega)]; rfl
  · rw [form_high (by omega), if_neg (by omega), List.length_cons, Nat.add_comm]
theorem rest_first (n : Nat) : 1 + rest (n / 128) = (form n).length := by
  by_cases g : n < 128
  · rw [form_low g, show n / 128 = 0 by omega]; rfl
  · have := rest_step (show 0 < n by omega)
    unfold rest at this ⊢
    rw [if_neg (by omega)] at this
    exact this.symm
theorem rest_le {q : Nat} (h : q < 72057594037927936) : rest q ≤ 8 := by
  unfold rest
  split
  · omega
  · exact form_len8 q h

set_option maxRecDepth 100000 in
set_option maxHeartbeats 2000000 in
theorem both_ok (n m : Nat) (w : World) (hn : n < 72057594037927936) (hm : m < 72057594037927936) :
    Calls Try.prog 6 #[.int .i64 n, .int .i64 m] w fun e w' => e = .returned (.bool true) ∧ Below w.heap.size w w' := by
  have KA := Lib.hid (awake_any w)
  have K1 := Lib.hid (fun u => putNum_ok (Seq.nil u) (by simp) n hn)
  have K2 := Lib.hid (fun u => putNum_ok (Seq.nil u) (by simp) m hm)
  simp only [List.nil_append] at K1 K2
  have hmono : n ≤ m → (form n).length ≤ (form m).length := form_mono n m
  have HM := Lib.hid hmono
  have hp := form_pos n
  have hl1 := form_len8 n hn
  have hl2 := form_len8 m hm
  clear hmono
  go_enter Try.func6, Try.ntmps6
  go_wp2_with fail
  refine KA.out.mono ?_
  rintro e w1 ⟨rfl, hb1⟩
  have B1 := Lib.hid hb1
  clear hb1
  go_wp2_with fail
  refine (K1.out _).mono ?_
  rintro e w2 ⟨v2, rfl, ho2, hb2⟩
  obtain ⟨a2, c2, rfl, q1, q2, -, -⟩ := ho2.parts
  have B2 := Lib.hid (B1.out.trans (hb2.mono B1.out.size))
  clear ho2 hb2
  go_wp2_with fail
  refine (K2.out _).mono ?_
  rintro e w3 ⟨v3, rfl, ho3, hb3⟩
  obtain ⟨a3, c3, rfl, q3, q4, -, -⟩ := ho3.parts
  have B3 := Lib.hid (B2.out.trans (hb3.mono B2.out.size))
  clear ho3 hb3
  go_wp2_with fail
  have RF := Lib.hid (rest_first n)
  generalize (form n).length = L at *
  generalize (form m).length = M at *
  go_loop [9, 10] (fun s x => ∃ q z : Nat, q < 72057594037927936 ∧ x = .int .i64 q ∧ s = .int .i64 z ∧ z + rest q = L) (fun _ x => (intOf x).toNat)
  case atStart => exact ⟨n / 128, 1, by omega, by go_num, rfl, RF.out⟩
  case round =>
    obtain ⟨q, z, hq, rfl, rfl, hz⟩ := hrel
    by_cases h0 : 0 < q
    · have RS := Lib.hid (rest_step h0)
      have HZ := Lib.hid hz
      have hz8 : z ≤ 8 := by omega
      clear hz
      go_wp2_with fail
      go_round
      case rel => exact ⟨q / 128, z + 1, by omega, by go_num, by go_num, by rw [← HZ.out, RS.out]; omega⟩
      case measure => simp [intOf]; omega
    · obtain rfl : q = 0 := by omega
      obtain rfl : z = L := by simpa [rest] using hz
      clear hz
      by_cases hnm : n ≤ m
      · have hle := HM.out hnm
        go_wp2_with fail
        go_ret
        exact ⟨rfl, B3.out⟩
      · have hgt : m < n := by omega
        go_wp2_with fail
        go_ret
        exact ⟨rfl, B3.out⟩

set_option maxRecDepth 100000 in
set_option maxHeartbeats 2000000 in
theorem first_bad (n m : Int) (w : World) (n1 : -9223372036854775808 ≤ n) (n2 : n ≤ 9223372036854775807) (m1 : -9223372036854775808 ≤ m) (m2 : m ≤ 9223372036854775807) (hn : n < 0 ∨ 72057594037927935 < n) :
    Calls Try.prog 6 #[.int .i64 n, .int .i64 m] w fun e w' => e = .returned (.bool true) ∧ Below w.heap.size w w' := by
  have KA := Lib.hid (awake_any w)
  have K1 := Lib.hid (fun u => putNum_err (.slice none 0 0) u n n1 n2 hn)
  by_cases hm : 0 ≤ m ∧ m ≤ 72057594037927935
  · obtain ⟨k, rfl⟩ := Int.eq_ofNat_of_zero_le hm.1
    have K2 := Lib.hid (fun u => putNum_ok (Seq.nil u) (by simp) k (by omega))
    simp only [List.nil_append] at K2
    clear hn hm n1 n2 m1 m2
    go_enter Try.func6, Try.ntmps6
    go_wp2_with fail
    refine KA.out.mono ?_
    rintro e w1 ⟨rfl, hb1⟩
    have B1 := Lib.hid hb1
    clear hb1
    go_wp2_with fail
    refine (K1.out _).mono ?_
    rintro e w2 ⟨rfl, rfl⟩
    go_wp2_with fail
    refine (K2.out _).mono ?_
    rintro e w3 ⟨v3, rfl, ho3, hb3⟩
    obtain ⟨a3, c3, rfl, q3, q4, -, -⟩ := ho3.parts
    have B3 := Lib.hid (B1.out.trans (hb3.mono B1.out.size))
    clear ho3 hb3
    go_wp2_with fail
    go_ret
    exact ⟨rfl, B3.out⟩
  · have K2 := Lib.hid (fun u => putNum_err (.slice none 0 0) u m m1 m2 (out_of m hm))
    clear hn hm n1 n2 m1 m2
    go_enter Try.func6, Try.ntmps6
    go_wp2_with fail
    refine KA.out.mono ?_
    rintro e w1 ⟨rfl, hb1⟩
    have B1 := Lib.hid hb1
    clear hb1
    go_wp2_with fail
    refine (K1.out _).mono ?_
    rintro e w2 ⟨rfl, rfl⟩
    go_wp2_with fail
    refine (K2.out _).mono ?_
    rintro e w3 ⟨rfl, rfl⟩
    go_wp2_with fail
    go_ret
    exact ⟨rfl, B1.out⟩

set_option maxRecDepth 100000 in
set_option maxHeartbeats 2000000 in
theorem second_bad (k : Nat) (m : Int) (w : World) (hk : k < 72057594037927936) (m1 : -9223372036854775808 ≤ m) (m2 : m ≤ 9223372036854775807) (hm : m < 0 ∨ 72057594037927935 < m) :
    Calls Try.prog 6 #[.int .i64 k, .int .i64 m] w fun e w' => e = .returned (.bool true) ∧ Below w.heap.size w w' := by
  have KA := Lib.hid (awake_any w)
  have K1 := Lib.hid (fun u => putNum_ok (Seq.nil u) (by simp) k (by omega))
  simp only [List.nil_append] at K1
  have K2 := Lib.hid (fun u => putNum_err (.slice none 0 0) u m m1 m2 hm)
  clear hm m1 m2
  go_enter Try.func6, Try.ntmps6
  go_wp2_with fail
  refine KA.out.mono ?_
  rintro e w1 ⟨rfl, hb1⟩
  have B1 := Lib.hid hb1
  clear hb1
  go_wp2_with fail
  refine (K1.out _).mono ?_
  rintro e w3 ⟨v3, rfl, ho3, hb3⟩
  obtain ⟨a3, c3, rfl, q3, q4, -, -⟩ := ho3.parts
  have B3 := Lib.hid (B1.out.trans (hb3.mono B1.out.size))
  clear ho3 hb3
  go_wp2_with fail
  refine (K2.out _).mono ?_
  rintro e w2 ⟨rfl, rfl⟩
  go_wp2_with fail
  go_ret
  exact ⟨rfl, B3.out⟩

theorem walk (a0 : Int) (a1 : Int) (w : World) (w0 : (Lit.int .i64 a0).wf = true) (w1 : (Lit.int .i64 a1).wf = true) :
    Calls Try.prog 6 #[.int .i64 a0, .int .i64 a1] w fun e w' => e = .returned (.bool true) ∧ Below w.heap.size w w' := by
  obtain ⟨n1, n2⟩ := i64_in w0
  obtain ⟨m1, m2⟩ := i64_in w1
  by_cases hn : 0 ≤ a0 ∧ a0 ≤ 72057594037927935
  · obtain ⟨n, rfl⟩ := Int.eq_ofNat_of_zero_le hn.1
    by_cases hm : 0 ≤ a1 ∧ a1 ≤ 72057594037927935
    · obtain ⟨m, rfl⟩ := Int.eq_ofNat_of_zero_le hm.1
      exact both_ok n m w (by omega) (by omega)
    · exact second_bad n a1 w (by omega) m1 m2 (out_of a1 hm)
  · exact first_bad a0 a1 w n1 n2 m1 m2 (out_of a0 hn)

set_option maxRecDepth 100000 in
theorem lifted (os : Os) (started : os.Started) (H : Type) (enc : TypeId × Value → H) :
    ReturnsInHanded {} Try.checked os 6 .any (Rows.binSizeSpec.pre6 enc Try.prog Try.f6 Rows.binSizeRow.domain false) (Rows.binSizeSpec.post enc Try.prog Try.f6 false true false false) := by
  refine returnsInHanded_of_change (C := Try.checked) own started (by kernel_rfl) Try.func6
    (ChangeSpec.witness6 (enc := enc) (C := Try.checked) false ⟨#[], #[.int .i64 0, .int .i64 0], []⟩ 8 (by kernel_rfl) (by kernel_rfl) (by kernel_rfl) (by kernel_rfl)) ?_
  intro W base args ds gs before hval0 hW hcnd _
  have hval : ∀ (j : Nat) t v, Try.f6.params[j]? = some t → args[j]? = some v → Value.okWide Try.prog W .any base t v := hval0
  have hW' := hW
  obtain ⟨p, q, hA0, hV, rfl, hfz, hnd⟩ := hW
  have hA : DataW.TrodAll enc Try.prog W 0 (fun _ => true) true Try.f6.params.toList args.toList ds p := hA0
  rw [Try.params6] at hA hval
  obtain ⟨v0, vs0, d0, ds0, p0, q0, hargs, rfl, rfl, h0, r0⟩ := trodAll_cons hA
  obtain ⟨v1, vs1, d1, ds1, p1, q1, rfl, rfl, rfl, h1, r1⟩ := trodAll_cons r0
  obtain ⟨rfl, rfl, rfl⟩ := trodAll_nil r1
  obtain rfl : args = #[v0, v1] := by cases args; simp_all
  obtain ⟨rfl, rfl⟩ := trodVars_none hV
  obtain ⟨a0, rfl, rfl, rfl, w0⟩ := open_int Try.underlying3 (hval 0 3 v0 rfl rfl) h0
  obtain ⟨a1, rfl, rfl, rfl, w1⟩ := open_int Try.underlying3 (hval 1 3 v1 rfl rfl) h1
  clear hA0 hval0
  refine (walk a0 a1 W w0 w1).mono fun e W' ⟨he, bel⟩ => ?_
  subst he
  exact ⟨_, rfl, _, _, _, [], _, [], hW', trodAll_mk1 (shut_bool Try.underlying4 _), (trodAll_cons_mk (shut_int Try.underlying3 w0) (trodAll_cons_mk (shut_int Try.underlying3 w1) trodAll_mk0)), rfl, bel.frame _, fun h => by cases h⟩

theorem over : Rows.binSizeRow.holds Try.pinned (OpenSpec.ofChange Rows.binSizeSpec) :=
  OpenClaim.holds_of_wide 6 Try.f6 rfl rfl rfl rfl rfl rfl rfl ⟨rfl, rfl, rfl, rfl, rfl⟩ rfl rfl rfl rfl rfl (by kernel_rfl) Try.func6 (by kernel_rfl)
    (of_decide_eq_true (by kernel_rfl)) (by unfold Func.isWrapper; first | (rw [if_pos (by decide +kernel)]; kernel_rfl) | (rw [if_neg (by decide +kernel)]; exact ⟨rfl, rfl⟩))
    (fun os started H enc _ => lifted os started H enc)

/-- the given statement -/
theorem proved : Rows.BinSizeSaid :=
  over
#print axioms proved
end Go.Proofs.Ytbfhhlbnhcngfaa.binSize
