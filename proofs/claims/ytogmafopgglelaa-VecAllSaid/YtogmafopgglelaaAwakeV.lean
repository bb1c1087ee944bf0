/- The law's own two functions: awake, few. -/
import Derived.Test.YtogmafopgglelaaVecG
import Derived.Test.YtogmafopgglelaaRefX
namespace Go.Proofs.Ytogmafopgglelaa
open Go.RowKit Plain
set_option linter.unusedVariables false

set_option maxRecDepth 100000 in
set_option maxHeartbeats 1000000 in
theorem few_any (a : Option Addr) (n c m : Nat) (w : World) (hM : min (n : Int) 100 = (m : Int)) (h0 : (m : Int) ≤ c) (hn : (n : Int) ≤ c) :
    Calls Try.prog 8 #[.slice a n c] w fun e w' => e = .returned (.slice a m c) ∧ w = w' := by
  go_enter Try.func8, Try.ntmps8
  go_wp2_with fail
  go_ret
  exact ⟨rfl, rfl⟩

theorem join_example : join [1, 0, 5] [0, 2] = [1, 2, 5] := by decide +kernel

set_option maxRecDepth 100000 in
set_option maxHeartbeats 4000000 in
theorem awake_any (w : World) : Calls Try.prog 7 #[] w fun e w' => e = .returned (.bool true) ∧ Below w.heap.size w w' := by
  have S1 := seqI_lit w [1, 0, 5] #[.int .i64 1, .int .i64 0, .int .i64 5] rfl (by simp)
  have S2 := seqI_lit (w.alloc (.cells #[.int .i64 1, .int .i64 0, .int .i64 5] 3)) [0, 2] #[.int .i64 0, .int .i64 2] rfl (by simp)
  rw [show (w.alloc (.cells #[.int .i64 1, .int .i64 0, .int .i64 5] 3)).heap.size = w.heap.size + 1 by simp] at S2
  have hB : Below w.heap.size w ((w.alloc (.cells #[.int .i64 1, .int .i64 0, .int .i64 5] 3)).alloc (.cells #[.int .i64 0, .int .i64 2] 3)) := ((Below.refl _ _).alloc (Nat.le_refl _) _).alloc (by simp) _
  have KJ := join_any (S1.below_alloc _) S2 (by simp) (by simp)
  rw [join_example] at KJ
  simp only [List.length_cons, List.length_nil, Nat.zero_add, Nat.reduceAdd] at KJ
  have HJ := Lib.hid KJ
  have HB := Lib.hid hB
  clear S1 S2 KJ hB
  go_enter Try.func7, Try.ntmps7
  go_wp2_with fail
  refine HJ.out.mono ?_
  rintro e u ⟨v, rfl, ho, hb⟩
  have G1 := Lib.hid (HB.out.trans (hb.mono HB.out.size))
  have S3 := seqI_lit u [1, 2, 5] #[.int .i64 1, .int .i64 2, .int .i64 5] rfl (by simp)
  have SV := Lib.hid (ho.seq.below_alloc (.cells #[.int .i64 1, .int .i64 2, .int .i64 5] 3))
  have G2 := Lib.hid (G1.out.alloc G1.out.size (.cells #[.int .i64 1, .int .i64 2, .int .i64 5] 3))
  have KE := Lib.hid (requal_yes SV.out S3)
  clear ho hb S3
  go_wp2_with fail
  refine KE.out.mono ?_
  rintro e u2 ⟨rfl, n2, rfl⟩
  have KA := at_any (SV.out.drawn n2) 1
  have e1 : saysI [1, 2, 5] 1 = 2 := by decide +kernel
  rw [e1] at KA
  have KH := has_any (SV.out.drawn n2) 2 5 0
  have e2 : (decide ((1 : Int) ≤ 5) && decide ((5 : Int) ≤ saysI [1, 2, 5] 2)) = true := by decide +kernel
  rw [e2] at KH
  have HKH := Lib.hid KH
  have G3 := Lib.hid (below_drewN G2.out n2)
  clear e1 e2 KH
  generalize (u.alloc (.cells #[.int .i64 1, .int .i64 2, .int .i64 5] 3)).drewN n2 = u3 at *
  go_wp2_with fail
  refine KA.mono ?_
  rintro e w' ⟨rfl, rfl⟩
  clear KA
  go_wp2_with fail
  refine HKH.out.mono ?_
  rintro e u4 ⟨rfl, hb⟩
  have G4 := Lib.hid (G3.out.trans (hb.mono G3.out.size))
  clear hb
  go_wp2_with fail
  go_ret
  exact ⟨rfl, G4.out⟩
end Go.Proofs.Ytogmafopgglelaa
