/- The fixed answer with which each statement of layer 5 begins holds. -/
import Derived.Test.YtldhbhgpdjebaaaCrash
import Derived.Lib.SlBytesConst
import Derived.BigQuiet
import Derived.WalkSmall
namespace Go.Proofs.Ytldhbhgpdjebaaa
open Go.RowKit Plain
set_option linter.unusedVariables false

set_option maxHeartbeats 2000000 in
theorem awake_any (w : World) : Calls Try.prog 7 #[] w fun e w' => e = .returned (.bool true) ∧ Below w.heap.size w w' := by
  have kc := fun (w : World) (C : Array Value) (n c : Nat) => Lib.run_convert_bytes_const (P := Try.prog) w 22 5 C n c Try.underlying22 Try.underlying5
  have kc2 := fun (o : Obj) (C : Array Value) (n c : Nat) => kc (w.alloc o) C n c
  simp only [show ∀ o, (w.alloc o).heap.size = w.heap.size + 1 from fun o => by simp] at kc2
  go_enter Try.func7, Try.ntmps7
  go_wp2_with fail
  refine (write_ok (f := [97#8, 98#8]) (l := []) (b := [99#8, 100#8]) ((seq_litF w [97#8, 98#8] _ (2, 3) rfl (by decide)).below_alloc _) (Seq.nil _) (by have h := seq_litF (w.alloc (Obj.cells #[Value.int IntKind.u8 97, Value.int IntKind.u8 98] 5 (2, 3))) [99#8, 100#8] #[Value.int IntKind.u8 99, Value.int IntKind.u8 100] (2, 3) rfl (by decide); rw [show ∀ o, (w.alloc o).heap.size = w.heap.size + 1 from fun o => by simp] at h; exact h) (by decide)).mono ?_
  rintro e w1 ⟨v1, x1, rfl, ho1, hx1, hb1⟩
  obtain ⟨a1, c1, rfl, -, -, ho1⟩ := ho1.at 2 rfl
  obtain ⟨a2, c2, rfl, -, -, hx1⟩ := hx1.at 2 rfl
  have G1 := Lib.hid ((((Below.refl _ _).alloc (Nat.le_refl _) _).alloc (le_alloc _ _) _).trans (hb1.mono (by simp; omega)) : Below w.heap.size w w1)
  have O1 := Lib.hid ho1.seq
  have X1 := Lib.hid hx1.seq
  clear ho1 hx1 hb1
  go_wp2_with fail
  refine (crash_any (k := 1) (O1.out.below_alloc _) (X1.out.below_alloc _) (by decide) (by decide)).mono ?_
  rintro e w2 ⟨v2, x2, rfl, ho2, hx2, hb2⟩
  obtain ⟨a3, c3, rfl, -, -, ho2⟩ := ho2.at 3 rfl
  obtain ⟨a4, c4, rfl, -, -, hx2⟩ := hx2.at 0 rfl
  have G2 := Lib.hid ((G1.out.alloc G1.out.size _).trans (hb2.mono (by have := G1.out.size; simp; omega)) : Below w.heap.size w w2)
  have O2 := Lib.hid ho2.seq
  have X2 := Lib.hid hx2.seq
  clear ho2 hx2 hb2
  go_wp2_with fail
  refine (all_any O2.out X2.out (by decide)).mono ?_
  rintro e w3 ⟨v3, rfl, ho3, hb3⟩
  have tr := text_run ho3.seq
  obtain ⟨a5, c5, rfl, -, -, ho3⟩ := ho3.at 3 rfl
  have hsb : sb ([97#8, 98#8] ++ List.take 1 ([] ++ [99#8, 100#8]) ++ []) = { data := #[97, 98, 99] } := by decide +kernel
  rw [hsb] at tr
  have G3 := Lib.hid (G2.out.trans (hb3.mono G2.out.size))
  clear hb3 ho3 hsb
  go_wp2_with fail
  go_ret
  exact ⟨rfl, G3.out⟩
end Go.Proofs.Ytldhbhgpdjebaaa
