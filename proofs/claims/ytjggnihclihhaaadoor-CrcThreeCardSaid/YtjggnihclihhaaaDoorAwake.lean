/- The fixed answer with which each statement begins holds; the table stays where it is behind what a call makes. -/
import Derived.Test.YtjggnihclihhaaaDoorSeq
import Derived.Lib.SlBytesConst
import Derived.BigQuiet
import Derived.Deep.QuietTactic
import Derived.WalkSmall
namespace Go.Proofs.YtjggnihclihhaaaDoor
open Go.RowKit Plain
set_option linter.unusedVariables false

/-- a contract that leaves the world alone, in a region that draws -/
theorem quiet_left {P : Program} {f : FuncId} {args : Array Value} {w : World} {n : Nat} {v : Value}
    (h : Calls P f args (w.drewN n) fun e w' => e = .returned v ∧ w.drewN n = w') : Calls P f args (w.drewN n) fun e w'' => e = .returned v ∧ ∃ m, w'' = w.drewN m :=
  h.mono fun _ _ ⟨he, hm⟩ => ⟨he, n, hm.symm⟩

theorem HasTab.below {w w' : World} (h : HasTab w) (hb : Below w.heap.size w w') : HasTab w' := fun i hi => by
  have hlt : 0 < w.heap.size := World.block_lt_of_cell? w ⟨0, i, none⟩ (h i hi)
  exact (hb.cell (p := ⟨0, i, none⟩) hlt).trans (h i hi)
theorem HasTab.below' {w w1 w' : World} (h : HasTab w) (hb : Below w1.heap.size w w') (h0 : 0 < w1.heap.size) : HasTab w' := fun i hi =>
  (hb.cell (p := ⟨0, i, none⟩) h0).trans (h i hi)

def nine : Bytes := [49#8, 50#8, 51#8, 52#8, 53#8, 54#8, 55#8, 56#8, 57#8]
theorem sum_nine : ((sum nine).toNat : Int) = 3421780262 := by decide +kernel

theorem awake_any (w : World) (hT : HasTab w) : Calls Tryd.prog 8 #[] w fun e w' => e = .returned (.bool true) ∧ Below w.heap.size w w' := by
  have hb : Below w.heap.size w (w.alloc (Obj.cells #[Value.int IntKind.u8 49, Value.int IntKind.u8 50, Value.int IntKind.u8 51, Value.int IntKind.u8 52, Value.int IntKind.u8 53, Value.int IntKind.u8 54, Value.int IntKind.u8 55, Value.int IntKind.u8 56, Value.int IntKind.u8 57] 5 (9, 10))) :=
    (Below.refl _ _).alloc (Nat.le_refl _) _
  have hs : Seq (w.alloc (Obj.cells #[Value.int IntKind.u8 49, Value.int IntKind.u8 50, Value.int IntKind.u8 51, Value.int IntKind.u8 52, Value.int IntKind.u8 53, Value.int IntKind.u8 54, Value.int IntKind.u8 55, Value.int IntKind.u8 56, Value.int IntKind.u8 57] 5 (9, 10))) (.slice (some ⟨w.heap.size, 0, none⟩) 9 9) nine := by
    refine ⟨_, 9, rfl, by decide, by unfold maxLen; omega, fun _ => ⟨w.heap.size, 0, rfl, fun j hj => ?_⟩⟩
    refine (cell_of_row _ w.heap.size (0 + j) _ 5 (9, 10) (heap_alloc_new w _)).trans ?_
    match j, hj with
    | 0, _ => rfl
    | 1, _ => rfl
    | 2, _ => rfl
    | 3, _ => rfl
    | 4, _ => rfl
    | 5, _ => rfl
    | 6, _ => rfl
    | 7, _ => rfl
    | 8, _ => rfl
  have H := sum_seq hs (hT.below hb)
  rw [sum_nine] at H
  have K := Lib.hid H
  have B := Lib.hid hb
  clear H hs hb hT
  have kc := fun (w : World) (C : Array Value) (n c : Nat) => Lib.run_convert_bytes_const (P := Tryd.prog) w 22 5 C n c Tryd.underlying22 Tryd.underlying5
  go_enter Tryd.func8, Tryd.ntmps8
  go_wp2_with fail
  refine K.out.mono ?_
  rintro e w' ⟨rfl, rfl⟩
  go_wp2_with fail
  go_ret
  exact ⟨rfl, B.out⟩
end Go.Proofs.YtjggnihclihhaaaDoor
