/- The table that the row lists is the table that the walks ask for, and the state that the program's own start-up leaves meets the condition. -/
import Derived.Test.YtehlbddcgnclaaaDoorTie
import Derived.Test.YtehlbddcgnclaaaDoorCards
import Derived.Test.YtehlbddcgnclaaaDoorSum
import Derived.ProofKit
import Derived.LaidMore
import Derived.OpenShut
import Derived.Stop.Joined
import Derived.Lib.LaidTab
namespace Go.Proofs.YtehlbddcgnclaaaDoor
open Go.ChangeShapes Go.WideShapes Go.ChangeAt Go.RowKit Plain
set_option linter.unusedVariables false

theorem own : ownKnob Tryd.prog.godebug = none := by kernel_rfl
theorem laidOut : laidOutB Tryd.prog = true := by kernel_rfl
theorem gHalves : Tryd.prog.globalNamed "buttery/crc.halves" = some 0 := by kernel_rfl
theorem tHalves : (Tryd.prog.globals[0]?).map (·.type) = some 74 := by kernel_rfl
def laid1 : List (String × DataW Unit) := [("buttery/crc.halves", Rows.laid_buttery_crc_halves)]
theorem laid_tab : laid1 = [("buttery/crc.halves", Lib.tabData .u32 tab)] := rfl

/-- The start-up's own heap meets the condition. -/
theorem door_met (os : Os) (args : Array Value) : laidMetH Tryd.prog laid1 ((World.doorLaid Tryd.prog 400 os).forCall (fun _ _ => 0) ⟨#[], args, []⟩).memory :=
  laidMetH_of_parts3 (fuel := 8) (laidMet_of_run' 8 (by kernel_rfl) (by kernel_rfl)) (by kernel_rfl) (by kernel_rfl)

/-- What the condition gives the walks. -/
theorem of_laid {W : World} (h : laidMetH Tryd.prog laid1 W) : HasTab W := by
  rw [MakeChecks.laidMetH_plain _ _ _ (by kernel_rfl), laid_tab] at h
  have hT := Lib.tabIs_of_head gHalves tHalves Tryd.underlying74 Tryd.underlying55 (by kernel_rfl) (by kernel_rfl) h
  intro i hi
  exact hT.cell gHalves i hi
end Go.Proofs.YtehlbddcgnclaaaDoor
