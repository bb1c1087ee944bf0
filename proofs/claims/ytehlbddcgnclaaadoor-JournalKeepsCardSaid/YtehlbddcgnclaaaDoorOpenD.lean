/- What an argument that is a disk hands over. -/
import Derived.Test.YtehlbddcgnclaaaDoorRefD
import Derived.Lib.SmallJoins
import Derived.OpenShut
import Derived.Deep.Slices
import Derived.Deep.Strs
namespace Go.Proofs.YtehlbddcgnclaaaDoor
open Go.RowKit Plain Go.ChangeShapes Go.WideShapes Go.Joins
set_option linter.unusedVariables false

theorem row_of_trod {H : Type} {enc : TypeId × Value → H} {W : World} {fuel : Nat} {v : Value} {y : DataW H × List MemPlace} (hf : DataW.trod enc Tryd.prog W 0 (fun _ => true) true fuel 22 [v] = some y) : ∃ a n c z, v = .slice a n c ∧ IsRow .u8 W a n c z := by
  rcases open_ints Tryd.underlying22 Tryd.underlying5 (by kernel_rfl) hf with ⟨hcs, _⟩ | ⟨x, l, c, zs, hcs, _, hl, hm, hz, _, hcell, hwz⟩
  · simp at hcs
    subst hcs
    exact ⟨none, 0, 0, [], rfl, .inl ⟨rfl, rfl, rfl, rfl⟩⟩
  · simp at hcs
    subst hcs
    exact ⟨_, _, _, zs, rfl, .inr ⟨_, rfl, hl, hm, by simpa using hz, hcell, hwz⟩⟩
/-- an argument that is a disk -/
def IsDisk (w : World) (v : Value) : Prop := ∃ a1 n1 c1 z1 a2 n2 c2 z2, v = .agg #[.slice a1 n1 c1, .slice a2 n2 c2] ∧ IsRow .u8 w a1 n1 c1 z1 ∧ IsRow .u8 w a2 n2 c2 z2
theorem cellsD : Tryd.prog.cellsOf 24 = 2 := by kernel_rfl
theorem disk_of_trod {H : Type} {enc : TypeId × Value → H} {W : World} {r : Reach} {b : Nat} {v : Value} {d : DataW H} {p : List MemPlace} (hv : Value.okWide Tryd.prog W r b 24 v) (h : DataW.Trod enc Tryd.prog W 0 (fun _ => true) true 24 v d p) : IsDisk W v := by
  obtain ⟨v0, v1, y0, y1, n, rfl, rfl, rfl, h0, h1⟩ := open_agg2 Tryd.underlying24 (by kernel_rfl) cellsD hv h
  obtain ⟨a1, n1, c1, z1, rfl, i1⟩ := row_of_trod h0
  obtain ⟨a2, n2, c2, z2, rfl, i2⟩ := row_of_trod h1
  exact ⟨a1, n1, c1, z1, a2, n2, c2, z2, rfl, i1, i2⟩
end Go.Proofs.YtehlbddcgnclaaaDoor
