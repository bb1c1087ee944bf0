/- What an argument that is a dot hands over. -/
import Derived.Test.YtogmafopgglelaaWalkV
import Derived.Lib.SmallJoins
import Derived.OpenShut
namespace Go.Proofs.Ytogmafopgglelaa
open Go.RowKit Plain Go.ChangeShapes Go.WideShapes Go.Joins
set_option linter.unusedVariables false

/-- an argument that is a dot -/
def IsDot (v : Value) : Prop := ∃ p q r, v = .agg #[.int .i64 p, .int .i64 q, .int .i64 r]
theorem cellsDot : Try.prog.cellsOf 25 = 3 := by kernel_rfl
theorem dot_of_trod {H : Type} {enc : TypeId × Value → H} {W : World} {r : Reach} {b : Nat} {v : Value} {d : DataW H} {p : List MemPlace} (hv : Value.okWide Try.prog W r b 25 v) (h : DataW.Trod enc Try.prog W 0 (fun _ => true) true 25 v d p) : IsDot v := by
  obtain ⟨v0, v1, v2, y0, y1, y2, n, rfl, rfl, rfl, h0, h1, h2⟩ := open_agg3 Try.underlying25 (by kernel_rfl) cellsDot hv h
  obtain ⟨k0, g0, -, -⟩ := DataW.trod_int Try.underlying3 h0
  obtain ⟨k1, g1, -, -⟩ := DataW.trod_int Try.underlying3 h1
  obtain ⟨k2, g2, -, -⟩ := DataW.trod_int Try.underlying3 h2
  simp at g0 g1 g2
  subst g0 g1 g2
  exact ⟨k0, k1, k2, rfl⟩
end Go.Proofs.Ytogmafopgglelaa
