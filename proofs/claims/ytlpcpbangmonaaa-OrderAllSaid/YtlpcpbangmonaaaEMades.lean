/- What the program's own made and isOf of effects leave. What slices.IndexFunc and slices.ContainsFunc of dots leave, whatever is asked; the program's own dropsUnmade. -/
import Derived.Test.YtlpcpbangmonaaaEff
import Derived.Test.YtlpcpbangmonaaaMaths
import Derived.Test.YtlpcpbangmonaaaElGs
import Derived.Test.YtlpcpbangmonaaaGives
import Derived.Deep.Cut
import Derived.Shelf.Abstract
namespace Go.Proofs.Ytlpcpbangmonaaa
open Go.RowKit Plain
set_option linter.unusedVariables false

def isOfB (node seq : Int) (d : PDot) : Bool := decide (d.node = node) && decide (d.seq = seq)
end Go.Proofs.Ytlpcpbangmonaaa
namespace Go.Proofs.Ytlpcpbangmonaaa
open Go.RowKit Plain
set_option linter.unusedVariables false

theorem dv_eq3 (d : PDot) : dv d = .agg #[.int .i64 d.node, .int .i64 d.seq, .int .i64 d.pos] := rfl
theorem three_cells (w : World) (X Y Z : Array Value) (t u s : TypeId) (i : Nat) :
    (((w.alloc (.cells X t)).alloc (.cells Y u)).alloc (.cells Z s)).cell? ⟨w.heap.size, i, none⟩ = X[i]? ∧
    (((w.alloc (.cells X t)).alloc (.cells Y u)).alloc (.cells Z s)).cell? ⟨w.heap.size + 1, i, none⟩ = Y[i]? ∧
    (((w.alloc (.cells X t)).alloc (.cells Y u)).alloc (.cells Z s)).cell? ⟨w.heap.size + 1 + 1, i, none⟩ = Z[i]? := by
  have s1 : (w.alloc (.cells X t)).heap.size = w.heap.size + 1 := by simp
  have s2 : ((w.alloc (.cells X t)).alloc (.cells Y u)).heap.size = w.heap.size + 1 + 1 := by simp
  have h1 := World.cell?_alloc_new w X t i
  have h2 := World.cell?_alloc_new (w.alloc (.cells X t)) Y u i
  have h3 := World.cell?_alloc_new ((w.alloc (.cells X t)).alloc (.cells Y u)) Z s i
  rw [s1] at h2
  rw [s2] at h3
  have b2 := (Below.refl (w.heap.size + 1) (w.alloc (.cells X t))).alloc (by rw [s1]; exact Nat.le_refl _) (.cells Y u)
  have b3 := (Below.refl (w.heap.size + 1 + 1) ((w.alloc (.cells X t)).alloc (.cells Y u))).alloc (by rw [s2]; exact Nat.le_refl _) (.cells Z s)
  exact ⟨(b3.cell (p := ⟨w.heap.size, i, none⟩) (show w.heap.size < w.heap.size + 1 + 1 by omega)).trans ((b2.cell (p := ⟨w.heap.size, i, none⟩) (show w.heap.size < w.heap.size + 1 by omega)).trans h1), (b3.cell (p := ⟨w.heap.size + 1, i, none⟩) (show w.heap.size + 1 < w.heap.size + 1 + 1 by omega)).trans h2, h3⟩
theorem unmade_is (node seq pos : Int) (d : PDot) : unmadeB node seq pos d = (isOfB node seq d && decide (pos ≤ d.pos)) := by
  unfold unmadeB isOfB
  rw [Bool.and_assoc]
end Go.Proofs.Ytlpcpbangmonaaa
