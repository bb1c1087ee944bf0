/- What the program's own compare of dots leaves. What the program's own isDot, areDrops and Formed of effects leave. (Written by gen-eform.py.) What the program's own Formed of effects leaves. What the program's own Right of effects leaves. (Written by gen-eright.py.) -/
import Derived.Test.YtlpcpbangmonaaaEMades
import Derived.Test.YtlpcpbangmonaaaISets
import Derived.Test.YtlpcpbangmonaaaShelf
import Derived.Deep.RegionHeld3
import Derived.Test.YtlpcpbangmonaaaRefSs
import Derived.IntWalk
import Derived.Test.YtlpcpbangmonaaaGives
import Derived.Sort.Grow
import Derived.Deep.Cut
import Derived.Test.YtlpcpbangmonaaaElSorts
import Derived.Test.YtlpcpbangmonaaaRefZs
import Derived.Test.YtlpcpbangmonaaaMaths
import Derived.Lib.SlicesCompact
import Derived.Deep.QuietTactic
import Derived.BigQuiet
namespace Go.Proofs.Ytlpcpbangmonaaa
open Go.RowKit Plain
set_option linter.unusedVariables false

theorem two_cells (w : World) (X Y : Array Value) (t u : TypeId) (i : Nat) :
    ((w.alloc (.cells X t)).alloc (.cells Y u)).cell? ⟨w.heap.size, i, none⟩ = X[i]? ∧ ((w.alloc (.cells X t)).alloc (.cells Y u)).cell? ⟨w.heap.size + 1, i, none⟩ = Y[i]? := by
  have s1 : (w.alloc (.cells X t)).heap.size = w.heap.size + 1 := by simp
  have h1 := World.cell?_alloc_new w X t i
  have h2 := World.cell?_alloc_new (w.alloc (.cells X t)) Y u i
  rw [s1] at h2
  have b2 := (Below.refl (w.heap.size + 1) (w.alloc (.cells X t))).alloc (by rw [s1]; exact Nat.le_refl _) (.cells Y u)
  exact ⟨(b2.cell (p := ⟨w.heap.size, i, none⟩) (show w.heap.size < w.heap.size + 1 by omega)).trans h1, h2⟩
end Go.Proofs.Ytlpcpbangmonaaa
namespace Go.Proofs.Ytlpcpbangmonaaa
open Go.RowKit Plain
set_option linter.unusedVariables false

def dotI (d : PDot) : PItem := ⟨[97], [], 1, [], 0, d⟩
end Go.Proofs.Ytlpcpbangmonaaa
namespace Go.Proofs.Ytlpcpbangmonaaa
open Go.RowKit Plain
set_option linter.unusedVariables false

theorem effAt_box (w : World) (x : PEff) (a : Option Addr) (n c : Nat) : EffAt (w.alloc (.cells #[.int .i64 x.pos, .string (bt x.key), .string (bt x.field), .int .i64 x.kind, .string (bt x.elem), .int .i64 x.n, .slice a n c] 70)) w.heap.size 0 x (.slice a n c) := ⟨by simp, by simp, by simp, by simp, by simp, by simp, by simp⟩
theorem EffAt.zero {w : World} {b : Nat} {x : PEff} {dv : Value} (h : EffAt w b 0 x dv) : w.cell? ⟨b, 0, none⟩ = some (.int .i64 x.pos) ∧ w.cell? ⟨b, 1, none⟩ = some (.string (bt x.key)) ∧ w.cell? ⟨b, 2, none⟩ = some (.string (bt x.field)) ∧ w.cell? ⟨b, 3, none⟩ = some (.int .i64 x.kind) ∧ w.cell? ⟨b, 4, none⟩ = some (.string (bt x.elem)) ∧ w.cell? ⟨b, 5, none⟩ = some (.int .i64 x.n) ∧ w.cell? ⟨b, 6, none⟩ = some dv := by
  obtain ⟨c0, c1, c2, c3, c4, c5, c6⟩ := h
  simp only [Nat.zero_add] at c1 c2 c3 c4 c5 c6
  exact ⟨c0, c1, c2, c3, c4, c5, c6⟩
theorem ItemAt.zero {w : World} {b : Nat} {x : PItem} (h : ItemAt w b 0 x) : w.cell? ⟨b, 0, none⟩ = some (.string (bt x.key)) ∧ w.cell? ⟨b, 1, none⟩ = some (.string (bt x.field)) ∧ w.cell? ⟨b, 2, none⟩ = some (.int .i64 x.kind) ∧ w.cell? ⟨b, 3, none⟩ = some (.string (bt x.elem)) ∧ w.cell? ⟨b, 4, none⟩ = some (.int .i64 x.n) ∧ w.cell? ⟨b, 5, none⟩ = some (.int .i64 x.dot.node) ∧ w.cell? ⟨b, 6, none⟩ = some (.int .i64 x.dot.seq) ∧ w.cell? ⟨b, 7, none⟩ = some (.int .i64 x.dot.pos) := by
  obtain ⟨c0, c1, c2, c3, c4, c5, c6, c7⟩ := h
  simp only [Nat.zero_add] at c1 c2 c3 c4 c5 c6 c7
  exact ⟨c0, c1, c2, c3, c4, c5, c6, c7⟩
theorem itemAt_box (w : World) (x : PItem) : ItemAt (w.alloc (.cells #[.string (bt x.key), .string (bt x.field), .int .i64 x.kind, .string (bt x.elem), .int .i64 x.n, .int .i64 x.dot.node, .int .i64 x.dot.seq, .int .i64 x.dot.pos] 98)) w.heap.size 0 x := ⟨by simp, by simp, by simp, by simp, by simp, by simp, by simp, by simp⟩
/-- an item whose Kind is stored anew -/
theorem ItemAt.kind {w : World} {b : Nat} {x : PItem} (h : ItemAt w b 0 x) (k : Int) : ItemAt (w.setCell ⟨b, 2, none⟩ (.int .i64 k)) b 0 ⟨x.key, x.field, k, x.elem, x.n, x.dot⟩ := by
  obtain ⟨c0, c1, c2, c3, c4, c5, c6, c7⟩ := h
  simp only [Nat.zero_add] at c1 c2 c3 c4 c5 c6 c7
  exact ⟨(World.cell?_setCell_other _ _ _ _ (by simp)).trans c0, (World.cell?_setCell_other _ _ _ _ (by simp)).trans c1, World.cell?_setCell_same _ _ _ c2, (World.cell?_setCell_other _ _ _ _ (by simp)).trans c3, (World.cell?_setCell_other _ _ _ _ (by simp)).trans c4, (World.cell?_setCell_other _ _ _ _ (by simp)).trans c5, (World.cell?_setCell_other _ _ _ _ (by simp)).trans c6, (World.cell?_setCell_other _ _ _ _ (by simp)).trans c7⟩

end Go.Proofs.Ytlpcpbangmonaaa
namespace Go.Proofs.Ytlpcpbangmonaaa
open Go.RowKit Plain
set_option linter.unusedVariables false

end Go.Proofs.Ytlpcpbangmonaaa
