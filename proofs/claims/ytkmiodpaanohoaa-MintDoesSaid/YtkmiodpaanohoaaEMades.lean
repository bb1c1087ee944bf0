/- What the program's own made and isOf of effects leave. What slices.IndexFunc and slices.ContainsFunc of dots leave, whatever is asked; the program's own dropsUnmade. -/
import Derived.Test.YtkmiodpaanohoaaEff
import Derived.Test.YtkmiodpaanohoaaMaths
import Derived.Test.YtkmiodpaanohoaaElG
import Derived.Test.YtkmiodpaanohoaaGives
import Derived.Deep.Cut
import Derived.Shelf.Abstract
namespace Go.Proofs.Ytkmiodpaanohoaa
open Go.RowKit Plain
set_option linter.unusedVariables false

set_option maxRecDepth 100000 in
set_option maxHeartbeats 4000000 in
/-- made -/
theorem emade_any (node seq : Int) (x : PEff) (a : Option Addr) (n c : Nat) (w : World) :
    Calls Try.prog 45 #[.int .i64 node, .int .i64 seq, .agg #[.int .i64 x.pos, .string (bt x.key), .string (bt x.field), .int .i64 x.kind, .string (bt x.elem), .int .i64 x.n, .slice a n c]] w fun e w' => e = .returned (.agg #[.string (bt x.key), .string (bt x.field), .int .i64 x.kind, .string (bt x.elem), .int .i64 x.n, .int .i64 node, .int .i64 seq, .int .i64 x.pos]) ∧ Below w.heap.size w w' := by
  show Calls Try.prog 45 _ w fun e w' => e = .returned (.agg #[.string (bt x.key), .string (bt x.field), .int .i64 x.kind, .string (bt x.elem), .int .i64 x.n, .int .i64 node, .int .i64 seq, .int .i64 x.pos]) ∧ Below w.heap.size w w'
  go_enter Try.func45, Try.ntmps45
  go_wp2_with fail
  refine bodyPost_ret (v := .agg #[.string (bt x.key), .string (bt x.field), .int .i64 x.kind, .string (bt x.elem), .int .i64 x.n, .int .i64 node, .int .i64 seq, .int .i64 x.pos]) (by simp [results, Try.results45, go_sem]) rfl ⟨rfl, ?_⟩
  exact (((Below.refl _ _).alloc (Nat.le_refl _) _).alloc (by simp) _).alloc (by simp; omega) _

def isOfB (node seq : Int) (d : PDot) : Bool := decide (d.node = node) && decide (d.seq = seq)
end Go.Proofs.Ytkmiodpaanohoaa
namespace Go.Proofs.Ytkmiodpaanohoaa
open Go.RowKit Plain
set_option linter.unusedVariables false

theorem dv_eq3 (d : PDot) : dv d = .agg #[.int .i64 d.node, .int .i64 d.seq, .int .i64 d.pos] := rfl
theorem three_cells (w : World) (X Y Z : Array Value) (t u s : TypeId) (i : Nat) :
    (((w.alloc (.cells X t)).alloc (.cells Y u)).alloc (.cells Z s)).cell? ⟨w.heap.size, i, none⟩ = X[i]? ∧
    (((w.alloc (.cells X t)).alloc (.cells Y u)).alloc (.cells Z s)).cell? ⟨w.heap.size + 1, i, none⟩ = Y[i]? ∧
    (((w.alloc (.cells X t)).alloc (.cells Y u)).alloc (.cells Z s)).cell? ⟨w.heap.size + 1 + 1, i, none⟩ = Z[i]? := by
  have s1 : (w.alloc (.cells X t)).heap.size = w.heap.size + 1 := by simp
  have s2 : ((w.alloc (.cells X t)).alloc (.cells Y u)).heap.size = w.heap.size + 1 + 1 := by simp
  have h1 := World.cell?_alloc_new w X t i
  have h2 := World.cell?_alloc_new (w.alloc (.cells X t)) Y u i
  have h3 := World.cell?_alloc_new ((w.alloc (.cells X t)).alloc (.cells Y u)) Z s i
  rw [s1] at h2
  rw [s2] at h3
  have b2 := (Below.refl (w.heap.size + 1) (w.alloc (.cells X t))).alloc (by rw [s1]; exact Nat.le_refl _) (.cells Y u)
  have b3 := (Below.refl (w.heap.size + 1 + 1) ((w.alloc (.cells X t)).alloc (.cells Y u))).alloc (by rw [s2]; exact Nat.le_refl _) (.cells Z s)
  exact ⟨(b3.cell (p := ⟨w.heap.size, i, none⟩) (show w.heap.size < w.heap.size + 1 + 1 by omega)).trans ((b2.cell (p := ⟨w.heap.size, i, none⟩) (show w.heap.size < w.heap.size + 1 by omega)).trans h1), (b3.cell (p := ⟨w.heap.size + 1, i, none⟩) (show w.heap.size + 1 < w.heap.size + 1 + 1 by omega)).trans h2, h3⟩
theorem unmade_is (node seq pos : Int) (d : PDot) : unmadeB node seq pos d = (isOfB node seq d && decide (pos ≤ d.pos)) := by
  unfold unmadeB isOfB
  rw [Bool.and_assoc]
end Go.Proofs.Ytkmiodpaanohoaa
