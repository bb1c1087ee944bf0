/- What the document's own Only of effects leaves. -/
import Derived.Test.YtlpcpbangmonaaaEDos
import Derived.Test.YtlpcpbangmonaaaRefIs
namespace Go.Proofs.Ytlpcpbangmonaaa
open Go.RowKit Plain
set_option linter.unusedVariables false

/-- one effect in a block of its own; what its drops look at is older -/
theorem one_effO {W : World} {x : PEff} {av : Option Addr} {nv cv C : Nat} {ov : Value} (hs : Sq LDot (· < C) W (.slice av nv cv) x.drops) (hg : ∀ k, ov.ownBlock = some k → C ≤ k ∧ k < W.heap.size) (hz : C ≤ W.heap.size) :
    Sq LEff (fun b => b < (W.alloc (.cells #[.int .i64 x.pos, .string (bt x.key), .string (bt x.field), .int .i64 x.kind, .string (bt x.elem), .int .i64 x.n, .slice av nv cv] 70)).heap.size ∧ ov.ownBlock ≠ some b) (W.alloc (.cells #[.int .i64 x.pos, .string (bt x.key), .string (bt x.field), .int .i64 x.kind, .string (bt x.elem), .int .i64 x.n, .slice av nv cv] 70)) (.slice (some ⟨W.heap.size, 0, none⟩) 1 1) [x] := by
  have hS : (W.alloc (.cells #[.int .i64 x.pos, .string (bt x.key), .string (bt x.field), .int .i64 x.kind, .string (bt x.elem), .int .i64 x.n, .slice av nv cv] 70)).heap.size = W.heap.size + 1 := by simp
  rw [hS]
  have hB : Below W.heap.size W (W.alloc (.cells #[.int .i64 x.pos, .string (bt x.key), .string (bt x.field), .int .i64 x.kind, .string (bt x.elem), .int .i64 x.n, .slice av nv cv] 70)) := (Below.refl _ _).alloc (Nat.le_refl _) _
  have hin : Sq LDot (fun b => b < W.heap.size + 1 ∧ ov.ownBlock ≠ some b) (W.alloc (.cells #[.int .i64 x.pos, .string (bt x.key), .string (bt x.field), .int .i64 x.kind, .string (bt x.elem), .int .i64 x.n, .slice av nv cv] 70)) (.slice av nv cv) x.drops :=
    (Sq.agree hs fun b hb => hB.block b (Nat.lt_of_lt_of_le hb hz)).mono fun b hb => ⟨by omega, fun e => by have := (hg b e).1; omega⟩
  refine ⟨_, 1, cellsEf x (.slice av nv cv), rfl, Nat.le_refl _, by unfold maxLen; simp, (by simp), Rows.of_one ⟨_, rfl, hin⟩, fun _ => ⟨_, 0, rfl, ⟨by omega, fun e => by have := (hg _ e).2; omega⟩, fun i u' hu => ?_⟩⟩
  rw [Nat.zero_add]
  have := World.cell?_alloc_new W #[.int .i64 x.pos, .string (bt x.key), .string (bt x.field), .int .i64 x.kind, .string (bt x.elem), .int .i64 x.n, .slice av nv cv] 70 i
  rw [this, ← Array.getElem?_toList]
  exact hu
end Go.Proofs.Ytlpcpbangmonaaa
