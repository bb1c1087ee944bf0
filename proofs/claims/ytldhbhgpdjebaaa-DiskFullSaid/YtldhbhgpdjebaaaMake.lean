/- make([]byte, n), whatever n: noughts, in a slice of the call's own. -/
import Derived.Test.YtldhbhgpdjebaaaWords
import Derived.Deep.OwnRows
namespace Go.Proofs.Ytldhbhgpdjebaaa
open Go.RowKit Plain
set_option linter.unusedVariables false

/-- make([]byte, n): noughts, in a slice of the call's own -/
theorem wpList_makeZ {w : World} {ops : Array Oper} {rest : List Oper} {o : Oper} {a : Act} {Q : Exit → Act → World → Prop} (hg : o.guard = none) (l : Operand) (ho : o.op = Op.makeSlice 22 l l)
    (m : Int) (n : Nat) (hl : a.eval l = .int .i64 m) (hm : m = (n : Int)) (hn : n ≤ 16777216)
    (h : ∀ w', Owns w.heap.size w' (.slice (some ⟨w.heap.size, 0, none⟩) n n) (List.replicate n 0#8) → Below w.heap.size w w' → wpList Try.prog ops Q rest (a.put o.dst (.slice (some ⟨w.heap.size, 0, none⟩) n n)) w') :
    wpList Try.prog ops Q (o :: rest) a w := by
  subst hm
  obtain ⟨i0, hi, hz0, hz1, hz2⟩ := info_parts info2'
  refine wpList_make_row w hg l l 22 ho 5 i0 (.int .u8 0) Try.underlying22 hi hz0 hz1 rfl .i64 .i64 n hl hl (by rw [hz2]; omega) (by omega) ?_
  refine h _ ?_ ((Below.refl _ _).alloc (Nat.le_refl _) _)
  have hr := World.ownsRow_lit (base := w.heap.size) (e := 5) (size := 1) w (madeCells #[.int .u8 0] n) n (Nat.le_refl _) (by unfold maxLen; omega) (by rw [size_madeCells, Nat.mul_one])
  rw [toList_madeCells_one] at hr
  have e : List.replicate n (Value.int .u8 0) = (List.replicate n 0#8).map bv := by rw [List.map_replicate]; rfl
  rw [e] at hr
  unfold Owns
  rw [List.length_replicate]
  exact hr

end Go.Proofs.Ytldhbhgpdjebaaa
