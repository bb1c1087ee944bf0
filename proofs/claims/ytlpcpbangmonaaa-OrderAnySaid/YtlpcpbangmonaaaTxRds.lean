/- The program's way of reading transactions, as plain mathematics: a state (what is left, the first error) that goes from part to part; it answers what the codec answers. The program's own reader of transactions as it lies in memory; what changes nothing but its block. The program's own reader of transactions: first, take, num, whole, text, count. (Written by gen-read.py.) The program's own reader of transactions: deps, drops, eff, effs, txn. (Written by gen-read2.py.) -/
import Derived.Test.YtlpcpbangmonaaaTxMaths
import Derived.Test.YtlpcpbangmonaaaTxn
import Derived.Test.YtlpcpbangmonaaaElGs
import Derived.Lib.MinMax
import Derived.Shelf.Abstract
import Derived.Deep.Cut
import Derived.Test.YtlpcpbangmonaaaTxIns
namespace Go.Proofs.Ytlpcpbangmonaaa.Plain
set_option linter.unusedVariables false

/-! ### no more bytes than there may be of a part -/
/-! ### what is left never grows -/
/-! ### what is put -/
end Go.Proofs.Ytlpcpbangmonaaa.Plain
namespace Go.Proofs.Ytlpcpbangmonaaa
open Go.RowKit Plain
set_option linter.unusedVariables false

/-- but for block g nothing that was there changes -/
structure But (g : Nat) (w w' : World) : Prop where
  below : Below g w w'
  block : ∀ k, k < w.heap.size → k ≠ g → w'.heap[k]? = w.heap[k]?
theorem But.refl (g : Nat) (w : World) : But g w w := ⟨Below.refl _ _, fun _ _ _ => rfl⟩
theorem But.trans {g : Nat} {a b c : World} (h : But g a b) (k : But g b c) : But g a c :=
  ⟨h.below.trans k.below, fun j hj hne => (k.block j (Nat.lt_of_lt_of_le hj h.below.size) hne).trans (h.block j hj hne)⟩
theorem But.of {g : Nat} {w w' : World} (h : Below w.heap.size w w') (hg : g ≤ w.heap.size) : But g w w' := ⟨h.mono hg, fun k hk _ => h.block k hk⟩
theorem But.set (g : Nat) (w : World) (i : Nat) (v : Value) : But g w (w.setCell ⟨g, i, none⟩ v) :=
  ⟨(Below.refl g w).setCell (Nat.le_refl _) v, fun k _ hne => Below.heap_setCell _ _ _ _ hne⟩
theorem But.then {g : Nat} {a b c : World} (h : But g a b) (k : Below b.heap.size b c) (hg : g ≤ b.heap.size) : But g a c := h.trans (But.of k hg)
theorem But.size {g : Nat} {w w' : World} (h : But g w w') : w.heap.size ≤ w'.heap.size := h.below.size
theorem But.grown {g : Nat} {w u w' : World} {row : Option Nat} (h : But g w u) (hg : u.grownBy w' row) (hw : g < w.heap.size) (hr : ∀ k, row = some k → w.heap.size ≤ k) : But g w w' := by
  have hs := h.below.size
  exact ⟨h.below.grown hg (by omega) fun k hk => by have := hr k hk; omega, fun k hk hne => (hg.block k (by omega) fun e => by have := hr k e.symm; omega).trans (h.block k hk hne)⟩
theorem But.alloc {g : Nat} {w u : World} (h : But g w u) (hw : g < w.heap.size) (o : Obj) : But g w (u.alloc o) := by
  have hs := h.below.size
  exact ⟨h.below.alloc (by omega) o, fun k hk hne => (Below.heap_alloc _ _ _ (by omega)).trans (h.block k hk hne)⟩
/-- flat elements of the call's own stand where only an older block changes -/
theorem OwnE.but {α : Type} {L : El α} (hf : Flat L) {B g : Nat} {w w' : World} {v : Value} {xs : List α} (h : OwnE L B w v xs) (hb : But g w w') (hg : g < B) : OwnE L B w' v xs := by
  obtain ⟨vals, ho, hr⟩ := h
  refine ⟨vals, ⟨ho.1, ?_⟩, ⟨hr.1, fun j x hj => hf (hr.2 j x hj)⟩⟩
  rcases ho.2 with hn | ⟨g', cap, cur, hv, hb', hg', hr'⟩
  · exact .inl hn
  · have hlt : g' < w.heap.size := (Array.getElem?_eq_some_iff.1 hg').1
    exact .inr ⟨g', cap, cur, hv, hb', (hb.block g' hlt (by omega)).trans hg', hr'⟩
/-- finer rows, too -/
theorem OwnJ.but {α : Type} {L : El α} {J : Nat → Prop} {B g : Nat} {w w' : World} {v : Value} {xs : List α} (h : OwnJ J L B w v xs) (hb : But g w w') (hg : g < B) (hj : ∀ b, J b → b ≠ g) : OwnJ J L B w' v xs :=
  h.kept hb.size fun b hl hq => hb.block b hl (hq.elim (hj b) fun k => by omega)
/-- one effect in a block of its own, its drops newer than the row that it is appended to -/
theorem one_effN {W : World} {x : PEff} {dv : Value} {C N : Nat} {ov : Value} (hs : Sq LDot (fun b => C ≤ b ∧ b < W.heap.size) W dv x.drops) (hg : ∀ k, ov.ownBlock = some k → k < C) (hz : C ≤ W.heap.size) (hN : N ≤ C) :
    Sq LEff (fun b => N ≤ b ∧ b < (W.alloc (.cells #[.int .i64 x.pos, .string (bt x.key), .string (bt x.field), .int .i64 x.kind, .string (bt x.elem), .int .i64 x.n, dv] 70)).heap.size ∧ ov.ownBlock ≠ some b) (W.alloc (.cells #[.int .i64 x.pos, .string (bt x.key), .string (bt x.field), .int .i64 x.kind, .string (bt x.elem), .int .i64 x.n, dv] 70)) (.slice (some ⟨W.heap.size, 0, none⟩) 1 1) [x] := by
  have hS : (W.alloc (.cells #[.int .i64 x.pos, .string (bt x.key), .string (bt x.field), .int .i64 x.kind, .string (bt x.elem), .int .i64 x.n, dv] 70)).heap.size = W.heap.size + 1 := by simp
  rw [hS]
  have hB : Below W.heap.size W (W.alloc (.cells #[.int .i64 x.pos, .string (bt x.key), .string (bt x.field), .int .i64 x.kind, .string (bt x.elem), .int .i64 x.n, dv] 70)) := (Below.refl _ _).alloc (Nat.le_refl _) _
  have hin : Sq LDot (fun b => N ≤ b ∧ b < W.heap.size + 1 ∧ ov.ownBlock ≠ some b) (W.alloc (.cells #[.int .i64 x.pos, .string (bt x.key), .string (bt x.field), .int .i64 x.kind, .string (bt x.elem), .int .i64 x.n, dv] 70)) dv x.drops :=
    (Sq.agree hs fun b hb => hB.block b hb.2).mono fun b hb => ⟨by omega, by omega, fun e => by have := hg b e; omega⟩
  refine ⟨_, 1, cellsEf x dv, rfl, Nat.le_refl _, by unfold maxLen; simp, (by simp), Rows.of_one ⟨_, rfl, hin⟩, fun _ => ⟨_, 0, rfl, ⟨by omega, by omega, fun e => by have := hg _ e; omega⟩, fun i u' hu => ?_⟩⟩
  rw [Nat.zero_add]
  have := World.cell?_alloc_new W #[.int .i64 x.pos, .string (bt x.key), .string (bt x.field), .int .i64 x.kind, .string (bt x.elem), .int .i64 x.n, dv] 70 i
  rw [this, ← Array.getElem?_toList]
  exact hu
theorem one_int (W : World) (x : Int) : SeqE LInt (W.alloc (.cells #[.int .i64 x] 3)) (.slice (some ⟨W.heap.size, 0, none⟩) 1 1) [x] := SeqE.one (L := LInt) (w := W) (vs := [.int .i64 x]) (x := x) rfl #[.int .i64 x] rfl
end Go.Proofs.Ytlpcpbangmonaaa
namespace Go.Proofs.Ytlpcpbangmonaaa
open Go.RowKit Plain
set_option linter.unusedVariables false

end Go.Proofs.Ytlpcpbangmonaaa
namespace Go.Proofs.Ytlpcpbangmonaaa
open Go.RowKit Plain
set_option linter.unusedVariables false

end Go.Proofs.Ytlpcpbangmonaaa
