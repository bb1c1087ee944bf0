/- The program's way of reading transactions, as plain mathematics: a state (what is left, the first error) that goes from part to part; it answers what the codec answers. The program's own reader of transactions as it lies in memory; what changes nothing but its block. The program's own reader of transactions: first, take, num, whole, text, count. (Written by gen-read.py.) The program's own reader of transactions: deps, drops, eff, effs, txn. (Written by gen-read2.py.) -/
import Derived.Test.YtmknpmamkjjiaaaGreatTxMaths
import Derived.Test.YtmknpmamkjjiaaaGreatRows
import Derived.Test.YtmknpmamkjjiaaaGreatMaths
import Derived.WalkKit
import Derived.Outline
import Derived.Lib.Hide
import Derived.Laws.BitsAllLaws
import Derived.Maps.AppendAt
import Derived.OpenShut
import Derived.Laws.AppendOwnNone
import Derived.Lib.AppendStr
import Derived.Laws.IdiomStrings
import Derived.Laws.BytesArg
import Derived.BigQuiet
import Derived.Deep.QuietTactic
import Derived.WalkSmall
import Derived.Lib.AppendZeros
import Derived.WalkSpells
import Derived.OwnWalk
import Derived.Deep.RegionWith
import Derived.Deep.RegionHeld3
import Derived.Test.YtmknpmamkjjiaaaGreatTWords
import Derived.Test.YtmknpmamkjjiaaaGreatTxn
import Derived.Test.YtmknpmamkjjiaaaGreatElGs
import Derived.Lib.MinMax
import Derived.Shelf.Abstract
import Derived.Deep.Cut
import Derived.Test.YtmknpmamkjjiaaaGreatTxIns
namespace Go.Proofs.YtmknpmamkjjiaaaGreat.Plain
set_option linter.unusedVariables false

/-! ### no more bytes than there may be of a part -/
/-! ### what is left never grows -/
/-! ### what is put -/
end Go.Proofs.YtmknpmamkjjiaaaGreat.Plain
namespace Go.Proofs.YtmknpmamkjjiaaaGreat
open Go.RowKit Plain
set_option linter.unusedVariables false

/-- but for block g nothing that was there changes -/
structure But (g : Nat) (w w' : World) : Prop where
 below : Below g w w'
 block : ∀ k, k < w.heap.size → k ≠ g → w'.heap[k]? = w.heap[k]?
theorem But.trans {g : Nat} {a b c : World} (h : But g a b) (k : But g b c) : But g a c :=
 ⟨h.below.trans k.below, fun j hj hne => (k.block j (Nat.lt_of_lt_of_le hj h.below.size) hne).trans (h.block j hj hne)⟩
theorem But.of {g : Nat} {w w' : World} (h : Below w.heap.size w w') (hg : g ≤ w.heap.size) : But g w w' := ⟨h.mono hg, fun k hk _ => h.block k hk⟩
theorem But.set (g : Nat) (w : World) (i : Nat) (v : Value) : But g w (w.setCell ⟨g, i, none⟩ v) :=
 ⟨(Below.refl g w).setCell (Nat.le_refl _) v, fun k _ hne => Below.heap_setCell _ _ _ _ hne⟩
theorem But.then {g : Nat} {a b c : World} (h : But g a b) (k : Below b.heap.size b c) (hg : g ≤ b.heap.size) : But g a c := h.trans (But.of k hg)
theorem But.size {g : Nat} {w w' : World} (h : But g w w') : w.heap.size ≤ w'.heap.size := h.below.size
/-- flat elements of the call's own stand where only an older block changes -/
theorem OwnE.but {α : Type} {L : El α} (hf : Flat L) {B g : Nat} {w w' : World} {v : Value} {xs : List α} (h : OwnE L B w v xs) (hb : But g w w') (hg : g < B) : OwnE L B w' v xs := by
 obtain ⟨vals, ho, hr⟩ := h
 refine ⟨vals, ⟨ho.1, ?_⟩, ⟨hr.1, fun j x hj => hf (hr.2 j x hj)⟩⟩
 rcases ho.2 with hn | ⟨g', cap, cur, hv, hb', hg', hr'⟩
 ·exact .inl hn
 ·have hlt : g' < w.heap.size := (Array.getElem?_eq_some_iff.1 hg').1
  exact .inr ⟨g', cap, cur, hv, hb', (hb.block g' hlt (by omega)).trans hg', hr'⟩
/-- finer rows, too -/
theorem OwnJ.but {α : Type} {L : El α} {J : Nat → Prop} {B g : Nat} {w w' : World} {v : Value} {xs : List α} (h : OwnJ J L B w v xs) (hb : But g w w') (hg : g < B) (hj : ∀ b, J b → b ≠ g) : OwnJ J L B w' v xs :=
 h.kept hb.size fun b hl hq => hb.block b hl (hq.elim (hj b) fun k => by omega)
/-- one effect in a block of its own, its drops newer than the row that it is appended to -/
theorem one_effN {W : World} {x : PEff} {dv : Value} {C N : Nat} {ov : Value} (hs : Sq LDot (fun b => C ≤ b ∧ b < W.heap.size) W dv x.drops) (hg : ∀ k, ov.ownBlock = some k → k < C) (hz : C ≤ W.heap.size) (hN : N ≤ C) :
  Sq LEff (fun b => N ≤ b ∧ b < (W.alloc (.cells #[.int .i64 x.pos, .string (bt x.key), .string (bt x.field), .int .i64 x.kind, .string (bt x.elem), .int .i64 x.n, dv] 61)).heap.size ∧ ov.ownBlock ≠ some b) (W.alloc (.cells #[.int .i64 x.pos, .string (bt x.key), .string (bt x.field), .int .i64 x.kind, .string (bt x.elem), .int .i64 x.n, dv] 61)) (.slice (some ⟨W.heap.size, 0, none⟩) 1 1) [x] := by
 have hS : (W.alloc (.cells #[.int .i64 x.pos, .string (bt x.key), .string (bt x.field), .int .i64 x.kind, .string (bt x.elem), .int .i64 x.n, dv] 61)).heap.size = W.heap.size + 1 := by simp
 rw [hS]
 have hB : Below W.heap.size W (W.alloc (.cells #[.int .i64 x.pos, .string (bt x.key), .string (bt x.field), .int .i64 x.kind, .string (bt x.elem), .int .i64 x.n, dv] 61)) := (Below.refl _ _).alloc (Nat.le_refl _) _
 have hin : Sq LDot (fun b => N ≤ b ∧ b < W.heap.size + 1 ∧ ov.ownBlock ≠ some b) (W.alloc (.cells #[.int .i64 x.pos, .string (bt x.key), .string (bt x.field), .int .i64 x.kind, .string (bt x.elem), .int .i64 x.n, dv] 61)) dv x.drops :=
  (Sq.agree hs fun b hb => hB.block b hb.2).mono fun b hb => ⟨by omega, by omega, fun e => by have := hg b e; omega⟩
 refine ⟨_, 1, cellsEf x dv, rfl, Nat.le_refl _, by unfold maxLen; simp, (by simp), Rows.of_one ⟨_, rfl, hin⟩, fun _ => ⟨_, 0, rfl, ⟨by omega, by omega, fun e => by have := hg _ e; omega⟩, fun i u' hu => ?_⟩⟩
 rw [Nat.zero_add]
 have := World.cell?_alloc_new W #[.int .i64 x.pos, .string (bt x.key), .string (bt x.field), .int .i64 x.kind, .string (bt x.elem), .int .i64 x.n, dv] 61 i
 rw [this, ← Array.getElem?_toList]
 exact hu
end Go.Proofs.YtmknpmamkjjiaaaGreat
namespace Go.Proofs.YtmknpmamkjjiaaaGreat
open Go.RowKit Plain
set_option linter.unusedVariables false

end Go.Proofs.YtmknpmamkjjiaaaGreat
namespace Go.Proofs.YtmknpmamkjjiaaaGreat
open Go.RowKit Plain
set_option linter.unusedVariables false

theorem st4_bare (w : World) (R : Nat) (v0 v1 v2 v3 : Value) : But R w (st4 w R v0 v1 v2 v3) := (((But.set R w 0 v0).trans (But.set R _ 1 v1)).trans (But.set R _ 2 v2)).trans (But.set R _ 3 v3)
end Go.Proofs.YtmknpmamkjjiaaaGreat
