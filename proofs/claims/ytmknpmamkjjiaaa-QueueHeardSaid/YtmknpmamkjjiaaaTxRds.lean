/- The program's way of reading transactions, as plain mathematics: a state (what is left, the first error) that goes from part to part; it answers what the codec answers. The program's own reader of transactions as it lies in memory; what changes nothing but its block. The program's own reader of transactions: first, take, num, whole, text, count. (Written by gen-read.py.) The program's own reader of transactions: deps, drops, eff, effs, txn. (Written by gen-read2.py.) -/
import Derived.Test.YtmknpmamkjjiaaaTxMaths
import Derived.Test.YtmknpmamkjjiaaaRows
import Derived.Test.YtmknpmamkjjiaaaMaths
import Derived.WalkKit
import Derived.Outline
import Derived.Lib.Hide
import Derived.Laws.BitsAllLaws
import Derived.Maps.AppendAt
import Derived.OpenShut
import Derived.Laws.AppendOwnNone
import Derived.Lib.AppendStr
import Derived.Laws.IdiomStrings
import Derived.Laws.BytesArg
import Derived.BigQuiet
import Derived.Deep.QuietTactic
import Derived.WalkSmall
import Derived.Lib.AppendZeros
import Derived.WalkSpells
import Derived.OwnWalk
import Derived.Deep.RegionWith
import Derived.Deep.RegionHeld3
import Derived.Test.YtmknpmamkjjiaaaTWords
import Derived.Test.YtmknpmamkjjiaaaTxn
import Derived.Test.YtmknpmamkjjiaaaElGs
import Derived.Lib.MinMax
import Derived.Shelf.Abstract
import Derived.Deep.Cut
import Derived.Test.YtmknpmamkjjiaaaTxIns
namespace Go.Proofs.Ytmknpmamkjjiaaa.Plain
set_option linter.unusedVariables false

end Go.Proofs.Ytmknpmamkjjiaaa.Plain
namespace Go.Proofs.Ytmknpmamkjjiaaa
open Go.RowKit Plain
set_option linter.unusedVariables false

structure But (g : Nat) (w w' : World) : Prop where
 below : Below g w w'
 block : ∀ k, k < w.heap.size → k ≠ g → w'.heap[k]? = w.heap[k]?
theorem But.trans {g : Nat} {a b c : World} (h : But g a b) (k : But g b c) : But g a c :=
 ⟨h.below.trans k.below, fun j hj hne => (k.block j (Nat.lt_of_lt_of_le hj h.below.size) hne).trans (h.block j hj hne)⟩
theorem But.of {g : Nat} {w w' : World} (h : Below w.heap.size w w') (hg : g ≤ w.heap.size) : But g w w' := ⟨h.mono hg, fun k hk _ => h.block k hk⟩
theorem But.set (g : Nat) (w : World) (i : Nat) (v : Value) : But g w (w.setCell ⟨g, i, none⟩ v) :=
 ⟨(Below.refl g w).setCell (Nat.le_refl _) v, fun k _ hne => Below.heap_setCell _ _ _ _ hne⟩
theorem But.then {g : Nat} {a b c : World} (h : But g a b) (k : Below b.heap.size b c) (hg : g ≤ b.heap.size) : But g a c := h.trans (But.of k hg)
theorem But.size {g : Nat} {w w' : World} (h : But g w w') : w.heap.size ≤ w'.heap.size := h.below.size
theorem OwnE.but {α : Type} {L : El α} (hf : Flat L) {B g : Nat} {w w' : World} {v : Value} {xs : List α} (h : OwnE L B w v xs) (hb : But g w w') (hg : g < B) : OwnE L B w' v xs := by
 obtain ⟨vals, ho, hr⟩ := h
 refine ⟨vals, ⟨ho.1, ?_⟩, ⟨hr.1, fun j x hj => hf (hr.2 j x hj)⟩⟩
 rcases ho.2 with hn | ⟨g', cap, cur, hv, hb', hg', hr'⟩
 ·exact .inl hn
 ·have hlt : g' < w.heap.size := (Array.getElem?_eq_some_iff.1 hg').1
  exact .inr ⟨g', cap, cur, hv, hb', (hb.block g' hlt (by omega)).trans hg', hr'⟩
theorem OwnJ.but {α : Type} {L : El α} {J : Nat → Prop} {B g : Nat} {w w' : World} {v : Value} {xs : List α} (h : OwnJ J L B w v xs) (hb : But g w w') (hg : g < B) (hj : ∀ b, J b → b ≠ g) : OwnJ J L B w' v xs :=
 h.kept hb.size fun b hl hq => hb.block b hl (hq.elim (hj b) fun k => by omega)
end Go.Proofs.Ytmknpmamkjjiaaa
namespace Go.Proofs.Ytmknpmamkjjiaaa
open Go.RowKit Plain
set_option linter.unusedVariables false

end Go.Proofs.Ytmknpmamkjjiaaa
namespace Go.Proofs.Ytmknpmamkjjiaaa
open Go.RowKit Plain
set_option linter.unusedVariables false

theorem st4_bare (w : World) (R : Nat) (v0 v1 v2 v3 : Value) : But R w (st4 w R v0 v1 v2 v3) := (((But.set R w 0 v0).trans (But.set R _ 1 v1)).trans (But.set R _ 2 v2)).trans (But.set R _ 3 v3)
end Go.Proofs.Ytmknpmamkjjiaaa
