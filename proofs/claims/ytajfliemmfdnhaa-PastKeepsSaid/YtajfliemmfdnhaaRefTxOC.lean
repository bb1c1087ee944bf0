/- The program's way of reading transactions, as plain mathematics: a state (what is left, the first error) that goes from part to part; it answers what the codec answers. The program's own reader of transactions as it lies in memory; what changes nothing but its block. The program's own reader of transactions: first, take, num, whole, text, count. (Written by gen-read.py.) The program's own reader of transactions: deps, drops, eff, effs, txn. (Written by gen-read2.py.) -/
import Derived.Test.YtajfliemmfdnhaaOrWait
import Derived.Test.YtajfliemmfdnhaaRows
import Derived.Test.YtajfliemmfdnhaaMaths
import Derived.WalkKit
import Derived.Outline
import Derived.Lib.Hide
import Derived.Laws.BitsAllLaws
import Derived.Maps.AppendAt
import Derived.OpenShut
import Derived.Laws.AppendOwnNone
import Derived.Lib.AppendStr
import Derived.Laws.IdiomStrings
import Derived.Laws.BytesArg
import Derived.BigQuiet
import Derived.Deep.QuietTactic
import Derived.WalkSmall
import Derived.Lib.AppendZeros
import Derived.WalkSpells
import Derived.OwnWalk
import Derived.Deep.RegionWith
import Derived.Deep.RegionHeld3
import Derived.Test.YtajfliemmfdnhaaGives
import Derived.Test.YtajfliemmfdnhaaTxn
import Derived.Test.YtajfliemmfdnhaaElGs
import Derived.Lib.MinMax
import Derived.Shelf.Abstract
import Derived.Deep.Cut
import Derived.Test.YtajfliemmfdnhaaTxIns
import Derived.Test.YtajfliemmfdnhaaEForms
import Derived.Test.YtajfliemmfdnhaaISets
import Derived.Test.YtajfliemmfdnhaaRefZs
import Derived.Test.YtajfliemmfdnhaaEqI
import Derived.IntWalk
import Derived.Test.YtajfliemmfdnhaaShelf
import Derived.Sort.Grow
import Derived.Test.YtajfliemmfdnhaaEls
import Derived.Test.YtajfliemmfdnhaaRefE
import Derived.Test.YtajfliemmfdnhaaIKeyF
import Derived.Test.YtajfliemmfdnhaaEMades
import Derived.Test.YtajfliemmfdnhaaTxFrm
import Derived.Test.YtajfliemmfdnhaaVcAll
namespace Go.Proofs.Ytajfliemmfdnhaa.Plain
set_option linter.unusedVariables false

end Go.Proofs.Ytajfliemmfdnhaa.Plain
namespace Go.Proofs.Ytajfliemmfdnhaa
open Go.RowKit Plain
set_option linter.unusedVariables false

structure But (g : Nat) (w w' : World) : Prop where
 below : Below g w w'
 block : ∀ k, k < w.heap.size → k ≠ g → w'.heap[k]? = w.heap[k]?
theorem But.trans {g : Nat} {a b c : World} (h : But g a b) (k : But g b c) : But g a c :=
 ⟨h.below.trans k.below, fun j hj hne => (k.block j (Nat.lt_of_lt_of_le hj h.below.size) hne).trans (h.block j hj hne)⟩
theorem But.of {g : Nat} {w w' : World} (h : Below w.heap.size w w') (hg : g ≤ w.heap.size) : But g w w' := ⟨h.mono hg, fun k hk _ => h.block k hk⟩
theorem But.set (g : Nat) (w : World) (i : Nat) (v : Value) : But g w (w.setCell ⟨g, i, none⟩ v) :=
 ⟨(Below.refl g w).setCell (Nat.le_refl _) v, fun k _ hne => Below.heap_setCell _ _ _ _ hne⟩
theorem But.then {g : Nat} {a b c : World} (h : But g a b) (k : Below b.heap.size b c) (hg : g ≤ b.heap.size) : But g a c := h.trans (But.of k hg)
theorem But.size {g : Nat} {w w' : World} (h : But g w w') : w.heap.size ≤ w'.heap.size := h.below.size
theorem OwnE.but {α : Type} {L : El α} (hf : Flat L) {B g : Nat} {w w' : World} {v : Value} {xs : List α} (h : OwnE L B w v xs) (hb : But g w w') (hg : g < B) : OwnE L B w' v xs := by
 obtain ⟨vals, ho, hr⟩ := h
 refine ⟨vals, ⟨ho.1, ?_⟩, ⟨hr.1, fun j x hj => hf (hr.2 j x hj)⟩⟩
 rcases ho.2 with hn | ⟨g', cap, cur, hv, hb', hg', hr'⟩
 ·exact .inl hn
 ·have hlt : g' < w.heap.size := (Array.getElem?_eq_some_iff.1 hg').1
  exact .inr ⟨g', cap, cur, hv, hb', (hb.block g' hlt (by omega)).trans hg', hr'⟩
theorem OwnJ.but {α : Type} {L : El α} {J : Nat → Prop} {B g : Nat} {w w' : World} {v : Value} {xs : List α} (h : OwnJ J L B w v xs) (hb : But g w w') (hg : g < B) (hj : ∀ b, J b → b ≠ g) : OwnJ J L B w' v xs :=
 h.kept hb.size fun b hl hq => hb.block b hl (hq.elim (hj b) fun k => by omega)
end Go.Proofs.Ytajfliemmfdnhaa
namespace Go.Proofs.Ytajfliemmfdnhaa
open Go.RowKit Plain
set_option linter.unusedVariables false

end Go.Proofs.Ytajfliemmfdnhaa
namespace Go.Proofs.Ytajfliemmfdnhaa
open Go.RowKit Plain
set_option linter.unusedVariables false

end Go.Proofs.Ytajfliemmfdnhaa
namespace Go.Proofs.Ytajfliemmfdnhaa
open Go.RowKit Plain Go.Maps
set_option linter.unusedVariables false

end Go.Proofs.Ytajfliemmfdnhaa
namespace Go.Proofs.Ytajfliemmfdnhaa
open Go.RowKit Plain
set_option linter.unusedVariables false

end Go.Proofs.Ytajfliemmfdnhaa
namespace Go.Proofs.Ytajfliemmfdnhaa
open Go.RowKit Plain
set_option linter.unusedVariables false

set_option maxRecDepth 100000 in
set_option maxHeartbeats 1000000 in
theorem dclone_any {u : Value} {xs : List PDot} {w : World} (hu : SeqE LDot w u xs) (hn : xs.length ≤ 1000000) : Calls Try.prog 61 #[u] w (MadeE LDot w xs) := by
 obtain ⟨a, cap, rfl, -, -, g0, h⟩ := hu.parts
 have q22 : ∀ (w : World) (a : Option Addr) (n c n' c' : Nat), (binOp .eql 75 (.slice a n c) (.slice none n' c')).run Try.prog w = .ok (.bool a.isNone) w := fun w a n c n' c' => Lib.run_eql_slice_nil w _ _ a n c n' c' Try.underlying75
 cases a with
 | none =>
  obtain rfl := g0 rfl
  obtain rfl : xs = [] := List.eq_nil_of_length_eq_zero (by have := h.dims; omega)
  go_enter Try.func61, Try.ntmps61
  go_wp2_with fail
  go_ret
  exact ⟨_, rfl, OwnE.nil _ _, Below.refl _ _⟩
 | some ad =>
  have HS := Lib.hid (h.below_alloc (.cells #[] 50))
  have HO := Lib.hid (OwnE.empty (L := LDot) w w.heap.size (Nat.le_refl _))
  have HB := Lib.hid ((Below.refl w.heap.size w).alloc (Nat.le_refl _) (.cells #[] 50))
  have hz : w.heap.size ≤ (w.alloc (.cells #[] 50)).heap.size := by simp
  have HZ := Lib.hid hz
  clear hu h g0 hz
  go_enter Try.func61, Try.ntmps61
  go_wp2_with (at_builtin; refine wpList_append_el LDot rfl (.tmp 5) (.tmp 6) rfl w.heap.size rfl HO.out rfl HS.out (fun _ _ h => h) (by simp; omega) HZ.out ?_)
  intro v' w2 ho' hgr _
  have O3 := Lib.hid ho'
  have B3 := Lib.hid (HB.out.grown hgr HZ.out (fun j hj => (HO.out.lt j hj).1))
  clear ho' hgr
  go_wp2_with fail
  go_ret
  exact ⟨_, rfl, by simpa using O3.out, B3.out⟩

end Go.Proofs.Ytajfliemmfdnhaa
namespace Go.Proofs.Ytajfliemmfdnhaa
open Go.RowKit Plain
set_option linter.unusedVariables false

end Go.Proofs.Ytajfliemmfdnhaa
namespace Go.Proofs.Ytajfliemmfdnhaa
open Go.RowKit Plain
set_option linter.unusedVariables false

set_option maxRecDepth 100000 in
set_option maxHeartbeats 2000000 in
theorem txdotP {a b : Int} {da ea : Option Addr} {dn dc en ec : Nat} {w : World} : Calls Try.prog 45 #[.agg #[.int .i64 a, .int .i64 b, .slice da dn dc, .slice ea en ec]] w fun e w' => e = .returned (.agg #[.int .i64 a, .int .i64 b, .int .i64 0]) ∧ Below w.heap.size w w' := by
 have G1 : Hid (Below w.heap.size w ((w.alloc (.cells #[.int .i64 a, .int .i64 b, .slice da dn dc, .slice ea en ec] 38)).alloc (.cells #[.int .i64 0, .int .i64 0, .int .i64 0] 50))) := Lib.hid (((Below.refl _ _).alloc (Nat.le_refl _) _).alloc (by simp) _)
 go_enter Try.func45, Try.ntmps45
 go_wp2_with fail
 refine bodyPost_ret (v := .agg #[.int .i64 a, .int .i64 b, .int .i64 0]) (by simp [results, Try.results45, go_sem]) rfl ⟨rfl, ?_⟩
 exact ((Below.refl _ _).alloc (Nat.le_refl _) _).alloc (by simp) _
end Go.Proofs.Ytajfliemmfdnhaa
namespace Go.Proofs.Ytajfliemmfdnhaa
open Go.RowKit Plain
set_option linter.unusedVariables false

theorem ownE_of {B : Nat} {w : World} {v : Value} {xs : List Int} (h : OwnsI B w v xs) : OwnE LInt B w v xs := by
 refine ⟨xs.map (Value.int .i64), h, by rw [List.length_map]; show _ = xs.length * 1; omega, fun j x hj => ?_⟩
 show ((xs.map (Value.int .i64)).drop (j * 1)).take 1 = [.int .i64 x]
 obtain ⟨hl, rfl⟩ := List.getElem?_eq_some_iff.1 hj
 rw [Nat.mul_one, List.take_one]
 simp [List.getElem?_eq_getElem hl]
end Go.Proofs.Ytajfliemmfdnhaa
