/- The program's way of reading transactions, as plain mathematics: a state (what is left, the first error) that goes from part to part; it answers what the codec answers. The program's own reader of transactions as it lies in memory; what changes nothing but its block. The program's own reader of transactions: first, take, num, whole, text, count. (Written by gen-read.py.) The program's own reader of transactions: deps, drops, eff, effs, txn. (Written by gen-read2.py.) -/
import Derived.Test.YtajfliemmfdnhaaGreatPaMath
import Derived.Test.YtajfliemmfdnhaaGreatRows
import Derived.Test.YtajfliemmfdnhaaGreatMaths
import Derived.WalkKit
import Derived.Outline
import Derived.Lib.Hide
import Derived.Laws.BitsAllLaws
import Derived.Maps.AppendAt
import Derived.OpenShut
import Derived.Laws.AppendOwnNone
import Derived.Lib.AppendStr
import Derived.Laws.IdiomStrings
import Derived.Laws.BytesArg
import Derived.BigQuiet
import Derived.Deep.QuietTactic
import Derived.WalkSmall
import Derived.Lib.AppendZeros
import Derived.WalkSpells
import Derived.OwnWalk
import Derived.Deep.RegionWith
import Derived.Deep.RegionHeld3
import Derived.Test.YtajfliemmfdnhaaGreatGives
import Derived.Test.YtajfliemmfdnhaaGreatTxn
import Derived.Test.YtajfliemmfdnhaaGreatElGs
import Derived.Lib.MinMax
import Derived.Shelf.Abstract
import Derived.Deep.Cut
import Derived.Test.YtajfliemmfdnhaaGreatTxIns
import Derived.Test.YtajfliemmfdnhaaGreatEForms
import Derived.Test.YtajfliemmfdnhaaGreatTxFrm
import Derived.Test.YtajfliemmfdnhaaGreatShelf
import Derived.RegionTactic
import Derived.ChangeAlike
import Derived.Test.YtajfliemmfdnhaaGreatEDos
import Derived.Deep.DeepCutAuto
namespace Go.Proofs.YtajfliemmfdnhaaGreat.Plain
set_option linter.unusedVariables false

end Go.Proofs.YtajfliemmfdnhaaGreat.Plain
namespace Go.Proofs.YtajfliemmfdnhaaGreat
open Go.RowKit Plain
set_option linter.unusedVariables false

structure But (g : Nat) (w w' : World) : Prop where
 below : Below g w w'
 block : ∀ k, k < w.heap.size → k ≠ g → w'.heap[k]? = w.heap[k]?
theorem But.trans {g : Nat} {a b c : World} (h : But g a b) (k : But g b c) : But g a c :=
 ⟨h.below.trans k.below, fun j hj hne => (k.block j (Nat.lt_of_lt_of_le hj h.below.size) hne).trans (h.block j hj hne)⟩
theorem But.of {g : Nat} {w w' : World} (h : Below w.heap.size w w') (hg : g ≤ w.heap.size) : But g w w' := ⟨h.mono hg, fun k hk _ => h.block k hk⟩
theorem But.set (g : Nat) (w : World) (i : Nat) (v : Value) : But g w (w.setCell ⟨g, i, none⟩ v) :=
 ⟨(Below.refl g w).setCell (Nat.le_refl _) v, fun k _ hne => Below.heap_setCell _ _ _ _ hne⟩
theorem But.then {g : Nat} {a b c : World} (h : But g a b) (k : Below b.heap.size b c) (hg : g ≤ b.heap.size) : But g a c := h.trans (But.of k hg)
theorem But.size {g : Nat} {w w' : World} (h : But g w w') : w.heap.size ≤ w'.heap.size := h.below.size
theorem OwnE.but {α : Type} {L : El α} (hf : Flat L) {B g : Nat} {w w' : World} {v : Value} {xs : List α} (h : OwnE L B w v xs) (hb : But g w w') (hg : g < B) : OwnE L B w' v xs := by
 obtain ⟨vals, ho, hr⟩ := h
 refine ⟨vals, ⟨ho.1, ?_⟩, ⟨hr.1, fun j x hj => hf (hr.2 j x hj)⟩⟩
 rcases ho.2 with hn | ⟨g', cap, cur, hv, hb', hg', hr'⟩
 ·exact .inl hn
 ·have hlt : g' < w.heap.size := (Array.getElem?_eq_some_iff.1 hg').1
  exact .inr ⟨g', cap, cur, hv, hb', (hb.block g' hlt (by omega)).trans hg', hr'⟩
theorem OwnJ.but {α : Type} {L : El α} {J : Nat → Prop} {B g : Nat} {w w' : World} {v : Value} {xs : List α} (h : OwnJ J L B w v xs) (hb : But g w w') (hg : g < B) (hj : ∀ b, J b → b ≠ g) : OwnJ J L B w' v xs :=
 h.kept hb.size fun b hl hq => hb.block b hl (hq.elim (hj b) fun k => by omega)
theorem one_effN {W : World} {x : PEff} {dv : Value} {C N : Nat} {ov : Value} (hs : Sq LDot (fun b => C ≤ b ∧ b < W.heap.size) W dv x.drops) (hg : ∀ k, ov.ownBlock = some k → k < C) (hz : C ≤ W.heap.size) (hN : N ≤ C) :
  Sq LEff (fun b => N ≤ b ∧ b < (W.alloc (.cells #[.int .i64 x.pos, .string (bt x.key), .string (bt x.field), .int .i64 x.kind, .string (bt x.elem), .int .i64 x.n, dv] 65)).heap.size ∧ ov.ownBlock ≠ some b) (W.alloc (.cells #[.int .i64 x.pos, .string (bt x.key), .string (bt x.field), .int .i64 x.kind, .string (bt x.elem), .int .i64 x.n, dv] 65)) (.slice (some ⟨W.heap.size, 0, none⟩) 1 1) [x] := by
 have hS : (W.alloc (.cells #[.int .i64 x.pos, .string (bt x.key), .string (bt x.field), .int .i64 x.kind, .string (bt x.elem), .int .i64 x.n, dv] 65)).heap.size = W.heap.size + 1 := by simp
 rw [hS]
 have hB : Below W.heap.size W (W.alloc (.cells #[.int .i64 x.pos, .string (bt x.key), .string (bt x.field), .int .i64 x.kind, .string (bt x.elem), .int .i64 x.n, dv] 65)) := (Below.refl _ _).alloc (Nat.le_refl _) _
 have hin : Sq LDot (fun b => N ≤ b ∧ b < W.heap.size + 1 ∧ ov.ownBlock ≠ some b) (W.alloc (.cells #[.int .i64 x.pos, .string (bt x.key), .string (bt x.field), .int .i64 x.kind, .string (bt x.elem), .int .i64 x.n, dv] 65)) dv x.drops :=
  (Sq.agree hs fun b hb => hB.block b hb.2).mono fun b hb => ⟨by omega, by omega, fun e => by have := hg b e; omega⟩
 refine ⟨_, 1, cellsEf x dv, rfl, Nat.le_refl _, by unfold maxLen; simp, (by simp), Rows.of_one ⟨_, rfl, hin⟩, fun _ => ⟨_, 0, rfl, ⟨by omega, by omega, fun e => by have := hg _ e; omega⟩, fun i u' hu => ?_⟩⟩
 rw [Nat.zero_add]
 have := World.cell?_alloc_new W #[.int .i64 x.pos, .string (bt x.key), .string (bt x.field), .int .i64 x.kind, .string (bt x.elem), .int .i64 x.n, dv] 65 i
 rw [this, ← Array.getElem?_toList]
 exact hu
end Go.Proofs.YtajfliemmfdnhaaGreat
namespace Go.Proofs.YtajfliemmfdnhaaGreat
open Go.RowKit Plain
set_option linter.unusedVariables false

end Go.Proofs.YtajfliemmfdnhaaGreat
namespace Go.Proofs.YtajfliemmfdnhaaGreat
open Go.RowKit Plain
set_option linter.unusedVariables false

end Go.Proofs.YtajfliemmfdnhaaGreat
namespace Go.Proofs.YtajfliemmfdnhaaGreat
open Go.RowKit Plain
set_option linter.unusedVariables false

end Go.Proofs.YtajfliemmfdnhaaGreat
namespace Go.Proofs.YtajfliemmfdnhaaGreat
open Go.RowKit Plain
set_option linter.unusedVariables false

theorem wf_num {n : Int} (h : 0 ≤ n ∧ n < 72057594037927936) : (Lit.int .i64 n).wf = true := by
 simp only [Lit.wf, IntKind.min, IntKind.max, IntKind.signed, IntKind.bits, decide_eq_true_iff, Bool.and_eq_true]
 simp
 omega
end Go.Proofs.YtajfliemmfdnhaaGreat
namespace Go.Proofs.YtajfliemmfdnhaaGreat
open Go.RowKit Plain
set_option linter.unusedVariables false

set_option maxRecDepth 100000 in
set_option maxHeartbeats 1000000 in
theorem tclone_any {u : Value} {xs : List Int} {w : World} (hu : SeqE LInt w u xs) (hn : xs.length ≤ 1000000) : Calls Tryz.prog 30 #[u] w (MadeE LInt w xs) := by
 obtain ⟨a, cap, rfl, -, -, g0, h⟩ := hu.parts
 have q22 : ∀ (w : World) (a : Option Addr) (n c n' c' : Nat), (binOp .eql 23 (.slice a n c) (.slice none n' c')).run Tryz.prog w = .ok (.bool a.isNone) w := fun w a n c n' c' => Lib.run_eql_slice_nil w _ _ a n c n' c' Tryz.underlying23
 cases a with
 | none =>
  obtain rfl := g0 rfl
  obtain rfl : xs = [] := List.eq_nil_of_length_eq_zero (by have := h.dims; omega)
  go_enter Tryz.func30, Tryz.ntmps30
  go_wp2_with fail
  go_ret
  exact ⟨_, rfl, OwnE.nil _ _, Below.refl _ _⟩
 | some ad =>
  have HS := Lib.hid (h.below_alloc (.cells #[] 3))
  have HO := Lib.hid (OwnE.empty (L := LInt) w w.heap.size (Nat.le_refl _))
  have HB := Lib.hid ((Below.refl w.heap.size w).alloc (Nat.le_refl _) (.cells #[] 3))
  have hz : w.heap.size ≤ (w.alloc (.cells #[] 3)).heap.size := by simp
  have HZ := Lib.hid hz
  clear hu h g0 hz
  go_enter Tryz.func30, Tryz.ntmps30
  go_wp2_with (at_builtin; refine wpList_append_el LInt rfl (.tmp 5) (.tmp 6) rfl w.heap.size rfl HO.out rfl HS.out (fun _ _ h => h) (by simp; omega) HZ.out ?_)
  intro v' w2 ho' hgr _
  have O3 := Lib.hid ho'
  have B3 := Lib.hid (HB.out.grown hgr HZ.out (fun j hj => (HO.out.lt j hj).1))
  clear ho' hgr
  go_wp2_with fail
  go_ret
  exact ⟨_, rfl, by simpa using O3.out, B3.out⟩


end Go.Proofs.YtajfliemmfdnhaaGreat
namespace Go.Proofs.YtajfliemmfdnhaaGreat
end Go.Proofs.YtajfliemmfdnhaaGreat
namespace Go.Proofs.YtajfliemmfdnhaaGreat
open Go.RowKit Plain
set_option linter.unusedVariables false

theorem one_txn {w : World} {dv ev : Value} {t : PTxn} (h1 : SeqE LInt w dv t.deps) (h2 : SeqE LEff w ev t.effs) : SeqE LTxn (w.alloc (.cells #[.int .i64 t.node, .int .i64 t.seq, dv, ev] 29)) (.slice (some ⟨w.heap.size, 0, none⟩) 1 1) [t] :=
 SeqE.one (L := LTxn) (w := w) (vs := cellsTx t dv ev) (x := t) ⟨dv, ev, rfl, h1, h2⟩ #[.int .i64 t.node, .int .i64 t.seq, dv, ev] rfl
structure TxBox (g : Nat) (t : PTxn) (da : Option Addr) (dn dc : Nat) (ea : Option Addr) (en ec : Nat) (u : World) : Prop where
 c : u.cell? ⟨g, 0, none⟩ = some (.int .i64 t.node) ∧ u.cell? ⟨g, 1, none⟩ = some (.int .i64 t.seq) ∧ u.cell? ⟨g, 2, none⟩ = some (.slice da dn dc) ∧ u.cell? ⟨g, 3, none⟩ = some (.slice ea en ec)
 d : SeqE LInt u (.slice da dn dc) t.deps
 e : SeqE LEff u (.slice ea en ec) t.effs
theorem TxBox.below {g : Nat} {t : PTxn} {da : Option Addr} {dn dc : Nat} {ea : Option Addr} {en ec : Nat} {u u' : World} (k : TxBox g t da dn dc ea en ec u) (hb : Below u.heap.size u u') : TxBox g t da dn dc ea en ec u' := by
 have c : ∀ {a : Addr} {v : Value}, u.cell? a = some v → u'.cell? a = some v := fun g => (hb.cell (World.block_lt_of_cell? u _ g)).trans g
 obtain ⟨h0, h1, h2, h3⟩ := k.c
 exact ⟨⟨c h0, c h1, c h2, c h3⟩, k.d.below hb, k.e.below hb⟩
theorem TxBox.is {g : Nat} {t : PTxn} {da : Option Addr} {dn dc : Nat} {ea : Option Addr} {en ec : Nat} {u : World} (k : TxBox g t da dn dc ea en ec u) : IsTxn u (.agg #[.int .i64 t.node, .int .i64 t.seq, .slice da dn dc, .slice ea en ec]) t := ⟨_, _, rfl, k.d, k.e⟩
theorem txbox_new {w : World} {t : PTxn} {da : Option Addr} {dn dc : Nat} {ea : Option Addr} {en ec : Nat} (h1 : SeqE LInt w (.slice da dn dc) t.deps) (h2 : SeqE LEff w (.slice ea en ec) t.effs) : TxBox w.heap.size t da dn dc ea en ec (w.alloc (.cells #[.int .i64 t.node, .int .i64 t.seq, .slice da dn dc, .slice ea en ec] 29)) :=
 have hb := (Below.refl w.heap.size w).alloc (Nat.le_refl _) (.cells #[.int .i64 t.node, .int .i64 t.seq, .slice da dn dc, .slice ea en ec] 29)
 ⟨⟨by simp, by simp, by simp, by simp⟩, h1.below hb, h2.below hb⟩
theorem IsTxn.parts {w : World} {v : Value} {t : PTxn} (h : IsTxn w v t) : ∃ da dn dc ea en ec, v = .agg #[.int .i64 t.node, .int .i64 t.seq, .slice da dn dc, .slice ea en ec] ∧ SeqE LInt w (.slice da dn dc) t.deps ∧ SeqE LEff w (.slice ea en ec) t.effs := by
 obtain ⟨dv, ev, rfl, h1, h2⟩ := h
 obtain ⟨a1, c1, rfl, -, -, -, k1⟩ := h1.parts
 obtain ⟨a2, c2, rfl, -, -, -, k2⟩ := h2.parts
 exact ⟨_, _, _, _, _, _, rfl, k1, k2⟩
theorem fitTx_of {t : PTxn} (h : shortTx [t] = true) (hok : txnOk t) : FitTx t := by
 unfold shortTx shortTx1 at h
 simp only [List.all_cons, List.all_nil, Bool.and_true, Bool.and_eq_true, decide_eq_true_iff] at h
 obtain ⟨-, h1, h2⟩ := h
 obtain ⟨g1, g2⟩ := shortE_iff.1 h2
 exact ⟨by omega, by omega, fun e he => by have := (shortE1_iff.1 (g2 e he)).2.2.2; omega, hok⟩
end Go.Proofs.YtajfliemmfdnhaaGreat
