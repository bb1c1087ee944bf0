/- What the program's own form and Put of transactions leave. (Written by gen-put3.py.) What the program's own Read of transactions leaves. (Written by gen-con.py.) What slices.Clone of vectors and the program's own Only of transactions leave. The contracts of the program's own Formed, Put, Read and Only of transactions, all of them. The contracts of stage 13's walks; the laws' own function awake. -/
import Derived.Test.YtajfliemmfdnhaaRows
import Derived.Test.YtajfliemmfdnhaaMaths
import Derived.WalkKit
import Derived.Outline
import Derived.Lib.Hide
import Derived.Laws.BitsAllLaws
import Derived.Maps.AppendAt
import Derived.OpenShut
import Derived.Laws.AppendOwnNone
import Derived.Lib.AppendStr
import Derived.Laws.IdiomStrings
import Derived.Laws.BytesArg
import Derived.BigQuiet
import Derived.Deep.QuietTactic
import Derived.WalkSmall
import Derived.Lib.AppendZeros
import Derived.WalkSpells
import Derived.OwnWalk
import Derived.Deep.RegionWith
import Derived.Deep.RegionHeld3
import Derived.Test.YtajfliemmfdnhaaGives
import Derived.Test.YtajfliemmfdnhaaRefTxOC
import Derived.Test.YtajfliemmfdnhaaTxn
import Derived.Test.YtajfliemmfdnhaaEForms
import Derived.Deep.Cut
import Derived.Test.YtajfliemmfdnhaaTxFrm
import Derived.Test.YtajfliemmfdnhaaShelf
import Derived.RegionTactic
import Derived.ChangeAlike
import Derived.Test.YtajfliemmfdnhaaTxIns
import Derived.Deep.DeepCutAuto
namespace Go.Proofs.Ytajfliemmfdnhaa
open Go.RowKit Plain
set_option linter.unusedVariables false

end Go.Proofs.Ytajfliemmfdnhaa
namespace Go.Proofs.Ytajfliemmfdnhaa
open Go.RowKit Plain
set_option linter.unusedVariables false

theorem wf_num {n : Int} (h : 0 ≤ n ∧ n < 72057594037927936) : (Lit.int .i64 n).wf = true := by
 simp only [Lit.wf, IntKind.min, IntKind.max, IntKind.signed, IntKind.bits, decide_eq_true_iff, Bool.and_eq_true]
 simp
 omega
end Go.Proofs.Ytajfliemmfdnhaa
namespace Go.Proofs.Ytajfliemmfdnhaa
open Go.RowKit Plain
set_option linter.unusedVariables false

set_option maxRecDepth 100000 in
set_option maxHeartbeats 1000000 in
theorem tclone_any {u : Value} {xs : List Int} {w : World} (hu : SeqE LInt w u xs) (hn : xs.length ≤ 1000000) : Calls Try.prog 42 #[u] w (MadeE LInt w xs) := by
 obtain ⟨a, cap, rfl, -, -, g0, h⟩ := hu.parts
 have q22 : ∀ (w : World) (a : Option Addr) (n c n' c' : Nat), (binOp .eql 23 (.slice a n c) (.slice none n' c')).run Try.prog w = .ok (.bool a.isNone) w := fun w a n c n' c' => Lib.run_eql_slice_nil w _ _ a n c n' c' Try.underlying23
 cases a with
 | none =>
  obtain rfl := g0 rfl
  obtain rfl : xs = [] := List.eq_nil_of_length_eq_zero (by have := h.dims; omega)
  go_enter Try.func42, Try.ntmps42
  go_wp2_with fail
  go_ret
  exact ⟨_, rfl, OwnE.nil _ _, Below.refl _ _⟩
 | some ad =>
  have HS := Lib.hid (h.below_alloc (.cells #[] 3))
  have HO := Lib.hid (OwnE.empty (L := LInt) w w.heap.size (Nat.le_refl _))
  have HB := Lib.hid ((Below.refl w.heap.size w).alloc (Nat.le_refl _) (.cells #[] 3))
  have hz : w.heap.size ≤ (w.alloc (.cells #[] 3)).heap.size := by simp
  have HZ := Lib.hid hz
  clear hu h g0 hz
  go_enter Try.func42, Try.ntmps42
  go_wp2_with (at_builtin; refine wpList_append_el LInt rfl (.tmp 5) (.tmp 6) rfl w.heap.size rfl HO.out rfl HS.out (fun _ _ h => h) (by simp; omega) HZ.out ?_)
  intro v' w2 ho' hgr _
  have O3 := Lib.hid ho'
  have B3 := Lib.hid (HB.out.grown hgr HZ.out (fun j hj => (HO.out.lt j hj).1))
  clear ho' hgr
  go_wp2_with fail
  go_ret
  exact ⟨_, rfl, by simpa using O3.out, B3.out⟩


end Go.Proofs.Ytajfliemmfdnhaa
namespace Go.Proofs.Ytajfliemmfdnhaa
end Go.Proofs.Ytajfliemmfdnhaa
namespace Go.Proofs.Ytajfliemmfdnhaa
open Go.RowKit Plain
set_option linter.unusedVariables false

theorem one_txn {w : World} {dv ev : Value} {t : PTxn} (h1 : SeqE LInt w dv t.deps) (h2 : SeqE LEff w ev t.effs) : SeqE LTxn (w.alloc (.cells #[.int .i64 t.node, .int .i64 t.seq, dv, ev] 38)) (.slice (some ⟨w.heap.size, 0, none⟩) 1 1) [t] :=
 SeqE.one (L := LTxn) (w := w) (vs := cellsTx t dv ev) (x := t) ⟨dv, ev, rfl, h1, h2⟩ #[.int .i64 t.node, .int .i64 t.seq, dv, ev] rfl
structure TxBox (g : Nat) (t : PTxn) (da : Option Addr) (dn dc : Nat) (ea : Option Addr) (en ec : Nat) (u : World) : Prop where
 c : u.cell? ⟨g, 0, none⟩ = some (.int .i64 t.node) ∧ u.cell? ⟨g, 1, none⟩ = some (.int .i64 t.seq) ∧ u.cell? ⟨g, 2, none⟩ = some (.slice da dn dc) ∧ u.cell? ⟨g, 3, none⟩ = some (.slice ea en ec)
 d : SeqE LInt u (.slice da dn dc) t.deps
 e : SeqE LEff u (.slice ea en ec) t.effs
theorem TxBox.below {g : Nat} {t : PTxn} {da : Option Addr} {dn dc : Nat} {ea : Option Addr} {en ec : Nat} {u u' : World} (k : TxBox g t da dn dc ea en ec u) (hb : Below u.heap.size u u') : TxBox g t da dn dc ea en ec u' := by
 have c : ∀ {a : Addr} {v : Value}, u.cell? a = some v → u'.cell? a = some v := fun g => (hb.cell (World.block_lt_of_cell? u _ g)).trans g
 obtain ⟨h0, h1, h2, h3⟩ := k.c
 exact ⟨⟨c h0, c h1, c h2, c h3⟩, k.d.below hb, k.e.below hb⟩
theorem TxBox.is {g : Nat} {t : PTxn} {da : Option Addr} {dn dc : Nat} {ea : Option Addr} {en ec : Nat} {u : World} (k : TxBox g t da dn dc ea en ec u) : IsTxn u (.agg #[.int .i64 t.node, .int .i64 t.seq, .slice da dn dc, .slice ea en ec]) t := ⟨_, _, rfl, k.d, k.e⟩
theorem txbox_new {w : World} {t : PTxn} {da : Option Addr} {dn dc : Nat} {ea : Option Addr} {en ec : Nat} (h1 : SeqE LInt w (.slice da dn dc) t.deps) (h2 : SeqE LEff w (.slice ea en ec) t.effs) : TxBox w.heap.size t da dn dc ea en ec (w.alloc (.cells #[.int .i64 t.node, .int .i64 t.seq, .slice da dn dc, .slice ea en ec] 38)) :=
 have hb := (Below.refl w.heap.size w).alloc (Nat.le_refl _) (.cells #[.int .i64 t.node, .int .i64 t.seq, .slice da dn dc, .slice ea en ec] 38)
 ⟨⟨by simp, by simp, by simp, by simp⟩, h1.below hb, h2.below hb⟩
theorem IsTxn.parts {w : World} {v : Value} {t : PTxn} (h : IsTxn w v t) : ∃ da dn dc ea en ec, v = .agg #[.int .i64 t.node, .int .i64 t.seq, .slice da dn dc, .slice ea en ec] ∧ SeqE LInt w (.slice da dn dc) t.deps ∧ SeqE LEff w (.slice ea en ec) t.effs := by
 obtain ⟨dv, ev, rfl, h1, h2⟩ := h
 obtain ⟨a1, c1, rfl, -, -, -, k1⟩ := h1.parts
 obtain ⟨a2, c2, rfl, -, -, -, k2⟩ := h2.parts
 exact ⟨_, _, _, _, _, _, rfl, k1, k2⟩
theorem fitTx_of {t : PTxn} (h : shortTx [t] = true) (hok : txnOk t) : FitTx t := by
 unfold shortTx shortTx1 at h
 simp only [List.all_cons, List.all_nil, Bool.and_true, Bool.and_eq_true, decide_eq_true_iff] at h
 obtain ⟨-, h1, h2⟩ := h
 obtain ⟨g1, g2⟩ := shortE_iff.1 h2
 exact ⟨by omega, by omega, fun e he => by have := (shortE1_iff.1 (g2 e he)).2.2.2; omega, hok⟩
end Go.Proofs.Ytajfliemmfdnhaa
