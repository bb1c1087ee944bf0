/- What the program's own form and Put of transactions leave. (Written by gen-put3.py.) What the program's own Read of transactions leaves. (Written by gen-con.py.) What slices.Clone of vectors and the program's own Only of transactions leave. The contracts of the program's own Formed, Put, Read and Only of transactions, all of them. The contracts of stage 13's walks; the laws' own function awake. -/
import Derived.Test.YtmknpmamkjjiaaaGreatRows
import Derived.Test.YtmknpmamkjjiaaaGreatMaths
import Derived.WalkKit
import Derived.Outline
import Derived.Lib.Hide
import Derived.Laws.BitsAllLaws
import Derived.Maps.AppendAt
import Derived.OpenShut
import Derived.Laws.AppendOwnNone
import Derived.Lib.AppendStr
import Derived.Laws.IdiomStrings
import Derived.Laws.BytesArg
import Derived.BigQuiet
import Derived.Deep.QuietTactic
import Derived.WalkSmall
import Derived.Lib.AppendZeros
import Derived.WalkSpells
import Derived.OwnWalk
import Derived.Deep.RegionWith
import Derived.Deep.RegionHeld3
import Derived.Test.YtmknpmamkjjiaaaGreatTWords
import Derived.Test.YtmknpmamkjjiaaaGreatTxRds
import Derived.Test.YtmknpmamkjjiaaaGreatTxn
import Derived.Test.YtmknpmamkjjiaaaGreatEForms
import Derived.Deep.Cut
import Derived.Test.YtmknpmamkjjiaaaGreatTxFrm
import Derived.Test.YtmknpmamkjjiaaaGreatShelf
import Derived.RegionTactic
import Derived.ChangeAlike
import Derived.Test.YtmknpmamkjjiaaaGreatTxIns
import Derived.Test.YtmknpmamkjjiaaaGreatEDos
import Derived.Deep.DeepCutAuto
namespace Go.Proofs.YtmknpmamkjjiaaaGreat
open Go.RowKit Plain
set_option linter.unusedVariables false

end Go.Proofs.YtmknpmamkjjiaaaGreat
namespace Go.Proofs.YtmknpmamkjjiaaaGreat
open Go.RowKit Plain
set_option linter.unusedVariables false

end Go.Proofs.YtmknpmamkjjiaaaGreat
namespace Go.Proofs.YtmknpmamkjjiaaaGreat
open Go.RowKit Plain
set_option linter.unusedVariables false

set_option maxRecDepth 100000 in
set_option maxHeartbeats 1000000 in
/-- slices.Clone of vectors -/
theorem tclone_any {u : Value} {xs : List Int} {w : World} (hu : SeqE LInt w u xs) (hn : xs.length ≤ 1000000) : Calls Tryz.prog 46 #[u] w (MadeE LInt w xs) := by
 obtain ⟨a, cap, rfl, -, -, g0, h⟩ := hu.parts
 have q22 : ∀ (w : World) (a : Option Addr) (n c n' c' : Nat), (binOp .eql 26 (.slice a n c) (.slice none n' c')).run Tryz.prog w = .ok (.bool a.isNone) w := fun w a n c n' c' => Lib.run_eql_slice_nil w _ _ a n c n' c' Tryz.underlying26
 cases a with
 | none =>
  obtain rfl := g0 rfl
  obtain rfl : xs = [] := List.eq_nil_of_length_eq_zero (by have := h.dims; omega)
  go_enter Tryz.func46, Tryz.ntmps46
  go_wp2_with fail
  go_ret
  exact ⟨_, rfl, OwnE.nil _ _, Below.refl _ _⟩
 | some ad =>
  have HS := Lib.hid (h.below_alloc (.cells #[] 3))
  have HO := Lib.hid (OwnE.empty (L := LInt) w w.heap.size (Nat.le_refl _))
  have HB := Lib.hid ((Below.refl w.heap.size w).alloc (Nat.le_refl _) (.cells #[] 3))
  have hz : w.heap.size ≤ (w.alloc (.cells #[] 3)).heap.size := by simp
  have HZ := Lib.hid hz
  clear hu h g0 hz
  go_enter Tryz.func46, Tryz.ntmps46
  go_wp2_with (at_builtin; refine wpList_append_el LInt rfl (.tmp 5) (.tmp 6) rfl w.heap.size rfl HO.out rfl HS.out (fun _ _ h => h) (by simp; omega) HZ.out ?_)
  intro v' w2 ho' hgr _
  have O3 := Lib.hid ho'
  have B3 := Lib.hid (HB.out.grown hgr HZ.out (fun j hj => (HO.out.lt j hj).1))
  clear ho' hgr
  go_wp2_with fail
  go_ret
  exact ⟨_, rfl, by simpa using O3.out, B3.out⟩


set_option maxRecDepth 100000 in
set_option maxHeartbeats 8000000 in
/-- Only: what it answers lies in blocks of the call's own -/
theorem txonlyN {v z : Value} {t : PTxn} {zs : List Txt} {w : World} (h : IsTxn w v t) (hz : SeqT w z zs) (hzl : zs.length ≤ 1000) (hzs : ∀ s ∈ zs, s.length ≤ 1000) (ht : FitTx t) :
  Calls Tryz.prog 32 #[v, z] w fun e w' => ∃ u, e = .returned u ∧ IsTxnIn (fun b => w.heap.size ≤ b ∧ b < w'.heap.size) w' u (tonly t zs) ∧ Below w.heap.size w w' := by
 obtain ⟨dv, ev, rfl, k1, k2⟩ := h
 obtain ⟨da, dc, rfl, -, -, -, k1⟩ := k1.parts
 obtain ⟨ea, ec, rfl, -, -, -, k2⟩ := k2.parts
 obtain ⟨za, zc, rfl, -⟩ := hz.parts
 generalize hdn : t.deps.length = dn at *
 generalize hen : t.effs.length = en at *
 have hbA := ((Below.refl w.heap.size w).alloc (Nat.le_refl _) (.cells #[.int .i64 t.node, .int .i64 t.seq, .slice da dn dc, .slice ea en ec] 29)).alloc (by simp) (.cells #[.int .i64 0, .int .i64 0, .slice none 0 0, .slice none 0 0] 29)
 have ZA : Hid (((w.alloc (.cells #[.int .i64 t.node, .int .i64 t.seq, .slice da dn dc, .slice ea en ec] 29)).alloc (.cells #[.int .i64 0, .int .i64 0, .slice none 0 0, .slice none 0 0] 29)).heap.size = w.heap.size + 2) := Lib.hid (by simp)
 have GA := Lib.hid hbA
 have TA : Hid (((w.alloc (.cells #[.int .i64 t.node, .int .i64 t.seq, .slice da dn dc, .slice ea en ec] 29)).alloc (.cells #[.int .i64 0, .int .i64 0, .slice none 0 0, .slice none 0 0] 29)).heap[w.heap.size]? = some (.cells #[.int .i64 t.node, .int .i64 t.seq, .slice da dn dc, .slice ea en ec] 29 (0, 0))) := Lib.hid (((((Below.refl (w.heap.size + 1) (w.alloc (.cells #[.int .i64 t.node, .int .i64 t.seq, .slice da dn dc, .slice ea en ec] 29))).alloc (by simp) (.cells #[.int .i64 0, .int .i64 0, .slice none 0 0, .slice none 0 0] 29)).block w.heap.size (by omega))).trans (heap_alloc_new w _))
 have RA : Hid (((w.alloc (.cells #[.int .i64 t.node, .int .i64 t.seq, .slice da dn dc, .slice ea en ec] 29)).alloc (.cells #[.int .i64 0, .int .i64 0, .slice none 0 0, .slice none 0 0] 29)).heap[w.heap.size + 1]? = some (.cells #[.int .i64 0, .int .i64 0, .slice none 0 0, .slice none 0 0] 29 (0, 0))) := Lib.hid (by
  have h := heap_alloc_new (w.alloc (.cells #[.int .i64 t.node, .int .i64 t.seq, .slice da dn dc, .slice ea en ec] 29)) (.cells #[.int .i64 0, .int .i64 0, .slice none 0 0, .slice none 0 0] 29)
  rw [show (w.alloc (.cells #[.int .i64 t.node, .int .i64 t.seq, .slice da dn dc, .slice ea en ec] 29)).heap.size = w.heap.size + 1 by simp] at h
  exact h)
 have KC := Lib.hid (tclone_any (k1.below hbA) (by rw [hdn]; have := ht.deps; omega))
 have KO := Lib.hid (fun W (hb : Below w.heap.size w W) => eonly_anyJ (k2.below hb) (hz.below hb) ht.effs ht.drops (by omega))
 have HR : Hid (tonly t zs = ⟨t.node, t.seq, t.deps, eonly t.effs zs⟩) := Lib.hid rfl
 have HDN := Lib.hid hdn
 clear hz hzl hzs ht k1 k2 hbA hdn hen
 generalize zs.length = zn at *
 go_enter Tryz.func32, Tryz.ntmps32
 go_upto_region 1 with fail
 generalize ((w.alloc (.cells #[.int .i64 t.node, .int .i64 t.seq, .slice da dn dc, .slice ea en ec] 29)).alloc (.cells #[.int .i64 0, .int .i64 0, .slice none 0 0, .slice none 0 0] 29)) = wa at *
 obtain ⟨⟨c0, c1, c2, c3⟩, f0, f1, f2, f3⟩ := st4_cells TA.out
 go_wp2_with fail
 refine KC.out.mono ?_
 rintro e w1 ⟨v1, rfl, ho1, hb1⟩
 have T1 := Lib.hid ((hb1.block w.heap.size (by rw [ZA.out]; omega)).trans TA.out)
 have R1 := Lib.hid ((hb1.block (w.heap.size + 1) (by rw [ZA.out]; omega)).trans RA.out)
 have Z1 : Hid (w.heap.size + 2 ≤ w1.heap.size) := Lib.hid (by have := hb1.size; rw [ZA.out] at this; exact this)
 have G1 := Lib.hid (GA.out.trans (hb1.mono GA.out.size))
 rw [ZA.out] at ho1
 obtain ⟨a1, e1, rfl, -, -, ho1', -⟩ := ho1.parts
 rw [HDN.out] at ho1'
 rw [HDN.out]
 have O1 := Lib.hid ho1'
 clear ho1 ho1' hb1 KC c0 c1 c2 c3 f0 f1 f2 f3
 obtain ⟨⟨c0, c1, c2, c3⟩, f0, f1, f2, f3⟩ := st4_cells T1.out
 have T2 : Hid ((w1.setCell ⟨w.heap.size, 2, none⟩ (.slice a1 dn e1)).heap[w.heap.size]? = some (.cells #[.int .i64 t.node, .int .i64 t.seq, .slice a1 dn e1, .slice ea en ec] 29 (0, 0))) := Lib.hid (heap_setCell_same _ _ 2 _ _ _ T1.out)
 have R2 : Hid ((w1.setCell ⟨w.heap.size, 2, none⟩ (.slice a1 dn e1)).heap[w.heap.size + 1]? = some (.cells #[.int .i64 0, .int .i64 0, .slice none 0 0, .slice none 0 0] 29 (0, 0))) := Lib.hid ((heap_setCell_other _ _ _ _ (show w.heap.size + 1 ≠ w.heap.size by omega)).trans R1.out)
 have Z2 : Hid (w.heap.size + 2 ≤ (w1.setCell ⟨w.heap.size, 2, none⟩ (.slice a1 dn e1)).heap.size) := Lib.hid (by have := Z1.out; simp [World.setCell]; omega)
 have G2 : Hid (Below w.heap.size w (w1.setCell ⟨w.heap.size, 2, none⟩ (.slice a1 dn e1))) := Lib.hid (G1.out.setCell (Nat.le_refl _) _)
 have O2 : Hid (OwnE LInt (w.heap.size + 2) (w1.setCell ⟨w.heap.size, 2, none⟩ (.slice a1 dn e1)) (.slice a1 dn e1) t.deps) := Lib.hid (O1.out.but flat_int (But.set _ _ _ _) (by omega))
 go_upto_region 2 with fail
 clear c0 c1 c2 c3 f0 f1 f2 f3 T1 R1 Z1 G1 O1
 generalize (w1.setCell ⟨w.heap.size, 2, none⟩ (.slice a1 dn e1)) = w2 at *
 obtain ⟨⟨c0, c1, c2, c3⟩, f0, f1, f2, f3⟩ := st4_cells T2.out
 have K2 := Lib.hid (KO.out w2 G2.out)
 go_wp2_with fail
 refine K2.out.mono ?_
 rintro e w3 ⟨v2, rfl, ho2, hb2⟩
 have T3 := Lib.hid ((hb2.block w.heap.size (by have := Z2.out; omega)).trans T2.out)
 have R3 := Lib.hid ((hb2.block (w.heap.size + 1) (by have := Z2.out; omega)).trans R2.out)
 have G3 := Lib.hid (G2.out.trans (hb2.mono G2.out.size))
 have Z3 : Hid (w.heap.size + 2 ≤ w3.heap.size) := Lib.hid (Nat.le_trans Z2.out hb2.size)
 have O3 := Lib.hid (O2.out.below hb2 (Nat.le_refl _))
 have E3 : Hid (OwnJ (fun b => w.heap.size + 2 ≤ b) LEff (w.heap.size + 2) w3 v2 (eonly t.effs zs)) := Lib.hid ((ho2.mono Z2.out).imp fun b hb => Nat.le_trans Z2.out hb)
 obtain ⟨a2, e2, rfl, -, -, -, -⟩ := ho2.own.parts
 clear ho2 hb2 K2 KO c0 c1 c2 c3 f0 f1 f2 f3
 generalize hql : (eonly t.effs zs).length = ql at *
 clear hql
 obtain ⟨⟨c0, c1, c2, c3⟩, f0, f1, f2, f3⟩ := st4_cells T3.out
 have T4 : Hid ((w3.setCell ⟨w.heap.size, 3, none⟩ (.slice a2 ql e2)).heap[w.heap.size]? = some (.cells #[.int .i64 t.node, .int .i64 t.seq, .slice a1 dn e1, .slice a2 ql e2] 29 (0, 0))) := Lib.hid (heap_setCell_same _ _ 3 _ _ _ T3.out)
 have R4 : Hid ((w3.setCell ⟨w.heap.size, 3, none⟩ (.slice a2 ql e2)).heap[w.heap.size + 1]? = some (.cells #[.int .i64 0, .int .i64 0, .slice none 0 0, .slice none 0 0] 29 (0, 0))) := Lib.hid ((heap_setCell_other _ _ _ _ (show w.heap.size + 1 ≠ w.heap.size by omega)).trans R3.out)
 have G4 : Hid (Below w.heap.size w (w3.setCell ⟨w.heap.size, 3, none⟩ (.slice a2 ql e2))) := Lib.hid (G3.out.setCell (Nat.le_refl _) _)
 have O4 : Hid (OwnE LInt (w.heap.size + 2) (w3.setCell ⟨w.heap.size, 3, none⟩ (.slice a2 ql e2)) (.slice a1 dn e1) t.deps) := Lib.hid (O3.out.but flat_int (But.set _ _ _ _) (by omega))
 have E4 : Hid (OwnJ (fun b => w.heap.size + 2 ≤ b) LEff (w.heap.size + 2) (w3.setCell ⟨w.heap.size, 3, none⟩ (.slice a2 ql e2)) (.slice a2 ql e2) (eonly t.effs zs)) := Lib.hid (E3.out.but (But.set _ _ _ _) (by omega) (fun b hb e => by omega))
 go_upto_region 3 with fail
 clear c0 c1 c2 c3 f0 f1 f2 f3 T3 R3 G3 O3 E3 Z3
 generalize (w3.setCell ⟨w.heap.size, 3, none⟩ (.slice a2 ql e2)) = w4 at *
 obtain ⟨⟨c0, c1, c2, c3⟩, -⟩ := st4_cells T4.out
 obtain ⟨⟨y0, y1, y2, y3⟩, f0, f1, f2, f3⟩ := st4_cells R4.out
 have FC := Lib.hid (st4_cells (st4_block (v0 := .int .i64 t.node) (v1 := .int .i64 t.seq) (v2 := .slice a1 dn e1) (v3 := .slice a2 ql e2) R4.out)).1
 have FB := Lib.hid (st4_below (v0 := .int .i64 t.node) (v1 := .int .i64 t.seq) (v2 := .slice a1 dn e1) (v3 := .slice a2 ql e2) G4.out (Nat.le_succ w.heap.size))
 have FT := Lib.hid (st4_bare w4 (w.heap.size + 1) (.int .i64 t.node) (.int .i64 t.seq) (.slice a1 dn e1) (.slice a2 ql e2))
 have FD := Lib.hid ((O4.out.but flat_int FT.out (by omega)).new flat_int)
 have FE := Lib.hid ((E4.out.but FT.out (by omega) (fun b hb e => by omega)).sq fun b hb _ => hb)
 clear FT
 unfold st4 at FC FB FD FE
 go_wp2_with fail
 obtain ⟨z0, z1, z2, z3⟩ := FC.out
 refine bodyPost_ret (v := .agg #[.int .i64 t.node, .int .i64 t.seq, .slice a1 dn e1, .slice a2 ql e2]) (by simp [results, Tryz.results32, go_sem, z0, z1, z2, z3]) rfl ?_
 rw [HR.out]
 exact ⟨_, rfl, ⟨_, _, rfl, FD.out.mono fun b hb => ⟨by have := hb.1; omega, hb.2⟩, FE.out.mono fun b hb => ⟨by have := hb.1; omega, hb.2⟩⟩, FB.out⟩
end Go.Proofs.YtmknpmamkjjiaaaGreat
namespace Go.Proofs.YtmknpmamkjjiaaaGreat
end Go.Proofs.YtmknpmamkjjiaaaGreat
namespace Go.Proofs.YtmknpmamkjjiaaaGreat
open Go.RowKit Plain
set_option linter.unusedVariables false

theorem one_txn {w : World} {dv ev : Value} {t : PTxn} (h1 : SeqE LInt w dv t.deps) (h2 : SeqE LEff w ev t.effs) : SeqE LTxn (w.alloc (.cells #[.int .i64 t.node, .int .i64 t.seq, dv, ev] 29)) (.slice (some ⟨w.heap.size, 0, none⟩) 1 1) [t] :=
 SeqE.one (L := LTxn) (w := w) (vs := cellsTx t dv ev) (x := t) ⟨dv, ev, rfl, h1, h2⟩ #[.int .i64 t.node, .int .i64 t.seq, dv, ev] rfl
/-- the variable that holds a transaction -/
structure TxBox (g : Nat) (t : PTxn) (da : Option Addr) (dn dc : Nat) (ea : Option Addr) (en ec : Nat) (u : World) : Prop where
 c : u.cell? ⟨g, 0, none⟩ = some (.int .i64 t.node) ∧ u.cell? ⟨g, 1, none⟩ = some (.int .i64 t.seq) ∧ u.cell? ⟨g, 2, none⟩ = some (.slice da dn dc) ∧ u.cell? ⟨g, 3, none⟩ = some (.slice ea en ec)
 d : SeqE LInt u (.slice da dn dc) t.deps
 e : SeqE LEff u (.slice ea en ec) t.effs
theorem TxBox.below {g : Nat} {t : PTxn} {da : Option Addr} {dn dc : Nat} {ea : Option Addr} {en ec : Nat} {u u' : World} (k : TxBox g t da dn dc ea en ec u) (hb : Below u.heap.size u u') : TxBox g t da dn dc ea en ec u' := by
 have c : ∀ {a : Addr} {v : Value}, u.cell? a = some v → u'.cell? a = some v := fun g => (hb.cell (World.block_lt_of_cell? u _ g)).trans g
 obtain ⟨h0, h1, h2, h3⟩ := k.c
 exact ⟨⟨c h0, c h1, c h2, c h3⟩, k.d.below hb, k.e.below hb⟩
theorem TxBox.is {g : Nat} {t : PTxn} {da : Option Addr} {dn dc : Nat} {ea : Option Addr} {en ec : Nat} {u : World} (k : TxBox g t da dn dc ea en ec u) : IsTxn u (.agg #[.int .i64 t.node, .int .i64 t.seq, .slice da dn dc, .slice ea en ec]) t := ⟨_, _, rfl, k.d, k.e⟩
theorem txbox_new {w : World} {t : PTxn} {da : Option Addr} {dn dc : Nat} {ea : Option Addr} {en ec : Nat} (h1 : SeqE LInt w (.slice da dn dc) t.deps) (h2 : SeqE LEff w (.slice ea en ec) t.effs) : TxBox w.heap.size t da dn dc ea en ec (w.alloc (.cells #[.int .i64 t.node, .int .i64 t.seq, .slice da dn dc, .slice ea en ec] 29)) :=
 have hb := (Below.refl w.heap.size w).alloc (Nat.le_refl _) (.cells #[.int .i64 t.node, .int .i64 t.seq, .slice da dn dc, .slice ea en ec] 29)
 ⟨⟨by simp, by simp, by simp, by simp⟩, h1.below hb, h2.below hb⟩
/-- a transaction's value, its two slices told -/
theorem IsTxn.parts {w : World} {v : Value} {t : PTxn} (h : IsTxn w v t) : ∃ da dn dc ea en ec, v = .agg #[.int .i64 t.node, .int .i64 t.seq, .slice da dn dc, .slice ea en ec] ∧ SeqE LInt w (.slice da dn dc) t.deps ∧ SeqE LEff w (.slice ea en ec) t.effs := by
 obtain ⟨dv, ev, rfl, h1, h2⟩ := h
 obtain ⟨a1, c1, rfl, -, -, -, k1⟩ := h1.parts
 obtain ⟨a2, c2, rfl, -, -, -, k2⟩ := h2.parts
 exact ⟨_, _, _, _, _, _, rfl, k1, k2⟩
theorem fitTx_of {t : PTxn} (h : shortTx [t] = true) (hok : txnOk t) : FitTx t := by
 unfold shortTx shortTx1 at h
 simp only [List.all_cons, List.all_nil, Bool.and_true, Bool.and_eq_true, decide_eq_true_iff] at h
 obtain ⟨-, h1, h2⟩ := h
 obtain ⟨g1, g2⟩ := shortE_iff.1 h2
 exact ⟨by omega, by omega, fun e he => by have := (shortE1_iff.1 (g2 e he)).2.2.2; omega, hok⟩
end Go.Proofs.YtmknpmamkjjiaaaGreat
