/- The program's own reader of messages: msg. (Written by gen-msmsg.py.) -/
import Derived.Test.YtfapkepfngddlaaGreatMsTxR
import Derived.Test.YtfapkepfngddlaaGreatMsg
namespace Go.Proofs.YtfapkepfngddlaaGreat
open Go.RowKit Plain
set_option linter.unusedVariables false

def ts9 (w : World) (g : Nat) (v0 v1 v2 v3 v4 v5 v6 v7 v8 : Value) : World := ((((((((w.setCell ⟨g, 0, none⟩ v0).setCell ⟨g, 1, none⟩ v1).setCell ⟨g, 2, none⟩ v2).setCell ⟨g, 3, none⟩ v3).setCell ⟨g, 4, none⟩ v4).setCell ⟨g, 5, none⟩ v5).setCell ⟨g, 6, none⟩ v6).setCell ⟨g, 7, none⟩ v7).setCell ⟨g, 8, none⟩ v8
theorem tcells9 {u : World} {g : Nat} {v0 v1 v2 v3 v4 v5 v6 v7 v8 : Value} {t : TypeId} (h : u.heap[g]? = some (.cells #[v0, v1, v2, v3, v4, v5, v6, v7, v8] t (0, 0))) : (u.cell? ⟨g, 0, none⟩ = some v0 ∧ u.cell? ⟨g, 1, none⟩ = some v1 ∧ u.cell? ⟨g, 2, none⟩ = some v2 ∧ u.cell? ⟨g, 3, none⟩ = some v3 ∧ u.cell? ⟨g, 4, none⟩ = some v4 ∧ u.cell? ⟨g, 5, none⟩ = some v5 ∧ u.cell? ⟨g, 6, none⟩ = some v6 ∧ u.cell? ⟨g, 7, none⟩ = some v7 ∧ u.cell? ⟨g, 8, none⟩ = some v8) ∧ u.frozen? ⟨g, 0, none⟩ = false ∧ u.frozen? ⟨g, 1, none⟩ = false ∧ u.frozen? ⟨g, 2, none⟩ = false ∧ u.frozen? ⟨g, 3, none⟩ = false ∧ u.frozen? ⟨g, 4, none⟩ = false ∧ u.frozen? ⟨g, 5, none⟩ = false ∧ u.frozen? ⟨g, 6, none⟩ = false ∧ u.frozen? ⟨g, 7, none⟩ = false ∧ u.frozen? ⟨g, 8, none⟩ = false := ⟨nine_cells h, nine_free h 0 (by omega), nine_free h 1 (by omega), nine_free h 2 (by omega), nine_free h 3 (by omega), nine_free h 4 (by omega), nine_free h 5 (by omega), nine_free h 6 (by omega), nine_free h 7 (by omega), nine_free h 8 (by omega)⟩
set_option maxHeartbeats 4000000 in
theorem ts9_block {w : World} {g : Nat} {z0 z1 z2 z3 z4 z5 z6 z7 z8 v0 v1 v2 v3 v4 v5 v6 v7 v8 : Value} {t : TypeId} (h : w.heap[g]? = some (.cells #[z0, z1, z2, z3, z4, z5, z6, z7, z8] t (0, 0))) : (ts9 w g v0 v1 v2 v3 v4 v5 v6 v7 v8).heap[g]? = some (.cells #[v0, v1, v2, v3, v4, v5, v6, v7, v8] t (0, 0)) := by
 unfold ts9
 rw [(heap_setCell_same _ g 8 _ _ _ (heap_setCell_same _ g 7 _ _ _ (heap_setCell_same _ g 6 _ _ _ (heap_setCell_same _ g 5 _ _ _ (heap_setCell_same _ g 4 _ _ _ (heap_setCell_same _ g 3 _ _ _ (heap_setCell_same _ g 2 _ _ _ (heap_setCell_same _ g 1 _ _ _ (heap_setCell_same _ g 0 _ _ _ h)))))))))]
 rfl
theorem ts9_but {w u : World} {g R : Nat} {v0 v1 v2 v3 v4 v5 v6 v7 v8 : Value} (h : But g w u) (hw : g < w.heap.size) (hR : w.heap.size ≤ R) : But g w (ts9 u R v0 v1 v2 v3 v4 v5 v6 v7 v8) := (((((((((h.store hw hR).store hw hR).store hw hR).store hw hR).store hw hR).store hw hR).store hw hR).store hw hR).store hw hR)
theorem ts9_box {w : World} {g R : Nat} {s : Rb} {v0 v1 v2 v3 v4 v5 v6 v7 v8 : Value} (h : MrBox w g s) (hR : g < R) : MrBox (ts9 w R v0 v1 v2 v3 v4 v5 v6 v7 v8) g s := (((((((((h.store hR).store hR).store hR).store hR).store hR).store hR).store hR).store hR).store hR)
theorem ts9_bare (w : World) (R : Nat) (v0 v1 v2 v3 v4 v5 v6 v7 v8 : Value) : But R w (ts9 w R v0 v1 v2 v3 v4 v5 v6 v7 v8) := (((((((((But.set R w 0 v0).trans (But.set R _ 1 v1)).trans (But.set R _ 2 v2)).trans (But.set R _ 3 v3)).trans (But.set R _ 4 v4)).trans (But.set R _ 5 v5)).trans (But.set R _ 6 v6)).trans (But.set R _ 7 v7)).trans (But.set R _ 8 v8))
theorem ts9_below {B : Nat} {w u : World} {g : Nat} {v0 v1 v2 v3 v4 v5 v6 v7 v8 : Value} (h : Below B w u) (hg : B ≤ g) : Below B w (ts9 u g v0 v1 v2 v3 v4 v5 v6 v7 v8) := (((((((((h.setCell hg _).setCell hg _).setCell hg _).setCell hg _).setCell hg _).setCell hg _).setCell hg _).setCell hg _).setCell hg _)
def vMs (B : Nat) (W : World) (v : Value) (m : PMsg) : Prop := ∃ va vn vc fa fn fc za zn zc na nn nc ia im ic la ln lc, v = .agg #[.int .i64 m.kind, .int .i64 m.ticket, .bool m.whole, .slice va vn vc, .slice fa fn fc, .slice za zn zc, .slice na nn nc, .slice ia im ic, .slice la ln lc] ∧ OwnE LInt B W (.slice va vn vc) m.vec ∧ OwnE LInt B W (.slice fa fn fc) m.from_ ∧ OwnE LStr B W (.slice za zn zc) m.zone ∧ OwnE LStr B W (.slice na nn nc) m.want ∧ OwnE LItem B W (.slice ia im ic) m.items ∧ OwnJ (fun b => B ≤ b) LTxn B W (.slice la ln lc) m.txns
set_option maxRecDepth 100000 in
set_option maxHeartbeats 16000000 in
theorem mmsg_any {w : World} {g : Nat} {s : Rb} (hx : MrBox w g s) (hl : s.1.length ≤ 500000) : Calls Tryz.prog 50 #[.pointer (some ⟨g, 0, none⟩)] w (GivesM (vMs w.heap.size) w g (mmsg s)) := by
 have HG := Lib.hid hx.lt
 have HNE : Hid (w.heap.size ≠ g) := Lib.hid (by have := hx.lt; omega)
 have HR : Hid (mmsg s = (⟨(mnum s).1, (mnum (mnum s).2).1, decide ((mcount 1 (mnum (mnum s).2).2).1 = 1), (mlist mnum 8 (mcount 1 (mnum (mnum s).2).2).2).1, (mlist mnum 8 (mlist mnum 8 (mcount 1 (mnum (mnum s).2).2).2).2).1, (mlist mtext 8 (mlist mnum 8 (mlist mnum 8 (mcount 1 (mnum (mnum s).2).2).2).2).2).1, (mlist mtext 8 (mlist mtext 8 (mlist mnum 8 (mlist mnum 8 (mcount 1 (mnum (mnum s).2).2).2).2).2).2).1, (mlist mitem 32768 (mlist mtext 8 (mlist mtext 8 (mlist mnum 8 (mlist mnum 8 (mcount 1 (mnum (mnum s).2).2).2).2).2).2).2).1, (mlist mtxn 4096 (mlist mitem 32768 (mlist mtext 8 (mlist mtext 8 (mlist mnum 8 (mlist mnum 8 (mcount 1 (mnum (mnum s).2).2).2).2).2).2).2).2).1⟩, (mlist mtxn 4096 (mlist mitem 32768 (mlist mtext 8 (mlist mtext 8 (mlist mnum 8 (mlist mnum 8 (mcount 1 (mnum (mnum s).2).2).2).2).2).2).2).2).2)) := Lib.hid (by unfold mmsg mm8 mm7 mm6 mm5 mm4 mm3 mm2 mm1 mwhole; with_reducible rfl)
 have L1 : Hid ((mnum s).2.1.length ≤ 500000) := Lib.hid (Nat.le_trans (shrb_num s) hl)
 have L2 : Hid ((mnum (mnum s).2).2.1.length ≤ 500000) := Lib.hid (Nat.le_trans (shrb_num (mnum s).2) L1.out)
 have L3 : Hid ((mcount 1 (mnum (mnum s).2).2).2.1.length ≤ 500000) := Lib.hid (Nat.le_trans (shrb_count 1 (mnum (mnum s).2).2) L2.out)
 have L4 : Hid ((mlist mnum 8 (mcount 1 (mnum (mnum s).2).2).2).2.1.length ≤ 500000) := Lib.hid (Nat.le_trans (shrb_list shrb_num 8 (mcount 1 (mnum (mnum s).2).2).2) L3.out)
 have L5 : Hid ((mlist mnum 8 (mlist mnum 8 (mcount 1 (mnum (mnum s).2).2).2).2).2.1.length ≤ 500000) := Lib.hid (Nat.le_trans (shrb_list shrb_num 8 (mlist mnum 8 (mcount 1 (mnum (mnum s).2).2).2).2) L4.out)
 have L6 : Hid ((mlist mtext 8 (mlist mnum 8 (mlist mnum 8 (mcount 1 (mnum (mnum s).2).2).2).2).2).2.1.length ≤ 500000) := Lib.hid (Nat.le_trans (shrb_list shrb_text 8 (mlist mnum 8 (mlist mnum 8 (mcount 1 (mnum (mnum s).2).2).2).2).2) L5.out)
 have L7 : Hid ((mlist mtext 8 (mlist mtext 8 (mlist mnum 8 (mlist mnum 8 (mcount 1 (mnum (mnum s).2).2).2).2).2).2).2.1.length ≤ 500000) := Lib.hid (Nat.le_trans (shrb_list shrb_text 8 (mlist mtext 8 (mlist mnum 8 (mlist mnum 8 (mcount 1 (mnum (mnum s).2).2).2).2).2).2) L6.out)
 have L8 : Hid ((mlist mitem 32768 (mlist mtext 8 (mlist mtext 8 (mlist mnum 8 (mlist mnum 8 (mcount 1 (mnum (mnum s).2).2).2).2).2).2).2).2.1.length ≤ 500000) := Lib.hid (Nat.le_trans (shrb_list shrb_item 32768 (mlist mtext 8 (mlist mtext 8 (mlist mnum 8 (mlist mnum 8 (mcount 1 (mnum (mnum s).2).2).2).2).2).2).2) L7.out)
 generalize mmsg s = res at *
 have hba := (Below.refl w.heap.size w).alloc (Nat.le_refl _) (.cells #[.int .i64 0, .int .i64 0, .bool false, .slice none 0 0, .slice none 0 0, .slice none 0 0, .slice none 0 0, .slice none 0 0, .slice none 0 0] 28)
 have K0 := Lib.hid (mnum_any (hx.below hba) hl)
 have R0 : Hid ((w.alloc (.cells #[.int .i64 0, .int .i64 0, .bool false, .slice none 0 0, .slice none 0 0, .slice none 0 0, .slice none 0 0, .slice none 0 0, .slice none 0 0] 28)).heap[w.heap.size]? = some (.cells #[.int .i64 0, .int .i64 0, .bool false, .slice none 0 0, .slice none 0 0, .slice none 0 0, .slice none 0 0, .slice none 0 0, .slice none 0 0] 28 (0, 0))) := Lib.hid (heap_alloc_new _ _)
 have Z0 : Hid (w.heap.size < (w.alloc (.cells #[.int .i64 0, .int .i64 0, .bool false, .slice none 0 0, .slice none 0 0, .slice none 0 0, .slice none 0 0, .slice none 0 0, .slice none 0 0] 28)).heap.size) := Lib.hid (by simp)
 have G0 : Hid (But g w (w.alloc (.cells #[.int .i64 0, .int .i64 0, .bool false, .slice none 0 0, .slice none 0 0, .slice none 0 0, .slice none 0 0, .slice none 0 0, .slice none 0 0] 28))) := Lib.hid (But.of hba (Nat.le_of_lt hx.lt))
 clear hx hl hba
 go_enter Tryz.func50, Tryz.ntmps50
 go_upto_region 1 with fail
 generalize (w.alloc (.cells #[.int .i64 0, .int .i64 0, .bool false, .slice none 0 0, .slice none 0 0, .slice none 0 0, .slice none 0 0, .slice none 0 0, .slice none 0 0] 28)) = w0 at *
 generalize mnum s = q1 at *
 go_wp2_with fail
 refine K0.out.mono ?_
 rintro e w1 ⟨v, rfl, hv, hx, hb⟩
 obtain rfl : v = .int .i64 q1.1 := hv
 have R1 := Lib.hid ((hb.block _ Z0.out HNE.out).trans R0.out)
 have Z1 := Lib.hid (Nat.lt_of_lt_of_le Z0.out hb.size)
 have G1 := Lib.hid (G0.out.trans hb)
 have K1 := Lib.hid (mnum_any hx L1.out)
 generalize mnum q1.2 = q2 at *
 clear hx hb K0
 go_wp2_with fail
 refine K1.out.mono ?_
 rintro e w2 ⟨v, rfl, hv, hx, hb⟩
 obtain rfl : v = .int .i64 q2.1 := hv
 have R2 := Lib.hid ((hb.block _ Z1.out HNE.out).trans R1.out)
 have Z2 := Lib.hid (Nat.lt_of_lt_of_le Z1.out hb.size)
 have G2 := Lib.hid (G1.out.trans hb)
 have K2 := Lib.hid (mcount_any hx L2.out 1)
 generalize mcount 1 q2.2 = q3 at *
 clear hx hb K1
 go_wp2_with fail
 refine K2.out.mono ?_
 rintro e w3 ⟨v, rfl, hv, hx, hb⟩
 obtain rfl : v = .int .i64 q3.1 := hv
 have E3 : (((q3.1 : Nat) : Int) == 1) = decide (q3.1 = 1) := by by_cases h : q3.1 = 1 <;> simp [h] <;> omega
 have R3 := Lib.hid ((hb.block _ Z2.out HNE.out).trans R2.out)
 have Z3 := Lib.hid (Nat.lt_of_lt_of_le Z2.out hb.size)
 have G3 := Lib.hid (G2.out.trans hb)
 have K3 := Lib.hid (mvec_any hx L3.out)
 generalize mlist mnum 8 q3.2 = q4 at *
 clear hx hb K2
 go_wp2_with fail
 refine K3.out.mono ?_
 rintro e w4 ⟨v, rfl, hv, hx, hb⟩
 have R4 := Lib.hid ((hb.block _ Z3.out HNE.out).trans R3.out)
 have Z4 := Lib.hid (Nat.lt_of_lt_of_le Z3.out hb.size)
 have G4 := Lib.hid (G3.out.trans hb)
 change OwnE LInt w3.heap.size w4 v q4.1 at hv
 obtain ⟨va, vc, rfl, -, -, hv', -⟩ := hv.parts
 have Ov : Hid (OwnE LInt (w.heap.size + 1) w4 (.slice va q4.1.length vc) q4.1) := Lib.hid (hv'.mono (Nat.succ_le_of_lt Z3.out))
 obtain ⟨vn, hLv⟩ : ∃ n, q4.1.length = n := ⟨_, rfl⟩
 rw [hLv] at Ov ⊢
 clear hv hv' hLv
 have K4 := Lib.hid (mvec_any hx L4.out)
 generalize mlist mnum 8 q4.2 = q5 at *
 clear hx hb K3
 go_wp2_with fail
 refine K4.out.mono ?_
 rintro e w5 ⟨v, rfl, hv, hx, hb⟩
 have R5 := Lib.hid ((hb.block _ Z4.out HNE.out).trans R4.out)
 have Z5 := Lib.hid (Nat.lt_of_lt_of_le Z4.out hb.size)
 have G5 := Lib.hid (G4.out.trans hb)
 change OwnE LInt w4.heap.size w5 v q5.1 at hv
 obtain ⟨fa, fc, rfl, -, -, hv', -⟩ := hv.parts
 have Of : Hid (OwnE LInt (w.heap.size + 1) w5 (.slice fa q5.1.length fc) q5.1) := Lib.hid (hv'.mono (Nat.succ_le_of_lt Z4.out))
 obtain ⟨fn, hLf⟩ : ∃ n, q5.1.length = n := ⟨_, rfl⟩
 rw [hLf] at Of ⊢
 clear hv hv' hLf
 replace Ov := Lib.hid (Ov.out.but flat_int hb (Nat.lt_succ_of_lt HG.out))
 have K5 := Lib.hid (mzone_any hx L5.out)
 generalize mlist mtext 8 q5.2 = q6 at *
 clear hx hb K4
 go_wp2_with fail
 refine K5.out.mono ?_
 rintro e w6 ⟨v, rfl, hv, hx, hb⟩
 have R6 := Lib.hid ((hb.block _ Z5.out HNE.out).trans R5.out)
 have Z6 := Lib.hid (Nat.lt_of_lt_of_le Z5.out hb.size)
 have G6 := Lib.hid (G5.out.trans hb)
 change OwnE LStr w5.heap.size w6 v q6.1 at hv
 obtain ⟨za, zc, rfl, -, -, hv', -⟩ := hv.parts
 have Oz : Hid (OwnE LStr (w.heap.size + 1) w6 (.slice za q6.1.length zc) q6.1) := Lib.hid (hv'.mono (Nat.succ_le_of_lt Z5.out))
 obtain ⟨zn, hLz⟩ : ∃ n, q6.1.length = n := ⟨_, rfl⟩
 rw [hLz] at Oz ⊢
 clear hv hv' hLz
 replace Ov := Lib.hid (Ov.out.but flat_int hb (Nat.lt_succ_of_lt HG.out))
 replace Of := Lib.hid (Of.out.but flat_int hb (Nat.lt_succ_of_lt HG.out))
 have K6 := Lib.hid (mzone_any hx L6.out)
 generalize mlist mtext 8 q6.2 = q7 at *
 clear hx hb K5
 go_wp2_with fail
 refine K6.out.mono ?_
 rintro e w7 ⟨v, rfl, hv, hx, hb⟩
 have R7 := Lib.hid ((hb.block _ Z6.out HNE.out).trans R6.out)
 have Z7 := Lib.hid (Nat.lt_of_lt_of_le Z6.out hb.size)
 have G7 := Lib.hid (G6.out.trans hb)
 change OwnE LStr w6.heap.size w7 v q7.1 at hv
 obtain ⟨na, nc, rfl, -, -, hv', -⟩ := hv.parts
 have On : Hid (OwnE LStr (w.heap.size + 1) w7 (.slice na q7.1.length nc) q7.1) := Lib.hid (hv'.mono (Nat.succ_le_of_lt Z6.out))
 obtain ⟨nn, hLn⟩ : ∃ n, q7.1.length = n := ⟨_, rfl⟩
 rw [hLn] at On ⊢
 clear hv hv' hLn
 replace Ov := Lib.hid (Ov.out.but flat_int hb (Nat.lt_succ_of_lt HG.out))
 replace Of := Lib.hid (Of.out.but flat_int hb (Nat.lt_succ_of_lt HG.out))
 replace Oz := Lib.hid (Oz.out.but flat_str hb (Nat.lt_succ_of_lt HG.out))
 have K7 := Lib.hid (mlist_item hx L7.out 32768 (by decide))
 generalize mlist mitem 32768 q7.2 = q8 at *
 clear hx hb K6
 go_wp2_with fail
 refine K7.out.mono ?_
 rintro e w8 ⟨v, rfl, hv, hx, hb⟩
 have R8 := Lib.hid ((hb.block _ Z7.out HNE.out).trans R7.out)
 have Z8 := Lib.hid (Nat.lt_of_lt_of_le Z7.out hb.size)
 have G8 := Lib.hid (G7.out.trans hb)
 change OwnE LItem w7.heap.size w8 v q8.1 at hv
 obtain ⟨ia, ic, rfl, -, -, hv', -⟩ := hv.parts
 have Oi : Hid (OwnE LItem (w.heap.size + 1) w8 (.slice ia q8.1.length ic) q8.1) := Lib.hid (hv'.mono (Nat.succ_le_of_lt Z7.out))
 obtain ⟨im, hLi⟩ : ∃ n, q8.1.length = n := ⟨_, rfl⟩
 rw [hLi] at Oi ⊢
 clear hv hv' hLi
 replace Ov := Lib.hid (Ov.out.but flat_int hb (Nat.lt_succ_of_lt HG.out))
 replace Of := Lib.hid (Of.out.but flat_int hb (Nat.lt_succ_of_lt HG.out))
 replace Oz := Lib.hid (Oz.out.but flat_str hb (Nat.lt_succ_of_lt HG.out))
 replace On := Lib.hid (On.out.but flat_str hb (Nat.lt_succ_of_lt HG.out))
 have K8 := Lib.hid (mlist_txn hx L8.out 4096 (by decide))
 generalize mlist mtxn 4096 q8.2 = q9 at *
 clear hx hb K7
 go_wp2_with fail
 refine K8.out.mono ?_
 rintro e w9 ⟨v, rfl, hv, hx, hb⟩
 have R9 := Lib.hid ((hb.block _ Z8.out HNE.out).trans R8.out)
 have Z9 := Lib.hid (Nat.lt_of_lt_of_le Z8.out hb.size)
 have G9 := Lib.hid (G8.out.trans hb)
 change OwnJ (fun b => w8.heap.size ≤ b) LTxn w8.heap.size w9 v q9.1 at hv
 obtain ⟨la, lc, rfl, -, -, -, -⟩ := hv.own.parts
 have Ol : Hid (OwnJ (fun b => w.heap.size + 1 ≤ b) LTxn (w.heap.size + 1) w9 (.slice la q9.1.length lc) q9.1) := Lib.hid ((hv.mono (Nat.succ_le_of_lt Z8.out)).imp fun b h => Nat.le_trans (Nat.succ_le_of_lt Z8.out) h)
 obtain ⟨ln, hl⟩ : ∃ n, q9.1.length = n := ⟨_, rfl⟩
 rw [hl] at Ol ⊢
 clear hv hl
 replace Ov := Lib.hid (Ov.out.but flat_int hb (Nat.lt_succ_of_lt HG.out))
 replace Of := Lib.hid (Of.out.but flat_int hb (Nat.lt_succ_of_lt HG.out))
 replace Oz := Lib.hid (Oz.out.but flat_str hb (Nat.lt_succ_of_lt HG.out))
 replace On := Lib.hid (On.out.but flat_str hb (Nat.lt_succ_of_lt HG.out))
 replace Oi := Lib.hid (Oi.out.but flat_item hb (Nat.lt_succ_of_lt HG.out))
 have X9 := Lib.hid hx
 clear hx hb K8
 obtain ⟨⟨y0, y1, y2, y3, y4, y5, y6, y7, y8⟩, f0, f1, f2, f3, f4, f5, f6, f7, f8⟩ := tcells9 R9.out
 have FC := Lib.hid (tcells9 (ts9_block (v0 := .int .i64 q1.1) (v1 := .int .i64 q2.1) (v2 := .bool (decide (q3.1 = 1))) (v3 := .slice va vn vc) (v4 := .slice fa fn fc) (v5 := .slice za zn zc) (v6 := .slice na nn nc) (v7 := .slice ia im ic) (v8 := .slice la ln lc) R9.out)).1
 have FG := Lib.hid (ts9_but (v0 := .int .i64 q1.1) (v1 := .int .i64 q2.1) (v2 := .bool (decide (q3.1 = 1))) (v3 := .slice va vn vc) (v4 := .slice fa fn fc) (v5 := .slice za zn zc) (v6 := .slice na nn nc) (v7 := .slice ia im ic) (v8 := .slice la ln lc) G9.out HG.out (Nat.le_refl w.heap.size))
 have FX := Lib.hid (ts9_box (v0 := .int .i64 q1.1) (v1 := .int .i64 q2.1) (v2 := .bool (decide (q3.1 = 1))) (v3 := .slice va vn vc) (v4 := .slice fa fn fc) (v5 := .slice za zn zc) (v6 := .slice na nn nc) (v7 := .slice ia im ic) (v8 := .slice la ln lc) X9.out HG.out)
 have KO : Hid (∀ {α : Type} {L : El α} {a : Option Addr} {n c : Nat} {xs : List α}, Flat L → OwnE L (w.heap.size + 1) w9 (.slice a n c) xs → OwnE L w.heap.size (ts9 w9 w.heap.size (.int .i64 q1.1) (.int .i64 q2.1) (.bool (decide (q3.1 = 1))) (.slice va vn vc) (.slice fa fn fc) (.slice za zn zc) (.slice na nn nc) (.slice ia im ic) (.slice la ln lc)) (.slice a n c) xs) := Lib.hid (fun hf h => (h.but hf (ts9_bare w9 w.heap.size (.int .i64 q1.1) (.int .i64 q2.1) (.bool (decide (q3.1 = 1))) (.slice va vn vc) (.slice fa fn fc) (.slice za zn zc) (.slice na nn nc) (.slice ia im ic) (.slice la ln lc)) (by omega)).mono (by omega))
 have Fv := Lib.hid (KO.out flat_int Ov.out)
 have Ff := Lib.hid (KO.out flat_int Of.out)
 have Fz := Lib.hid (KO.out flat_str Oz.out)
 have Fn := Lib.hid (KO.out flat_str On.out)
 have Fi := Lib.hid (KO.out flat_item Oi.out)
 have Fl : Hid (OwnJ (fun b => w.heap.size ≤ b) LTxn w.heap.size (ts9 w9 w.heap.size (.int .i64 q1.1) (.int .i64 q2.1) (.bool (decide (q3.1 = 1))) (.slice va vn vc) (.slice fa fn fc) (.slice za zn zc) (.slice na nn nc) (.slice ia im ic) (.slice la ln lc)) (.slice la ln lc) q9.1) := Lib.hid (((Ol.out.but (ts9_bare w9 w.heap.size (.int .i64 q1.1) (.int .i64 q2.1) (.bool (decide (q3.1 = 1))) (.slice va vn vc) (.slice fa fn fc) (.slice za zn zc) (.slice na nn nc) (.slice ia im ic) (.slice la ln lc)) (by omega) (fun b hb e => by omega)).mono (by omega)).imp fun b hb => by omega)
 clear KO
 unfold ts9 at FC FG FX Fv Ff Fz Fn Fi Fl
 go_wp2_with fail
 obtain ⟨g0, g1, g2, g3, g4, g5, g6, g7, g8⟩ := FC.out
 refine bodyPost_ret (v := .agg #[.int .i64 q1.1, .int .i64 q2.1, .bool (decide (q3.1 = 1)), .slice va vn vc, .slice fa fn fc, .slice za zn zc, .slice na nn nc, .slice ia im ic, .slice la ln lc]) (by simp [results, Tryz.results50, go_sem, g0, g1, g2, g3, g4, g5, g6, g7, g8]) rfl ?_
 rw [HR.out]
 exact ⟨_, rfl, ⟨_, _, _, _, _, _, _, _, _, _, _, _, _, _, _, _, _, _, rfl, Fv.out, Ff.out, Fz.out, Fn.out, Fi.out, Fl.out⟩, FX.out, FG.out⟩
end Go.Proofs.YtfapkepfngddlaaGreat
