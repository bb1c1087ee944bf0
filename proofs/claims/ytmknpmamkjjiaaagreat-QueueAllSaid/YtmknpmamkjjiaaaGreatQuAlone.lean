/- The program's own alone of queues: a transaction in memory of its own. (Written by gen-quheard.py.) -/
import Derived.Test.YtmknpmamkjjiaaaGreatQuRow
import Derived.Test.YtmknpmamkjjiaaaGreatTxUses
import Derived.Test.YtmknpmamkjjiaaaGreatRefTxOC
import Derived.Deep.Cut
namespace Go.Proofs.YtmknpmamkjjiaaaGreat
open Go.RowKit Plain
set_option linter.unusedVariables false

set_option maxRecDepth 100000 in
set_option maxHeartbeats 8000000 in
/-- alone -/
theorem qualone_any {v : Value} {t : PTxn} {w : World} (h : IsTxn w v t) (ht : FitTx t) : Calls Tryz.prog 21 #[v] w (GivesTxN w t) := by
 obtain ⟨da, dn, dc, ea, en, ec, rfl, k1, k2⟩ := h.parts
 have hB : Below w.heap.size w ((w.alloc (.cells #[.int .i64 t.node, .int .i64 t.seq, .slice da dn dc, .slice ea en ec] 29)).alloc (.cells #[.int .i64 0, .int .i64 0, .slice none 0 0, .slice none 0 0] 29)) := ((Below.refl w.heap.size w).alloc (Nat.le_refl _) _).alloc (by simp) _
 have hZ : ((w.alloc (.cells #[.int .i64 t.node, .int .i64 t.seq, .slice da dn dc, .slice ea en ec] 29)).alloc (.cells #[.int .i64 0, .int .i64 0, .slice none 0 0, .slice none 0 0] 29)).heap.size = w.heap.size + 2 := by simp
 have TA : Hid (((w.alloc (.cells #[.int .i64 t.node, .int .i64 t.seq, .slice da dn dc, .slice ea en ec] 29)).alloc (.cells #[.int .i64 0, .int .i64 0, .slice none 0 0, .slice none 0 0] 29)).heap[w.heap.size]? = some (.cells #[.int .i64 t.node, .int .i64 t.seq, .slice da dn dc, .slice ea en ec] 29 (0, 0))) := Lib.hid (((((Below.refl (w.heap.size + 1) (w.alloc (.cells #[.int .i64 t.node, .int .i64 t.seq, .slice da dn dc, .slice ea en ec] 29))).alloc (by simp) (.cells #[.int .i64 0, .int .i64 0, .slice none 0 0, .slice none 0 0] 29)).block w.heap.size (by omega))).trans (heap_alloc_new w _))
 have RA : Hid (((w.alloc (.cells #[.int .i64 t.node, .int .i64 t.seq, .slice da dn dc, .slice ea en ec] 29)).alloc (.cells #[.int .i64 0, .int .i64 0, .slice none 0 0, .slice none 0 0] 29)).heap[w.heap.size + 1]? = some (.cells #[.int .i64 0, .int .i64 0, .slice none 0 0, .slice none 0 0] 29 (0, 0))) := Lib.hid (by
  have h := heap_alloc_new (w.alloc (.cells #[.int .i64 t.node, .int .i64 t.seq, .slice da dn dc, .slice ea en ec] 29)) (.cells #[.int .i64 0, .int .i64 0, .slice none 0 0, .slice none 0 0] 29)
  rw [show (w.alloc (.cells #[.int .i64 t.node, .int .i64 t.seq, .slice da dn dc, .slice ea en ec] 29)).heap.size = w.heap.size + 1 by simp] at h
  exact h)
 have KO := Lib.hid (fun u z (hb : Below w.heap.size w u) (hz : SeqT u z [[]]) => txonlyN (v := .agg #[.int .i64 t.node, .int .i64 t.seq, .slice da dn dc, .slice ea en ec]) (t := t) ⟨_, _, rfl, k1.below hb, k2.below hb⟩ hz (by simp) (by simp) ht)
 rw [tonly_all] at KO
 have GA := Lib.hid hB
 have ZA := Lib.hid hZ
 clear h ht k1 k2 hB hZ
 go_enter Tryz.func21, Tryz.ntmps21
 go_upto_region 1 with fail
 generalize ((w.alloc (.cells #[.int .i64 t.node, .int .i64 t.seq, .slice da dn dc, .slice ea en ec] 29)).alloc (.cells #[.int .i64 0, .int .i64 0, .slice none 0 0, .slice none 0 0] 29)) = w0 at *
 obtain ⟨⟨c0, c1, c2, c3⟩, -⟩ := st4_cells TA.out
 have hb0 := (Below.refl w0.heap.size w0).alloc (Nat.le_refl _) (.cells #[.string ⟨#[]⟩] 9)
 have G1 := Lib.hid (GA.out.trans (hb0.mono GA.out.size))
 have R1 := Lib.hid ((hb0.block (w.heap.size + 1) (by rw [ZA.out]; omega)).trans RA.out)
 have Z1 : Hid ((w0.alloc (.cells #[.string ⟨#[]⟩] 9)).heap.size = w.heap.size + 3) := Lib.hid (by have := ZA.out; simp; omega)
 have K1 := Lib.hid (KO.out _ _ G1.out (SeqT.one w0 []))
 clear hb0 GA RA TA KO
 go_wp2_with fail
 generalize (w0.alloc (.cells #[.string ⟨#[]⟩] 9)) = w1 at *
 refine K1.out.mono ?_
 rintro e w2 ⟨u, rfl, hu, hb⟩
 obtain ⟨a1, n1, e1, a2, n2, e2, rfl, hu⟩ := hu.parts
 have R2 := Lib.hid ((hb.block (w.heap.size + 1) (by rw [Z1.out]; omega)).trans R1.out)
 have G2 := Lib.hid (G1.out.trans (hb.mono G1.out.size))
 have U2 := Lib.hid hu
 clear hu hb K1 c0 c1 c2 c3 G1 R1
 obtain ⟨⟨y0, y1, y2, y3⟩, f0, f1, f2, f3⟩ := st4_cells R2.out
 have FC := Lib.hid (st4_cells (st4_block (v0 := .int .i64 t.node) (v1 := .int .i64 t.seq) (v2 := .slice a1 n1 e1) (v3 := .slice a2 n2 e2) R2.out)).1
 have FB := Lib.hid (st4_below (v0 := .int .i64 t.node) (v1 := .int .i64 t.seq) (v2 := .slice a1 n1 e1) (v3 := .slice a2 n2 e2) G2.out (Nat.le_succ w.heap.size))
 have FU := Lib.hid ((U2.out.agree fun b hb => st4_other w2 (w.heap.size + 1) (.int .i64 t.node) (.int .i64 t.seq) (.slice a1 n1 e1) (.slice a2 n2 e2) b (by have := Z1.out; omega)).mono fun b hb => (⟨by have := Z1.out; omega, by rw [st4_size]; exact hb.2⟩ : w.heap.size ≤ b ∧ b < (st4 w2 (w.heap.size + 1) (.int .i64 t.node) (.int .i64 t.seq) (.slice a1 n1 e1) (.slice a2 n2 e2)).heap.size))
 unfold st4 at FC FB FU
 go_wp2_with fail
 obtain ⟨z0, z1, z2, z3⟩ := FC.out
 refine bodyPost_ret (v := .agg #[.int .i64 t.node, .int .i64 t.seq, .slice a1 n1 e1, .slice a2 n2 e2]) (by simp [results, Tryz.results21, go_sem, z0, z1, z2, z3]) rfl ?_
 exact ⟨_, rfl, FU.out, FB.out⟩
end Go.Proofs.YtmknpmamkjjiaaaGreat
