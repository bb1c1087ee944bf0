/- The program's own New, follows, Push of queues. (Written by gen-qupush.py.) -/
import Derived.Test.YtmknpmamkjjiaaaGreatQuHeard
import Derived.Test.YtmknpmamkjjiaaaGreatTxFrm
import Derived.Test.YtmknpmamkjjiaaaGreatOrCon
import Derived.Deep.Cut
namespace Go.Proofs.YtmknpmamkjjiaaaGreat
open Go.RowKit Plain
set_option linter.unusedVariables false

/-- Push: what it is handed, and the answer's variable -/
structure QpAt (w : World) (m : Int) (a : Option Addr) (n c : Nat) (p s : Int) (dv ev : Value) (u : World) : Prop where
 low : Below w.heap.size w u
 pb : QuBox w.heap.size m a n c u
 tb : u.heap[w.heap.size + 1]? = some (.cells #[.int .i64 p, .int .i64 s, dv, ev] 29 (0, 0))
 rb : QuBox (w.heap.size + 1 + 1) 0 none 0 0 u
section
variable {w u u' : World} {m : Int} {a : Option Addr} {n c : Nat} {p s : Int} {dv ev : Value}
theorem QpAt.keep (h : QpAt w m a n c p s dv ev u) (hl : Below w.heap.size w u') (hb : ∀ b, w.heap.size ≤ b → b ≤ w.heap.size + 2 → u'.heap[b]? = u.heap[b]?) : QpAt w m a n c p s dv ev u' :=
 ⟨hl, h.pb.eq (hb _ (by omega) (by omega)), (hb _ (by omega) (by omega)).trans h.tb, h.rb.eq (hb _ (by omega) (by omega))⟩
theorem QpAt.below (h : QpAt w m a n c p s dv ev u) (hb : Below u.heap.size u u') : QpAt w m a n c p s dv ev u' :=
 h.keep (h.low.trans (hb.mono h.low.size)) fun b _ h2 => hb.block b (by have := h.rb.lt; omega)
theorem QpAt.tc (h : QpAt w m a n c p s dv ev u) : u.cell? ⟨w.heap.size + 1, 0, none⟩ = some (.int .i64 p) ∧ u.cell? ⟨w.heap.size + 1, 1, none⟩ = some (.int .i64 s) ∧ u.cell? ⟨w.heap.size + 1, 2, none⟩ = some dv ∧ u.cell? ⟨w.heap.size + 1, 3, none⟩ = some ev := (st4_cells h.tb).1
def tc4 (p s : Int) (dv ev : Value) : Obj := .cells #[.int .i64 p, .int .i64 s, dv, ev] 29
theorem qfollow_cells (w : World) (m : Int) (a : Option Addr) (n c : Nat) (p s : Int) (dv ev : Value) : (((w.alloc (.cells #[.int .i64 m, .slice a n c] 24)).alloc (.cells #[.int .i64 p, .int .i64 s, dv, ev] 29)).cell? ⟨w.heap.size, 0, none⟩ = some (.int .i64 m) ∧ ((w.alloc (.cells #[.int .i64 m, .slice a n c] 24)).alloc (.cells #[.int .i64 p, .int .i64 s, dv, ev] 29)).cell? ⟨w.heap.size, 1, none⟩ = some (.slice a n c)) ∧ ((w.alloc (.cells #[.int .i64 m, .slice a n c] 24)).alloc (.cells #[.int .i64 p, .int .i64 s, dv, ev] 29)).cell? ⟨w.heap.size + 1, 0, none⟩ = some (.int .i64 p) ∧ ((w.alloc (.cells #[.int .i64 m, .slice a n c] 24)).alloc (.cells #[.int .i64 p, .int .i64 s, dv, ev] 29)).cell? ⟨w.heap.size + 1, 1, none⟩ = some (.int .i64 s) := by
 show ((((w.alloc (qc m a n c)).alloc (tc4 p s dv ev)).cell? ⟨w.heap.size, 0, none⟩ = some (.int .i64 m) ∧ ((w.alloc (qc m a n c)).alloc (tc4 p s dv ev)).cell? ⟨w.heap.size, 1, none⟩ = some (.slice a n c)) ∧ ((w.alloc (qc m a n c)).alloc (tc4 p s dv ev)).cell? ⟨w.heap.size + 1, 0, none⟩ = some (.int .i64 p) ∧ ((w.alloc (qc m a n c)).alloc (tc4 p s dv ev)).cell? ⟨w.heap.size + 1, 1, none⟩ = some (.int .i64 s))
 have z1 : (w.alloc (qc m a n c)).heap.size = w.heap.size + 1 := by simp
 have b1 := heap_alloc_new (w.alloc (qc m a n c)) (tc4 p s dv ev)
 rw [z1] at b1
 exact ⟨(QuBox.below (qubox_new w m a n c) ((Below.refl _ _).alloc (Nat.le_refl _) (tc4 p s dv ev))).c.1, (st4_cells b1).1.1, (st4_cells b1).1.2.1⟩
theorem qpat_new (w : World) (m : Int) (a : Option Addr) (n c : Nat) (p s : Int) (dv ev : Value) : QpAt w m a n c p s dv ev (((w.alloc (.cells #[.int .i64 m, .slice a n c] 24)).alloc (.cells #[.int .i64 p, .int .i64 s, dv, ev] 29)).alloc (.cells #[.int .i64 0, .slice none 0 0] 24)) := by
 show QpAt w m a n c p s dv ev (((w.alloc (qc m a n c)).alloc (tc4 p s dv ev)).alloc (qc 0 none 0 0))
 have z1 : (w.alloc (qc m a n c)).heap.size = w.heap.size + 1 := by simp
 have z2 : ((w.alloc (qc m a n c)).alloc (tc4 p s dv ev)).heap.size = w.heap.size + 1 + 1 := by simp
 have b1 := heap_alloc_new (w.alloc (qc m a n c)) (tc4 p s dv ev)
 have b2 := qubox_new ((w.alloc (qc m a n c)).alloc (tc4 p s dv ev)) 0 none 0 0
 have hb : Below (w.heap.size + 1 + 1) ((w.alloc (qc m a n c)).alloc (tc4 p s dv ev)) (((w.alloc (qc m a n c)).alloc (tc4 p s dv ev)).alloc (qc 0 none 0 0)) := (Below.refl _ _).alloc (by omega) _
 rw [z1] at b1
 rw [z2] at b2
 exact ⟨(((Below.refl w.heap.size w).alloc (Nat.le_refl _) _).alloc (by simp) _).alloc (by simp; omega) _, QuBox.eq (QuBox.below (qubox_new w m a n c) ((Below.refl _ _).alloc (Nat.le_refl _) (tc4 p s dv ev))) (hb.block _ (by omega)), (hb.block _ (by omega)).trans b1, b2⟩
end
theorem qNext_nil {l : List PTxn} {t : PTxn} (h : l.length = 0) : qNext l t = true := by unfold qNext; rw [decide_eq_true h, Bool.true_or]
theorem qNext_node {l : List PTxn} {t : PTxn} (h : ¬ l.length = 0) (h1 : ¬ t.node = (qEnd l).node) : qNext l t = false := by unfold qNext; rw [decide_eq_false h, decide_eq_false h1, Bool.false_or, Bool.false_and]
theorem qNext_at {l : List PTxn} {t : PTxn} (h : ¬ l.length = 0) (h1 : t.node = (qEnd l).node) : qNext l t = decide (t.seq - 1 = (qEnd l).seq) := by unfold qNext; rw [decide_eq_false h, decide_eq_true h1, Bool.false_or, Bool.true_and]
def qBad (m : Int) : Bool := decide (m < 0) || decide (16 < m)
def qNew (m : Int) : PQueue := if qBad m = true then ⟨0, []⟩ else ⟨m, []⟩
def qNewErr (m : Int) : Int := if qBad m = true then 1 else 0
theorem qNew_bad {m : Int} (h : m < 0 ∨ 16 < m) : qNew m = ⟨0, []⟩ ∧ qNewErr m = 1 := by
 have e : qBad m = true := by unfold qBad; rcases h with h | h <;> simp [h]
 unfold qNew qNewErr
 rw [e]
 exact ⟨rfl, rfl⟩
theorem qNew_ok {m : Int} (h1 : ¬ m < 0) (h2 : ¬ 16 < m) : qNew m = ⟨m, []⟩ ∧ qNewErr m = 0 := by
 have e : qBad m = false := by unfold qBad; simp [h1, h2]
 unfold qNew qNewErr
 rw [e]
 exact ⟨rfl, rfl⟩
set_option maxRecDepth 100000 in
set_option maxHeartbeats 8000000 in
/-- New -/
theorem qunew_any (m : Int) (w : World) : Calls Tryz.prog 7 #[.int .i64 m] w (GivesQuE w (qNew m) (qNewErr m)) := by
 have QB := Lib.hid (qubox_new w 0 none 0 0)
 have LB := Lib.hid ((Below.refl w.heap.size w).alloc (Nat.le_refl _) (.cells #[.int .i64 0, .slice none 0 0] 24))
 go_enter Tryz.func7, Tryz.ntmps7
 go_upto_region 1 with fail
 generalize (w.alloc (.cells #[.int .i64 0, .slice none 0 0] 24)) = w0 at *
 obtain ⟨⟨c0, c1⟩, f0, f1⟩ := QB.out.c
 have Z0 := Lib.hid ((QB.out.put 0 none 0 0).c.1)
 have Z1 := Lib.hid ((QB.out.put m none 0 0).c.1)
 have B0 := Lib.hid ((LB.out.setCell (Nat.le_refl _) _).setCell (Nat.le_refl _) _ : Below w.heap.size w ((w0.setCell ⟨w.heap.size, 0, none⟩ (.int .i64 0)).setCell ⟨w.heap.size, 1, none⟩ (.slice none 0 0)))
 have B1 := Lib.hid ((LB.out.setCell (Nat.le_refl _) _).setCell (Nat.le_refl _) _ : Below w.heap.size w ((w0.setCell ⟨w.heap.size, 0, none⟩ (.int .i64 m)).setCell ⟨w.heap.size, 1, none⟩ (.slice none 0 0)))
 by_cases h1 : m < 0
 ·have HE := Lib.hid (qNew_bad (.inl h1))
  go_wp2_with fail
  obtain ⟨z0, z1⟩ := Z0.out
  refine bodyPost_ret (v := .tuple #[.agg #[.int .i64 0, .slice none 0 0], .int .i64 1]) (by simp [results, Tryz.results7, go_sem, z0, z1]) rfl ?_
  rw [HE.out.1, HE.out.2]
  exact ⟨none, 0, 0, rfl, rfl, OwnJ.nil _ _ _, B0.out⟩
 ·by_cases h2 : 16 < m
  ·have HE := Lib.hid (qNew_bad (.inr h2))
   go_wp2_with fail
   obtain ⟨z0, z1⟩ := Z0.out
   refine bodyPost_ret (v := .tuple #[.agg #[.int .i64 0, .slice none 0 0], .int .i64 1]) (by simp [results, Tryz.results7, go_sem, z0, z1]) rfl ?_
   rw [HE.out.1, HE.out.2]
   exact ⟨none, 0, 0, rfl, rfl, OwnJ.nil _ _ _, B0.out⟩
  ·have HE := Lib.hid (qNew_ok h1 h2)
   go_wp2_with fail
   obtain ⟨z0, z1⟩ := Z1.out
   refine bodyPost_ret (v := .tuple #[.agg #[.int .i64 m, .slice none 0 0], .int .i64 0]) (by simp [results, Tryz.results7, go_sem, z0, z1]) rfl ?_
   rw [HE.out.1, HE.out.2]
   exact ⟨none, 0, 0, rfl, rfl, OwnJ.nil _ _ _, B1.out⟩
set_option maxRecDepth 100000 in
set_option maxHeartbeats 8000000 in
/-- follows -/
theorem qufollows_any {v tv : Value} {q : PQueue} {t : PTxn} {w : World} (h : IsQueue w v q) (ht : IsTxn w tv t) (hs : 1 ≤ t.seq) (hs2 : t.seq ≤ 1073741824) : Calls Tryz.prog 20 #[v, tv] w (GivesB w (qNext q.list t)) := by
 obtain ⟨la, n, lc, rfl, hn, h1⟩ := h
 obtain ⟨da, dn, dc, ea, en, ec, rfl, k1, k2⟩ := ht.parts
 have hW := seq_wrap hs (by omega)
 have hB : Below w.heap.size w ((w.alloc (.cells #[.int .i64 q.most, .slice la n lc] 24)).alloc (.cells #[.int .i64 t.node, .int .i64 t.seq, .slice da dn dc, .slice ea en ec] 29)) := ((Below.refl w.heap.size w).alloc (Nat.le_refl _) _).alloc (by simp) _
 have GA := Lib.hid hB
 have C0 := Lib.hid (qfollow_cells w q.most la n lc t.node t.seq (.slice da dn dc) (.slice ea en ec))
 have HD := SeqE.dims (L := LTxn) (show SeqE LTxn w (.slice la n lc) q.list from h1)
 have HS := Lib.hid h1
 have HN := Lib.hid hn
 have hnl : (n : Int) ≤ lc := by have := HD.2; omega
 have hnl2 : (lc : Int) ≤ 9223372036854775807 := by have := HD.2; omega
 clear ht hn k1 k2 hB h1 HD hs hs2
 generalize q.most = qm at *
 go_enter Tryz.func20, Tryz.ntmps20
 by_cases hz : n = 0
 ·subst hz
  have HR : Hid (qNext q.list t = true) := Lib.hid (qNext_nil (by rw [← HN.out]))
  go_upto_region 1 with fail
  generalize ((w.alloc (.cells #[.int .i64 qm, .slice la 0 lc] 24)).alloc (.cells #[.int .i64 t.node, .int .i64 t.seq, .slice da dn dc, .slice ea en ec] 29)) = w0 at *
  obtain ⟨⟨c0, c1⟩, c2, c3⟩ := C0.out
  go_wp2_with fail
  go_ret
  rw [HR.out]
  exact ⟨rfl, GA.out⟩
 ·obtain ⟨lb, lo, rfl, hlb, hc'⟩ := txns_atQ (fun b h => h) HS.out (by omega)
  obtain ⟨xa, xn, xc, ya, yn, yc, hW2⟩ := hc' (n - 1) (by omega)
  have hI : (n : Int) - 1 = ((n - 1 : Nat) : Int) := by omega
  have hz2 : ((n : Int) == 0) = false := by simp; omega
  have hz3 : ((n - 1 : Nat) : Int) < n := by omega
  have HL : Hid (¬ q.list.length = 0) := Lib.hid (by have := HN.out; omega)
  have HX := Lib.hid (fun u (hb : Below w.heap.size w u) => (hW2 u hb).1)
  rw [show otx q.list (n - 1) = qEnd q.list by unfold qEnd; rw [← HN.out]] at HX
  have RN := Lib.hid (qNext_node (l := q.list) (t := t) HL.out)
  have RA := Lib.hid (qNext_at (l := q.list) (t := t) HL.out)
  clear hc' hW2 hlb HS HN HL
  generalize qEnd q.list = a at *
  generalize qNext q.list t = r at *
  go_upto_region 1 with fail
  generalize ((w.alloc (.cells #[.int .i64 qm, .slice (some ⟨lb, lo, none⟩) n lc] 24)).alloc (.cells #[.int .i64 t.node, .int .i64 t.seq, .slice da dn dc, .slice ea en ec] 29)) = w0 at *
  obtain ⟨⟨c0, c1⟩, c2, c3⟩ := C0.out
  obtain ⟨x0, x1, x2, x3⟩ := HX.out _ GA.out
  have hW3 : IntKind.i64.wrap ((n : Int) - 1) = ((n - 1 : Nat) : Int) := by rw [hI]; exact qwrap (by omega)
  generalize n - 1 = n1 at *
  have hb := (Below.refl w0.heap.size w0).alloc (Nat.le_refl _) (.cells #[.int .i64 a.node, .int .i64 a.seq, .slice xa xn xc, .slice ya yn yc] 29)
  have A0 := Lib.hid (st4_cells (heap_alloc_new w0 (.cells #[.int .i64 a.node, .int .i64 a.seq, .slice xa xn xc, .slice ya yn yc] 29))).1
  have C1 := Lib.hid (And.intro ((hb.cell (p := ⟨w.heap.size + 1, 0, none⟩) (show w.heap.size + 1 < _ from World.block_lt_of_cell? w0 ⟨w.heap.size + 1, 0, none⟩ c2)).trans c2) ((hb.cell (p := ⟨w.heap.size + 1, 1, none⟩) (show w.heap.size + 1 < _ from World.block_lt_of_cell? w0 ⟨w.heap.size + 1, 1, none⟩ c3)).trans c3))
  have G1 := Lib.hid (GA.out.trans (hb.mono GA.out.size))
  clear hb C0 HX GA
  go_upto_region 4 with fail
  clear c0 c1 c2 c3 x0 x1 x2 x3
  generalize (w0.alloc (.cells #[.int .i64 a.node, .int .i64 a.seq, .slice xa xn xc, .slice ya yn yc] 29)) = w1 at *
  generalize w0.heap.size = ga at *
  obtain ⟨a0, a1, a2, a3⟩ := A0.out
  obtain ⟨c2, c3⟩ := C1.out
  by_cases e1 : t.node = a.node
  ·have b1 : (t.node == a.node) = true := by simp [e1]
   have HR := Lib.hid (RA.out e1)
   by_cases e2 : t.seq - 1 = a.seq
   ·have b2 : (t.seq - 1 == a.seq) = true := by simp [e2]
    have HR2 : Hid (r = true) := Lib.hid (HR.out.trans (decide_eq_true e2))
    clear HR RA RN e1 e2
    go_wp2_with fail
    go_ret
    rw [HR2.out]
    exact ⟨rfl, G1.out⟩
   ·have b2 : (t.seq - 1 == a.seq) = false := by simp [e2]
    have HR2 : Hid (r = false) := Lib.hid (HR.out.trans (decide_eq_false e2))
    clear HR RA RN e1 e2
    go_wp2_with fail
    go_ret
    rw [HR2.out]
    exact ⟨rfl, G1.out⟩
  ·have b1 : (t.node == a.node) = false := by simp [e1]
   have HR2 := Lib.hid (RN.out e1)
   clear RA RN e1
   go_wp2_with fail
   go_ret
   rw [HR2.out]
   exact ⟨rfl, G1.out⟩
set_option maxRecDepth 100000 in
set_option maxHeartbeats 16000000 in
/-- Push -/
theorem qupush_any {v tv : Value} {q : PQueue} {t : PTxn} {w : World} (h : IsQueue w v q) (ht : IsTxn w tv t) (hl : q.list.length ≤ 1000000) (hf : ∀ t ∈ q.list, FitTx t) (hft : FitTx t) : Calls Tryz.prog 9 #[v, tv] w (GivesQuE w (qPush q t) (qErr q t)) := by
 obtain ⟨la, n, lc, rfl, hn, h1⟩ := h
 obtain ⟨da, dn, dc, ea, en, ec, rfl, k1, k2⟩ := ht.parts
 have R0 : Hid (QpAt w q.most la n lc t.node t.seq (.slice da dn dc) (.slice ea en ec) (((w.alloc (.cells #[.int .i64 q.most, .slice la n lc] 24)).alloc (.cells #[.int .i64 t.node, .int .i64 t.seq, .slice da dn dc, .slice ea en ec] 29)).alloc (.cells #[.int .i64 0, .slice none 0 0] 24))) := Lib.hid (qpat_new w q.most la n lc t.node t.seq (.slice da dn dc) (.slice ea en ec))
 have KT := Lib.hid (fun u (hb : Below w.heap.size w u) => (⟨_, _, rfl, k1.below hb, k2.below hb⟩ : IsTxn u (.agg #[.int .i64 t.node, .int .i64 t.seq, .slice da dn dc, .slice ea en ec]) t))
 have KQ := Lib.hid (fun u (hb : Below w.heap.size w u) => (IsQueue.below (v := .agg #[.int .i64 q.most, .slice la n lc]) (q := q) ⟨la, n, lc, rfl, hn, h1⟩ hb))
 have KF0 := Lib.hid (fun u (hb : Below w.heap.size w u) r hr => txformedP (KT.out u hb) hft r hr)
 have KW := Lib.hid (fun u (hb : Below w.heap.size w u) => qufollows_any (KQ.out u hb) (KT.out u hb))
 have KH : Hid (∀ u, Below w.heap.size w u → Calls Tryz.prog 11 #[.agg #[.int .i64 q.most, .slice la n lc], .slice none 0 0] u (GivesQN u q.most q.list)) := Lib.hid (fun u hb => by have h := quheard_any (vv := .slice none 0 0) (KQ.out u hb) (SeqI.nil u) hl hf; rw [qHeard_nil] at h; exact h)
 have KA := Lib.hid (fun u (hb : Below w.heap.size w u) => qualone_any (KT.out u hb) hft)
 have E1 := Lib.hid (fun h => qErr_form (q := q) (t := t) h)
 have E2 := Lib.hid (fun h h1 => qErr_gap (q := q) (t := t) h h1)
 have E3 := Lib.hid (fun h h1 h2 => qErr_full (q := q) (t := t) h h1 h2)
 have E4 := Lib.hid (fun h h1 h2 => qErr_ok (q := q) (t := t) h h1 h2)
 have HFN := Lib.hid (fun h => qFormed_node (t := t) h)
 have HN := Lib.hid hn
 have HL := Lib.hid hl
 clear ht hl hf hft h1 hn k1 k2 KT KQ
 rw [← HN.out] at E3 E4
 generalize qErr q t = er at *
 generalize qPush q t = res at *
 obtain ⟨fb, hfb⟩ : ∃ b, tformedB t = b := ⟨_, rfl⟩
 obtain ⟨nb, hnb⟩ : ∃ b, qNext q.list t = b := ⟨_, rfl⟩
 have HFB := Lib.hid hfb
 have KF := Lib.hid (fun u hb => KF0.out u hb fb hfb)
 rw [hnb] at KW E2 E3 E4
 rw [hfb] at E1 E2 E3 E4 HFN
 clear hfb hnb KF0
 generalize q.list = l at *
 generalize q.most = qm at *
 go_enter Tryz.func9, Tryz.ntmps9
 go_upto_region 1 with fail
 generalize (((w.alloc (.cells #[.int .i64 qm, .slice la n lc] 24)).alloc (.cells #[.int .i64 t.node, .int .i64 t.seq, .slice da dn dc, .slice ea en ec] 29)).alloc (.cells #[.int .i64 0, .slice none 0 0] 24)) = w0 at *
 obtain ⟨c0, c1, c2, c3⟩ := R0.out.tc
 have K1 := Lib.hid (KF.out _ R0.out.low)
 go_wp2_with fail
 refine K1.out.mono ?_
 rintro e w1 ⟨rfl, hb⟩
 have R1 := Lib.hid (R0.out.below hb)
 clear hb R0 K1 KF c0 c1 c2 c3
 cases fb with
 | false =>
  have HE := Lib.hid (E1.out (by trivial))
  obtain ⟨⟨y0, y1⟩, f0, f1⟩ := R1.out.rb.c
  have Z := Lib.hid (R1.out.rb.put 0 none 0 0).c.1
  have ZB : Hid (Below w.heap.size w ((w1.setCell ⟨w.heap.size + 1 + 1, 0, none⟩ (.int .i64 0)).setCell ⟨w.heap.size + 1 + 1, 1, none⟩ (.slice none 0 0))) := Lib.hid ((R1.out.low.setCell (by show w.heap.size ≤ w.heap.size + 1 + 1; omega) _).setCell (by show w.heap.size ≤ w.heap.size + 1 + 1; omega) _)
  go_wp2_with fail
  obtain ⟨z0, z1⟩ := Z.out
  refine bodyPost_ret (v := .tuple #[.agg #[.int .i64 0, .slice none 0 0], .int .i64 2]) (by simp [results, Tryz.results9, go_sem, z0, z1]) rfl ?_
  rw [HE.out.1, HE.out.2]
  exact ⟨none, 0, 0, rfl, rfl, OwnJ.nil _ _ _, ZB.out⟩
 | true =>
  obtain ⟨c0, c1, c2, c3⟩ := R1.out.tc
  obtain ⟨⟨d0, d1⟩, -⟩ := R1.out.pb.c
  have K2 := Lib.hid (KW.out _ R1.out.low (HFN.out (by trivial)).2.2.1 (HFN.out (by trivial)).2.2.2)
  go_wp2_with fail
  refine K2.out.mono ?_
  rintro e w2 ⟨rfl, hb⟩
  have R2 := Lib.hid (R1.out.below hb)
  clear hb R1 K2 KW c0 c1 c2 c3 d0 d1
  cases nb with
  | false =>
   have HE := Lib.hid (E2.out (by trivial) (by trivial))
   obtain ⟨⟨y0, y1⟩, f0, f1⟩ := R2.out.rb.c
   have Z := Lib.hid (R2.out.rb.put 0 none 0 0).c.1
   have ZB : Hid (Below w.heap.size w ((w2.setCell ⟨w.heap.size + 1 + 1, 0, none⟩ (.int .i64 0)).setCell ⟨w.heap.size + 1 + 1, 1, none⟩ (.slice none 0 0))) := Lib.hid ((R2.out.low.setCell (by show w.heap.size ≤ w.heap.size + 1 + 1; omega) _).setCell (by show w.heap.size ≤ w.heap.size + 1 + 1; omega) _)
   go_wp2_with fail
   obtain ⟨z0, z1⟩ := Z.out
   refine bodyPost_ret (v := .tuple #[.agg #[.int .i64 0, .slice none 0 0], .int .i64 9]) (by simp [results, Tryz.results9, go_sem, z0, z1]) rfl ?_
   rw [HE.out.1, HE.out.2]
   exact ⟨none, 0, 0, rfl, rfl, OwnJ.nil _ _ _, ZB.out⟩
  | true =>
   obtain ⟨⟨d0, d1⟩, -⟩ := R2.out.pb.c
   by_cases hfull : qm ≤ (n : Int)
   ·have HE := Lib.hid (E3.out (by trivial) (by trivial) hfull)
    obtain ⟨⟨y0, y1⟩, f0, f1⟩ := R2.out.rb.c
    have Z := Lib.hid (R2.out.rb.put 0 none 0 0).c.1
    have ZB : Hid (Below w.heap.size w ((w2.setCell ⟨w.heap.size + 1 + 1, 0, none⟩ (.int .i64 0)).setCell ⟨w.heap.size + 1 + 1, 1, none⟩ (.slice none 0 0))) := Lib.hid ((R2.out.low.setCell (by show w.heap.size ≤ w.heap.size + 1 + 1; omega) _).setCell (by show w.heap.size ≤ w.heap.size + 1 + 1; omega) _)
    go_wp2_with fail
    obtain ⟨z0, z1⟩ := Z.out
    refine bodyPost_ret (v := .tuple #[.agg #[.int .i64 0, .slice none 0 0], .int .i64 6]) (by simp [results, Tryz.results9, go_sem, z0, z1]) rfl ?_
    rw [HE.out.1, HE.out.2]
    exact ⟨none, 0, 0, rfl, rfl, OwnJ.nil _ _ _, ZB.out⟩
   ·have HE := Lib.hid (E4.out (by trivial) (by trivial) (by omega))
    have K3 := Lib.hid (KH.out _ R2.out.low)
    go_upto_region 7 with fail
    go_wp2_with fail
    refine K3.out.mono ?_
    rintro e w1q ⟨ra, rn, rc, rfl, hrn, ho, hb⟩
    obtain rfl : rn = n := hrn.symm.trans HN.out.symm
    have hbq := (Below.refl w1q.heap.size w1q).alloc (Nat.le_refl _) (.cells #[.int .i64 qm, .slice ra rn rc] 24)
    have ZW3 : Hid (w.heap.size + 3 ≤ w2.heap.size) := Lib.hid R2.out.rb.lt
    have ZV : Hid (w2.heap.size ≤ w1q.heap.size) := Lib.hid hb.size
    have VL : Hid (w1q.heap.size < (w1q.alloc (.cells #[.int .i64 qm, .slice ra rn rc] 24)).heap.size) := Lib.hid (by simp)
    have R3 := Lib.hid ((R2.out.below hb).below hbq)
    have L3 := Lib.hid (qubox_new w1q qm ra rn rc)
    have O3 : Hid (OwnJ (fun b => w2.heap.size ≤ b ∧ b ≠ w1q.heap.size) LTxn w2.heap.size (w1q.alloc (.cells #[.int .i64 qm, .slice ra rn rc] 24)) (.slice ra rn rc) l) := Lib.hid ((ho.lower.imp fun b h => (⟨h.1, by have := h.2; omega⟩ : w2.heap.size ≤ b ∧ b ≠ w1q.heap.size)).below hbq (Nat.le_refl _))
    have OL : Hid (∀ j, (Value.slice ra rn rc).ownBlock = some j → j < w1q.heap.size) := Lib.hid (fun j h => (ho.lt j h).2)
    have KL : Hid (l.length = rn) := Lib.hid HN.out.symm
    clear hb hbq ho R2 K3 KH d0 d1 hrn
    go_upto_region 8 with fail
    generalize hwb : (w1q.alloc (.cells #[.int .i64 qm, .slice ra rn rc] 24)) = wb at *
    generalize w1q.heap.size = gv at *
    have BU : Hid (Below w.heap.size w wb.drew) := Lib.hid (R3.out.low.trans ((Below.refl _ _).drew.mono R3.out.low.size))
    have TU : Hid (wb.drew.heap[w.heap.size + 1]? = some (.cells #[.int .i64 t.node, .int .i64 t.seq, .slice da dn dc, .slice ea en ec] 29 (0, 0))) := Lib.hid R3.out.tb
    have LU : Hid (QuBox gv qm ra rn rc wb.drew) := Lib.hid ⟨L3.out.b⟩
    have OU : Hid (OwnJ (fun b => w2.heap.size ≤ b ∧ b ≠ gv) LTxn w2.heap.size wb.drew (.slice ra rn rc) l) := Lib.hid (O3.out.below (Below.refl _ _).drew (Nat.le_refl _))
    have KF : Hid (∀ u : World, Below w.heap.size w u → u.heap[w.heap.size + 1]? = some (.cells #[.int .i64 t.node, .int .i64 t.seq, .slice da dn dc, .slice ea en ec] 29 (0, 0)) → Below w.heap.size w u ∧ (u.cell? ⟨w.heap.size + 1, 0, none⟩ = some (.int .i64 t.node) ∧ u.cell? ⟨w.heap.size + 1, 1, none⟩ = some (.int .i64 t.seq) ∧ u.cell? ⟨w.heap.size + 1, 2, none⟩ = some (.slice da dn dc) ∧ u.cell? ⟨w.heap.size + 1, 3, none⟩ = some (.slice ea en ec))) := Lib.hid (fun u hb h => ⟨hb, (st4_cells h).1⟩)
    have ZU : Hid (w2.heap.size ≤ wb.heap.size) := Lib.hid (by have := VL.out; have := ZV.out; omega)
    have NW : Hid (w.heap.size ≤ w2.heap.size) := Lib.hid (by have := ZW3.out; omega)
    have JN : Hid (∀ b, wb.heap.size ≤ b → w2.heap.size ≤ b ∧ b ≠ gv) := Lib.hid (fun b h => by have := VL.out; have := ZV.out; omega)
    have GN : Hid (some (w.heap.size + 1) ≠ (Value.slice ra rn rc).ownBlock) := Lib.hid (fun e => by have := (O3.out.lt _ e.symm).1; have := ZW3.out; omega)
    have GV : Hid (w.heap.size + 1 ≠ gv) := Lib.hid (by have := ZW3.out; have := ZV.out; omega)
    have VN : Hid (¬ (w2.heap.size ≤ gv ∧ gv ≠ gv) ∧ (Value.slice ra rn rc).ownBlock ≠ some gv) := Lib.hid ⟨fun h => h.2 rfl, fun e => by have := OL.out _ e; omega⟩
    replace OL : Hid (∀ j, (Value.slice ra rn rc).ownBlock = some j → j < wb.heap.size) := Lib.hid (fun j h => (O3.out.lt j h).2)
    have VW : Hid (w.heap.size ≤ gv) := Lib.hid (by have := ZW3.out; have := ZV.out; omega)
    have BD : Hid (wb.heap.size ≤ wb.drew.heap.size) := Lib.hid (Nat.le_refl _)
    have BK : Hid (Below w2.heap.size wb wb.drew) := Lib.hid (Below.refl _ _).drew
    have KL2 := HL
    clear O3 L3
    refine wp_region_held_drew (S := fun u' => Below w.heap.size w u' ∧ (u'.cell? ⟨(w.heap.size + 1), 0, none⟩ = some (.int .i64 t.node) ∧ u'.cell? ⟨(w.heap.size + 1), 1, none⟩ = some (.int .i64 t.seq) ∧ u'.cell? ⟨(w.heap.size + 1), 2, none⟩ = some (.slice da dn dc) ∧ u'.cell? ⟨(w.heap.size + 1), 3, none⟩ = some (.slice ea en ec))) (by kernel_rfl) ?_ (fun hHeld => ?_)
    ·(exact KF.out _ BU.out TU.out)
    simp only [List.size_toArray, List.length_cons, List.length_nil, Nat.zero_add, Nat.reduceAdd]
    refine tkA (i := 0) (v := ?_) rfl (by kernel_rfl) (fun _ _ _ h => h) (Or.inl ⟨by rfl, ?_⟩) hHeld ?_
    rotate_left
    ·(intro w' hSw; (try dsimp only at hSw); go_simp; try with_reducible rfl)
    simp only [List.getElem_toArray, List.getElem_cons_zero, Act.put, List.setIfInBounds_toArray, List.set_cons_zero, List.set_cons_succ]
    refine tkA (i := 2) (v := ?_) rfl (by kernel_rfl) (fun _ _ _ h => h) (Or.inl ⟨by rfl, ?_⟩) hHeld ?_
    rotate_left
    ·(intro w' hSw; (try dsimp only at hSw); go_simp; try with_reducible rfl)
    simp only [List.getElem_toArray, List.getElem_cons_zero, List.getElem_cons_succ, Act.put, List.setIfInBounds_toArray, List.set_cons_zero, List.set_cons_succ]
    refine wpAnyH_ready (rs := [1, 3]) (by kernel_rfl) (by simp) ?_
    refine AllReadyH.cons rfl (fun K hK => ?_) (AllReadyH.cons rfl (fun K hK => ?_) AllReadyH.nil)
    ·skip
     obtain ⟨⟨y0, y1⟩, -⟩ := LU.out.c
     go_simp
     refine hK.out _ _ (KF.out _ BU.out TU.out) (fun hHeld => ?_)
     clear hK K y0 y1
     refine wpAnyH_ready (rs := [3]) (by kernel_rfl) (by simp) ?_
     refine AllReadyH.cons rfl (fun K hK => ?_) AllReadyH.nil
     go_simp
     refine (KA.out _ BU.out).mono ?_
     rintro e u1 ⟨ua, rfl, hu, hb⟩
     obtain ⟨a1, n1, e1, a2, n2, e2, rfl, hu⟩ := hu.parts
     have UU : Hid (IsTxnIn (fun b => wb.heap.size ≤ b ∧ b < u1.heap.size) u1 (.agg #[.int .i64 t.node, .int .i64 t.seq, .slice a1 n1 e1, .slice a2 n2 e2]) t) := Lib.hid (hu.mono fun b h => ⟨Nat.le_trans BD.out h.1, h.2⟩)
     replace BD := Lib.hid (Nat.le_trans BD.out hb.size)
     replace TU := Lib.hid ((hb.block _ (Array.getElem?_eq_some_iff.1 TU.out).1).trans TU.out)
     replace LU := Lib.hid (LU.out.below hb)
     replace OU := Lib.hid (OU.out.below hb (Nat.le_refl _))
     replace BU := Lib.hid (BU.out.trans (hb.mono BU.out.size))
     replace BK := Lib.hid (BK.out.trans (hb.mono (Nat.le_trans ZU.out BK.out.size)))
     clear hu hb KA
     refine hK.out _ _ (KF.out _ BU.out TU.out) (fun hHeld => ?_)
     clear hK K
     refine wpAnyH_ready (rs := [4]) (by kernel_rfl) (by simp) ?_
     refine AllReadyH.cons rfl (fun K hK => ?_) AllReadyH.nil
     go_simp
     have hb := (Below.refl u1.heap.size u1).alloc (Nat.le_refl _) (.cells #[.int .i64 t.node, .int .i64 t.seq, .slice a1 n1 e1, .slice a2 n2 e2] 29)
     have LX := Lib.hid (one_txnQ (J := (fun b => w2.heap.size ≤ b ∧ b ≠ gv)) (N := fun b => wb.heap.size ≤ b ∧ b < u1.heap.size) (W := u1) (x := t) (ov := .slice ra rn rc) UU.out.deps UU.out.effs (fun b h => h.2) (fun b h => JN.out b h.1) (JN.out _ BD.out) (fun q hq => by have h1 := OL.out q hq; have h2 := BD.out; exact ⟨fun h => by omega, by omega⟩))
     have LZ : Hid ((u1.alloc (.cells #[.int .i64 t.node, .int .i64 t.seq, .slice a1 n1 e1, .slice a2 n2 e2] 29)).heap.size = u1.heap.size + 1) := Lib.hid (by simp)
     replace BD := Lib.hid (Nat.le_trans BD.out hb.size)
     replace TU := Lib.hid ((hb.block _ (Array.getElem?_eq_some_iff.1 TU.out).1).trans TU.out)
     replace LU := Lib.hid (LU.out.below hb)
     replace OU := Lib.hid (OU.out.below hb (Nat.le_refl _))
     replace BU := Lib.hid (BU.out.trans (hb.mono BU.out.size))
     replace BK := Lib.hid (BK.out.trans (hb.mono (Nat.le_trans ZU.out BK.out.size)))
     clear hb UU
     refine hK.out _ _ (KF.out _ BU.out TU.out) (fun hHeld => ?_)
     clear hK K LZ
     generalize u1.heap.size = bk at *
     generalize (u1.alloc (.cells #[.int .i64 t.node, .int .i64 t.seq, .slice a1 n1 e1, .slice a2 n2 e2] 29)) = u2 at *
     refine wpAnyH_ready (rs := [5]) (by kernel_rfl) (by simp) ?_
     refine AllReadyH.cons rfl (fun K hK => ?_) AllReadyH.nil
     refine step_append_elQ ((fun b => w2.heap.size ≤ b ∧ b ≠ gv)) LTxn (by rfl) (.tmp 29) (.tmp 32) (by rfl) (w2.heap.size) (by rfl) OU.out (by rfl) LX.out (fun vs x h => h) (by have := KL.out; have := KL2.out; simp; omega) (by have := ZU.out; have := BD.out; omega) ?_
     intro v2 u3 ho hg hat
     obtain ⟨a3, c3, rfl, -, -, ho⟩ := ho.at (rn + 1) (by have := KL.out; simp; omega)
     replace TU := Lib.hid ((hg.block _ (Array.getElem?_eq_some_iff.1 TU.out).1 GN.out).trans TU.out)
     replace LU := Lib.hid (LU.out.eq (hg.block _ LU.out.lt (fun e => VN.out.2 e.symm)))
     replace BU := Lib.hid (BU.out.grown hg BU.out.size (fun j hj => by have := OU.out.lt j hj; have := NW.out; omega))
     replace BK := Lib.hid (BK.out.grown hg (Nat.le_trans ZU.out BK.out.size) (fun j hj => (OU.out.lt j hj).1))
     have VA : Hid (∀ j, (Value.slice a3 (rn + 1) c3).ownBlock = some j → j ≠ gv) := Lib.hid (fun j e => by rcases hat with h | h; exact fun e2 => VN.out.2 (by rw [← h, e, e2]); have h2 := Option.some.inj (e.symm.trans h); have := VL.out; have := BD.out; omega)
     replace OU := Lib.hid ho
     replace BD := Lib.hid (Nat.le_trans BD.out hg.size)
     clear ho hg hat LX
     refine hK.out _ _ (KF.out _ BU.out TU.out) (fun hHeld => ?_)
     clear hK K
     refine tkA (i := 6) (v := ?_) rfl (by kernel_rfl) (fun _ _ _ h => h) (Or.inl ⟨by rfl, ?_⟩) hHeld ?_
     rotate_left
     ·(intro w' hSw; (try dsimp only at hSw); go_simp; try with_reducible rfl)
     simp only [List.getElem_toArray, List.getElem_cons_zero, List.getElem_cons_succ, Act.put, List.setIfInBounds_toArray, List.set_cons_zero, List.set_cons_succ]
     obtain ⟨⟨y0, y1⟩, g0, g1⟩ := LU.out.c
     refine wpAnyH_ready (rs := [7]) (by kernel_rfl) (by simp) ?_
     refine AllReadyH.cons rfl (fun K hK => ?_) AllReadyH.nil
     go_simp
     have hbs : Below w.heap.size w (u3.setCell ⟨gv, 1, none⟩ (.slice a3 (rn + 1) c3)) := BU.out.setCell VW.out _
     have hto : ∀ b, b ≠ gv → (u3.setCell ⟨gv, 1, none⟩ (.slice a3 (rn + 1) c3)).heap[b]? = u3.heap[b]? := fun b h => Below.heap_setCell _ _ _ _ h
     refine hK.out _ _ (KF.out _ hbs ((hto _ GV.out).trans TU.out)) (fun hHeld => ?_)
     replace LU := Lib.hid (LU.out.put1 a3 (rn + 1) c3)
     replace OU := Lib.hid (OU.out.keptQ (w' := u3.setCell ⟨gv, 1, none⟩ (.slice a3 (rn + 1) c3)) (by simp [World.setCell]) (fun b hb h => hto b (by rcases h with h | h; exact fun e => (by subst e; exact VN.out.1 h); exact VA.out b h)))
     replace BU := Lib.hid hbs
     have HTO := Lib.hid hto
     clear hK K y0 y1 g0 g1 hbs hto VA
     refine wpAnyH_done (by kernel_rfl) ?_ _
     clear hHeld KF TU
     have RU := Lib.hid (R3.out.keep BU.out (fun b h1 h2 => (HTO.out b (by have := ZV.out; have := ZW3.out; omega)).trans (BK.out.block b (by have := ZW3.out; omega))))
     obtain ⟨⟨y0, y1⟩, f0, f1⟩ := RU.out.rb.c
     obtain ⟨⟨v0, v1⟩, -⟩ := LU.out.c
     generalize (u3.setCell ⟨gv, 1, none⟩ (.slice a3 (rn + 1) c3)) = u4 at *
     have Z := Lib.hid (RU.out.rb.put qm a3 (rn + 1) c3).c.1
     have ZB : Hid (Below w.heap.size w ((u4.setCell ⟨w.heap.size + 1 + 1, 0, none⟩ (.int .i64 qm)).setCell ⟨w.heap.size + 1 + 1, 1, none⟩ (.slice a3 (rn + 1) c3))) := Lib.hid ((BU.out.setCell (by show w.heap.size ≤ w.heap.size + 1 + 1; omega) _).setCell (by show w.heap.size ≤ w.heap.size + 1 + 1; omega) _)
     have ZO : Hid (OwnJ (fun b => w.heap.size ≤ b) LTxn w.heap.size ((u4.setCell ⟨w.heap.size + 1 + 1, 0, none⟩ (.int .i64 qm)).setCell ⟨w.heap.size + 1 + 1, 1, none⟩ (.slice a3 (rn + 1) c3)) (.slice a3 (rn + 1) c3) (l ++ [t])) := Lib.hid (by
      have h := OU.out.kept (w' := (u4.setCell ⟨w.heap.size + 1 + 1, 0, none⟩ (.int .i64 qm)).setCell ⟨w.heap.size + 1 + 1, 1, none⟩ (.slice a3 (rn + 1) c3)) (by simp [World.setCell]) fun b hb h => (Below.heap_setCell _ _ _ _ (by have h2 : (w2.heap.size ≤ b ∧ b ≠ gv) ∨ w2.heap.size ≤ b := h; have := ZW3.out; show b ≠ w.heap.size + 1 + 1; omega)).trans (Below.heap_setCell _ _ _ _ (by have h2 : (w2.heap.size ≤ b ∧ b ≠ gv) ∨ w2.heap.size ≤ b := h; have := ZW3.out; show b ≠ w.heap.size + 1 + 1; omega))
      exact (h.mono (by have := ZW3.out; omega)).imp fun b hb => by have h2 : w2.heap.size ≤ b ∧ b ≠ gv := hb; have := ZW3.out; omega)
     clear RU
     go_wp2_with fail
     obtain ⟨z0, z1⟩ := Z.out
     refine bodyPost_ret (v := .tuple #[.agg #[.int .i64 qm, .slice a3 (rn + 1) c3], .int .i64 0]) (by simp [results, Tryz.results9, go_sem, z0, z1]) rfl ?_
     rw [HE.out.1, HE.out.2]
     exact ⟨a3, rn + 1, c3, rfl, by rw [List.length_append, ← HN.out]; rfl, ZO.out, ZB.out⟩
    ·skip
     go_simp
     refine (KA.out _ BU.out).mono ?_
     rintro e u1 ⟨ua, rfl, hu, hb⟩
     obtain ⟨a1, n1, e1, a2, n2, e2, rfl, hu⟩ := hu.parts
     have UU : Hid (IsTxnIn (fun b => wb.heap.size ≤ b ∧ b < u1.heap.size) u1 (.agg #[.int .i64 t.node, .int .i64 t.seq, .slice a1 n1 e1, .slice a2 n2 e2]) t) := Lib.hid (hu.mono fun b h => ⟨Nat.le_trans BD.out h.1, h.2⟩)
     replace BD := Lib.hid (Nat.le_trans BD.out hb.size)
     replace TU := Lib.hid ((hb.block _ (Array.getElem?_eq_some_iff.1 TU.out).1).trans TU.out)
     replace LU := Lib.hid (LU.out.below hb)
     replace OU := Lib.hid (OU.out.below hb (Nat.le_refl _))
     replace BU := Lib.hid (BU.out.trans (hb.mono BU.out.size))
     replace BK := Lib.hid (BK.out.trans (hb.mono (Nat.le_trans ZU.out BK.out.size)))
     clear hu hb KA
     refine hK.out _ _ (KF.out _ BU.out TU.out) (fun hHeld => ?_)
     clear hK K
     refine wpAnyH_ready (rs := [1, 4]) (by kernel_rfl) (by simp) ?_
     refine AllReadyH.cons rfl (fun K hK => ?_) (AllReadyH.cons rfl (fun K hK => ?_) AllReadyH.nil)
     ·skip
      obtain ⟨⟨y0, y1⟩, -⟩ := LU.out.c
      go_simp
      refine hK.out _ _ (KF.out _ BU.out TU.out) (fun hHeld => ?_)
      clear hK K y0 y1
      refine wpAnyH_ready (rs := [4]) (by kernel_rfl) (by simp) ?_
      refine AllReadyH.cons rfl (fun K hK => ?_) AllReadyH.nil
      go_simp
      have hb := (Below.refl u1.heap.size u1).alloc (Nat.le_refl _) (.cells #[.int .i64 t.node, .int .i64 t.seq, .slice a1 n1 e1, .slice a2 n2 e2] 29)
      have LX := Lib.hid (one_txnQ (J := (fun b => w2.heap.size ≤ b ∧ b ≠ gv)) (N := fun b => wb.heap.size ≤ b ∧ b < u1.heap.size) (W := u1) (x := t) (ov := .slice ra rn rc) UU.out.deps UU.out.effs (fun b h => h.2) (fun b h => JN.out b h.1) (JN.out _ BD.out) (fun q hq => by have h1 := OL.out q hq; have h2 := BD.out; exact ⟨fun h => by omega, by omega⟩))
      have LZ : Hid ((u1.alloc (.cells #[.int .i64 t.node, .int .i64 t.seq, .slice a1 n1 e1, .slice a2 n2 e2] 29)).heap.size = u1.heap.size + 1) := Lib.hid (by simp)
      replace BD := Lib.hid (Nat.le_trans BD.out hb.size)
      replace TU := Lib.hid ((hb.block _ (Array.getElem?_eq_some_iff.1 TU.out).1).trans TU.out)
      replace LU := Lib.hid (LU.out.below hb)
      replace OU := Lib.hid (OU.out.below hb (Nat.le_refl _))
      replace BU := Lib.hid (BU.out.trans (hb.mono BU.out.size))
      replace BK := Lib.hid (BK.out.trans (hb.mono (Nat.le_trans ZU.out BK.out.size)))
      clear hb UU
      refine hK.out _ _ (KF.out _ BU.out TU.out) (fun hHeld => ?_)
      clear hK K LZ
      generalize u1.heap.size = bk at *
      generalize (u1.alloc (.cells #[.int .i64 t.node, .int .i64 t.seq, .slice a1 n1 e1, .slice a2 n2 e2] 29)) = u2 at *
      refine wpAnyH_ready (rs := [5]) (by kernel_rfl) (by simp) ?_
      refine AllReadyH.cons rfl (fun K hK => ?_) AllReadyH.nil
      refine step_append_elQ ((fun b => w2.heap.size ≤ b ∧ b ≠ gv)) LTxn (by rfl) (.tmp 29) (.tmp 32) (by rfl) (w2.heap.size) (by rfl) OU.out (by rfl) LX.out (fun vs x h => h) (by have := KL.out; have := KL2.out; simp; omega) (by have := ZU.out; have := BD.out; omega) ?_
      intro v2 u3 ho hg hat
      obtain ⟨a3, c3, rfl, -, -, ho⟩ := ho.at (rn + 1) (by have := KL.out; simp; omega)
      replace TU := Lib.hid ((hg.block _ (Array.getElem?_eq_some_iff.1 TU.out).1 GN.out).trans TU.out)
      replace LU := Lib.hid (LU.out.eq (hg.block _ LU.out.lt (fun e => VN.out.2 e.symm)))
      replace BU := Lib.hid (BU.out.grown hg BU.out.size (fun j hj => by have := OU.out.lt j hj; have := NW.out; omega))
      replace BK := Lib.hid (BK.out.grown hg (Nat.le_trans ZU.out BK.out.size) (fun j hj => (OU.out.lt j hj).1))
      have VA : Hid (∀ j, (Value.slice a3 (rn + 1) c3).ownBlock = some j → j ≠ gv) := Lib.hid (fun j e => by rcases hat with h | h; exact fun e2 => VN.out.2 (by rw [← h, e, e2]); have h2 := Option.some.inj (e.symm.trans h); have := VL.out; have := BD.out; omega)
      replace OU := Lib.hid ho
      replace BD := Lib.hid (Nat.le_trans BD.out hg.size)
      clear ho hg hat LX
      refine hK.out _ _ (KF.out _ BU.out TU.out) (fun hHeld => ?_)
      clear hK K
      refine tkA (i := 6) (v := ?_) rfl (by kernel_rfl) (fun _ _ _ h => h) (Or.inl ⟨by rfl, ?_⟩) hHeld ?_
      rotate_left
      ·(intro w' hSw; (try dsimp only at hSw); go_simp; try with_reducible rfl)
      simp only [List.getElem_toArray, List.getElem_cons_zero, List.getElem_cons_succ, Act.put, List.setIfInBounds_toArray, List.set_cons_zero, List.set_cons_succ]
      obtain ⟨⟨y0, y1⟩, g0, g1⟩ := LU.out.c
      refine wpAnyH_ready (rs := [7]) (by kernel_rfl) (by simp) ?_
      refine AllReadyH.cons rfl (fun K hK => ?_) AllReadyH.nil
      go_simp
      have hbs : Below w.heap.size w (u3.setCell ⟨gv, 1, none⟩ (.slice a3 (rn + 1) c3)) := BU.out.setCell VW.out _
      have hto : ∀ b, b ≠ gv → (u3.setCell ⟨gv, 1, none⟩ (.slice a3 (rn + 1) c3)).heap[b]? = u3.heap[b]? := fun b h => Below.heap_setCell _ _ _ _ h
      refine hK.out _ _ (KF.out _ hbs ((hto _ GV.out).trans TU.out)) (fun hHeld => ?_)
      replace LU := Lib.hid (LU.out.put1 a3 (rn + 1) c3)
      replace OU := Lib.hid (OU.out.keptQ (w' := u3.setCell ⟨gv, 1, none⟩ (.slice a3 (rn + 1) c3)) (by simp [World.setCell]) (fun b hb h => hto b (by rcases h with h | h; exact fun e => (by subst e; exact VN.out.1 h); exact VA.out b h)))
      replace BU := Lib.hid hbs
      have HTO := Lib.hid hto
      clear hK K y0 y1 g0 g1 hbs hto VA
      refine wpAnyH_done (by kernel_rfl) ?_ _
      clear hHeld KF TU
      have RU := Lib.hid (R3.out.keep BU.out (fun b h1 h2 => (HTO.out b (by have := ZV.out; have := ZW3.out; omega)).trans (BK.out.block b (by have := ZW3.out; omega))))
      obtain ⟨⟨y0, y1⟩, f0, f1⟩ := RU.out.rb.c
      obtain ⟨⟨v0, v1⟩, -⟩ := LU.out.c
      generalize (u3.setCell ⟨gv, 1, none⟩ (.slice a3 (rn + 1) c3)) = u4 at *
      have Z := Lib.hid (RU.out.rb.put qm a3 (rn + 1) c3).c.1
      have ZB : Hid (Below w.heap.size w ((u4.setCell ⟨w.heap.size + 1 + 1, 0, none⟩ (.int .i64 qm)).setCell ⟨w.heap.size + 1 + 1, 1, none⟩ (.slice a3 (rn + 1) c3))) := Lib.hid ((BU.out.setCell (by show w.heap.size ≤ w.heap.size + 1 + 1; omega) _).setCell (by show w.heap.size ≤ w.heap.size + 1 + 1; omega) _)
      have ZO : Hid (OwnJ (fun b => w.heap.size ≤ b) LTxn w.heap.size ((u4.setCell ⟨w.heap.size + 1 + 1, 0, none⟩ (.int .i64 qm)).setCell ⟨w.heap.size + 1 + 1, 1, none⟩ (.slice a3 (rn + 1) c3)) (.slice a3 (rn + 1) c3) (l ++ [t])) := Lib.hid (by
       have h := OU.out.kept (w' := (u4.setCell ⟨w.heap.size + 1 + 1, 0, none⟩ (.int .i64 qm)).setCell ⟨w.heap.size + 1 + 1, 1, none⟩ (.slice a3 (rn + 1) c3)) (by simp [World.setCell]) fun b hb h => (Below.heap_setCell _ _ _ _ (by have h2 : (w2.heap.size ≤ b ∧ b ≠ gv) ∨ w2.heap.size ≤ b := h; have := ZW3.out; show b ≠ w.heap.size + 1 + 1; omega)).trans (Below.heap_setCell _ _ _ _ (by have h2 : (w2.heap.size ≤ b ∧ b ≠ gv) ∨ w2.heap.size ≤ b := h; have := ZW3.out; show b ≠ w.heap.size + 1 + 1; omega))
       exact (h.mono (by have := ZW3.out; omega)).imp fun b hb => by have h2 : w2.heap.size ≤ b ∧ b ≠ gv := hb; have := ZW3.out; omega)
      clear RU
      go_wp2_with fail
      obtain ⟨z0, z1⟩ := Z.out
      refine bodyPost_ret (v := .tuple #[.agg #[.int .i64 qm, .slice a3 (rn + 1) c3], .int .i64 0]) (by simp [results, Tryz.results9, go_sem, z0, z1]) rfl ?_
      rw [HE.out.1, HE.out.2]
      exact ⟨a3, rn + 1, c3, rfl, by rw [List.length_append, ← HN.out]; rfl, ZO.out, ZB.out⟩
     ·skip
      go_simp
      have hb := (Below.refl u1.heap.size u1).alloc (Nat.le_refl _) (.cells #[.int .i64 t.node, .int .i64 t.seq, .slice a1 n1 e1, .slice a2 n2 e2] 29)
      have LX := Lib.hid (one_txnQ (J := (fun b => w2.heap.size ≤ b ∧ b ≠ gv)) (N := fun b => wb.heap.size ≤ b ∧ b < u1.heap.size) (W := u1) (x := t) (ov := .slice ra rn rc) UU.out.deps UU.out.effs (fun b h => h.2) (fun b h => JN.out b h.1) (JN.out _ BD.out) (fun q hq => by have h1 := OL.out q hq; have h2 := BD.out; exact ⟨fun h => by omega, by omega⟩))
      have LZ : Hid ((u1.alloc (.cells #[.int .i64 t.node, .int .i64 t.seq, .slice a1 n1 e1, .slice a2 n2 e2] 29)).heap.size = u1.heap.size + 1) := Lib.hid (by simp)
      replace BD := Lib.hid (Nat.le_trans BD.out hb.size)
      replace TU := Lib.hid ((hb.block _ (Array.getElem?_eq_some_iff.1 TU.out).1).trans TU.out)
      replace LU := Lib.hid (LU.out.below hb)
      replace OU := Lib.hid (OU.out.below hb (Nat.le_refl _))
      replace BU := Lib.hid (BU.out.trans (hb.mono BU.out.size))
      replace BK := Lib.hid (BK.out.trans (hb.mono (Nat.le_trans ZU.out BK.out.size)))
      clear hb UU
      refine hK.out _ _ (KF.out _ BU.out TU.out) (fun hHeld => ?_)
      clear hK K LZ
      generalize u1.heap.size = bk at *
      generalize (u1.alloc (.cells #[.int .i64 t.node, .int .i64 t.seq, .slice a1 n1 e1, .slice a2 n2 e2] 29)) = u2 at *
      refine wpAnyH_ready (rs := [1]) (by kernel_rfl) (by simp) ?_
      refine AllReadyH.cons rfl (fun K hK => ?_) AllReadyH.nil
      obtain ⟨⟨y0, y1⟩, -⟩ := LU.out.c
      go_simp
      refine hK.out _ _ (KF.out _ BU.out TU.out) (fun hHeld => ?_)
      clear hK K y0 y1
      refine wpAnyH_ready (rs := [5]) (by kernel_rfl) (by simp) ?_
      refine AllReadyH.cons rfl (fun K hK => ?_) AllReadyH.nil
      refine step_append_elQ ((fun b => w2.heap.size ≤ b ∧ b ≠ gv)) LTxn (by rfl) (.tmp 29) (.tmp 32) (by rfl) (w2.heap.size) (by rfl) OU.out (by rfl) LX.out (fun vs x h => h) (by have := KL.out; have := KL2.out; simp; omega) (by have := ZU.out; have := BD.out; omega) ?_
      intro v2 u3 ho hg hat
      obtain ⟨a3, c3, rfl, -, -, ho⟩ := ho.at (rn + 1) (by have := KL.out; simp; omega)
      replace TU := Lib.hid ((hg.block _ (Array.getElem?_eq_some_iff.1 TU.out).1 GN.out).trans TU.out)
      replace LU := Lib.hid (LU.out.eq (hg.block _ LU.out.lt (fun e => VN.out.2 e.symm)))
      replace BU := Lib.hid (BU.out.grown hg BU.out.size (fun j hj => by have := OU.out.lt j hj; have := NW.out; omega))
      replace BK := Lib.hid (BK.out.grown hg (Nat.le_trans ZU.out BK.out.size) (fun j hj => (OU.out.lt j hj).1))
      have VA : Hid (∀ j, (Value.slice a3 (rn + 1) c3).ownBlock = some j → j ≠ gv) := Lib.hid (fun j e => by rcases hat with h | h; exact fun e2 => VN.out.2 (by rw [← h, e, e2]); have h2 := Option.some.inj (e.symm.trans h); have := VL.out; have := BD.out; omega)
      replace OU := Lib.hid ho
      replace BD := Lib.hid (Nat.le_trans BD.out hg.size)
      clear ho hg hat LX
      refine hK.out _ _ (KF.out _ BU.out TU.out) (fun hHeld => ?_)
      clear hK K
      refine tkA (i := 6) (v := ?_) rfl (by kernel_rfl) (fun _ _ _ h => h) (Or.inl ⟨by rfl, ?_⟩) hHeld ?_
      rotate_left
      ·(intro w' hSw; (try dsimp only at hSw); go_simp; try with_reducible rfl)
      simp only [List.getElem_toArray, List.getElem_cons_zero, List.getElem_cons_succ, Act.put, List.setIfInBounds_toArray, List.set_cons_zero, List.set_cons_succ]
      obtain ⟨⟨y0, y1⟩, g0, g1⟩ := LU.out.c
      refine wpAnyH_ready (rs := [7]) (by kernel_rfl) (by simp) ?_
      refine AllReadyH.cons rfl (fun K hK => ?_) AllReadyH.nil
      go_simp
      have hbs : Below w.heap.size w (u3.setCell ⟨gv, 1, none⟩ (.slice a3 (rn + 1) c3)) := BU.out.setCell VW.out _
      have hto : ∀ b, b ≠ gv → (u3.setCell ⟨gv, 1, none⟩ (.slice a3 (rn + 1) c3)).heap[b]? = u3.heap[b]? := fun b h => Below.heap_setCell _ _ _ _ h
      refine hK.out _ _ (KF.out _ hbs ((hto _ GV.out).trans TU.out)) (fun hHeld => ?_)
      replace LU := Lib.hid (LU.out.put1 a3 (rn + 1) c3)
      replace OU := Lib.hid (OU.out.keptQ (w' := u3.setCell ⟨gv, 1, none⟩ (.slice a3 (rn + 1) c3)) (by simp [World.setCell]) (fun b hb h => hto b (by rcases h with h | h; exact fun e => (by subst e; exact VN.out.1 h); exact VA.out b h)))
      replace BU := Lib.hid hbs
      have HTO := Lib.hid hto
      clear hK K y0 y1 g0 g1 hbs hto VA
      refine wpAnyH_done (by kernel_rfl) ?_ _
      clear hHeld KF TU
      have RU := Lib.hid (R3.out.keep BU.out (fun b h1 h2 => (HTO.out b (by have := ZV.out; have := ZW3.out; omega)).trans (BK.out.block b (by have := ZW3.out; omega))))
      obtain ⟨⟨y0, y1⟩, f0, f1⟩ := RU.out.rb.c
      obtain ⟨⟨v0, v1⟩, -⟩ := LU.out.c
      generalize (u3.setCell ⟨gv, 1, none⟩ (.slice a3 (rn + 1) c3)) = u4 at *
      have Z := Lib.hid (RU.out.rb.put qm a3 (rn + 1) c3).c.1
      have ZB : Hid (Below w.heap.size w ((u4.setCell ⟨w.heap.size + 1 + 1, 0, none⟩ (.int .i64 qm)).setCell ⟨w.heap.size + 1 + 1, 1, none⟩ (.slice a3 (rn + 1) c3))) := Lib.hid ((BU.out.setCell (by show w.heap.size ≤ w.heap.size + 1 + 1; omega) _).setCell (by show w.heap.size ≤ w.heap.size + 1 + 1; omega) _)
      have ZO : Hid (OwnJ (fun b => w.heap.size ≤ b) LTxn w.heap.size ((u4.setCell ⟨w.heap.size + 1 + 1, 0, none⟩ (.int .i64 qm)).setCell ⟨w.heap.size + 1 + 1, 1, none⟩ (.slice a3 (rn + 1) c3)) (.slice a3 (rn + 1) c3) (l ++ [t])) := Lib.hid (by
       have h := OU.out.kept (w' := (u4.setCell ⟨w.heap.size + 1 + 1, 0, none⟩ (.int .i64 qm)).setCell ⟨w.heap.size + 1 + 1, 1, none⟩ (.slice a3 (rn + 1) c3)) (by simp [World.setCell]) fun b hb h => (Below.heap_setCell _ _ _ _ (by have h2 : (w2.heap.size ≤ b ∧ b ≠ gv) ∨ w2.heap.size ≤ b := h; have := ZW3.out; show b ≠ w.heap.size + 1 + 1; omega)).trans (Below.heap_setCell _ _ _ _ (by have h2 : (w2.heap.size ≤ b ∧ b ≠ gv) ∨ w2.heap.size ≤ b := h; have := ZW3.out; show b ≠ w.heap.size + 1 + 1; omega))
       exact (h.mono (by have := ZW3.out; omega)).imp fun b hb => by have h2 : w2.heap.size ≤ b ∧ b ≠ gv := hb; have := ZW3.out; omega)
      clear RU
      go_wp2_with fail
      obtain ⟨z0, z1⟩ := Z.out
      refine bodyPost_ret (v := .tuple #[.agg #[.int .i64 qm, .slice a3 (rn + 1) c3], .int .i64 0]) (by simp [results, Tryz.results9, go_sem, z0, z1]) rfl ?_
      rw [HE.out.1, HE.out.2]
      exact ⟨a3, rn + 1, c3, rfl, by rw [List.length_append, ← HN.out]; rfl, ZO.out, ZB.out⟩
end Go.Proofs.YtmknpmamkjjiaaaGreat
