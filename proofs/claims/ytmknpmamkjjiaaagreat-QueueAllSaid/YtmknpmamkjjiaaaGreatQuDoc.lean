/- The program's own Last, the document's own Heard of queues. (Written by gen-qudoc.py.) -/
import Derived.Test.YtmknpmamkjjiaaaGreatQuUse
import Derived.Test.YtmknpmamkjjiaaaGreatVcAll
import Derived.Deep.Cut
import Derived.Carry
namespace Go.Proofs.YtmknpmamkjjiaaaGreat
open Go.RowKit Plain
set_option linter.unusedVariables false

/-- Last: a transaction in memory of the call's own, and whether there is one -/
def GivesLast (w : World) (t : PTxn) (b : Bool) (e : Ending) (w' : World) : Prop := ∃ u, e = .returned (.tuple #[u, .bool b]) ∧ IsTxnIn (fun b => w.heap.size ≤ b ∧ b < w'.heap.size) w' u t ∧ Below w.heap.size w w'
def qLast (l : List PTxn) : PTxn := if l.length = 0 then ⟨0, 0, [], []⟩ else qEnd l
theorem qlast_cells (w : World) (m : Int) (a : Option Addr) (n c : Nat) : ((w.alloc (.cells #[.int .i64 m, .slice a n c] 24)).alloc (.cells #[.int .i64 0, .int .i64 0, .slice none 0 0, .slice none 0 0] 29)).cell? ⟨w.heap.size, 1, none⟩ = some (.slice a n c) ∧ ((w.alloc (.cells #[.int .i64 m, .slice a n c] 24)).alloc (.cells #[.int .i64 0, .int .i64 0, .slice none 0 0, .slice none 0 0] 29)).heap[w.heap.size + 1]? = some (.cells #[.int .i64 0, .int .i64 0, .slice none 0 0, .slice none 0 0] 29 (0, 0)) := by
 show ((w.alloc (qc m a n c)).alloc (.cells #[.int .i64 0, .int .i64 0, .slice none 0 0, .slice none 0 0] 29)).cell? ⟨w.heap.size, 1, none⟩ = some (.slice a n c) ∧ ((w.alloc (qc m a n c)).alloc (.cells #[.int .i64 0, .int .i64 0, .slice none 0 0, .slice none 0 0] 29)).heap[w.heap.size + 1]? = some (.cells #[.int .i64 0, .int .i64 0, .slice none 0 0, .slice none 0 0] 29 (0, 0))
 have z1 : (w.alloc (qc m a n c)).heap.size = w.heap.size + 1 := by simp
 have b1 := heap_alloc_new (w.alloc (qc m a n c)) (.cells #[.int .i64 0, .int .i64 0, .slice none 0 0, .slice none 0 0] 29)
 rw [z1] at b1
 exact ⟨(QuBox.below (qubox_new w m a n c) ((Below.refl _ _).alloc (Nat.le_refl _) (.cells #[.int .i64 0, .int .i64 0, .slice none 0 0, .slice none 0 0] 29))).c.1.2, b1⟩
set_option maxRecDepth 100000 in
set_option maxHeartbeats 8000000 in
/-- Last -/
theorem qulast_any {v : Value} {q : PQueue} {w : World} (h : IsQueue w v q) (hf : ∀ t ∈ q.list, FitTx t) : Calls Tryz.prog 13 #[v] w (GivesLast w (qLast q.list) (decide (0 < q.list.length))) := by
 obtain ⟨la, n, lc, rfl, hn, h1⟩ := h
 have hB : Below w.heap.size w ((w.alloc (.cells #[.int .i64 q.most, .slice la n lc] 24)).alloc (.cells #[.int .i64 0, .int .i64 0, .slice none 0 0, .slice none 0 0] 29)) := ((Below.refl w.heap.size w).alloc (Nat.le_refl _) _).alloc (by simp) _
 have GA := Lib.hid hB
 have ZA : Hid ((((w.alloc (.cells #[.int .i64 q.most, .slice la n lc] 24)).alloc (.cells #[.int .i64 0, .int .i64 0, .slice none 0 0, .slice none 0 0] 29))).heap.size = w.heap.size + 2) := Lib.hid (by simp)
 have C0 := Lib.hid (qlast_cells w q.most la n lc)
 have HD := SeqE.dims (L := LTxn) (show SeqE LTxn w (.slice la n lc) q.list from h1)
 have HS := Lib.hid h1
 have HN := Lib.hid hn
 have HF := Lib.hid hf
 have hnl : (n : Int) ≤ lc := by have := HD.2; omega
 have hnl2 : (lc : Int) ≤ 9223372036854775807 := by have := HD.2; omega
 clear hB h1 HD hn hf
 generalize q.most = qm at *
 generalize q.list = l at *
 go_enter Tryz.func13, Tryz.ntmps13
 go_upto_region 1 with fail
 generalize ((w.alloc (.cells #[.int .i64 qm, .slice la n lc] 24)).alloc (.cells #[.int .i64 0, .int .i64 0, .slice none 0 0, .slice none 0 0] 29)) = w0 at *
 have R0 := Lib.hid C0.out.2
 obtain ⟨c1, -⟩ := C0.out
 clear C0
 obtain ⟨⟨y0, y1, y2, y3⟩, f0, f1, f2, f3⟩ := st4_cells R0.out
 by_cases hz : n = 0
 ·subst hz
  have HE : Hid (qLast l = ⟨0, 0, [], []⟩ ∧ decide (0 < l.length) = false) := Lib.hid ⟨by unfold qLast; rw [if_pos HN.out.symm], decide_eq_false (by have := HN.out; omega)⟩
  have Z := Lib.hid (st4_cells (st4_block (v0 := .int .i64 0) (v1 := .int .i64 0) (v2 := .slice none 0 0) (v3 := .slice none 0 0) R0.out)).1
  have ZB := Lib.hid (st4_below (v0 := .int .i64 0) (v1 := .int .i64 0) (v2 := .slice none 0 0) (v3 := .slice none 0 0) GA.out (Nat.le_succ w.heap.size))
  unfold st4 at Z ZB
  go_wp2_with fail
  obtain ⟨z0, z1, z2, z3⟩ := Z.out
  refine bodyPost_ret (v := .tuple #[.agg #[.int .i64 0, .int .i64 0, .slice none 0 0, .slice none 0 0], .bool false]) (by simp [results, Tryz.results13, go_sem, z0, z1, z2, z3]) rfl ?_
  rw [HE.out.1, HE.out.2]
  exact ⟨_, rfl, ⟨_, _, rfl, sqNil _ _, sqNil _ _⟩, ZB.out⟩
 ·obtain ⟨lb, lo, rfl, hlb, hc'⟩ := txns_atQ (fun b h => h) HS.out (by omega)
  obtain ⟨da, dn, dc, ea, en, ec, hW2⟩ := hc' (n - 1) (by omega)
  have hz2 : ((n : Int) == 0) = false := by simp; omega
  have hI : (n : Int) - 1 = ((n - 1 : Nat) : Int) := by omega
  have hz3 : ((n - 1 : Nat) : Int) < n := by omega
  have hW3 : IntKind.i64.wrap ((n : Int) - 1) = ((n - 1 : Nat) : Int) := by rw [hI]; exact qwrap (by omega)
  have HL : Hid (qLast l = otx l (n - 1) ∧ decide (0 < l.length) = true) := Lib.hid ⟨by unfold qLast qEnd; rw [if_neg (by have := HN.out; omega), ← HN.out], decide_eq_true (by have := HN.out; omega)⟩
  have hft : FitTx (otx l (n - 1)) := HF.out _ (by rw [otx_lt (by have := HN.out; omega)]; exact List.getElem_mem _)
  have HC := Lib.hid (fun u (hb : Below w.heap.size w u) => (hW2 u hb).1)
  have KA := Lib.hid (fun u (hb : Below w.heap.size w u) => qualone_any ((hW2 u hb).2.is fun b h => Nat.lt_of_lt_of_le h hb.size) hft)
  clear hc' hW2 hlb hft HS HN HF
  generalize otx l (n - 1) = t at *
  generalize n - 1 = n1 at *
  obtain ⟨x0, x1, x2, x3⟩ := HC.out _ GA.out
  have K1 := Lib.hid (KA.out _ GA.out)
  go_wp2_with fail
  refine K1.out.mono ?_
  rintro e w2 ⟨u, rfl, hu, hb⟩
  obtain ⟨a1, n1', e1, a2, n2, e2, rfl, hu⟩ := hu.parts
  have R2 := Lib.hid ((hb.block (w.heap.size + 1) (by rw [ZA.out]; omega)).trans R0.out)
  have G2 := Lib.hid (GA.out.trans (hb.mono GA.out.size))
  have U2 := Lib.hid hu
  clear hu hb K1 KA c1 x0 x1 x2 x3 y0 y1 y2 y3 f0 f1 f2 f3 R0
  obtain ⟨⟨y0, y1, y2, y3⟩, f0, f1, f2, f3⟩ := st4_cells R2.out
  have FC := Lib.hid (st4_cells (st4_block (v0 := .int .i64 t.node) (v1 := .int .i64 t.seq) (v2 := .slice a1 n1' e1) (v3 := .slice a2 n2 e2) R2.out)).1
  have FB := Lib.hid (st4_below (v0 := .int .i64 t.node) (v1 := .int .i64 t.seq) (v2 := .slice a1 n1' e1) (v3 := .slice a2 n2 e2) G2.out (Nat.le_succ w.heap.size))
  have FU := Lib.hid ((U2.out.agree fun b hb => st4_other w2 (w.heap.size + 1) (.int .i64 t.node) (.int .i64 t.seq) (.slice a1 n1' e1) (.slice a2 n2 e2) b (by have := ZA.out; omega)).mono fun b hb => (⟨by have := ZA.out; omega, by rw [st4_size]; exact hb.2⟩ : w.heap.size ≤ b ∧ b < (st4 w2 (w.heap.size + 1) (.int .i64 t.node) (.int .i64 t.seq) (.slice a1 n1' e1) (.slice a2 n2 e2)).heap.size))
  unfold st4 at FC FB FU
  go_wp2_with fail
  obtain ⟨z0, z1, z2, z3⟩ := FC.out
  refine bodyPost_ret (v := .tuple #[.agg #[.int .i64 t.node, .int .i64 t.seq, .slice a1 n1' e1, .slice a2 n2 e2], .bool true]) (by simp [results, Tryz.results13, go_sem, z0, z1, z2, z3]) rfl ?_
  rw [HL.out.1, HL.out.2]
  exact ⟨_, rfl, FU.out, FB.out⟩
/-- the document's own Heard, each time round -/
structure QdAt (w : World) (m : Int) (la : Option Addr) (n lc : Nat) (a : Option Addr) (k c : Nat) (xs : List PTxn) (u : World) : Prop where
 low : Below w.heap.size w u
 pb : QuBox w.heap.size m la n lc u
 rb : QuBox (w.heap.size + 1) 0 none 0 0 u
 lb : QuBox (w.heap.size + 2) m a k c u
 len : xs.length = k
 ow : OwnJ (fun b => b < w.heap.size ∨ w.heap.size + 3 ≤ b) LTxn (w.heap.size + 3) u (.slice a k c) xs
theorem QdAt.below {w u u' : World} {m : Int} {la : Option Addr} {n lc : Nat} {a : Option Addr} {k c : Nat} {xs : List PTxn} (h : QdAt w m la n lc a k c xs u) (hb : Below u.heap.size u u') : QdAt w m la n lc a k c xs u' :=
 ⟨h.low.trans (hb.mono h.low.size), h.pb.below hb, h.rb.below hb, h.lb.below hb, h.len, h.ow.below hb (Nat.le_refl _)⟩
theorem qdat_new (w : World) (m : Int) (la : Option Addr) (n lc : Nat) : QdAt w m la n lc none 0 0 [] (((w.alloc (.cells #[.int .i64 m, .slice la n lc] 24)).alloc (.cells #[.int .i64 0, .slice none 0 0] 24)).alloc (.cells #[.int .i64 m, .slice none 0 0] 24)) := by
 have h := qhat_new w m la n lc
 exact ⟨h.low, QuBox.below (QuBox.below (qubox_new w m la n lc) ((Below.refl _ _).alloc (Nat.le_refl _) _)) ((Below.refl _ _).alloc (Nat.le_refl _) _), h.rb, h.lb, rfl, OwnJ.nil _ _ _⟩
/-- its list grew by one, and was stored -/
theorem QdAt.next {w u u2 : World} {m : Int} {la : Option Addr} {n lc : Nat} {a a3 : Option Addr} {k c c3 k3 : Nat} {xs ys : List PTxn} (h : QdAt w m la n lc a k c xs u) (ho : OwnJ (fun b => b < w.heap.size ∨ w.heap.size + 3 ≤ b) LTxn (w.heap.size + 3) u2 (.slice a3 k3 c3) ys) (hy : ys.length = k3) (hg : u.grownBy u2 (Value.slice a k c).ownBlock) :
  QdAt w m la n lc a3 k3 c3 ys (u2.setCell ⟨w.heap.size + 2, 1, none⟩ (.slice a3 k3 c3)) := by
 have hs : w.heap.size + 3 ≤ u.heap.size := h.lb.lt
 have hlt := h.ow.lt
 have keep : ∀ b, b < w.heap.size + 3 → u2.heap[b]? = u.heap[b]? := fun b hb => hg.block b (by omega) fun e => by have := (hlt b e.symm).1; omega
 have ot : ∀ b, b ≠ w.heap.size + 2 → (u2.setCell ⟨w.heap.size + 2, 1, none⟩ (.slice a3 k3 c3)).heap[b]? = u2.heap[b]? := fun b hb => Below.heap_setCell _ _ _ _ hb
 exact ⟨(h.low.grown hg h.low.size fun j hj => by have := (hlt j hj).1; omega).setCell (by show w.heap.size ≤ w.heap.size + 2; omega) _, h.pb.eq ((ot _ (by omega)).trans (keep _ (by omega))), h.rb.eq ((ot _ (by omega)).trans (keep _ (by omega))), (h.lb.eq (keep _ (by omega))).put1 a3 k3 c3, hy, ho.kept (by simp [World.setCell]) fun b hb h => ot b (by have h2 : (b < w.heap.size ∨ w.heap.size + 3 ≤ b) ∨ w.heap.size + 3 ≤ b := h; omega)⟩
theorem qHas_low {v : Ints} {t : PTxn} (h : t.seq < 1) : qHas v t = false := by unfold qHas; rw [decide_eq_false (by omega), Bool.false_and]
theorem qHas_in {v : Ints} {t : PTxn} (h : ¬ t.seq < 1) : qHas v t = decide (t.seq ≤ saysI v t.node) := by unfold qHas; rw [decide_eq_true (by omega), Bool.true_and]
set_option maxRecDepth 100000 in
set_option maxHeartbeats 16000000 in
/-- the document's own Heard -/
theorem rqheard_any {v vv : Value} {q : PQueue} {x : Ints} {w : World} (h : IsQueue w v q) (hv : SeqI w vv x) (hl : q.list.length ≤ 1000000) : Calls Tryz.prog 12 #[v, vv] w (fun e w' => ∃ u, e = .returned u ∧ IsQueue w' u (qHeard q x) ∧ Below w.heap.size w w') := by
 obtain ⟨la, n, lc, rfl, hn, h1⟩ := h
 have HV := Lib.hid hv
 obtain ⟨va, vc, rfl, -, -, -, -⟩ := hv.parts
 have HR : Hid (∀ (e : Ending) (w' : World), (∃ a m c, e = .returned (.agg #[.int .i64 q.most, .slice a m c]) ∧ (qLeft q.list x).length = m ∧ SeqE LTxn w' (.slice a m c) (qLeft q.list x) ∧ Below w.heap.size w w') → ∃ u, e = .returned u ∧ IsQueue w' u (qHeard q x) ∧ Below w.heap.size w w') := Lib.hid (fun e w' ⟨a, m, c, he, hm, hs, hb⟩ => ⟨_, he, ⟨a, m, c, rfl, hm.symm, hs⟩, hb⟩)
 refine Calls.mono ?_ HR.out
 have R0 := Lib.hid (qdat_new w q.most la n lc)
 have HS := Lib.hid h1
 have HN := Lib.hid hn
 have D1 := Lib.hid (SeqE.dims (L := LTxn) (show SeqE LTxn w (.slice la n lc) q.list from h1))
 have hnl : n ≤ 1000000 := by omega
 generalize q.list = l at *
 generalize q.most = qm at *
 clear hv h1 hn hl HR
 generalize x.length = vn at *
 go_enter Tryz.func12, Tryz.ntmps12
 go_upto_region 1 with fail
 have c0 : (((w.alloc (.cells #[.int .i64 qm, .slice la n lc] 24)).alloc (.cells #[.int .i64 0, .slice none 0 0] 24))).cell? ⟨w.heap.size, 0, none⟩ = some (.int .i64 qm) := quparam0 w qm la n lc
 go_upto_region 2 with fail
 clear c0
 generalize (((w.alloc (.cells #[.int .i64 qm, .slice la n lc] 24)).alloc (.cells #[.int .i64 0, .slice none 0 0] 24)).alloc (.cells #[.int .i64 qm, .slice none 0 0] 24)) = w0 at *
 go_wp2_with fail
 go_loopw [6] (fun i wr => ∃ (k m : Nat) (a : Option Addr) (c : Nat), k ≤ n ∧ i = .int .i64 k ∧ Aside (QdAt w qm la n lc a m c (qLeft (l.take k) x) wr)) (fun i _ => n - (intOf i).toNat)
 case atStart => exact ⟨0, 0, none, 0, Nat.zero_le _, rfl, R0.out⟩
 case round =>
  clear R0
  obtain ⟨k, m, a, c, hk, rfl, hrel⟩ := hrel
  have R := Lib.hid (Aside.out hrel)
  clear hrel
  obtain ⟨⟨p0, p1⟩, -⟩ := R.out.pb.c
  by_cases hlt : k < n
  ·obtain ⟨lb, lo, rfl, hlb, hc'⟩ := txns_atQ (fun b h => h) HS.out (by omega)
   obtain ⟨da, dn, dc, ea, en, ec, hW⟩ := hc' k hlt
   have hkl : k < l.length := by have := HN.out; omega
   have TK := Lib.hid (qLeft_take (v := x) hkl)
   have HT := Lib.hid hW
   obtain ⟨c0, c1, c2, c3⟩ := (hW wr R.out.low).1
   obtain ⟨d0, d1, d2⟩ := D1.out
   have hk1 : (k : Int) < n := by omega
   have hk2 : (n : Int) ≤ lc := by omega
   have hk3 : (lc : Int) ≤ 9223372036854775807 := by omega
   clear hW hc' d0 d1 d2 hlb
   generalize otx l k = t at *
   have hb := (Below.refl wr.heap.size wr).alloc (Nat.le_refl _) (.cells #[.int .i64 t.node, .int .i64 t.seq, .slice da dn dc, .slice ea en ec] 29)
   have R1 := Lib.hid (R.out.below hb)
   have T1 := Lib.hid (heap_alloc_new wr (.cells #[.int .i64 t.node, .int .i64 t.seq, .slice da dn dc, .slice ea en ec] 29))
   have KL0 : Hid (m ≤ n) := Lib.hid (by have h1 := qLeft_len (l.take k) x; rw [List.length_take] at h1; have := R.out.len; omega)
   clear hb R
   go_upto_region 6 with fail
   clear c0 c1 c2 c3 p0 p1
   generalize (wr.alloc (.cells #[.int .i64 t.node, .int .i64 t.seq, .slice da dn dc, .slice ea en ec] 29)) = wa at *
   generalize wr.heap.size = gt at *
   have KE : Hid (∀ u : World, Below wa.heap.size wa u → Below wa.heap.size wa u ∧ u.cell? ⟨gt, 0, none⟩ = some (.int .i64 t.node) ∧ u.cell? ⟨gt, 1, none⟩ = some (.int .i64 t.seq)) := Lib.hid (fun u hb => by
    obtain ⟨⟨h0, h1, -, -⟩, -⟩ := st4_cells ((hb.block gt (Array.getElem?_eq_some_iff.1 T1.out).1).trans T1.out)
    exact ⟨hb, h0, h1⟩)
   have KV := Lib.hid (fun u (hb : Below wa.heap.size wa u) => Calls.tell (vc_rat_any (HV.out.below (R1.out.low.trans (hb.mono R1.out.low.size))) t.node))
   by_cases hs : t.seq < 1
   ·have QF := Lib.hid (qHas_low (v := x) hs)
    refine wp_region_held_drew (S := fun u' => Below wa.heap.size wa u' ∧ u'.cell? ⟨gt, 0, none⟩ = some (.int .i64 t.node) ∧ u'.cell? ⟨gt, 1, none⟩ = some (.int .i64 t.seq)) (by kernel_rfl) ?_ (fun hHeld => ?_)
    ·(exact KE.out _ (Below.refl _ _).drew)
    simp only [List.size_toArray, List.length_cons, List.length_nil, Nat.zero_add, Nat.reduceAdd]
    refine tkA (i := 0) (v := ?_) rfl (by kernel_rfl) (fun _ _ _ h => h) (Or.inl ⟨by rfl, ?_⟩) hHeld ?_
    rotate_left
    ·(intro w' hSw; (try dsimp only at hSw); go_simp; try with_reducible rfl)
    simp only [List.getElem_toArray, List.getElem_cons_zero, Act.put, List.setIfInBounds_toArray, List.set_cons_zero, List.set_cons_succ]
    refine tkA (i := 1) (v := ?_) rfl (by kernel_rfl) (fun _ _ _ h => h) (Or.inl ⟨by rfl, ?_⟩) hHeld ?_
    rotate_left
    ·(intro w' hSw; (try dsimp only at hSw); go_simp; try with_reducible rfl)
    simp only [List.getElem_toArray, List.getElem_cons_zero, List.getElem_cons_succ, Act.put, List.setIfInBounds_toArray, List.set_cons_zero, List.set_cons_succ]
    refine tkA (i := 2) (v := ?_) rfl (by kernel_rfl) (fun _ _ _ h => h) (Or.inl ⟨by rfl, ?_⟩) hHeld ?_
    rotate_left
    ·(intro w' hSw; (try dsimp only at hSw); go_simp; try with_reducible rfl)
    simp only [List.getElem_toArray, List.getElem_cons_zero, List.getElem_cons_succ, Act.put, List.setIfInBounds_toArray, List.set_cons_zero, List.set_cons_succ]
    refine tkA (i := 3) (v := ?_) rfl (by kernel_rfl) (fun _ _ _ h => h) (Or.inl ⟨by rfl, ?_⟩) hHeld ?_
    rotate_left
    ·(intro w' hSw; (try dsimp only at hSw); go_simp; try with_reducible rfl)
    simp only [List.getElem_toArray, List.getElem_cons_zero, List.getElem_cons_succ, Act.put, List.setIfInBounds_toArray, List.set_cons_zero, List.set_cons_succ]
    refine tkA (i := 4) (v := undef) rfl (by kernel_rfl) (fun _ _ _ h => h) (Or.inr ⟨by rfl, rfl⟩) hHeld ?_
    simp only [List.getElem_toArray, List.getElem_cons_zero, List.getElem_cons_succ, Act.put, List.setIfInBounds_toArray, List.set_cons_zero, List.set_cons_succ]
    refine tkA (i := 5) (v := undef) rfl (by kernel_rfl) (fun _ _ _ h => h) (Or.inr ⟨by rfl, rfl⟩) hHeld ?_
    simp only [List.getElem_toArray, List.getElem_cons_zero, List.getElem_cons_succ, Act.put, List.setIfInBounds_toArray, List.set_cons_zero, List.set_cons_succ]
    refine tkA (i := 6) (v := undef) rfl (by kernel_rfl) (fun _ _ _ h => h) (Or.inr ⟨by rfl, rfl⟩) hHeld ?_
    simp only [List.getElem_toArray, List.getElem_cons_zero, List.getElem_cons_succ, Act.put, List.setIfInBounds_toArray, List.set_cons_zero, List.set_cons_succ]
    refine tkA (i := 7) (v := undef) rfl (by kernel_rfl) (fun _ _ _ h => h) (Or.inr ⟨by rfl, rfl⟩) hHeld ?_
    simp only [List.getElem_toArray, List.getElem_cons_zero, List.getElem_cons_succ, Act.put, List.setIfInBounds_toArray, List.set_cons_zero, List.set_cons_succ]
    refine tkA (i := 8) (v := undef) rfl (by kernel_rfl) (fun _ _ _ h => h) (Or.inr ⟨by rfl, rfl⟩) hHeld ?_
    simp only [List.getElem_toArray, List.getElem_cons_zero, List.getElem_cons_succ, Act.put, List.setIfInBounds_toArray, List.set_cons_zero, List.set_cons_succ]
    refine tkA (i := 9) (v := undef) rfl (by kernel_rfl) (fun _ _ _ h => h) (Or.inr ⟨by rfl, rfl⟩) hHeld ?_
    simp only [List.getElem_toArray, List.getElem_cons_zero, List.getElem_cons_succ, Act.put, List.setIfInBounds_toArray, List.set_cons_zero, List.set_cons_succ]
    refine tkA (i := 10) (v := undef) rfl (by kernel_rfl) (fun _ _ _ h => h) (Or.inr ⟨by rfl, rfl⟩) hHeld ?_
    simp only [List.getElem_toArray, List.getElem_cons_zero, List.getElem_cons_succ, Act.put, List.setIfInBounds_toArray, List.set_cons_zero, List.set_cons_succ]
    refine tkA (i := 11) (v := ?_) rfl (by kernel_rfl) (fun _ _ _ h => h) (Or.inl ⟨by rfl, ?_⟩) hHeld ?_
    rotate_left
    ·(intro w' hSw; (try dsimp only at hSw); go_simp; try with_reducible rfl)
    simp only [List.getElem_toArray, List.getElem_cons_zero, List.getElem_cons_succ, Act.put, List.setIfInBounds_toArray, List.set_cons_zero, List.set_cons_succ]
    refine wpAnyH_done (by kernel_rfl) ?_ _
    have hQ := hHeld.1
    clear hQ
    have R3 := Lib.hid (R1.out.below hHeld.1)
    have T3 := Lib.hid ((hHeld.1.block gt (Array.getElem?_eq_some_iff.1 T1.out).1).trans T1.out)
    clear hHeld KE KV R1 T1
    generalize wa.drew = wb at *
    have NL : Hid (qLeft (l.take (k + 1)) x = qLeft (l.take k) x ++ [t]) := Lib.hid (TK.out.trans (by rw [QF.out]; simp))
    have KL := Lib.hid R3.out.len
    generalize hxs : qLeft (l.take k) x = xs at *
    clear hxs TK
    obtain ⟨⟨y0, y1⟩, f0, f1⟩ := R3.out.lb.c
    obtain ⟨⟨c0, c1, c2, c3⟩, -⟩ := st4_cells T3.out
    have hba := (Below.refl wb.heap.size wb).alloc (Nat.le_refl _) (.cells #[.int .i64 t.node, .int .i64 t.seq, .slice da dn dc, .slice ea en ec] 29)
    have R4 := Lib.hid (R3.out.below hba)
    have LX := Lib.hid (one_txnQ (J := (fun b => b < w.heap.size ∨ w.heap.size + 3 ≤ b)) (N := fun b => b < w.heap.size) (W := wb) (x := t) (ov := .slice a m c) ((HT.out wb R3.out.low).2.deps) ((HT.out wb R3.out.low).2.effs) (fun b h => Nat.lt_of_lt_of_le h R3.out.low.size) (fun b h => .inl h) (.inr R3.out.lb.lt) (fun q hq => by have h1 := R3.out.ow.lt q hq; exact ⟨fun h => by omega, h1.2⟩))
    have ZB3 : Hid (w.heap.size + 3 ≤ (wb.alloc (.cells #[.int .i64 t.node, .int .i64 t.seq, .slice da dn dc, .slice ea en ec] 29)).heap.size) := Lib.hid (Nat.le_trans R3.out.lb.lt hba.size)
    clear hba
    go_wp2_with (at_builtin; refine wpList_append_elJ (fun b => b < w.heap.size ∨ w.heap.size + 3 ≤ b) LTxn rfl (.tmp 36) (.tmp 38) rfl (w.heap.size + 3) rfl R4.out.ow rfl LX.out (fun vs x h => h) (by have := KL.out; have := KL0.out; simp; omega) ZB3.out ?_)
    intro v2 u2 ho hg hat
    obtain ⟨a3, c3', rfl, -, -, ho⟩ := ho.at (m + 1) (by have := KL.out; simp; omega)
    have NX := Lib.hid (R4.out.next ho (by rw [List.length_append, KL.out]; rfl) hg)
    have LB2 := Lib.hid (R4.out.lb.eq (hg.block _ R4.out.lb.lt fun e => by have := (R4.out.ow.lt _ e.symm).1; omega))
    clear y0 y1 f0 f1 c0 c1 c2 c3 ho hg hat R3 T3 LX
    obtain ⟨⟨y0, y1⟩, f0, f1⟩ := LB2.out.c
    go_wp2_with fail
    go_roundw
    case rel => exact ⟨k + 1, m + 1, a3, c3', by omega, by go_num, by rw [NL.out]; exact NX.out⟩
    case measure => simp [intOf]; omega
   ·have QI := Lib.hid (qHas_in (v := x) hs)
    by_cases hg : t.seq ≤ saysI x t.node
    ·have QF : Hid (qHas x t = true) := Lib.hid (QI.out.trans (decide_eq_true hg))
     have hg2 : ¬ saysI x t.node < t.seq := by omega
     clear QI
     refine wp_region_held_drew (S := fun u' => Below wa.heap.size wa u' ∧ u'.cell? ⟨gt, 0, none⟩ = some (.int .i64 t.node) ∧ u'.cell? ⟨gt, 1, none⟩ = some (.int .i64 t.seq)) (by kernel_rfl) ?_ (fun hHeld => ?_)
     ·(exact KE.out _ (Below.refl _ _).drew)
     simp only [List.size_toArray, List.length_cons, List.length_nil, Nat.zero_add, Nat.reduceAdd]
     refine tkA (i := 0) (v := ?_) rfl (by kernel_rfl) (fun _ _ _ h => h) (Or.inl ⟨by rfl, ?_⟩) hHeld ?_
     rotate_left
     ·(intro w' hSw; (try dsimp only at hSw); go_simp; try with_reducible rfl)
     simp only [List.getElem_toArray, List.getElem_cons_zero, Act.put, List.setIfInBounds_toArray, List.set_cons_zero, List.set_cons_succ]
     refine tkA (i := 1) (v := ?_) rfl (by kernel_rfl) (fun _ _ _ h => h) (Or.inl ⟨by rfl, ?_⟩) hHeld ?_
     rotate_left
     ·(intro w' hSw; (try dsimp only at hSw); go_simp; try with_reducible rfl)
     simp only [List.getElem_toArray, List.getElem_cons_zero, List.getElem_cons_succ, Act.put, List.setIfInBounds_toArray, List.set_cons_zero, List.set_cons_succ]
     refine tkA (i := 2) (v := ?_) rfl (by kernel_rfl) (fun _ _ _ h => h) (Or.inl ⟨by rfl, ?_⟩) hHeld ?_
     rotate_left
     ·(intro w' hSw; (try dsimp only at hSw); go_simp; try with_reducible rfl)
     simp only [List.getElem_toArray, List.getElem_cons_zero, List.getElem_cons_succ, Act.put, List.setIfInBounds_toArray, List.set_cons_zero, List.set_cons_succ]
     refine tkA (i := 3) (v := ?_) rfl (by kernel_rfl) (fun _ _ _ h => h) (Or.inl ⟨by rfl, ?_⟩) hHeld ?_
     rotate_left
     ·(intro w' hSw; (try dsimp only at hSw); go_simp; try with_reducible rfl)
     simp only [List.getElem_toArray, List.getElem_cons_zero, List.getElem_cons_succ, Act.put, List.setIfInBounds_toArray, List.set_cons_zero, List.set_cons_succ]
     refine tkA (i := 4) (v := ?_) rfl (by kernel_rfl) (fun _ _ _ h => h) (Or.inl ⟨by rfl, ?_⟩) hHeld ?_
     rotate_left
     ·(intro w' hSw; (try dsimp only at hSw); go_simp; try with_reducible rfl)
     simp only [List.getElem_toArray, List.getElem_cons_zero, List.getElem_cons_succ, Act.put, List.setIfInBounds_toArray, List.set_cons_zero, List.set_cons_succ]
     refine tkA (i := 5) (v := ?_) rfl (by kernel_rfl) (fun _ _ _ h => h) (Or.inl ⟨by rfl, ?_⟩) hHeld ?_
     rotate_left
     ·(intro w' hSw; (try dsimp only at hSw); go_simp; try with_reducible rfl)
     simp only [List.getElem_toArray, List.getElem_cons_zero, List.getElem_cons_succ, Act.put, List.setIfInBounds_toArray, List.set_cons_zero, List.set_cons_succ]
     refine tkA (i := 6) (v := ?_) rfl (by kernel_rfl) (fun _ _ _ h => h) (Or.inl ⟨by rfl, ?_⟩) hHeld ?_
     rotate_left
     ·(intro w' hSw; (try dsimp only at hSw); go_simp; try with_reducible rfl)
     simp only [List.getElem_toArray, List.getElem_cons_zero, List.getElem_cons_succ, Act.put, List.setIfInBounds_toArray, List.set_cons_zero, List.set_cons_succ]
     refine tkA (i := 7) (v := ?_) rfl (by kernel_rfl) (fun _ _ _ h => h) (Or.inl ⟨by rfl, ?_⟩) hHeld ?_
     rotate_left
     ·(intro w' hSw; (try dsimp only at hSw); go_simp; try with_reducible rfl)
     simp only [List.getElem_toArray, List.getElem_cons_zero, List.getElem_cons_succ, Act.put, List.setIfInBounds_toArray, List.set_cons_zero, List.set_cons_succ]
     refine tkA (i := 8) (v := ?_) rfl (by kernel_rfl) (fun _ _ _ h => h) (Or.inl ⟨by rfl, ?_⟩) hHeld ?_
     rotate_left
     ·(intro w' hSw; (try dsimp only at hSw); go_simp; try with_reducible rfl)
     simp only [List.getElem_toArray, List.getElem_cons_zero, List.getElem_cons_succ, Act.put, List.setIfInBounds_toArray, List.set_cons_zero, List.set_cons_succ]
     refine wpAnyH_ready (rs := [9]) (by kernel_rfl) (by simp) ?_
     refine AllReadyH.cons rfl (fun K hK => ?_) AllReadyH.nil
     go_simp
     refine (KV.out _ hHeld.1).mono ?_
     rintro e s1 ⟨rfl, hb⟩
     refine hK.out _ _ (KE.out _ (holdC hHeld hb)) (fun hHeld => ?_)
     clear hK K hb
     refine tkA (i := 10) (v := ?_) rfl (by kernel_rfl) (fun _ _ _ h => h) (Or.inl ⟨by rfl, ?_⟩) hHeld ?_
     rotate_left
     ·(intro w' hSw; (try dsimp only at hSw); go_simp; try with_reducible rfl)
     simp only [List.getElem_toArray, List.getElem_cons_zero, List.getElem_cons_succ, Act.put, List.setIfInBounds_toArray, List.set_cons_zero, List.set_cons_succ]
     refine tkA (i := 11) (v := ?_) rfl (by kernel_rfl) (fun _ _ _ h => h) (Or.inl ⟨by rfl, ?_⟩) hHeld ?_
     rotate_left
     ·(intro w' hSw; (try dsimp only at hSw); go_simp; try with_reducible rfl)
     simp only [List.getElem_toArray, List.getElem_cons_zero, List.getElem_cons_succ, Act.put, List.setIfInBounds_toArray, List.set_cons_zero, List.set_cons_succ]
     refine wpAnyH_done (by kernel_rfl) ?_ _
     have R3 := Lib.hid (R1.out.below hHeld.1)
     have T3 := Lib.hid ((hHeld.1.block gt (Array.getElem?_eq_some_iff.1 T1.out).1).trans T1.out)
     clear hHeld KE KV R1 T1
     go_wp2_with fail
     go_roundw
     case rel => exact ⟨k + 1, m, a, c, by omega, by go_num, by rw [TK.out, QF.out]; have h := R3.out; simp only [if_true, List.append_nil]; exact h⟩
     case measure => simp [intOf]; omega
    ·have QF : Hid (qHas x t = false) := Lib.hid (QI.out.trans (decide_eq_false hg))
     have hg2 : saysI x t.node < t.seq := by omega
     clear QI
     refine wp_region_held_drew (S := fun u' => Below wa.heap.size wa u' ∧ u'.cell? ⟨gt, 0, none⟩ = some (.int .i64 t.node) ∧ u'.cell? ⟨gt, 1, none⟩ = some (.int .i64 t.seq)) (by kernel_rfl) ?_ (fun hHeld => ?_)
     ·(exact KE.out _ (Below.refl _ _).drew)
     simp only [List.size_toArray, List.length_cons, List.length_nil, Nat.zero_add, Nat.reduceAdd]
     refine tkA (i := 0) (v := ?_) rfl (by kernel_rfl) (fun _ _ _ h => h) (Or.inl ⟨by rfl, ?_⟩) hHeld ?_
     rotate_left
     ·(intro w' hSw; (try dsimp only at hSw); go_simp; try with_reducible rfl)
     simp only [List.getElem_toArray, List.getElem_cons_zero, Act.put, List.setIfInBounds_toArray, List.set_cons_zero, List.set_cons_succ]
     refine tkA (i := 1) (v := ?_) rfl (by kernel_rfl) (fun _ _ _ h => h) (Or.inl ⟨by rfl, ?_⟩) hHeld ?_
     rotate_left
     ·(intro w' hSw; (try dsimp only at hSw); go_simp; try with_reducible rfl)
     simp only [List.getElem_toArray, List.getElem_cons_zero, List.getElem_cons_succ, Act.put, List.setIfInBounds_toArray, List.set_cons_zero, List.set_cons_succ]
     refine tkA (i := 2) (v := ?_) rfl (by kernel_rfl) (fun _ _ _ h => h) (Or.inl ⟨by rfl, ?_⟩) hHeld ?_
     rotate_left
     ·(intro w' hSw; (try dsimp only at hSw); go_simp; try with_reducible rfl)
     simp only [List.getElem_toArray, List.getElem_cons_zero, List.getElem_cons_succ, Act.put, List.setIfInBounds_toArray, List.set_cons_zero, List.set_cons_succ]
     refine tkA (i := 3) (v := ?_) rfl (by kernel_rfl) (fun _ _ _ h => h) (Or.inl ⟨by rfl, ?_⟩) hHeld ?_
     rotate_left
     ·(intro w' hSw; (try dsimp only at hSw); go_simp; try with_reducible rfl)
     simp only [List.getElem_toArray, List.getElem_cons_zero, List.getElem_cons_succ, Act.put, List.setIfInBounds_toArray, List.set_cons_zero, List.set_cons_succ]
     refine tkA (i := 4) (v := ?_) rfl (by kernel_rfl) (fun _ _ _ h => h) (Or.inl ⟨by rfl, ?_⟩) hHeld ?_
     rotate_left
     ·(intro w' hSw; (try dsimp only at hSw); go_simp; try with_reducible rfl)
     simp only [List.getElem_toArray, List.getElem_cons_zero, List.getElem_cons_succ, Act.put, List.setIfInBounds_toArray, List.set_cons_zero, List.set_cons_succ]
     refine tkA (i := 5) (v := ?_) rfl (by kernel_rfl) (fun _ _ _ h => h) (Or.inl ⟨by rfl, ?_⟩) hHeld ?_
     rotate_left
     ·(intro w' hSw; (try dsimp only at hSw); go_simp; try with_reducible rfl)
     simp only [List.getElem_toArray, List.getElem_cons_zero, List.getElem_cons_succ, Act.put, List.setIfInBounds_toArray, List.set_cons_zero, List.set_cons_succ]
     refine tkA (i := 6) (v := ?_) rfl (by kernel_rfl) (fun _ _ _ h => h) (Or.inl ⟨by rfl, ?_⟩) hHeld ?_
     rotate_left
     ·(intro w' hSw; (try dsimp only at hSw); go_simp; try with_reducible rfl)
     simp only [List.getElem_toArray, List.getElem_cons_zero, List.getElem_cons_succ, Act.put, List.setIfInBounds_toArray, List.set_cons_zero, List.set_cons_succ]
     refine tkA (i := 7) (v := ?_) rfl (by kernel_rfl) (fun _ _ _ h => h) (Or.inl ⟨by rfl, ?_⟩) hHeld ?_
     rotate_left
     ·(intro w' hSw; (try dsimp only at hSw); go_simp; try with_reducible rfl)
     simp only [List.getElem_toArray, List.getElem_cons_zero, List.getElem_cons_succ, Act.put, List.setIfInBounds_toArray, List.set_cons_zero, List.set_cons_succ]
     refine tkA (i := 8) (v := ?_) rfl (by kernel_rfl) (fun _ _ _ h => h) (Or.inl ⟨by rfl, ?_⟩) hHeld ?_
     rotate_left
     ·(intro w' hSw; (try dsimp only at hSw); go_simp; try with_reducible rfl)
     simp only [List.getElem_toArray, List.getElem_cons_zero, List.getElem_cons_succ, Act.put, List.setIfInBounds_toArray, List.set_cons_zero, List.set_cons_succ]
     refine wpAnyH_ready (rs := [9]) (by kernel_rfl) (by simp) ?_
     refine AllReadyH.cons rfl (fun K hK => ?_) AllReadyH.nil
     go_simp
     refine (KV.out _ hHeld.1).mono ?_
     rintro e wb ⟨rfl, hb⟩
     refine hK.out _ _ (KE.out _ (holdC hHeld hb)) (fun hHeld => ?_)
     clear hK K hb
     refine tkA (i := 10) (v := ?_) rfl (by kernel_rfl) (fun _ _ _ h => h) (Or.inl ⟨by rfl, ?_⟩) hHeld ?_
     rotate_left
     ·(intro w' hSw; (try dsimp only at hSw); go_simp; try with_reducible rfl)
     simp only [List.getElem_toArray, List.getElem_cons_zero, List.getElem_cons_succ, Act.put, List.setIfInBounds_toArray, List.set_cons_zero, List.set_cons_succ]
     refine tkA (i := 11) (v := ?_) rfl (by kernel_rfl) (fun _ _ _ h => h) (Or.inl ⟨by rfl, ?_⟩) hHeld ?_
     rotate_left
     ·(intro w' hSw; (try dsimp only at hSw); go_simp; try with_reducible rfl)
     simp only [List.getElem_toArray, List.getElem_cons_zero, List.getElem_cons_succ, Act.put, List.setIfInBounds_toArray, List.set_cons_zero, List.set_cons_succ]
     refine wpAnyH_done (by kernel_rfl) ?_ _
     have R3 := Lib.hid (R1.out.below hHeld.1)
     have T3 := Lib.hid ((hHeld.1.block gt (Array.getElem?_eq_some_iff.1 T1.out).1).trans T1.out)
     clear hHeld KE KV R1 T1
     skip
     have NL : Hid (qLeft (l.take (k + 1)) x = qLeft (l.take k) x ++ [t]) := Lib.hid (TK.out.trans (by rw [QF.out]; simp))
     have KL := Lib.hid R3.out.len
     generalize hxs : qLeft (l.take k) x = xs at *
     clear hxs TK
     obtain ⟨⟨y0, y1⟩, f0, f1⟩ := R3.out.lb.c
     obtain ⟨⟨c0, c1, c2, c3⟩, -⟩ := st4_cells T3.out
     have hba := (Below.refl wb.heap.size wb).alloc (Nat.le_refl _) (.cells #[.int .i64 t.node, .int .i64 t.seq, .slice da dn dc, .slice ea en ec] 29)
     have R4 := Lib.hid (R3.out.below hba)
     have LX := Lib.hid (one_txnQ (J := (fun b => b < w.heap.size ∨ w.heap.size + 3 ≤ b)) (N := fun b => b < w.heap.size) (W := wb) (x := t) (ov := .slice a m c) ((HT.out wb R3.out.low).2.deps) ((HT.out wb R3.out.low).2.effs) (fun b h => Nat.lt_of_lt_of_le h R3.out.low.size) (fun b h => .inl h) (.inr R3.out.lb.lt) (fun q hq => by have h1 := R3.out.ow.lt q hq; exact ⟨fun h => by omega, h1.2⟩))
     have ZB3 : Hid (w.heap.size + 3 ≤ (wb.alloc (.cells #[.int .i64 t.node, .int .i64 t.seq, .slice da dn dc, .slice ea en ec] 29)).heap.size) := Lib.hid (Nat.le_trans R3.out.lb.lt hba.size)
     clear hba
     go_wp2_with (at_builtin; refine wpList_append_elJ (fun b => b < w.heap.size ∨ w.heap.size + 3 ≤ b) LTxn rfl (.tmp 36) (.tmp 38) rfl (w.heap.size + 3) rfl R4.out.ow rfl LX.out (fun vs x h => h) (by have := KL.out; have := KL0.out; simp; omega) ZB3.out ?_)
     intro v2 u2 ho hg hat
     obtain ⟨a3, c3', rfl, -, -, ho⟩ := ho.at (m + 1) (by have := KL.out; simp; omega)
     have NX := Lib.hid (R4.out.next ho (by rw [List.length_append, KL.out]; rfl) hg)
     have LB2 := Lib.hid (R4.out.lb.eq (hg.block _ R4.out.lb.lt fun e => by have := (R4.out.ow.lt _ e.symm).1; omega))
     clear y0 y1 f0 f1 c0 c1 c2 c3 ho hg hat R3 T3 LX
     obtain ⟨⟨y0, y1⟩, f0, f1⟩ := LB2.out.c
     go_wp2_with fail
     go_roundw
     case rel => exact ⟨k + 1, m + 1, a3, c3', by omega, by go_num, by rw [NL.out]; exact NX.out⟩
     case measure => simp [intOf]; omega
  ·obtain rfl : k = n := by omega
   have hk1 : ¬ (k : Int) < k := by omega
   have HL : Hid (qLeft (l.take k) x = qLeft l x) := Lib.hid (by rw [show k = l.length from HN.out, List.take_length])
   have R1 := Lib.hid R.out
   clear R
   obtain ⟨⟨c0, c1⟩, -⟩ := R1.out.lb.c
   obtain ⟨⟨y0, y1⟩, f0, f1⟩ := R1.out.rb.c
   have Z := Lib.hid ((R1.out.rb.put qm a m c).c.1)
   have ZO : Hid (SeqE LTxn ((wr.setCell ⟨w.heap.size + 1, 0, none⟩ (.int .i64 qm)).setCell ⟨w.heap.size + 1, 1, none⟩ (.slice a m c)) (.slice a m c) (qLeft l x)) := Lib.hid (by
    have h := R1.out.ow.kept (w' := (wr.setCell ⟨w.heap.size + 1, 0, none⟩ (.int .i64 qm)).setCell ⟨w.heap.size + 1, 1, none⟩ (.slice a m c)) (by simp [World.setCell]) fun b hb h => (Below.heap_setCell _ _ _ _ (by have h2 : (b < w.heap.size ∨ w.heap.size + 3 ≤ b) ∨ w.heap.size + 3 ≤ b := h; show b ≠ w.heap.size + 1; omega)).trans (Below.heap_setCell _ _ _ _ (by have h2 : (b < w.heap.size ∨ w.heap.size + 3 ≤ b) ∨ w.heap.size + 3 ≤ b := h; show b ≠ w.heap.size + 1; omega))
    rw [HL.out] at h
    exact (h.sq fun b h1 _ => .inr h1).mono fun b hb => hb.2)
   have ZB : Hid (Below w.heap.size w ((wr.setCell ⟨w.heap.size + 1, 0, none⟩ (.int .i64 qm)).setCell ⟨w.heap.size + 1, 1, none⟩ (.slice a m c))) := Lib.hid ((R1.out.low.setCell (by show w.heap.size ≤ w.heap.size + 1; omega) _).setCell (by show w.heap.size ≤ w.heap.size + 1; omega) _)
   have ZL : Hid ((qLeft l x).length = m) := Lib.hid (by rw [← HL.out]; exact R1.out.len)
   clear R1 HL
   go_wp2_with fail
   obtain ⟨z0, z1⟩ := Z.out
   refine bodyPost_ret (v := .agg #[.int .i64 qm, .slice a m c]) (by simp [results, Tryz.results12, go_sem, z0, z1]) rfl ?_
   exact ⟨a, m, c, rfl, ZL.out, ZO.out, ZB.out⟩
end Go.Proofs.YtmknpmamkjjiaaaGreat
