/- What the document's own Short and Same of transactions leave. Where a transaction's slices lie; what a store into another block leaves of it. BYTES AS A KIND OF ELEMENTS; stage 3's words (By) for a slice of them; an argument that is one. -/
import Derived.Test.YtmknpmamkjjiaaaGreatTxn
import Derived.Test.YtmknpmamkjjiaaaGreatRefE
import Derived.Test.YtmknpmamkjjiaaaGreatRefEs
import Derived.Test.YtmknpmamkjjiaaaGreatVcAll
import Derived.Deep.Cut
import Derived.Test.YtmknpmamkjjiaaaGreatItem
import Derived.Test.YtmknpmamkjjiaaaGreatRows
import Derived.Test.YtmknpmamkjjiaaaGreatMaths
import Derived.WalkKit
import Derived.Outline
import Derived.Lib.Hide
import Derived.Laws.BitsAllLaws
import Derived.Maps.AppendAt
import Derived.OpenShut
import Derived.Laws.AppendOwnNone
import Derived.Lib.AppendStr
import Derived.Laws.IdiomStrings
import Derived.Laws.BytesArg
import Derived.BigQuiet
import Derived.Deep.QuietTactic
import Derived.WalkSmall
import Derived.Lib.AppendZeros
import Derived.WalkSpells
namespace Go.Proofs.YtmknpmamkjjiaaaGreat
open Go.RowKit Plain
set_option linter.unusedVariables false

def shortTx1 (t : PTxn) : Bool := decide (t.deps.length ≤ 60) && shortE t.effs
def shortTx (l : List PTxn) : Bool := decide (l.length ≤ 24) && l.all shortTx1
theorem all_getD_true {α : Type} [Inhabited α] {p : α → Bool} {l : List α} (h : ∀ j, j < l.length → p (l.getD j default) = true) : l.all p = true := by
 rw [List.all_eq_true]
 intro x hx
 obtain ⟨j, hj, rfl⟩ := List.getElem_of_mem hx
 have := h j hj
 simpa [List.getD, List.getElem?_eq_getElem hj] using this
theorem all_getD_false {α : Type} [Inhabited α] {p : α → Bool} {l : List α} {j : Nat} (hj : j < l.length) (h : p (l.getD j default) = false) : l.all p = false := by
 rw [List.all_eq_false]
 refine ⟨l[j], List.getElem_mem hj, ?_⟩
 have e : l.getD j default = l[j] := by simp [List.getD, List.getElem?_eq_getElem hj]
 rw [e] at h
 rw [h]
 decide
set_option maxRecDepth 100000 in
set_option maxHeartbeats 4000000 in
/-- Short of transactions -/
theorem rshortTx_any {v : Value} {l : List PTxn} {w : World} (hv : SeqE LTxn w v l) (r : Bool) (hr : shortTx l = r) : Calls Tryz.prog 5 #[v] w (GivesB w r) := by
 have HF := Lib.hid (fun j (hj : j < l.length) h => all_getD_false (p := shortTx1) hj h)
 have HT := Lib.hid (fun h => all_getD_true (p := shortTx1) (l := l) h)
 have RR : Hid ((decide (l.length ≤ 24) && l.all shortTx1) = r) := Lib.hid hr
 obtain ⟨a, cap, rfl, g1, g2, g0, h⟩ := hv.parts
 have HS := Lib.hid h
 obtain ⟨n, hN⟩ : ∃ n, l.length = n := ⟨_, rfl⟩
 rw [hN] at HS g1 HF HT RR ⊢
 have LN := Lib.hid hN
 clear hv h g0 hN hr
 go_enter Tryz.func5, Tryz.ntmps5
 by_cases h24 : n ≤ 24
 rotate_left
 ·have hb : (24 : Int) < (n : Int) := by omega
  obtain rfl : r = false := by rw [← RR.out, decide_eq_false h24]; rfl
  clear RR h24
  go_wp2_with fail
  go_ret
  exact ⟨rfl, Below.refl _ _⟩
 rw [decide_eq_true h24, Bool.true_and] at RR
 have hb : ¬ (24 : Int) < (n : Int) := by omega
 go_wp2_with fail
 go_loopw [3] (fun i wr => ∃ k : Nat, k ≤ n ∧ i = .int .i64 k ∧ (∀ j, j < k → shortTx1 (l.getD j default) = true) ∧ Below w.heap.size w wr) (fun i _ => n - (intOf i).toNat)
 case atStart => exact ⟨0, Nat.zero_le _, rfl, fun j hj => absurd hj (by omega), Below.refl _ _⟩
 case round =>
  obtain ⟨k, hk, rfl, hall, hb2⟩ := hrel
  have HA := Lib.hid hall
  have HB := Lib.hid hb2
  clear hall hb2
  by_cases hlt : k < n
  ·obtain ⟨b, o, c, hv, -, -, -, hc⟩ := txns_spot (HS.out.below HB.out) (by rw [LN.out]; omega)
   rw [LN.out] at hv
   simp only [Value.slice.injEq] at hv
   obtain ⟨rfl, -, rfl⟩ := hv
   obtain ⟨dv, ev, TA, SD, SE⟩ := hc k (by rw [LN.out]; exact hlt)
   have HFK := Lib.hid (HF.out k hlt)
   have HX : Hid (shortTx1 (l.getD k default) = true → ∀ j, j < k + 1 → shortTx1 (l.getD j default) = true) := Lib.hid (fun h j hj => by
    by_cases e : j = k
    ·rw [e]; exact h
    ·exact HA.out j (by omega))
   have HD : Hid (shortTx1 (l.getD k default) = (decide ((l.getD k default).deps.length ≤ 60) && shortE (l.getD k default).effs)) := Lib.hid rfl
   clear hc
   generalize shortTx1 (l.getD k default) = st at *
   generalize l.getD k default = x at *
   obtain ⟨da, dc, rfl, gd1, gd2, -, -⟩ := SD.parts
   obtain ⟨ea, ec, rfl, -, -, -, -⟩ := SE.parts
   have K := rshortE_any SE
   obtain ⟨c0, c1, c2, c3⟩ := TA
   clear SD SE
   generalize x.deps.length = dn at *
   generalize x.effs.length = en at *
   by_cases h60 : dn ≤ 60
   rotate_left
   ·have hg : (60 : Int) < (dn : Int) := by omega
    have HU := HFK.out (by rw [HD.out, decide_eq_false h60]; rfl)
    obtain rfl : r = false := by rw [← RR.out]; exact HU
    clear HU RR HFK HX HD K h60
    go_wp2_with fail
    go_ret
    exact ⟨rfl, HB.out⟩
   have hg : ¬ (60 : Int) < (dn : Int) := by omega
   rw [decide_eq_true h60, Bool.true_and] at HD
   cases hE : shortE x.effs with
   | false =>
    have HU := HFK.out (by rw [HD.out, hE])
    obtain rfl : r = false := by rw [← RR.out]; exact HU
    rw [hE] at K
    clear HU RR HFK HX HD hE
    go_wp2_with fail
    refine K.mono ?_
    rintro e w2 ⟨rfl, hw⟩
    subst hw
    go_wp2_with fail
    go_ret
    exact ⟨rfl, HB.out⟩
   | true =>
    have HU := Lib.hid (HX.out (by rw [HD.out, hE]))
    rw [hE] at K
    clear RR HFK HX HD hE
    go_wp2_with fail
    refine K.mono ?_
    rintro e w2 ⟨rfl, hw⟩
    subst hw
    go_wp2_with fail
    go_roundw
    case rel => exact ⟨k + 1, by omega, by go_num, HU.out, HB.out⟩
    case measure => simp [intOf]; omega
  ·obtain rfl : k = n := by omega
   obtain rfl : r = true := by rw [← RR.out]; exact HT.out HA.out
   clear RR HF HT
   go_wp2_with fail
   go_ret
   exact ⟨rfl, HB.out⟩

theorem ptxn_dec (p q : PTxn) : decide (p = q) = (decide (p.node = q.node) && (decide (p.seq = q.seq) && (decide (p.deps = q.deps) && decide (p.effs = q.effs)))) := by
 rw [Bool.eq_iff_iff]
 simp only [Bool.and_eq_true, decide_eq_true_iff]
 exact ⟨fun h => by subst h; exact ⟨rfl, rfl, rfl, rfl⟩, fun ⟨h1, h2, h3, h4⟩ => ptxn_ext h1 h2 h3 h4⟩
theorem pair_cells' (w : World) (X Y : Array Value) (t u : TypeId) (i : Nat) :
  ((w.alloc (.cells X t)).alloc (.cells Y u)).cell? ⟨w.heap.size, i, none⟩ = X[i]? ∧ ((w.alloc (.cells X t)).alloc (.cells Y u)).cell? ⟨w.heap.size + 1, i, none⟩ = Y[i]? := by
 have s1 : (w.alloc (.cells X t)).heap.size = w.heap.size + 1 := by simp
 have h1 := World.cell?_alloc_new w X t i
 have h2 := World.cell?_alloc_new (w.alloc (.cells X t)) Y u i
 rw [s1] at h2
 have b2 := (Below.refl (w.heap.size + 1) (w.alloc (.cells X t))).alloc (by rw [s1]; exact Nat.le_refl _) (.cells Y u)
 exact ⟨(b2.cell (p := ⟨w.heap.size, i, none⟩) (show w.heap.size < w.heap.size + 1 by omega)).trans h1, h2⟩
set_option maxRecDepth 100000 in
set_option maxHeartbeats 4000000 in
/-- Same of transactions -/
theorem rsameTx {u v : Value} {p q : PTxn} {w : World} (hu : IsTxn w u p) (hv : IsTxn w v q) (r : Bool) (hr : decide (p = q) = r) : Calls Tryz.prog 14 #[u, v] w (GivesB w r) := by
 have HD := Lib.hid (hr.symm.trans (ptxn_dec p q))
 obtain ⟨dv, ev, rfl, sd, se⟩ := hu
 obtain ⟨dv', ev', rfl, sd', se'⟩ := hv
 obtain ⟨da, dn, dc, rfl⟩ : ∃ a n c, dv = .slice a n c := by obtain ⟨a, c, h, -⟩ := sd.parts; exact ⟨a, _, c, h⟩
 obtain ⟨ea, en, ec, rfl⟩ : ∃ a n c, ev = .slice a n c := by obtain ⟨a, c, h, -⟩ := se.parts; exact ⟨a, _, c, h⟩
 obtain ⟨fa, fn, fc, rfl⟩ : ∃ a n c, dv' = .slice a n c := by obtain ⟨a, c, h, -⟩ := sd'.parts; exact ⟨a, _, c, h⟩
 obtain ⟨ga, gn, gc, rfl⟩ : ∃ a n c, ev' = .slice a n c := by obtain ⟨a, c, h, -⟩ := se'.parts; exact ⟨a, _, c, h⟩
 have hb := ((Below.refl w.heap.size w).alloc (Nat.le_refl _) (.cells #[.int .i64 p.node, .int .i64 p.seq, .slice da dn dc, .slice ea en ec] 29)).alloc (by simp) (.cells #[.int .i64 q.node, .int .i64 q.seq, .slice fa fn fc, .slice ga gn gc] 29)
 have PC := fun i => pair_cells' w #[.int .i64 p.node, .int .i64 p.seq, .slice da dn dc, .slice ea en ec] #[.int .i64 q.node, .int .i64 q.seq, .slice fa fn fc, .slice ga gn gc] 29 29 i
 have XB : Hid (TxnAt ((w.alloc (.cells #[.int .i64 p.node, .int .i64 p.seq, .slice da dn dc, .slice ea en ec] 29)).alloc (.cells #[.int .i64 q.node, .int .i64 q.seq, .slice fa fn fc, .slice ga gn gc] 29)) w.heap.size 0 p (.slice da dn dc) (.slice ea en ec)) := Lib.hid ⟨(PC 0).1, (PC 1).1, (PC 2).1, (PC 3).1⟩
 have YB : Hid (TxnAt ((w.alloc (.cells #[.int .i64 p.node, .int .i64 p.seq, .slice da dn dc, .slice ea en ec] 29)).alloc (.cells #[.int .i64 q.node, .int .i64 q.seq, .slice fa fn fc, .slice ga gn gc] 29)) (w.heap.size + 1) 0 q (.slice fa fn fc) (.slice ga gn gc)) := Lib.hid ⟨(PC 0).2, (PC 1).2, (PC 2).2, (PC 3).2⟩
 have G := Lib.hid hb
 have SD := Lib.hid (seqI_of (sd.below hb))
 have SD' := Lib.hid (seqI_of (sd'.below hb))
 have SE := Lib.hid (se.below hb)
 have SE' := Lib.hid (se'.below hb)
 clear sd se sd' se' PC hb hr
 go_enter Tryz.func14, Tryz.ntmps14
 go_upto_region 1 with fail
 generalize ((w.alloc (.cells #[.int .i64 p.node, .int .i64 p.seq, .slice da dn dc, .slice ea en ec] 29)).alloc (.cells #[.int .i64 q.node, .int .i64 q.seq, .slice fa fn fc, .slice ga gn gc] 29)) = w1 at *
 obtain ⟨x0, x1, x2, x3⟩ := XB.out
 obtain ⟨y0, y1, y2, y3⟩ := YB.out
 simp only [Nat.zero_add] at x1 x2 x3 y1 y2 y3
 by_cases h1 : p.node = q.node
 rotate_left
 ·have b1 : (p.node == q.node) = false := beq_false_of_ne h1
  obtain rfl : r = false := by rw [HD.out, decide_eq_false h1]; rfl
  clear HD h1
  go_wp2_with fail
  go_ret
  exact ⟨rfl, G.out⟩
 have b1 : (p.node == q.node) = true := beq_iff_eq.2 h1
 rw [decide_eq_true h1, Bool.true_and] at HD
 by_cases h2 : p.seq = q.seq
 rotate_left
 ·have b2 : (p.seq == q.seq) = false := beq_false_of_ne h2
  obtain rfl : r = false := by rw [HD.out, decide_eq_false h2]; rfl
  clear HD h1 h2
  go_wp2_with fail
  go_ret
  exact ⟨rfl, G.out⟩
 have b2 : (p.seq == q.seq) = true := beq_iff_eq.2 h2
 rw [decide_eq_true h2, Bool.true_and] at HD
 have K := vc_requal_any SD.out SD'.out
 clear h1 h2
 cases h3 : decide (p.deps = q.deps) with
 | false =>
  rw [h3] at K
  obtain rfl : r = false := by rw [HD.out, h3]; rfl
  clear HD h3
  go_wp2_with fail
  refine K.mono ?_
  rintro e w2 ⟨rfl, nq, rfl⟩
  go_wp2_with fail
  go_ret
  exact ⟨rfl, below_drewN G.out _⟩
 | true =>
  rw [h3] at K
  rw [h3, Bool.true_and] at HD
  clear h3
  go_wp2_with fail
  refine K.mono ?_
  rintro e w2 ⟨rfl, hdr⟩
  have hb := below_of_drawn hdr
  have z3 := (hb.cell (World.block_lt_of_cell? w1 _ x3)).trans x3
  have u3 := (hb.cell (World.block_lt_of_cell? w1 _ y3)).trans y3
  have K2 := rsameER (SE.out.below hb) (SE'.out.below hb) HD.out.symm
  have G2 := Lib.hid (G.out.trans (hb.mono G.out.size))
  clear hdr hb K x0 x1 x2 x3 y0 y1 y2 y3 HD
  go_wp2_with fail
  refine K2.mono ?_
  rintro e w3 ⟨rfl, hb⟩
  have G3 := Lib.hid (G2.out.trans (hb.mono G2.out.size))
  clear hb K2
  go_wp2_with fail
  go_ret
  exact ⟨rfl, G3.out⟩
end Go.Proofs.YtmknpmamkjjiaaaGreat
namespace Go.Proofs.YtmknpmamkjjiaaaGreat
open Go.RowKit Plain
set_option linter.unusedVariables false

/-- a transaction whose slices lie in blocks of Q -/
def IsTxnIn (Q : Nat → Prop) (w : World) (v : Value) (t : PTxn) : Prop := ∃ dv ev, v = .agg #[.int .i64 t.node, .int .i64 t.seq, dv, ev] ∧ Sq LInt Q w dv t.deps ∧ Sq LEff Q w ev t.effs
theorem IsTxn.all {w : World} {v : Value} {t : PTxn} (h : IsTxn w v t) : IsTxnIn (· < w.heap.size) w v t := h
theorem IsTxnIn.mono {P Q : Nat → Prop} {w : World} {v : Value} {t : PTxn} (h : IsTxnIn P w v t) (hq : ∀ b, P b → Q b) : IsTxnIn Q w v t := by
 obtain ⟨dv, ev, rfl, h1, h2⟩ := h
 exact ⟨dv, ev, rfl, h1.mono hq, h2.mono hq⟩
theorem IsTxnIn.is {Q : Nat → Prop} {w : World} {v : Value} {t : PTxn} (h : IsTxnIn Q w v t) (hq : ∀ b, Q b → b < w.heap.size) : IsTxn w v t := h.mono hq
theorem IsTxnIn.agree {Q : Nat → Prop} {w w' : World} {v : Value} {t : PTxn} (h : IsTxnIn Q w v t) (hq : ∀ b, Q b → w'.heap[b]? = w.heap[b]?) : IsTxnIn Q w' v t := by
 obtain ⟨dv, ev, rfl, h1, h2⟩ := h
 exact ⟨dv, ev, rfl, h1.agree hq, h2.agree hq⟩
theorem IsTxnIn.below {Q : Nat → Prop} {w w' : World} {v : Value} {t : PTxn} (h : IsTxnIn Q w v t) (hb : Below w.heap.size w w') (hq : ∀ b, Q b → b < w.heap.size) : IsTxnIn Q w' v t := h.agree fun b hQ => hb.block b (hq b hQ)
/-- four cells of a block that were stored into -/
def st4 (w : World) (g : Nat) (v0 v1 v2 v3 : Value) : World := (((w.setCell ⟨g, 0, none⟩ v0).setCell ⟨g, 1, none⟩ v1).setCell ⟨g, 2, none⟩ v2).setCell ⟨g, 3, none⟩ v3
theorem st4_other (w : World) (g : Nat) (v0 v1 v2 v3 : Value) (b : Nat) (h : b ≠ g) : (st4 w g v0 v1 v2 v3).heap[b]? = w.heap[b]? := by
 unfold st4
 rw [Below.heap_setCell _ _ _ _ h, Below.heap_setCell _ _ _ _ h, Below.heap_setCell _ _ _ _ h, Below.heap_setCell _ _ _ _ h]
theorem st4_size (w : World) (g : Nat) (v0 v1 v2 v3 : Value) : (st4 w g v0 v1 v2 v3).heap.size = w.heap.size := by
 unfold st4
 simp [World.setCell]
theorem st4_below {B : Nat} {w u : World} {g : Nat} {v0 v1 v2 v3 : Value} (h : Below B w u) (hg : B ≤ g) : Below B w (st4 u g v0 v1 v2 v3) := (((h.setCell hg _).setCell hg _).setCell hg _).setCell hg _
theorem st4_block {w : World} {g : Nat} {z0 z1 z2 z3 v0 v1 v2 v3 : Value} {t : TypeId} (h : w.heap[g]? = some (.cells #[z0, z1, z2, z3] t (0, 0))) : (st4 w g v0 v1 v2 v3).heap[g]? = some (.cells #[v0, v1, v2, v3] t (0, 0)) := by
 unfold st4
 rw [heap_setCell_same _ g 3 _ _ _ (heap_setCell_same _ g 2 _ _ _ (heap_setCell_same _ g 1 _ _ _ (heap_setCell_same _ g 0 _ _ _ h)))]
 rfl
theorem st4_cells {w : World} {g : Nat} {z0 z1 z2 z3 : Value} {t : TypeId} (h : w.heap[g]? = some (.cells #[z0, z1, z2, z3] t (0, 0))) :
  (w.cell? ⟨g, 0, none⟩ = some z0 ∧ w.cell? ⟨g, 1, none⟩ = some z1 ∧ w.cell? ⟨g, 2, none⟩ = some z2 ∧ w.cell? ⟨g, 3, none⟩ = some z3) ∧
  w.frozen? ⟨g, 0, none⟩ = false ∧ w.frozen? ⟨g, 1, none⟩ = false ∧ w.frozen? ⟨g, 2, none⟩ = false ∧ w.frozen? ⟨g, 3, none⟩ = false := by
 refine ⟨⟨?_, ?_, ?_, ?_⟩, ?_, ?_, ?_, ?_⟩
 ·simp [World.cell?, h]
 ·simp [World.cell?, h]
 ·simp [World.cell?, h]
 ·simp [World.cell?, h]
 ·unfold World.frozen?; rw [h]; simp
 ·unfold World.frozen?; rw [h]; simp
 ·unfold World.frozen?; rw [h]; simp
 ·unfold World.frozen?; rw [h]; simp
theorem IsTxnIn.parts {Q : Nat → Prop} {w : World} {v : Value} {t : PTxn} (h : IsTxnIn Q w v t) : ∃ da dn dc ea en ec, v = .agg #[.int .i64 t.node, .int .i64 t.seq, .slice da dn dc, .slice ea en ec] ∧ IsTxnIn Q w (.agg #[.int .i64 t.node, .int .i64 t.seq, .slice da dn dc, .slice ea en ec]) t := by
 obtain ⟨dv, ev, rfl, h1, h2⟩ := h
 obtain ⟨a1, c1, v1, rfl, r1⟩ := h1
 obtain ⟨a2, c2, v2, rfl, r2⟩ := h2
 exact ⟨_, _, _, _, _, _, rfl, _, _, rfl, ⟨a1, c1, v1, rfl, r1⟩, ⟨a2, c2, v2, rfl, r2⟩⟩
end Go.Proofs.YtmknpmamkjjiaaaGreat
namespace Go.Proofs.YtmknpmamkjjiaaaGreat
open Go.RowKit Plain
set_option linter.unusedVariables false

section
open Go.ChangeShapes Go.WideShapes Go.Joins
set_option maxRecDepth 100000
end
end Go.Proofs.YtmknpmamkjjiaaaGreat
