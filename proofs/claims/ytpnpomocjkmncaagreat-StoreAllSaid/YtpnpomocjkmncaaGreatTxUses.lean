/- What the document's own Short and Same of transactions leave. Where a transaction's slices lie; what a store into another block leaves of it. BYTES AS A KIND OF ELEMENTS; stage 3's words (By) for a slice of them; an argument that is one. What the program's own Formed of transactions leaves. -/
import Derived.Test.YtpnpomocjkmncaaGreatEHeard
import Derived.Test.YtpnpomocjkmncaaGreatEMades
import Derived.Test.YtpnpomocjkmncaaGreatRefEs
import Derived.Test.YtpnpomocjkmncaaGreatVcAll
import Derived.Deep.Cut
import Derived.Test.YtpnpomocjkmncaaGreatEqI
import Derived.Test.YtpnpomocjkmncaaGreatTxFrmA
import Derived.Test.YtpnpomocjkmncaaGreatTxFrmB
import Derived.Test.YtpnpomocjkmncaaGreatTxMaths
import Derived.Test.YtpnpomocjkmncaaGreatMaths
import Derived.WalkKit
import Derived.Outline
import Derived.Lib.Hide
import Derived.Laws.BitsAllLaws
import Derived.Maps.AppendAt
import Derived.OpenShut
import Derived.Laws.AppendOwnNone
import Derived.Lib.AppendStr
import Derived.Laws.IdiomStrings
import Derived.Laws.BytesArg
import Derived.BigQuiet
import Derived.Deep.QuietTactic
import Derived.WalkSmall
import Derived.Lib.AppendZeros
import Derived.WalkSpells
import Derived.OwnWalk
import Derived.Deep.RegionWith
import Derived.Deep.RegionHeld3
import Derived.Test.YtpnpomocjkmncaaGreatRefZs
import Derived.Test.YtpnpomocjkmncaaGreatElGs
import Derived.Lib.MinMax
import Derived.Shelf.Abstract
import Derived.Test.YtpnpomocjkmncaaGreatEForms
import Derived.Test.YtpnpomocjkmncaaGreatShelf
import Derived.RegionTactic
import Derived.ChangeAlike
import Derived.Test.YtpnpomocjkmncaaGreatEDos
import Derived.Deep.DeepCutAuto
import Derived.Test.YtpnpomocjkmncaaGreatRows
namespace Go.Proofs.YtpnpomocjkmncaaGreat
open Go.RowKit Plain
set_option linter.unusedVariables false

def shortTx1 (t : PTxn) : Bool := decide (t.deps.length ≤ 60) && shortE t.effs
def shortTx (l : List PTxn) : Bool := decide (l.length ≤ 24) && l.all shortTx1
theorem all_getD_true {α : Type} [Inhabited α] {p : α → Bool} {l : List α} (h : ∀ j, j < l.length → p (l.getD j default) = true) : l.all p = true := by
 rw [List.all_eq_true]
 intro x hx
 obtain ⟨j, hj, rfl⟩ := List.getElem_of_mem hx
 have := h j hj
 simpa [List.getD, List.getElem?_eq_getElem hj] using this
theorem all_getD_false {α : Type} [Inhabited α] {p : α → Bool} {l : List α} {j : Nat} (hj : j < l.length) (h : p (l.getD j default) = false) : l.all p = false := by
 rw [List.all_eq_false]
 refine ⟨l[j], List.getElem_mem hj, ?_⟩
 have e : l.getD j default = l[j] := by simp [List.getD, List.getElem?_eq_getElem hj]
 rw [e] at h
 rw [h]
 decide
set_option maxRecDepth 100000 in
set_option maxHeartbeats 4000000 in
theorem rshortTx_any {v : Value} {l : List PTxn} {w : World} (hv : SeqE LTxn w v l) (r : Bool) (hr : shortTx l = r) : Calls Tryz.prog 10 #[v] w (GivesB w r) := by
 have HF := Lib.hid (fun j (hj : j < l.length) h => all_getD_false (p := shortTx1) hj h)
 have HT := Lib.hid (fun h => all_getD_true (p := shortTx1) (l := l) h)
 have RR : Hid ((decide (l.length ≤ 24) && l.all shortTx1) = r) := Lib.hid hr
 obtain ⟨a, cap, rfl, g1, g2, g0, h⟩ := hv.parts
 have HS := Lib.hid h
 obtain ⟨n, hN⟩ : ∃ n, l.length = n := ⟨_, rfl⟩
 rw [hN] at HS g1 HF HT RR ⊢
 have LN := Lib.hid hN
 clear hv h g0 hN hr
 go_enter Tryz.func10, Tryz.ntmps10
 by_cases h24 : n ≤ 24
 rotate_left
 ·have hb : (24 : Int) < (n : Int) := by omega
  obtain rfl : r = false := by rw [← RR.out, decide_eq_false h24]; rfl
  clear RR h24
  go_wp2_with fail
  go_ret
  exact ⟨rfl, Below.refl _ _⟩
 rw [decide_eq_true h24, Bool.true_and] at RR
 have hb : ¬ (24 : Int) < (n : Int) := by omega
 go_wp2_with fail
 go_loopw [3] (fun i wr => ∃ k : Nat, k ≤ n ∧ i = .int .i64 k ∧ (∀ j, j < k → shortTx1 (l.getD j default) = true) ∧ Below w.heap.size w wr) (fun i _ => n - (intOf i).toNat)
 case atStart => exact ⟨0, Nat.zero_le _, rfl, fun j hj => absurd hj (by omega), Below.refl _ _⟩
 case round =>
  obtain ⟨k, hk, rfl, hall, hb2⟩ := hrel
  have HA := Lib.hid hall
  have HB := Lib.hid hb2
  clear hall hb2
  by_cases hlt : k < n
  ·obtain ⟨b, o, c, hv, -, -, -, hc⟩ := txns_spot (HS.out.below HB.out) (by rw [LN.out]; omega)
   rw [LN.out] at hv
   simp only [Value.slice.injEq] at hv
   obtain ⟨rfl, -, rfl⟩ := hv
   obtain ⟨dv, ev, TA, SD, SE⟩ := hc k (by rw [LN.out]; exact hlt)
   have HFK := Lib.hid (HF.out k hlt)
   have HX : Hid (shortTx1 (l.getD k default) = true → ∀ j, j < k + 1 → shortTx1 (l.getD j default) = true) := Lib.hid (fun h j hj => by
    by_cases e : j = k
    ·rw [e]; exact h
    ·exact HA.out j (by omega))
   have HD : Hid (shortTx1 (l.getD k default) = (decide ((l.getD k default).deps.length ≤ 60) && shortE (l.getD k default).effs)) := Lib.hid rfl
   clear hc
   generalize shortTx1 (l.getD k default) = st at *
   generalize l.getD k default = x at *
   obtain ⟨da, dc, rfl, gd1, gd2, -, -⟩ := SD.parts
   obtain ⟨ea, ec, rfl, -, -, -, -⟩ := SE.parts
   have K := rshortE_any SE
   obtain ⟨c0, c1, c2, c3⟩ := TA
   clear SD SE
   generalize x.deps.length = dn at *
   generalize x.effs.length = en at *
   by_cases h60 : dn ≤ 60
   rotate_left
   ·have hg : (60 : Int) < (dn : Int) := by omega
    have HU := HFK.out (by rw [HD.out, decide_eq_false h60]; rfl)
    obtain rfl : r = false := by rw [← RR.out]; exact HU
    clear HU RR HFK HX HD K h60
    go_wp2_with fail
    go_ret
    exact ⟨rfl, HB.out⟩
   have hg : ¬ (60 : Int) < (dn : Int) := by omega
   rw [decide_eq_true h60, Bool.true_and] at HD
   cases hE : shortE x.effs with
   | false =>
    have HU := HFK.out (by rw [HD.out, hE])
    obtain rfl : r = false := by rw [← RR.out]; exact HU
    rw [hE] at K
    clear HU RR HFK HX HD hE
    go_wp2_with fail
    refine K.mono ?_
    rintro e w2 ⟨rfl, hw⟩
    subst hw
    go_wp2_with fail
    go_ret
    exact ⟨rfl, HB.out⟩
   | true =>
    have HU := Lib.hid (HX.out (by rw [HD.out, hE]))
    rw [hE] at K
    clear RR HFK HX HD hE
    go_wp2_with fail
    refine K.mono ?_
    rintro e w2 ⟨rfl, hw⟩
    subst hw
    go_wp2_with fail
    go_roundw
    case rel => exact ⟨k + 1, by omega, by go_num, HU.out, HB.out⟩
    case measure => simp [intOf]; omega
  ·obtain rfl : k = n := by omega
   obtain rfl : r = true := by rw [← RR.out]; exact HT.out HA.out
   clear RR HF HT
   go_wp2_with fail
   go_ret
   exact ⟨rfl, HB.out⟩

theorem ptxn_dec (p q : PTxn) : decide (p = q) = (decide (p.node = q.node) && (decide (p.seq = q.seq) && (decide (p.deps = q.deps) && decide (p.effs = q.effs)))) := by
 rw [Bool.eq_iff_iff]
 simp only [Bool.and_eq_true, decide_eq_true_iff]
 exact ⟨fun h => by subst h; exact ⟨rfl, rfl, rfl, rfl⟩, fun ⟨h1, h2, h3, h4⟩ => ptxn_ext h1 h2 h3 h4⟩
theorem pair_cells' (w : World) (X Y : Array Value) (t u : TypeId) (i : Nat) :
  ((w.alloc (.cells X t)).alloc (.cells Y u)).cell? ⟨w.heap.size, i, none⟩ = X[i]? ∧ ((w.alloc (.cells X t)).alloc (.cells Y u)).cell? ⟨w.heap.size + 1, i, none⟩ = Y[i]? := by
 have s1 : (w.alloc (.cells X t)).heap.size = w.heap.size + 1 := by simp
 have h1 := World.cell?_alloc_new w X t i
 have h2 := World.cell?_alloc_new (w.alloc (.cells X t)) Y u i
 rw [s1] at h2
 have b2 := (Below.refl (w.heap.size + 1) (w.alloc (.cells X t))).alloc (by rw [s1]; exact Nat.le_refl _) (.cells Y u)
 exact ⟨(b2.cell (p := ⟨w.heap.size, i, none⟩) (show w.heap.size < w.heap.size + 1 by omega)).trans h1, h2⟩
set_option maxRecDepth 100000 in
set_option maxHeartbeats 4000000 in
theorem rsameTx {u v : Value} {p q : PTxn} {w : World} (hu : IsTxn w u p) (hv : IsTxn w v q) (r : Bool) (hr : decide (p = q) = r) : Calls Tryz.prog 57 #[u, v] w (GivesB w r) := by
 have HD := Lib.hid (hr.symm.trans (ptxn_dec p q))
 obtain ⟨dv, ev, rfl, sd, se⟩ := hu
 obtain ⟨dv', ev', rfl, sd', se'⟩ := hv
 obtain ⟨da, dn, dc, rfl⟩ : ∃ a n c, dv = .slice a n c := by obtain ⟨a, c, h, -⟩ := sd.parts; exact ⟨a, _, c, h⟩
 obtain ⟨ea, en, ec, rfl⟩ : ∃ a n c, ev = .slice a n c := by obtain ⟨a, c, h, -⟩ := se.parts; exact ⟨a, _, c, h⟩
 obtain ⟨fa, fn, fc, rfl⟩ : ∃ a n c, dv' = .slice a n c := by obtain ⟨a, c, h, -⟩ := sd'.parts; exact ⟨a, _, c, h⟩
 obtain ⟨ga, gn, gc, rfl⟩ : ∃ a n c, ev' = .slice a n c := by obtain ⟨a, c, h, -⟩ := se'.parts; exact ⟨a, _, c, h⟩
 have hb := ((Below.refl w.heap.size w).alloc (Nat.le_refl _) (.cells #[.int .i64 p.node, .int .i64 p.seq, .slice da dn dc, .slice ea en ec] 30)).alloc (by simp) (.cells #[.int .i64 q.node, .int .i64 q.seq, .slice fa fn fc, .slice ga gn gc] 30)
 have PC := fun i => pair_cells' w #[.int .i64 p.node, .int .i64 p.seq, .slice da dn dc, .slice ea en ec] #[.int .i64 q.node, .int .i64 q.seq, .slice fa fn fc, .slice ga gn gc] 30 30 i
 have XB : Hid (TxnAt ((w.alloc (.cells #[.int .i64 p.node, .int .i64 p.seq, .slice da dn dc, .slice ea en ec] 30)).alloc (.cells #[.int .i64 q.node, .int .i64 q.seq, .slice fa fn fc, .slice ga gn gc] 30)) w.heap.size 0 p (.slice da dn dc) (.slice ea en ec)) := Lib.hid ⟨(PC 0).1, (PC 1).1, (PC 2).1, (PC 3).1⟩
 have YB : Hid (TxnAt ((w.alloc (.cells #[.int .i64 p.node, .int .i64 p.seq, .slice da dn dc, .slice ea en ec] 30)).alloc (.cells #[.int .i64 q.node, .int .i64 q.seq, .slice fa fn fc, .slice ga gn gc] 30)) (w.heap.size + 1) 0 q (.slice fa fn fc) (.slice ga gn gc)) := Lib.hid ⟨(PC 0).2, (PC 1).2, (PC 2).2, (PC 3).2⟩
 have G := Lib.hid hb
 have SD := Lib.hid (seqI_of (sd.below hb))
 have SD' := Lib.hid (seqI_of (sd'.below hb))
 have SE := Lib.hid (se.below hb)
 have SE' := Lib.hid (se'.below hb)
 clear sd se sd' se' PC hb hr
 go_enter Tryz.func57, Tryz.ntmps57
 go_upto_region 1 with fail
 generalize ((w.alloc (.cells #[.int .i64 p.node, .int .i64 p.seq, .slice da dn dc, .slice ea en ec] 30)).alloc (.cells #[.int .i64 q.node, .int .i64 q.seq, .slice fa fn fc, .slice ga gn gc] 30)) = w1 at *
 obtain ⟨x0, x1, x2, x3⟩ := XB.out
 obtain ⟨y0, y1, y2, y3⟩ := YB.out
 simp only [Nat.zero_add] at x1 x2 x3 y1 y2 y3
 by_cases h1 : p.node = q.node
 rotate_left
 ·have b1 : (p.node == q.node) = false := beq_false_of_ne h1
  obtain rfl : r = false := by rw [HD.out, decide_eq_false h1]; rfl
  clear HD h1
  go_wp2_with fail
  go_ret
  exact ⟨rfl, G.out⟩
 have b1 : (p.node == q.node) = true := beq_iff_eq.2 h1
 rw [decide_eq_true h1, Bool.true_and] at HD
 by_cases h2 : p.seq = q.seq
 rotate_left
 ·have b2 : (p.seq == q.seq) = false := beq_false_of_ne h2
  obtain rfl : r = false := by rw [HD.out, decide_eq_false h2]; rfl
  clear HD h1 h2
  go_wp2_with fail
  go_ret
  exact ⟨rfl, G.out⟩
 have b2 : (p.seq == q.seq) = true := beq_iff_eq.2 h2
 rw [decide_eq_true h2, Bool.true_and] at HD
 have K := vc_requal_any SD.out SD'.out
 clear h1 h2
 cases h3 : decide (p.deps = q.deps) with
 | false =>
  rw [h3] at K
  obtain rfl : r = false := by rw [HD.out, h3]; rfl
  clear HD h3
  go_wp2_with fail
  refine K.mono ?_
  rintro e w2 ⟨rfl, nq, rfl⟩
  go_wp2_with fail
  go_ret
  exact ⟨rfl, below_drewN G.out _⟩
 | true =>
  rw [h3] at K
  rw [h3, Bool.true_and] at HD
  clear h3
  go_wp2_with fail
  refine K.mono ?_
  rintro e w2 ⟨rfl, hdr⟩
  have hb := below_of_drawn hdr
  have z3 := (hb.cell (World.block_lt_of_cell? w1 _ x3)).trans x3
  have u3 := (hb.cell (World.block_lt_of_cell? w1 _ y3)).trans y3
  have K2 := rsameER (SE.out.below hb) (SE'.out.below hb) HD.out.symm
  have G2 := Lib.hid (G.out.trans (hb.mono G.out.size))
  clear hdr hb K x0 x1 x2 x3 y0 y1 y2 y3 HD
  go_wp2_with fail
  refine K2.mono ?_
  rintro e w3 ⟨rfl, hb⟩
  have G3 := Lib.hid (G2.out.trans (hb.mono G2.out.size))
  clear hb K2
  go_wp2_with fail
  go_ret
  exact ⟨rfl, G3.out⟩
end Go.Proofs.YtpnpomocjkmncaaGreat
namespace Go.Proofs.YtpnpomocjkmncaaGreat
open Go.RowKit Plain
set_option linter.unusedVariables false

def IsTxnIn (Q : Nat → Prop) (w : World) (v : Value) (t : PTxn) : Prop := ∃ dv ev, v = .agg #[.int .i64 t.node, .int .i64 t.seq, dv, ev] ∧ Sq LInt Q w dv t.deps ∧ Sq LEff Q w ev t.effs
theorem IsTxn.all {w : World} {v : Value} {t : PTxn} (h : IsTxn w v t) : IsTxnIn (· < w.heap.size) w v t := h
theorem IsTxnIn.mono {P Q : Nat → Prop} {w : World} {v : Value} {t : PTxn} (h : IsTxnIn P w v t) (hq : ∀ b, P b → Q b) : IsTxnIn Q w v t := by
 obtain ⟨dv, ev, rfl, h1, h2⟩ := h
 exact ⟨dv, ev, rfl, h1.mono hq, h2.mono hq⟩
theorem IsTxnIn.agree {Q : Nat → Prop} {w w' : World} {v : Value} {t : PTxn} (h : IsTxnIn Q w v t) (hq : ∀ b, Q b → w'.heap[b]? = w.heap[b]?) : IsTxnIn Q w' v t := by
 obtain ⟨dv, ev, rfl, h1, h2⟩ := h
 exact ⟨dv, ev, rfl, h1.agree hq, h2.agree hq⟩
theorem IsTxnIn.below {Q : Nat → Prop} {w w' : World} {v : Value} {t : PTxn} (h : IsTxnIn Q w v t) (hb : Below w.heap.size w w') (hq : ∀ b, Q b → b < w.heap.size) : IsTxnIn Q w' v t := h.agree fun b hQ => hb.block b (hq b hQ)
def st4 (w : World) (g : Nat) (v0 v1 v2 v3 : Value) : World := (((w.setCell ⟨g, 0, none⟩ v0).setCell ⟨g, 1, none⟩ v1).setCell ⟨g, 2, none⟩ v2).setCell ⟨g, 3, none⟩ v3
theorem st4_below {B : Nat} {w u : World} {g : Nat} {v0 v1 v2 v3 : Value} (h : Below B w u) (hg : B ≤ g) : Below B w (st4 u g v0 v1 v2 v3) := (((h.setCell hg _).setCell hg _).setCell hg _).setCell hg _
theorem st4_block {w : World} {g : Nat} {z0 z1 z2 z3 v0 v1 v2 v3 : Value} {t : TypeId} (h : w.heap[g]? = some (.cells #[z0, z1, z2, z3] t (0, 0))) : (st4 w g v0 v1 v2 v3).heap[g]? = some (.cells #[v0, v1, v2, v3] t (0, 0)) := by
 unfold st4
 rw [heap_setCell_same _ g 3 _ _ _ (heap_setCell_same _ g 2 _ _ _ (heap_setCell_same _ g 1 _ _ _ (heap_setCell_same _ g 0 _ _ _ h)))]
 rfl
theorem st4_cells {w : World} {g : Nat} {z0 z1 z2 z3 : Value} {t : TypeId} (h : w.heap[g]? = some (.cells #[z0, z1, z2, z3] t (0, 0))) :
  (w.cell? ⟨g, 0, none⟩ = some z0 ∧ w.cell? ⟨g, 1, none⟩ = some z1 ∧ w.cell? ⟨g, 2, none⟩ = some z2 ∧ w.cell? ⟨g, 3, none⟩ = some z3) ∧
  w.frozen? ⟨g, 0, none⟩ = false ∧ w.frozen? ⟨g, 1, none⟩ = false ∧ w.frozen? ⟨g, 2, none⟩ = false ∧ w.frozen? ⟨g, 3, none⟩ = false := by
 refine ⟨⟨?_, ?_, ?_, ?_⟩, ?_, ?_, ?_, ?_⟩
 ·simp [World.cell?, h]
 ·simp [World.cell?, h]
 ·simp [World.cell?, h]
 ·simp [World.cell?, h]
 ·unfold World.frozen?; rw [h]; simp
 ·unfold World.frozen?; rw [h]; simp
 ·unfold World.frozen?; rw [h]; simp
 ·unfold World.frozen?; rw [h]; simp
theorem IsTxnIn.parts {Q : Nat → Prop} {w : World} {v : Value} {t : PTxn} (h : IsTxnIn Q w v t) : ∃ da dn dc ea en ec, v = .agg #[.int .i64 t.node, .int .i64 t.seq, .slice da dn dc, .slice ea en ec] ∧ IsTxnIn Q w (.agg #[.int .i64 t.node, .int .i64 t.seq, .slice da dn dc, .slice ea en ec]) t := by
 obtain ⟨dv, ev, rfl, h1, h2⟩ := h
 obtain ⟨a1, c1, v1, rfl, r1⟩ := h1
 obtain ⟨a2, c2, v2, rfl, r2⟩ := h2
 exact ⟨_, _, _, _, _, _, rfl, _, _, rfl, ⟨a1, c1, v1, rfl, r1⟩, ⟨a2, c2, v2, rfl, r2⟩⟩
end Go.Proofs.YtpnpomocjkmncaaGreat
namespace Go.Proofs.YtpnpomocjkmncaaGreat
open Go.RowKit Plain
set_option linter.unusedVariables false

section
open Go.ChangeShapes Go.WideShapes Go.Joins
set_option maxRecDepth 100000
end
end Go.Proofs.YtpnpomocjkmncaaGreat
namespace Go.Proofs.YtpnpomocjkmncaaGreat
open Go.RowKit Plain
set_option linter.unusedVariables false
structure FitTx (t : PTxn) : Prop where
 deps : t.deps.length ≤ 1000
 effs : t.effs.length ≤ 1000
 drops : ∀ e ∈ t.effs, e.drops.length ≤ 1000
 ok : txnOk t
theorem IsTxn.slices {w : World} {v : Value} {t : PTxn} (h : IsTxn w v t) : ∃ da dn dc ea en ec, v = .agg #[.int .i64 t.node, .int .i64 t.seq, .slice da dn dc, .slice ea en ec] ∧ SeqE LInt w (.slice da dn dc) t.deps ∧ SeqE LEff w (.slice ea en ec) t.effs := by
 obtain ⟨dv, ev, rfl, h1, h2⟩ := h
 obtain ⟨a1, c1, rfl, -, -, -, k1⟩ := h1.parts
 obtain ⟨a2, c2, rfl, -, -, -, k2⟩ := h2.parts
 exact ⟨_, _, _, _, _, _, rfl, k1, k2⟩
theorem tf_range {t : PTxn} (h : inRange t.node t.seq = false) : tformedB t = false := by unfold tformedB; rw [h]; rfl
set_option maxRecDepth 100000 in
theorem txformedP {v : Value} {t : PTxn} {w : World} (h : IsTxn w v t) (ht : FitTx t) (r : Bool) (hr : tformedB t = r) : Calls Tryz.prog 33 #[v] w (GivesB w r) := by
 obtain ⟨l1, l2, l3, -⟩ := ht
 obtain ⟨da, dn, dc, ea, en, ec, rfl, k1, k2⟩ := h.slices
 have hen := k2.dims
 have g1 : en ≤ 9223372036854775807 := by omega
 have hz := @Below.trans w.heap.size w (w.alloc (.cells #[.int .i64 t.node, .int .i64 t.seq, .slice da dn dc, .slice ea en ec] 30))
 have hba := (Below.refl w.heap.size w).alloc (Nat.le_refl _) (.cells #[.int .i64 t.node, .int .i64 t.seq, .slice da dn dc, .slice ea en ec] 30)
 have hto : ∀ W, Below (w.alloc (.cells #[.int .i64 t.node, .int .i64 t.seq, .slice da dn dc, .slice ea en ec] 30)).heap.size (w.alloc (.cells #[.int .i64 t.node, .int .i64 t.seq, .slice da dn dc, .slice ea en ec] 30)) W → Below w.heap.size w W := fun W hb => hba.trans (hb.mono hba.size)
 have KD := fun W hb => areDeps_any (seqI_of (k1.below (hto W hb))) (by omega)
 have KA := fun W hb => (vc_at_any (seqI_of (k1.below (hto W hb))) t.node).mono (R' := fun e w' => e = .returned (.int .i64 (saysI t.deps t.node)) ∧ Below W.heap.size W w') fun e w' ⟨he, hw⟩ => ⟨he, hw ▸ Below.refl _ _⟩
 have KR := fun W hb => eright_any t.node t.seq (k2.below (hto W hb)) (by omega) (fun e he => by have := l3 e he; omega)
 have KH := fun W hb => eheard_any t.node t.seq (k2.below (hto W hb)) (seqI_of (k1.below (hto W hb))) (fun e he => by have := l3 e he; omega)
 have ed := depsB_is t
 subst hr
 by_cases h1 : 0 ≤ t.node
 rotate_left
 ·rw [tf_range (decide_eq_false (by omega))]; exact tformed_way1 h1 g1
 by_cases h2 : t.node < 8
 rotate_left
 ·rw [tf_range (decide_eq_false (by omega))]; exact tformed_way2 h1 h2 g1
 by_cases h3 : 1 ≤ t.seq
 rotate_left
 ·rw [tf_range (decide_eq_false (by omega))]; exact tformed_way3 h1 h2 h3 g1
 by_cases h4 : t.seq ≤ 1073741824
 rotate_left
 ·rw [tf_range (decide_eq_false (by omega))]; exact tformed_way4 h1 h2 h3 h4 g1
 have hI : inRange t.node t.seq = true := decide_eq_true (by omega)
 have h6 : IntKind.i64.wrap (t.seq - 1) = t.seq - 1 := by simp [IntKind.wrap, IntKind.bits, IntKind.signed]; omega
 cases h5 : areB t.deps with
 | false =>
  have e : tformedB t = false := by unfold tformedB; rw [ed, h5, hI]; rfl
  rw [e]
  exact tformed_way5 h1 h2 h3 h4 (fun W hb => h5 ▸ KD W hb) g1
 | true =>
  have KD' : ∀ W, Below (w.alloc (.cells #[.int .i64 t.node, .int .i64 t.seq, .slice da dn dc, .slice ea en ec] 30)).heap.size (w.alloc (.cells #[.int .i64 t.node, .int .i64 t.seq, .slice da dn dc, .slice ea en ec] 30)) W → Calls Tryz.prog 63 #[.slice da dn dc] W (GivesB W true) := fun W hb => h5 ▸ KD W hb
  by_cases h6b : saysI t.deps t.node = t.seq - 1
  rotate_left
  ·have e : tformedB t = false := by unfold tformedB; rw [ed, h5, hI, decide_eq_false h6b]; rfl
   rw [e]
   exact tformed_way6 h1 h2 h3 h4 KD' (saysI t.deps t.node) (t.seq - 1) h6 (by simp [h6b]) KA g1
  have q6 : (saysI t.deps t.node == t.seq - 1) = true := by simp [h6b]
  by_cases h7 : (en : Int) ≤ 8
  rotate_left
  ·have e : tformedB t = false := by unfold tformedB; rw [ed, h5, hI, decide_eq_true h6b, decide_eq_false (show ¬ t.effs.length ≤ 8 by omega)]; rfl
   rw [e]
   exact tformed_way7 h1 h2 h3 h4 h7 KD' (saysI t.deps t.node) (t.seq - 1) h6 q6 KA g1
  have q7 : decide (t.effs.length ≤ 8) = true := decide_eq_true (by omega)
  cases h8 : rightB t.node t.seq t.effs with
  | false =>
   have e : tformedB t = false := by unfold tformedB; rw [ed, h5, hI, decide_eq_true h6b, q7, h8]; rfl
   rw [e]
   exact tformed_way8 h1 h2 h3 h4 h7 KD' (saysI t.deps t.node) (t.seq - 1) h6 q6 KA (fun W hb => h8 ▸ KR W hb) g1
  | true =>
   have KR' : ∀ W, Below (w.alloc (.cells #[.int .i64 t.node, .int .i64 t.seq, .slice da dn dc, .slice ea en ec] 30)).heap.size (w.alloc (.cells #[.int .i64 t.node, .int .i64 t.seq, .slice da dn dc, .slice ea en ec] 30)) W → Calls Tryz.prog 65 #[.int .i64 t.node, .int .i64 t.seq, .slice ea en ec] W (GivesB W true) := fun W hb => h8 ▸ KR W hb
   cases h9 : heardB t.effs t.node t.seq t.deps with
   | false =>
    have e : tformedB t = false := by unfold tformedB; rw [ed, h5, hI, decide_eq_true h6b, q7, h8, h9]; rfl
    rw [e]
    exact tformed_way9 h1 h2 h3 h4 h7 KD' (saysI t.deps t.node) (t.seq - 1) h6 q6 KA KR' (fun W hb => h9 ▸ KH W hb) g1
   | true =>
    have e : tformedB t = true := by unfold tformedB; rw [ed, h5, hI, decide_eq_true h6b, q7, h8, h9]; rfl
    rw [e]
    exact tformed_way10 h1 h2 h3 h4 h7 KD' (saysI t.deps t.node) (t.seq - 1) h6 q6 KA KR' (fun W hb => h9 ▸ KH W hb) g1
end Go.Proofs.YtpnpomocjkmncaaGreat
namespace Go.Proofs.YtpnpomocjkmncaaGreat.Plain
set_option linter.unusedVariables false

end Go.Proofs.YtpnpomocjkmncaaGreat.Plain
namespace Go.Proofs.YtpnpomocjkmncaaGreat
open Go.RowKit Plain
set_option linter.unusedVariables false

structure But (g : Nat) (w w' : World) : Prop where
 below : Below g w w'
 block : ∀ k, k < w.heap.size → k ≠ g → w'.heap[k]? = w.heap[k]?
theorem But.trans {g : Nat} {a b c : World} (h : But g a b) (k : But g b c) : But g a c :=
 ⟨h.below.trans k.below, fun j hj hne => (k.block j (Nat.lt_of_lt_of_le hj h.below.size) hne).trans (h.block j hj hne)⟩
theorem But.of {g : Nat} {w w' : World} (h : Below w.heap.size w w') (hg : g ≤ w.heap.size) : But g w w' := ⟨h.mono hg, fun k hk _ => h.block k hk⟩
theorem But.set (g : Nat) (w : World) (i : Nat) (v : Value) : But g w (w.setCell ⟨g, i, none⟩ v) :=
 ⟨(Below.refl g w).setCell (Nat.le_refl _) v, fun k _ hne => Below.heap_setCell _ _ _ _ hne⟩
theorem But.then {g : Nat} {a b c : World} (h : But g a b) (k : Below b.heap.size b c) (hg : g ≤ b.heap.size) : But g a c := h.trans (But.of k hg)
theorem But.size {g : Nat} {w w' : World} (h : But g w w') : w.heap.size ≤ w'.heap.size := h.below.size
theorem But.alloc {g : Nat} {w u : World} (h : But g w u) (hw : g < w.heap.size) (o : Obj) : But g w (u.alloc o) := by
 have hs := h.below.size
 exact ⟨h.below.alloc (by omega) o, fun k hk hne => (Below.heap_alloc _ _ _ (by omega)).trans (h.block k hk hne)⟩
theorem OwnE.but {α : Type} {L : El α} (hf : Flat L) {B g : Nat} {w w' : World} {v : Value} {xs : List α} (h : OwnE L B w v xs) (hb : But g w w') (hg : g < B) : OwnE L B w' v xs := by
 obtain ⟨vals, ho, hr⟩ := h
 refine ⟨vals, ⟨ho.1, ?_⟩, ⟨hr.1, fun j x hj => hf (hr.2 j x hj)⟩⟩
 rcases ho.2 with hn | ⟨g', cap, cur, hv, hb', hg', hr'⟩
 ·exact .inl hn
 ·have hlt : g' < w.heap.size := (Array.getElem?_eq_some_iff.1 hg').1
  exact .inr ⟨g', cap, cur, hv, hb', (hb.block g' hlt (by omega)).trans hg', hr'⟩
theorem OwnJ.but {α : Type} {L : El α} {J : Nat → Prop} {B g : Nat} {w w' : World} {v : Value} {xs : List α} (h : OwnJ J L B w v xs) (hb : But g w w') (hg : g < B) (hj : ∀ b, J b → b ≠ g) : OwnJ J L B w' v xs :=
 h.kept hb.size fun b hl hq => hb.block b hl (hq.elim (hj b) fun k => by omega)
theorem one_effN {W : World} {x : PEff} {dv : Value} {C N : Nat} {ov : Value} (hs : Sq LDot (fun b => C ≤ b ∧ b < W.heap.size) W dv x.drops) (hg : ∀ k, ov.ownBlock = some k → k < C) (hz : C ≤ W.heap.size) (hN : N ≤ C) :
  Sq LEff (fun b => N ≤ b ∧ b < (W.alloc (.cells #[.int .i64 x.pos, .string (bt x.key), .string (bt x.field), .int .i64 x.kind, .string (bt x.elem), .int .i64 x.n, dv] 59)).heap.size ∧ ov.ownBlock ≠ some b) (W.alloc (.cells #[.int .i64 x.pos, .string (bt x.key), .string (bt x.field), .int .i64 x.kind, .string (bt x.elem), .int .i64 x.n, dv] 59)) (.slice (some ⟨W.heap.size, 0, none⟩) 1 1) [x] := by
 have hS : (W.alloc (.cells #[.int .i64 x.pos, .string (bt x.key), .string (bt x.field), .int .i64 x.kind, .string (bt x.elem), .int .i64 x.n, dv] 59)).heap.size = W.heap.size + 1 := by simp
 rw [hS]
 have hB : Below W.heap.size W (W.alloc (.cells #[.int .i64 x.pos, .string (bt x.key), .string (bt x.field), .int .i64 x.kind, .string (bt x.elem), .int .i64 x.n, dv] 59)) := (Below.refl _ _).alloc (Nat.le_refl _) _
 have hin : Sq LDot (fun b => N ≤ b ∧ b < W.heap.size + 1 ∧ ov.ownBlock ≠ some b) (W.alloc (.cells #[.int .i64 x.pos, .string (bt x.key), .string (bt x.field), .int .i64 x.kind, .string (bt x.elem), .int .i64 x.n, dv] 59)) dv x.drops :=
  (Sq.agree hs fun b hb => hB.block b hb.2).mono fun b hb => ⟨by omega, by omega, fun e => by have := hg b e; omega⟩
 refine ⟨_, 1, cellsEf x dv, rfl, Nat.le_refl _, by unfold maxLen; simp, (by simp), Rows.of_one ⟨_, rfl, hin⟩, fun _ => ⟨_, 0, rfl, ⟨by omega, by omega, fun e => by have := hg _ e; omega⟩, fun i u' hu => ?_⟩⟩
 rw [Nat.zero_add]
 have := World.cell?_alloc_new W #[.int .i64 x.pos, .string (bt x.key), .string (bt x.field), .int .i64 x.kind, .string (bt x.elem), .int .i64 x.n, dv] 59 i
 rw [this, ← Array.getElem?_toList]
 exact hu
end Go.Proofs.YtpnpomocjkmncaaGreat
namespace Go.Proofs.YtpnpomocjkmncaaGreat
open Go.RowKit Plain
set_option linter.unusedVariables false

end Go.Proofs.YtpnpomocjkmncaaGreat
namespace Go.Proofs.YtpnpomocjkmncaaGreat
open Go.RowKit Plain
set_option linter.unusedVariables false

end Go.Proofs.YtpnpomocjkmncaaGreat
namespace Go.Proofs.YtpnpomocjkmncaaGreat
open Go.RowKit Plain
set_option linter.unusedVariables false

end Go.Proofs.YtpnpomocjkmncaaGreat
namespace Go.Proofs.YtpnpomocjkmncaaGreat
open Go.RowKit Plain
set_option linter.unusedVariables false

theorem wf_num {n : Int} (h : 0 ≤ n ∧ n < 72057594037927936) : (Lit.int .i64 n).wf = true := by
 simp only [Lit.wf, IntKind.min, IntKind.max, IntKind.signed, IntKind.bits, decide_eq_true_iff, Bool.and_eq_true]
 simp
 omega
end Go.Proofs.YtpnpomocjkmncaaGreat
namespace Go.Proofs.YtpnpomocjkmncaaGreat
open Go.RowKit Plain
set_option linter.unusedVariables false

set_option maxRecDepth 100000 in
set_option maxHeartbeats 1000000 in
theorem tclone_any {u : Value} {xs : List Int} {w : World} (hu : SeqE LInt w u xs) (hn : xs.length ≤ 1000000) : Calls Tryz.prog 55 #[u] w (MadeE LInt w xs) := by
 obtain ⟨a, cap, rfl, -, -, g0, h⟩ := hu.parts
 have q22 : ∀ (w : World) (a : Option Addr) (n c n' c' : Nat), (binOp .eql 23 (.slice a n c) (.slice none n' c')).run Tryz.prog w = .ok (.bool a.isNone) w := fun w a n c n' c' => Lib.run_eql_slice_nil w _ _ a n c n' c' Tryz.underlying23
 cases a with
 | none =>
  obtain rfl := g0 rfl
  obtain rfl : xs = [] := List.eq_nil_of_length_eq_zero (by have := h.dims; omega)
  go_enter Tryz.func55, Tryz.ntmps55
  go_wp2_with fail
  go_ret
  exact ⟨_, rfl, OwnE.nil _ _, Below.refl _ _⟩
 | some ad =>
  have HS := Lib.hid (h.below_alloc (.cells #[] 3))
  have HO := Lib.hid (OwnE.empty (L := LInt) w w.heap.size (Nat.le_refl _))
  have HB := Lib.hid ((Below.refl w.heap.size w).alloc (Nat.le_refl _) (.cells #[] 3))
  have hz : w.heap.size ≤ (w.alloc (.cells #[] 3)).heap.size := by simp
  have HZ := Lib.hid hz
  clear hu h g0 hz
  go_enter Tryz.func55, Tryz.ntmps55
  go_wp2_with (at_builtin; refine wpList_append_el LInt rfl (.tmp 5) (.tmp 6) rfl w.heap.size rfl HO.out rfl HS.out (fun _ _ h => h) (by simp; omega) HZ.out ?_)
  intro v' w2 ho' hgr _
  have O3 := Lib.hid ho'
  have B3 := Lib.hid (HB.out.grown hgr HZ.out (fun j hj => (HO.out.lt j hj).1))
  clear ho' hgr
  go_wp2_with fail
  go_ret
  exact ⟨_, rfl, by simpa using O3.out, B3.out⟩


end Go.Proofs.YtpnpomocjkmncaaGreat
namespace Go.Proofs.YtpnpomocjkmncaaGreat
end Go.Proofs.YtpnpomocjkmncaaGreat
namespace Go.Proofs.YtpnpomocjkmncaaGreat
open Go.RowKit Plain
set_option linter.unusedVariables false

theorem one_txn {w : World} {dv ev : Value} {t : PTxn} (h1 : SeqE LInt w dv t.deps) (h2 : SeqE LEff w ev t.effs) : SeqE LTxn (w.alloc (.cells #[.int .i64 t.node, .int .i64 t.seq, dv, ev] 30)) (.slice (some ⟨w.heap.size, 0, none⟩) 1 1) [t] :=
 SeqE.one (L := LTxn) (w := w) (vs := cellsTx t dv ev) (x := t) ⟨dv, ev, rfl, h1, h2⟩ #[.int .i64 t.node, .int .i64 t.seq, dv, ev] rfl
structure TxBox (g : Nat) (t : PTxn) (da : Option Addr) (dn dc : Nat) (ea : Option Addr) (en ec : Nat) (u : World) : Prop where
 c : u.cell? ⟨g, 0, none⟩ = some (.int .i64 t.node) ∧ u.cell? ⟨g, 1, none⟩ = some (.int .i64 t.seq) ∧ u.cell? ⟨g, 2, none⟩ = some (.slice da dn dc) ∧ u.cell? ⟨g, 3, none⟩ = some (.slice ea en ec)
 d : SeqE LInt u (.slice da dn dc) t.deps
 e : SeqE LEff u (.slice ea en ec) t.effs
theorem TxBox.below {g : Nat} {t : PTxn} {da : Option Addr} {dn dc : Nat} {ea : Option Addr} {en ec : Nat} {u u' : World} (k : TxBox g t da dn dc ea en ec u) (hb : Below u.heap.size u u') : TxBox g t da dn dc ea en ec u' := by
 have c : ∀ {a : Addr} {v : Value}, u.cell? a = some v → u'.cell? a = some v := fun g => (hb.cell (World.block_lt_of_cell? u _ g)).trans g
 obtain ⟨h0, h1, h2, h3⟩ := k.c
 exact ⟨⟨c h0, c h1, c h2, c h3⟩, k.d.below hb, k.e.below hb⟩
theorem TxBox.is {g : Nat} {t : PTxn} {da : Option Addr} {dn dc : Nat} {ea : Option Addr} {en ec : Nat} {u : World} (k : TxBox g t da dn dc ea en ec u) : IsTxn u (.agg #[.int .i64 t.node, .int .i64 t.seq, .slice da dn dc, .slice ea en ec]) t := ⟨_, _, rfl, k.d, k.e⟩
theorem txbox_new {w : World} {t : PTxn} {da : Option Addr} {dn dc : Nat} {ea : Option Addr} {en ec : Nat} (h1 : SeqE LInt w (.slice da dn dc) t.deps) (h2 : SeqE LEff w (.slice ea en ec) t.effs) : TxBox w.heap.size t da dn dc ea en ec (w.alloc (.cells #[.int .i64 t.node, .int .i64 t.seq, .slice da dn dc, .slice ea en ec] 30)) :=
 have hb := (Below.refl w.heap.size w).alloc (Nat.le_refl _) (.cells #[.int .i64 t.node, .int .i64 t.seq, .slice da dn dc, .slice ea en ec] 30)
 ⟨⟨by simp, by simp, by simp, by simp⟩, h1.below hb, h2.below hb⟩
theorem IsTxn.parts {w : World} {v : Value} {t : PTxn} (h : IsTxn w v t) : ∃ da dn dc ea en ec, v = .agg #[.int .i64 t.node, .int .i64 t.seq, .slice da dn dc, .slice ea en ec] ∧ SeqE LInt w (.slice da dn dc) t.deps ∧ SeqE LEff w (.slice ea en ec) t.effs := by
 obtain ⟨dv, ev, rfl, h1, h2⟩ := h
 obtain ⟨a1, c1, rfl, -, -, -, k1⟩ := h1.parts
 obtain ⟨a2, c2, rfl, -, -, -, k2⟩ := h2.parts
 exact ⟨_, _, _, _, _, _, rfl, k1, k2⟩
theorem fitTx_only {t : PTxn} (h : FitTx t) (z : List Txt) : FitTx (tonly t z) := by
 obtain ⟨h1, h2, h3, k1, k2, k3, k4⟩ := h
 have hl : (eonly t.effs z).length ≤ t.effs.length := List.length_filter_le _ _
 exact ⟨h1, by show (eonly t.effs z).length ≤ 1000; omega, fun e he => h3 e (mem_eonly.1 he).1, k1, k2, k3, fun e he => k4 e (mem_eonly.1 he).1⟩
theorem wf_small {n : Int} (h0 : -1000 ≤ n) (h1 : n ≤ 1073741824) : (Lit.int .i64 n).wf = true := by
 simp only [Lit.wf, IntKind.min, IntKind.max, IntKind.signed, IntKind.bits, decide_eq_true_iff, Bool.and_eq_true]
 simp
 omega
end Go.Proofs.YtpnpomocjkmncaaGreat
