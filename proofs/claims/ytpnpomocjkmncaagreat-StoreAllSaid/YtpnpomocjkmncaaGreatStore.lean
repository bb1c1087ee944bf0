/- The program's own lacking: whom a transaction waits for. WORDS FOR STORES: how one lies in memory (what was heard, its items), what an argument that is one hands over; what a function that answers one answers. -/
import Derived.Test.YtpnpomocjkmncaaGreatOrCon
import Derived.Test.YtpnpomocjkmncaaGreatISets
import Derived.BigQuiet
import Derived.Deep.QuietTactic
import Derived.Test.YtpnpomocjkmncaaGreatEHeard
import Derived.Test.YtpnpomocjkmncaaGreatStMaths
import Derived.Test.YtpnpomocjkmncaaGreatTxUses
import Derived.Test.YtpnpomocjkmncaaGreatRefTxOC
namespace Go.Proofs.YtpnpomocjkmncaaGreat
open Go.RowKit Plain
set_option linter.unusedVariables false

def GivesLack (w : World) (v : Ints) (t : PTxn) (e : Ending) (w' : World) : Prop :=
 ∃ n s b, e = .returned (.tuple #[.agg #[.int .i64 n, .int .i64 s, .int .i64 0], .bool b]) ∧ (b = true → LackOk v t n s ∧ dotOk ⟨n, s, 0⟩) ∧ (b = false → OClear v t) ∧ Below w.heap.size w w'
theorem oPrev_wf (s : Int) : (Lit.int .i64 (oPrev s)).wf = true := by
 unfold oPrev
 simp [Lit.wf, IntKind.min, IntKind.max, IntKind.wrap, IntKind.signed, IntKind.bits]
 omega
theorem wf0 : (Lit.int .i64 0).wf = true := by decide
theorem says_wf {d : Ints} (h : ∀ n ∈ d, intOk n) (k : Nat) : (Lit.int .i64 (says d k)).wf = true := by
 unfold says
 by_cases c : k < d.length
 ·have := i64_in (h d[k] (List.getElem_mem c))
  have e : d.getD k 0 = d[k] := by simp [List.getD, c]
  rw [e]
  simp only [Lit.wf, IntKind.min, IntKind.max, IntKind.signed, IntKind.bits, decide_eq_true_iff, Bool.and_eq_true]
  simp
  omega
 ·rw [getD_end d k (by omega)]
  decide
theorem free_of {w : World} {g : Nat} {cs : Array Value} {t : TypeId} (h : w.heap[g]? = some (.cells cs t (0, 0))) (i : Nat) : w.frozen? ⟨g, i, none⟩ = false := by
 unfold World.frozen?; rw [h]; simp
theorem st3q {w : World} {g : Nat} {z0 z1 z2 : Value} {t : TypeId} (h : w.heap[g]? = some (.cells #[z0, z1, z2] t (0, 0))) :
  (∀ a, (w.setCell ⟨g, 0, none⟩ a).cell? ⟨g, 0, none⟩ = some a) ∧ (∀ a b, ((w.setCell ⟨g, 0, none⟩ a).setCell ⟨g, 1, none⟩ b).cell? ⟨g, 1, none⟩ = some b) ∧ (∀ a b c, (((w.setCell ⟨g, 0, none⟩ a).setCell ⟨g, 1, none⟩ b).setCell ⟨g, 2, none⟩ c).cell? ⟨g, 2, none⟩ = some c) := by
 have h1 := fun a => heap_setCell_same _ g 0 _ _ a h
 have h2 := fun a b => heap_setCell_same _ g 1 _ _ b (h1 a)
 have h3 := fun a b c => heap_setCell_same _ g 2 _ _ c (h2 a b)
 exact ⟨fun a => by simp [World.cell?, h1 a], fun a b => by simp [World.cell?, h2 a b], fun a b c => by simp [World.cell?, h3 a b c]⟩
set_option maxRecDepth 100000 in
set_option maxHeartbeats 4000000 in
theorem lacking_any {vv tv : Value} {xs : Ints} {t : PTxn} {w : World} (hv : SeqI w vv xs) (ht : IsTxn w tv t) (hd : t.deps.length ≤ 1000000) (hok : intOk t.node ∧ ∀ n ∈ t.deps, intOk n) :
  Calls Tryz.prog 128 #[vv, tv] w (GivesLack w xs t) := by
 obtain ⟨da, dn, dc, ea, en, ec, rfl, k1, k2⟩ := ht.parts
 obtain ⟨av, cv, rfl, -, -, -, hv'⟩ := hv.parts
 have KB := txbox_new k1 k2
 have hb1 := (Below.refl (w.alloc (.cells #[.int .i64 t.node, .int .i64 t.seq, .slice da dn dc, .slice ea en ec] 30)).heap.size (w.alloc (.cells #[.int .i64 t.node, .int .i64 t.seq, .slice da dn dc, .slice ea en ec] 30))).alloc (Nat.le_refl _) (.cells #[.int .i64 0, .int .i64 0, .int .i64 0] 62)
 have hb := (Below.refl w.heap.size w).alloc (Nat.le_refl _) (.cells #[.int .i64 t.node, .int .i64 t.seq, .slice da dn dc, .slice ea en ec] 30)
 have hB := hb.trans (hb1.mono (by simp))
 have HV := Lib.hid (hv'.below hB)
 have KX := Lib.hid (KB.below hb1)
 have HB := Lib.hid hB
 have D0 : Hid (((w.alloc (.cells #[.int .i64 t.node, .int .i64 t.seq, .slice da dn dc, .slice ea en ec] 30)).alloc (.cells #[.int .i64 0, .int .i64 0, .int .i64 0] 62)).heap[w.heap.size + 1]? = some (.cells #[.int .i64 0, .int .i64 0, .int .i64 0] 62 (0, 0))) := Lib.hid (by have := heap_alloc_new (w.alloc (.cells #[.int .i64 t.node, .int .i64 t.seq, .slice da dn dc, .slice ea en ec] 30)) (.cells #[.int .i64 0, .int .i64 0, .int .i64 0] 62); simpa using this)
 have HDM := Lib.hid k1.dims
 have WP := Lib.hid (oPrev_wf t.seq)
 have WS := Lib.hid (fun k => says_wf hok.2 k)
 have WN := Lib.hid hok.1
 have HDL := Lib.hid hd
 have e1 : IntKind.i64.wrap (t.seq - 1) = oPrev t.seq := rfl
 have HL : Hid (saysI xs t.node < oPrev t.seq → LackOk xs t t.node (oPrev t.seq)) := Lib.hid (fun h => .inl ⟨rfl, rfl, h⟩)
 have HC : Hid (¬ saysI xs t.node < oPrev t.seq → (∀ j, j < t.deps.length → says t.deps j ≤ says xs j) → OClear xs t) := Lib.hid (fun h1 h2 => ⟨Int.not_lt.1 h1, within_of h2⟩)
 have HK : Hid (∀ k : Nat, says xs k < says t.deps k → LackOk xs t k (says t.deps k)) := Lib.hid (fun k h => .inr ⟨k, rfl, rfl, h⟩)
 clear KB hb1 hb hB hv ht hv' k1 k2 hok hd
 go_enter Tryz.func128, Tryz.ntmps128
 go_upto_region 1 with fail
 generalize ((w.alloc (.cells #[.int .i64 t.node, .int .i64 t.seq, .slice da dn dc, .slice ea en ec] 30)).alloc (.cells #[.int .i64 0, .int .i64 0, .int .i64 0] 62)) = wb at *
 have KA := Lib.hid (fun n => vc_at_any (HV.out.drawn n) t.node)
 obtain ⟨c0, c1, c2, -⟩ := KX.out.c
 have t0 : wb.cell? ⟨w.heap.size + 1, 0, none⟩ = some (.int .i64 0) := cell_of_row _ _ 0 _ _ _ D0.out
 have t1 : wb.cell? ⟨w.heap.size + 1, 1, none⟩ = some (.int .i64 0) := cell_of_row _ _ 1 _ _ _ D0.out
 have t2 : wb.cell? ⟨w.heap.size + 1, 2, none⟩ = some (.int .i64 0) := cell_of_row _ _ 2 _ _ _ D0.out
 have f0 := free_of D0.out 0
 have f1 := free_of D0.out 1
 have f2 := free_of D0.out 2
 have hE1 := e1
 generalize oPrev t.seq = ps at *
 generalize saysI xs t.node = sn at *
 generalize xs.length = nv at *
 by_cases h1 : sn < ps
 ·have LK := Lib.hid (HL.out h1)
  have d1 : decide (sn < ps) = true := decide_eq_true h1
  clear HL HC HK hE1
  go_quiet ((go_at_call 64; exact quiet_left (KA.out _)))
  have DQ : Hid ((wb.drewN nq).heap[w.heap.size + 1]? = some (.cells #[.int .i64 0, .int .i64 0, .int .i64 0] 62 (0, 0))) := Lib.hid D0.out
  go_wp2_with fail
  obtain ⟨q0, q1, q2⟩ := st3q DQ.out
  refine bodyPost_ret (v := .tuple #[.agg #[.int .i64 t.node, .int .i64 ps, .int .i64 0], .bool true]) (by simp [results, Tryz.results128, go_sem, q0, q1, q2]) rfl ⟨_, _, _, rfl, fun _ => ⟨LK.out, WN.out, WP.out, wf0⟩, (fun h => nomatch h), ?_⟩
  exact (((below_drewN HB.out _).setCell (by simp) _).setCell (by simp) _).setCell (by simp) _
 ·have LC := Lib.hid (HC.out h1)
  have HH1 := Lib.hid h1
  have d1 : decide (sn < ps) = false := decide_eq_false h1
  clear HL HC hE1
  go_quiet ((go_at_call 64; exact quiet_left (KA.out _)))
  obtain ⟨m, hm⟩ : ∃ m, m = dn := ⟨_, rfl⟩
  have KX2 := Lib.hid (TxBox.below KX.out (below_drewN (Below.refl _ _) nq))
  have HV2 := Lib.hid (HV.out.drawn nq)
  have DQ : Hid ((wb.drewN nq).heap[w.heap.size + 1]? = some (.cells #[.int .i64 0, .int .i64 0, .int .i64 0] 62 (0, 0))) := Lib.hid D0.out
  have HB2 := Lib.hid (below_drewN HB.out nq)
  clear c0 c1 c2 t0 t1 t2 f0 f1 f2 KX HV D0 HB KA hm
  generalize wb.drewN nq = wc at *
  obtain ⟨c0, c1, c2, -⟩ := KX2.out.c
  have t0 : wc.cell? ⟨w.heap.size + 1, 0, none⟩ = some (.int .i64 0) := cell_of_row _ _ 0 _ _ _ DQ.out
  have t1 : wc.cell? ⟨w.heap.size + 1, 1, none⟩ = some (.int .i64 0) := cell_of_row _ _ 1 _ _ _ DQ.out
  have t2 : wc.cell? ⟨w.heap.size + 1, 2, none⟩ = some (.int .i64 0) := cell_of_row _ _ 2 _ _ _ DQ.out
  have f0 := free_of DQ.out 0
  have f1 := free_of DQ.out 1
  have f2 := free_of DQ.out 2
  have HDN : dn ≤ 1000000 := by have := HDL.out; rw [HDM.out.1] at this; exact this
  go_wp2_with fail
  go_loopw [25] (fun i wr => ∃ k : Nat, k ≤ dn ∧ i = .int .i64 k ∧ (∀ j, j < k → says t.deps j ≤ says xs j) ∧ wr = wc) (fun i _ => dn - (intOf i).toNat)
  case atStart => exact ⟨0, Nat.zero_le _, rfl, fun j hj => absurd hj (by omega), rfl⟩
  case round =>
   obtain ⟨k, hk, rfl, hall, rfl⟩ := hrel
   have HALL := Lib.hid hall
   clear hall
   by_cases hlt : k < dn
   ·have K1 := Lib.hid (vc_at_any (seqI_of KX2.out.d) (k : Int))
    have K2 := Lib.hid (vc_at_any HV2.out (k : Int))
    rw [saysI_nat] at K1 K2
    have LK := Lib.hid (HK.out k)
    have WSK := Lib.hid (WS.out k)
    have WKK := Lib.hid (show (Lit.int .i64 (k : Int)).wf = true from wf_small (by omega) (by omega))
    have HAN : Hid (¬ says xs k < says t.deps k → ∀ j, j < k + 1 → says t.deps j ≤ says xs j) := Lib.hid (fun h j hj => by
     by_cases e : j = k
     ·rw [e]; exact Int.not_lt.1 h
     ·exact HALL.out j (by omega))
    generalize says t.deps k = sd at *
    generalize says xs k = sx at *
    by_cases h2 : sx < sd
    ·have d2 : decide (sx < sd) = true := decide_eq_true h2
     have LK2 := Lib.hid (LK.out h2)
     go_wp2_with (first
      | (go_at_call_of 64 (Value.slice da dn dc); refine K1.out.mono ?_; rintro e w2 ⟨rfl, rfl⟩)
      | (go_at_call_of 64 (Value.slice av nv cv); refine K2.out.mono ?_; rintro e w2 ⟨rfl, rfl⟩))
     obtain ⟨q0, q1, q2⟩ := st3q DQ.out
     refine bodyPost_ret (v := .tuple #[.agg #[.int .i64 k, .int .i64 sd, .int .i64 0], .bool true]) (by simp [results, Tryz.results128, go_sem, q0, q1, q2]) rfl ⟨_, _, _, rfl, fun _ => ⟨LK2.out, WKK.out, WSK.out, wf0⟩, (fun h => nomatch h), ?_⟩
     exact ((HB2.out.setCell (by simp) _).setCell (by simp) _).setCell (by simp) _
    ·have d2 : decide (sx < sd) = false := decide_eq_false h2
     have HA2 := Lib.hid (HAN.out h2)
     go_wp2_with (first
      | (go_at_call_of 64 (Value.slice da dn dc); refine K1.out.mono ?_; rintro e w2 ⟨rfl, rfl⟩)
      | (go_at_call_of 64 (Value.slice av nv cv); refine K2.out.mono ?_; rintro e w2 ⟨rfl, rfl⟩))
     exact ⟨⟨k + 1, by omega, by go_num, HA2.out, trivial⟩, by simp [intOf]; omega⟩
   ·obtain rfl : k = dn := by omega
    have LC2 := Lib.hid (LC.out (by rw [HDM.out.1]; exact HALL.out))
    go_wp2_with fail
    obtain ⟨q0, q1, q2⟩ := st3q DQ.out
    refine bodyPost_ret (v := .tuple #[.agg #[.int .i64 0, .int .i64 0, .int .i64 0], .bool false]) (by simp [results, Tryz.results128, go_sem, q0, q1, q2]) rfl ⟨_, _, _, rfl, (fun h => nomatch h), fun _ => LC2.out, ?_⟩
    exact ((HB2.out.setCell (by simp) _).setCell (by simp) _).setCell (by simp) _
end Go.Proofs.YtpnpomocjkmncaaGreat
namespace Go.Proofs.YtpnpomocjkmncaaGreat
open Go.RowKit Plain
set_option linter.unusedVariables false

def IsStore (w : World) (v : Value) (s : PStore) : Prop := ∃ hv iv, v = .agg #[hv, iv] ∧ SeqE LInt w hv s.heard ∧ SeqE LItem w iv s.items
theorem IsStore.below {w w' : World} {v : Value} {s : PStore} (h : IsStore w v s) (hb : Below w.heap.size w w') : IsStore w' v s := by
 obtain ⟨hv, iv, rfl, h1, h2⟩ := h
 exact ⟨hv, iv, rfl, h1.below hb, h2.below hb⟩
theorem IsStore.slices {w : World} {v : Value} {s : PStore} (h : IsStore w v s) : ∃ ha hn hc ia im ic, v = .agg #[.slice ha hn hc, .slice ia im ic] ∧ SeqE LInt w (.slice ha hn hc) s.heard ∧ SeqE LItem w (.slice ia im ic) s.items := by
 obtain ⟨hv, iv, rfl, h1, h2⟩ := h
 obtain ⟨a1, c1, rfl, -, -, -, k1⟩ := h1.parts
 obtain ⟨a2, c2, rfl, -, -, -, k2⟩ := h2.parts
 exact ⟨_, _, _, _, _, _, rfl, k1, k2⟩
theorem cellsOfStore : Tryz.prog.cellsOf 26 = 2 := by kernel_rfl
def storeOk (s : PStore) : Prop := (∀ n ∈ s.heard, intOk n) ∧ ∀ x ∈ s.items, itemOk x
def IsStoreA (w : World) (v : Value) : Prop := ∃ s, IsStore w v s ∧ storeOk s
section
open Go.ChangeShapes Go.WideShapes Go.Joins
set_option maxRecDepth 100000
theorem itemR_of_cells {H : Type} {enc : TypeId × Value → H} {W : World} {n : Nat} {cs : List Value} {y : DataW H × List MemPlace} (ht : DataW.trod enc Tryz.prog W 0 (fun _ => true) true n 64 cs = some y) : ∃ x, LItem.R (· < W.heap.size) W cs x ∧ itemOk x := item_of_cells ht
theorem store_of_trod {H : Type} {enc : TypeId × Value → H} {W : World} {r : Reach} {b : Nat} {v : Value} {d : DataW H} {p : List MemPlace} (hv : Value.okWide Tryz.prog W r b 26 v) (h : DataW.Trod enc Tryz.prog W 0 (fun _ => true) true 26 v d p) : IsStoreA W v := by
 obtain ⟨cs, rfl, -⟩ := okWide_struct Tryz.underlying26 hv
 obtain ⟨fuel, hf⟩ := h
 simp only [Value.cells] at hf
 obtain ⟨ys, n', -, -, hl, hlen, hf⟩ := DataW.trod_struct Tryz.underlying26 hf
 rw [cellsOfStore] at hl
 have e3 : Tryz.prog.cellsOf 23 = 1 := by kernel_rfl
 have e4 : Tryz.prog.cellsOf 24 = 1 := by kernel_rfl
 obtain ⟨cs⟩ := cs
 match cs, hl with
 | [x0, x1], _ =>
  match ys, hlen with
  | [y0, y1], _ =>
   have h0 := hf 0 _ rfl
   have h1 := hf 1 _ rfl
   simp [e3, e4] at h0 h1
   obtain ⟨dv, ds, g2, hs, hd⟩ := elems_of_cells LInt intOk cellsOfInt (fun ht => int_of_cells ht) h0
   obtain ⟨iv, is, g3, hs3, hd3⟩ := elems_of_cells LItem itemOk cellsOfItem (fun ht => itemR_of_cells ht) h1
   simp at g2 g3
   subst g2 g3
   exact ⟨⟨ds, is⟩, ⟨_, _, rfl, hs, hs3⟩, hd, hd3⟩
end
structure StBox (g : Nat) (s : PStore) (ha : Option Addr) (hn hc : Nat) (ia : Option Addr) (im ic : Nat) (u : World) : Prop where
 b : u.heap[g]? = some (.cells #[.slice ha hn hc, .slice ia im ic] 26 (0, 0))
 h : SeqE LInt u (.slice ha hn hc) s.heard
 i : SeqE LItem u (.slice ia im ic) s.items
theorem st2_cells {w : World} {g : Nat} {x y : Value} {t : TypeId} (h : w.heap[g]? = some (.cells #[x, y] t (0, 0))) : (w.cell? ⟨g, 0, none⟩ = some x ∧ w.cell? ⟨g, 1, none⟩ = some y) ∧ w.frozen? ⟨g, 0, none⟩ = false ∧ w.frozen? ⟨g, 1, none⟩ = false := by
 have c0 := cell_of_row _ _ 0 _ _ _ h
 have c1 := cell_of_row _ _ 1 _ _ _ h
 simp only [List.getElem?_toArray, List.getElem?_cons_zero, List.getElem?_cons_succ] at c0 c1
 exact ⟨⟨c0, c1⟩, free_of h 0, free_of h 1⟩
theorem st2_heap {w : World} {g : Nat} {a b : Value} {t : TypeId} (h : w.heap[g]? = some (.cells #[a, b] t (0, 0))) (x y : Value) : ((w.setCell ⟨g, 0, none⟩ x).setCell ⟨g, 1, none⟩ y).heap[g]? = some (.cells #[x, y] t (0, 0)) :=
 heap_setCell_same _ g 1 _ _ y (heap_setCell_same _ g 0 _ _ x h)
theorem StBox.c {g : Nat} {s : PStore} {ha ia : Option Addr} {hn hc im ic : Nat} {u : World} (k : StBox g s ha hn hc ia im ic u) : u.cell? ⟨g, 0, none⟩ = some (.slice ha hn hc) ∧ u.cell? ⟨g, 1, none⟩ = some (.slice ia im ic) := (st2_cells k.b).1
theorem StBox.free {g : Nat} {s : PStore} {ha ia : Option Addr} {hn hc im ic : Nat} {u : World} (k : StBox g s ha hn hc ia im ic u) : u.frozen? ⟨g, 0, none⟩ = false ∧ u.frozen? ⟨g, 1, none⟩ = false := (st2_cells k.b).2
theorem StBox.lt {g : Nat} {s : PStore} {ha ia : Option Addr} {hn hc im ic : Nat} {u : World} (k : StBox g s ha hn hc ia im ic u) : g < u.heap.size := (Array.getElem?_eq_some_iff.1 k.b).1
theorem StBox.below {g : Nat} {s : PStore} {ha ia : Option Addr} {hn hc im ic : Nat} {u u' : World} (k : StBox g s ha hn hc ia im ic u) (hb : Below u.heap.size u u') : StBox g s ha hn hc ia im ic u' :=
 ⟨(hb.block g k.lt).trans k.b, k.h.below hb, k.i.below hb⟩
theorem StBox.is {g : Nat} {s : PStore} {ha ia : Option Addr} {hn hc im ic : Nat} {u : World} (k : StBox g s ha hn hc ia im ic u) : IsStore u (.agg #[.slice ha hn hc, .slice ia im ic]) s := ⟨_, _, rfl, k.h, k.i⟩
theorem stbox_new {w : World} {s : PStore} {ha ia : Option Addr} {hn hc im ic : Nat} (h1 : SeqE LInt w (.slice ha hn hc) s.heard) (h2 : SeqE LItem w (.slice ia im ic) s.items) : StBox w.heap.size s ha hn hc ia im ic (w.alloc (.cells #[.slice ha hn hc, .slice ia im ic] 26)) :=
 have hb := (Below.refl w.heap.size w).alloc (Nat.le_refl _) (.cells #[.slice ha hn hc, .slice ia im ic] 26)
 ⟨heap_alloc_new w _, h1.below hb, h2.below hb⟩

def Two (w : World) (R : Nat) : Prop := ∃ a n c a' n' c' t, w.heap[R]? = some (.cells #[.slice a n c, .slice a' n' c'] t (0, 0))
theorem StBox.two {g : Nat} {s : PStore} {ha ia : Option Addr} {hn hc im ic : Nat} {u : World} (k : StBox g s ha hn hc ia im ic u) : Two u g := ⟨_, _, _, _, _, _, _, k.b⟩
theorem Two.cell {w : World} {R i : Nat} {u : Value} (h : Two w R) (hc : w.cell? ⟨R, i, none⟩ = some u) : i < 2 ∧ ∃ a n c, u = .slice a n c := by
 obtain ⟨a, n, c, a', n', c', t, hb⟩ := h
 have h1 := cell_of_row _ _ i _ _ _ hb
 rw [hc] at h1
 match i, h1 with
 | 0, h1 => exact ⟨by omega, a, n, c, by simpa using h1⟩
 | 1, h1 => exact ⟨by omega, a', n', c', by simpa using h1⟩
 | i + 2, h1 => simp at h1
theorem Sq.no2 {α : Type} {L : El α} (hk : 3 ≤ L.k) {P : Nat → Prop} {w : World} {R : Nat} {v : Value} {xs : List α} (h2 : Two w R) (hR : ∀ vs x, L.R P w vs x → L.R (fun b => P b ∧ b ≠ R) w vs x) (h : Sq L P w v xs) : Sq L (fun b => P b ∧ b ≠ R) w v xs := by
 obtain ⟨a, cap, vals, e, h1, h3, h0, hr, h4⟩ := h
 refine ⟨a, cap, vals, e, h1, h3, h0, ⟨hr.1, fun j x hj => hR _ _ (hr.2 j x hj)⟩, fun hp => ?_⟩
 obtain ⟨b, off, ea, hb, hc⟩ := h4 hp
 refine ⟨b, off, ea, ⟨hb, fun e => ?_⟩, hc⟩
 subst e
 have hl : 2 < vals.length := by
  have := Nat.mul_le_mul hp hk
  rw [hr.1]
  omega
 have := h2.cell (hc 2 _ (List.getElem?_eq_getElem hl))
 omega
theorem int_no2 {P : Nat → Prop} {w : World} {R : Nat} {v : Value} {xs : List Int} (h2 : Two w R) (h : Sq LInt P w v xs) : Sq LInt (fun b => P b ∧ b ≠ R) w v xs := by
 obtain ⟨a, cap, vals, e, h1, h3, h0, hr, h4⟩ := h
 refine ⟨a, cap, vals, e, h1, h3, h0, ⟨hr.1, fun j x hj => flat_int (hr.2 j x hj)⟩, fun hp => ?_⟩
 obtain ⟨b, off, ea, hb, hc⟩ := h4 hp
 refine ⟨b, off, ea, ⟨hb, fun e => ?_⟩, hc⟩
 subst e
 have hx := hr.2 0 _ (List.getElem?_eq_getElem hp)
 have h5 : pt 1 vals 0 = [.int .i64 xs[0]] := hx
 have h6 := pt_get (k := 1) vals 0 0 (by omega)
 rw [h5] at h6
 obtain ⟨-, a', n', c', h7⟩ := h2.cell (hc 0 (.int .i64 xs[0]) (by simpa using h6.symm))
 cases h7
theorem item_no2 {P : Nat → Prop} {w : World} {R : Nat} {v : Value} {xs : List PItem} (h2 : Two w R) (h : Sq LItem P w v xs) : Sq LItem (fun b => P b ∧ b ≠ R) w v xs := h.no2 (show 3 ≤ 8 by omega) h2 fun _ _ h => h
theorem dot_no2 {P : Nat → Prop} {w : World} {R : Nat} {v : Value} {xs : List PDot} (h2 : Two w R) (h : Sq LDot P w v xs) : Sq LDot (fun b => P b ∧ b ≠ R) w v xs := h.no2 (show 3 ≤ 3 by omega) h2 fun _ _ h => h
theorem eff_no2 {P : Nat → Prop} {w : World} {R : Nat} {v : Value} {xs : List PEff} (h2 : Two w R) (h : Sq LEff P w v xs) : Sq LEff (fun b => P b ∧ b ≠ R) w v xs := h.no2 (show 3 ≤ 7 by omega) h2 fun _ _ ⟨dv, e, hd⟩ => ⟨dv, e, dot_no2 h2 hd⟩
theorem txn_no2 {P : Nat → Prop} {w : World} {R : Nat} {v : Value} {xs : List PTxn} (h2 : Two w R) (h : Sq LTxn P w v xs) : Sq LTxn (fun b => P b ∧ b ≠ R) w v xs := h.no2 (show 3 ≤ 4 by omega) h2 fun _ _ ⟨dv, ev, e, hd, he⟩ => ⟨dv, ev, e, int_no2 h2 hd, eff_no2 h2 he⟩
theorem Sq.but {α : Type} {L : El α} {w w' : World} {R : Nat} {v : Value} {xs : List α} (hb : But R w w') (h : Sq L (fun b => b < w.heap.size ∧ b ≠ R) w v xs) : SeqE L w' v xs :=
 (h.agree fun b hq => hb.block b hq.1 hq.2).mono fun b hq => Nat.lt_of_lt_of_le hq.1 hb.size
theorem Sq.nil {α : Type} {L : El α} (P : Nat → Prop) (w : World) : Sq L P w (.slice none 0 0) [] := ⟨none, 0, [], rfl, Nat.zero_le _, Nat.zero_le _, fun _ => rfl, Rows.nil _ _, fun h => absurd h (by simp)⟩
theorem Sq.later {α : Type} {L : El α} {N : Nat} {w w' : World} {v : Value} {xs : List α} (h : Sq L (fun b => N ≤ b ∧ b < w.heap.size) w v xs) (hb : Below w.heap.size w w') : Sq L (fun b => N ≤ b ∧ b < w'.heap.size) w' v xs :=
 (h.agree fun b hq => hb.block b hq.2).mono fun b hq => ⟨hq.1, Nat.lt_of_lt_of_le hq.2 hb.size⟩
theorem Sq.set2 {α : Type} {L : El α} {N R : Nat} {w w' : World} {v : Value} {xs : List α} (hb : But R w w') (h : Sq L (fun b => (N ≤ b ∧ b < w.heap.size) ∧ b ≠ R) w v xs) : Sq L (fun b => N ≤ b ∧ b < w'.heap.size) w' v xs :=
 (h.agree fun b hq => hb.block b hq.1.2 hq.2).mono fun b hq => ⟨hq.1.1, Nat.lt_of_lt_of_le hq.1.2 hb.size⟩
theorem OwnsI.newI {N B : Nat} {w : World} {v : Value} {xs : List Int} (h : OwnsI B w v xs) (hN : N ≤ B) : Sq LInt (fun b => N ≤ b ∧ b < w.heap.size) w v xs := ((ownE_of h).new flat_int).mono fun b hb => ⟨Nat.le_trans hN hb.1, hb.2⟩
theorem seq_int_but {w w' : World} {R : Nat} {v : Value} {xs : List Int} (h2 : Two w R) (hb : But R w w') (h : SeqE LInt w v xs) : SeqE LInt w' v xs := (int_no2 h2 h).but hb
theorem seq_item_but {w w' : World} {R : Nat} {v : Value} {xs : List PItem} (h2 : Two w R) (hb : But R w w') (h : SeqE LItem w v xs) : SeqE LItem w' v xs := (item_no2 h2 h).but hb
theorem seq_txn_but {w w' : World} {R : Nat} {v : Value} {xs : List PTxn} (h2 : Two w R) (hb : But R w w') (h : SeqE LTxn w v xs) : SeqE LTxn w' v xs := (txn_no2 h2 h).but hb
theorem st2_but (w : World) (R : Nat) (x y : Value) : But R w ((w.setCell ⟨R, 0, none⟩ x).setCell ⟨R, 1, none⟩ y) := (But.set R w 0 x).trans (But.set R _ 1 y)
theorem StBox.but {g R : Nat} {s : PStore} {ha ia : Option Addr} {hn hc im ic : Nat} {u u' : World} (k : StBox g s ha hn hc ia im ic u) (h2 : Two u R) (hb : But R u u') (hne : g ≠ R) : StBox g s ha hn hc ia im ic u' :=
 ⟨(hb.block g k.lt hne).trans k.b, seq_int_but h2 hb k.h, seq_item_but h2 hb k.i⟩
theorem stbox_set {w : World} {R : Nat} {s : PStore} {ha ia : Option Addr} {hn hc im ic : Nat} (h2 : Two w R) (h1 : SeqE LInt w (.slice ha hn hc) s.heard) (h3 : SeqE LItem w (.slice ia im ic) s.items) (ht : ∃ x y, w.heap[R]? = some (.cells #[x, y] 26 (0, 0))) :
  StBox R s ha hn hc ia im ic ((w.setCell ⟨R, 0, none⟩ (.slice ha hn hc)).setCell ⟨R, 1, none⟩ (.slice ia im ic)) := by
 obtain ⟨x, y, ht⟩ := ht
 exact ⟨st2_heap ht _ _, seq_int_but h2 (st2_but w R _ _) h1, seq_item_but h2 (st2_but w R _ _) h3⟩
theorem StBox.set {g : Nat} {s0 s : PStore} {ha0 ia0 ha ia : Option Addr} {hn0 hc0 im0 ic0 hn hc im ic : Nat} {w : World} (k : StBox g s0 ha0 hn0 hc0 ia0 im0 ic0 w) (h1 : SeqE LInt w (.slice ha hn hc) s.heard) (h3 : SeqE LItem w (.slice ia im ic) s.items) :
  StBox g s ha hn hc ia im ic ((w.setCell ⟨g, 0, none⟩ (.slice ha hn hc)).setCell ⟨g, 1, none⟩ (.slice ia im ic)) := stbox_set k.two h1 h3 ⟨_, _, k.b⟩
def GivesSt (w : World) (s : PStore) (e : Ending) (w' : World) : Prop := ∃ ha hn hc ia im ic, e = .returned (.agg #[.slice ha hn hc, .slice ia im ic]) ∧ SeqE LInt w' (.slice ha hn hc) s.heard ∧ SeqE LItem w' (.slice ia im ic) s.items ∧ Below w.heap.size w w'
def GivesStE (w : World) (s : PStore) (n : Int) (e : Ending) (w' : World) : Prop := ∃ ha hn hc ia im ic, e = .returned (.tuple #[.agg #[.slice ha hn hc, .slice ia im ic], .int .i64 n]) ∧ Sq LInt (fun b => w.heap.size ≤ b ∧ b < w'.heap.size) w' (.slice ha hn hc) s.heard ∧ Sq LItem (fun b => w.heap.size ≤ b ∧ b < w'.heap.size) w' (.slice ia im ic) s.items ∧ Below w.heap.size w w'
def GivesStT (w : World) (s : PStore) (a : List PTxn) (e : Ending) (w' : World) : Prop := ∃ ha hn hc ia im ic ta tn tc, e = .returned (.tuple #[.agg #[.slice ha hn hc, .slice ia im ic], .slice ta tn tc]) ∧ SeqE LInt w' (.slice ha hn hc) s.heard ∧ SeqE LItem w' (.slice ia im ic) s.items ∧ SeqE LTxn w' (.slice ta tn tc) a ∧ Below w.heap.size w w'
end Go.Proofs.YtpnpomocjkmncaaGreat
