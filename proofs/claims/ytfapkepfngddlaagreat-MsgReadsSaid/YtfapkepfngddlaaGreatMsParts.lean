/- The program's own reader of messages: item, txn, vec, zone and the lists of them. (Written by gen-msparts.py.) -/
import Derived.Test.YtfapkepfngddlaaGreatMsTake
import Derived.Test.YtfapkepfngddlaaGreatTxRds
import Derived.Test.YtfapkepfngddlaaGreatPaLists
import Derived.Test.YtfapkepfngddlaaGreatTxPuts
import Derived.Deep.Cut
set_option maxRecDepth 100000
set_option maxHeartbeats 64000000
namespace Go.Proofs.YtfapkepfngddlaaGreat
open Go.RowKit Plain
set_option linter.unusedVariables false
def LNum : El Int where
 k := 1
 E := 3
 S := 22
 zero := .int .i64 0
 bytes := 8
 R := fun _ _ vs x => vs = [.int .i64 x]
 pos := by decide
 small := by decide
 len := fun h => by rw [h]; rfl
 one := oneInt
 mono := fun h _ => h
 agree := fun h _ => h
 und := Tryz.underlying22
 info := infoInt
 zsize := rfl
theorem flat_num : Flat LNum := fun h => h
theorem strT_of {w : World} {v : Value} {xs : List Txt} (h : SeqE LStr w v xs) : SeqT w v xs := by
 obtain ⟨a, cap, rfl, h1, h2, h0, h3⟩ := h.parts;refine ⟨a, cap, rfl, h1, h2, h0, fun hp => ?_⟩;obtain ⟨b, o, c, hv, -, -, -, hc⟩ := h.spot hp;simp only [Value.slice.injEq] at hv
 obtain ⟨rfl, -, rfl⟩ := hv;refine ⟨b, o, rfl, fun j hj => ?_⟩;have e : xs[j]? = some (xs.getD j []) := by simp [List.getD, List.getElem?_eq_getElem hj]
 obtain ⟨vs, hr, hx⟩ := hc j _ e;obtain rfl : vs = [tv (xs.getD j [])] := hr;have := hx 0 _ rfl;rw [show o + (j * LStr.k + 0) = o + j by show o + (j * 1 + 0) = o + j; omega] at this;exact this
theorem str_ofT {w : World} {v : Value} {xs : List Txt} (h : SeqT w v xs) : SeqE LStr w v xs := by
 obtain ⟨a, cap, rfl, h1, h2, h0, h3⟩ := h;refine ⟨a, cap, xs.map tv, rfl, h1, h2, h0, ⟨by rw [List.length_map]; show _ = xs.length * 1; omega, fun j x hj => ?_⟩, fun hp => ?_⟩
 ·show ((xs.map tv).drop (j * 1)).take 1 = [tv x]
  obtain ⟨hl, rfl⟩ := List.getElem?_eq_some_iff.1 hj;rw [Nat.mul_one, List.take_one];simp [List.getElem?_eq_getElem hl]
 ·obtain ⟨b, off, rfl, g⟩ := h3 hp
  have hb : b < w.heap.size := World.block_lt_of_cell? w ⟨b, off + 0, none⟩ (g 0 hp);refine ⟨b, off, rfl, hb, fun i u hi => ?_⟩;obtain ⟨hl, e⟩ := List.getElem?_eq_some_iff.1 hi;rw [List.length_map] at hl;rw [g i hl];rw [List.getElem_map] at e;rw [← e];simp [List.getD, List.getElem?_eq_getElem hl]
theorem one_num (w : World) (x : Int) : SeqE LNum (w.alloc (.cells #[.int .i64 x] 3)) (.slice (some ⟨w.heap.size, 0, none⟩) 1 1) [x] := SeqE.one (L := LNum) (w := w) (vs := [.int .i64 x]) (x := x) rfl #[.int .i64 x] rfl
theorem one_str (w : World) (x : Txt) : SeqE LStr (w.alloc (.cells #[.string (bt x)] 9)) (.slice (some ⟨w.heap.size, 0, none⟩) 1 1) [x] := SeqE.one (L := LStr) (w := w) (vs := [tv x]) (x := x) rfl #[.string (bt x)] rfl
def ts8 (w : World) (g : Nat) (v0 v1 v2 v3 v4 v5 v6 v7 : Value) : World := (((((((w.setCell ⟨g, 0, none⟩ v0).setCell ⟨g, 1, none⟩ v1).setCell ⟨g, 2, none⟩ v2).setCell ⟨g, 3, none⟩ v3).setCell ⟨g, 4, none⟩ v4).setCell ⟨g, 5, none⟩ v5).setCell ⟨g, 6, none⟩ v6).setCell ⟨g, 7, none⟩ v7
theorem tcells8 {u : World} {g : Nat} {v0 v1 v2 v3 v4 v5 v6 v7 : Value} {t : TypeId} (h : u.heap[g]? = some (.cells #[v0, v1, v2, v3, v4, v5, v6, v7] t (0, 0))) :
  (u.cell? ⟨g, 0, none⟩ = some v0 ∧ u.cell? ⟨g, 1, none⟩ = some v1 ∧ u.cell? ⟨g, 2, none⟩ = some v2 ∧ u.cell? ⟨g, 3, none⟩ = some v3 ∧ u.cell? ⟨g, 4, none⟩ = some v4 ∧ u.cell? ⟨g, 5, none⟩ = some v5 ∧ u.cell? ⟨g, 6, none⟩ = some v6 ∧ u.cell? ⟨g, 7, none⟩ = some v7) ∧
  u.frozen? ⟨g, 0, none⟩ = false ∧ u.frozen? ⟨g, 1, none⟩ = false ∧ u.frozen? ⟨g, 2, none⟩ = false ∧ u.frozen? ⟨g, 3, none⟩ = false ∧ u.frozen? ⟨g, 4, none⟩ = false ∧ u.frozen? ⟨g, 5, none⟩ = false ∧ u.frozen? ⟨g, 6, none⟩ = false ∧ u.frozen? ⟨g, 7, none⟩ = false := by
 refine ⟨⟨?_, ?_, ?_, ?_, ?_, ?_, ?_, ?_⟩, ?_, ?_, ?_, ?_, ?_, ?_, ?_, ?_⟩
 iterate 8 (· simp [World.cell?, h])
 iterate 8 (· unfold World.frozen?; rw [h]; simp)
theorem ts8_block {w : World} {g : Nat} {z0 z1 z2 z3 z4 z5 z6 z7 v0 v1 v2 v3 v4 v5 v6 v7 : Value} {t : TypeId} (h : w.heap[g]? = some (.cells #[z0, z1, z2, z3, z4, z5, z6, z7] t (0, 0))) : (ts8 w g v0 v1 v2 v3 v4 v5 v6 v7).heap[g]? = some (.cells #[v0, v1, v2, v3, v4, v5, v6, v7] t (0, 0)) := by
 unfold ts8;rw [heap_setCell_same _ g 7 _ _ _ (heap_setCell_same _ g 6 _ _ _ (heap_setCell_same _ g 5 _ _ _ (heap_setCell_same _ g 4 _ _ _ (heap_setCell_same _ g 3 _ _ _ (heap_setCell_same _ g 2 _ _ _ (heap_setCell_same _ g 1 _ _ _ (heap_setCell_same _ g 0 _ _ _ h)))))))]
 rfl
theorem ts8_but {w u : World} {g R : Nat} {v0 v1 v2 v3 v4 v5 v6 v7 : Value} (h : But g w u) (hw : g < w.heap.size) (hR : w.heap.size ≤ R) : But g w (ts8 u R v0 v1 v2 v3 v4 v5 v6 v7) := (((((((h.store hw hR).store hw hR).store hw hR).store hw hR).store hw hR).store hw hR).store hw hR).store hw hR
theorem ts8_box {w : World} {g R : Nat} {s : Rb} {v0 v1 v2 v3 v4 v5 v6 v7 : Value} (h : MrBox w g s) (hR : g < R) : MrBox (ts8 w R v0 v1 v2 v3 v4 v5 v6 v7) g s := (((((((h.store hR).store hR).store hR).store hR).store hR).store hR).store hR).store hR
def vIt (_ : World) (v : Value) (x : PItem) : Prop := v = .agg #[.string (bt x.key), .string (bt x.field), .int .i64 x.kind, .string (bt x.elem), .int .i64 x.n, .int .i64 x.dot.node, .int .i64 x.dot.seq, .int .i64 x.dot.pos]
theorem mitem_any {w : World} {g : Nat} {s : Rb} (hx : MrBox w g s) (hl : s.1.length ≤ 500000) : Calls Tryz.prog 103 #[.pointer (some ⟨g, 0, none⟩)] w (GivesM vIt w g (mitem s)) := by
 have HG := zH hx.lt;have HNE : Hid (w.heap.size ≠ g) := zH (by have := hx.lt; omega);have HR : Hid (mitem s = (⟨(mtext s).1, (mtext (mtext s).2).1, (mnum (mtext (mtext s).2).2).1, (mtext (mnum (mtext (mtext s).2).2).2).1, (mint (mtext (mnum (mtext (mtext s).2).2).2).2).1, ⟨(mnum (mint (mtext (mnum (mtext (mtext s).2).2).2).2).2).1, (mnum (mnum (mint (mtext (mnum (mtext (mtext s).2).2).2).2).2).2).1, (mnum (mnum (mnum (mint (mtext (mnum (mtext (mtext s).2).2).2).2).2).2).2).1⟩⟩, (mnum (mnum (mnum (mint (mtext (mnum (mtext (mtext s).2).2).2).2).2).2).2).2)) := zH rfl;have L1 := zH (Nat.le_trans (shrb_text s) hl);have L2 := zH (Nat.le_trans (shrb_text (mtext s).2) L1.out);have L3 := zH (Nat.le_trans (shrb_num (mtext (mtext s).2).2) L2.out);have L4 := zH (Nat.le_trans (shrb_text (mnum (mtext (mtext s).2).2).2) L3.out);have L5 := zH (Nat.le_trans (shrb_int (mtext (mnum (mtext (mtext s).2).2).2).2) L4.out);have L6 := zH (Nat.le_trans (shrb_num (mint (mtext (mnum (mtext (mtext s).2).2).2).2).2) L5.out);have L7 := zH (Nat.le_trans (shrb_num (mnum (mint (mtext (mnum (mtext (mtext s).2).2).2).2).2).2) L6.out);generalize mitem s = res at *;have hba := zB w (.cells #[.string ⟨#[]⟩, .string ⟨#[]⟩, .int .i64 0, .string ⟨#[]⟩, .int .i64 0, .int .i64 0, .int .i64 0, .int .i64 0] 47);have K0 := zH (mtext_any (hx.below hba) hl);have R0 : Hid ((w.alloc (.cells #[.string ⟨#[]⟩, .string ⟨#[]⟩, .int .i64 0, .string ⟨#[]⟩, .int .i64 0, .int .i64 0, .int .i64 0, .int .i64 0] 47)).heap[w.heap.size]? = some (.cells #[.string ⟨#[]⟩, .string ⟨#[]⟩, .int .i64 0, .string ⟨#[]⟩, .int .i64 0, .int .i64 0, .int .i64 0, .int .i64 0] 47 (0, 0))) := zH (heap_alloc_new _ _);have Z0 : Hid (w.heap.size < (w.alloc (.cells #[.string ⟨#[]⟩, .string ⟨#[]⟩, .int .i64 0, .string ⟨#[]⟩, .int .i64 0, .int .i64 0, .int .i64 0, .int .i64 0] 47)).heap.size) := zH (by simp);have G0 : Hid (But g w (w.alloc (.cells #[.string ⟨#[]⟩, .string ⟨#[]⟩, .int .i64 0, .string ⟨#[]⟩, .int .i64 0, .int .i64 0, .int .i64 0, .int .i64 0] 47))) := zH (But.of hba (Nat.le_of_lt hx.lt));clear hx hl hba;go_enter Tryz.func103, Tryz.ntmps103
 go_upto_region 1 with fail
 generalize (w.alloc (.cells #[.string ⟨#[]⟩, .string ⟨#[]⟩, .int .i64 0, .string ⟨#[]⟩, .int .i64 0, .int .i64 0, .int .i64 0, .int .i64 0] 47)) = w0 at *;generalize mtext s = q1 at *;go_wp2_with fail
 refine K0.out.mono ?_;rintro e w1 ⟨v, rfl, hv, hx, hb⟩;obtain rfl : v = .string (bt q1.1) := hv;have R1 := zH ((hb.block _ Z0.out HNE.out).trans R0.out);have Z1 := zH (Nat.lt_of_lt_of_le Z0.out hb.size);have G1 := zH (G0.out.trans hb);have K1 := zH (mtext_any hx L1.out);generalize mtext q1.2 = q2 at *;clear hx hb K0;go_wp2_with fail
 refine K1.out.mono ?_;rintro e w2 ⟨v, rfl, hv, hx, hb⟩;obtain rfl : v = .string (bt q2.1) := hv;have R2 := zH ((hb.block _ Z1.out HNE.out).trans R1.out);have Z2 := zH (Nat.lt_of_lt_of_le Z1.out hb.size);have G2 := zH (G1.out.trans hb);have K2 := zH (mnum_any hx L2.out);generalize mnum q2.2 = q3 at *;clear hx hb K1;go_wp2_with fail
 refine K2.out.mono ?_;rintro e w3 ⟨v, rfl, hv, hx, hb⟩;obtain rfl : v = .int .i64 q3.1 := hv;have R3 := zH ((hb.block _ Z2.out HNE.out).trans R2.out);have Z3 := zH (Nat.lt_of_lt_of_le Z2.out hb.size);have G3 := zH (G2.out.trans hb);have K3 := zH (mtext_any hx L3.out);generalize mtext q3.2 = q4 at *;clear hx hb K2;go_wp2_with fail
 refine K3.out.mono ?_;rintro e w4 ⟨v, rfl, hv, hx, hb⟩;obtain rfl : v = .string (bt q4.1) := hv;have R4 := zH ((hb.block _ Z3.out HNE.out).trans R3.out);have Z4 := zH (Nat.lt_of_lt_of_le Z3.out hb.size);have G4 := zH (G3.out.trans hb);have K4 := zH (mint_any hx L4.out);generalize mint q4.2 = q5 at *;clear hx hb K3;go_wp2_with fail
 refine K4.out.mono ?_;rintro e w5 ⟨v, rfl, hv, hx, hb⟩;obtain rfl : v = .int .i64 q5.1 := hv;have R5 := zH ((hb.block _ Z4.out HNE.out).trans R4.out);have Z5 := zH (Nat.lt_of_lt_of_le Z4.out hb.size);have G5 := zH (G4.out.trans hb);have K5 := zH (mnum_any hx L5.out);generalize mnum q5.2 = q6 at *;clear hx hb K4;go_wp2_with fail
 refine K5.out.mono ?_;rintro e w6 ⟨v, rfl, hv, hx, hb⟩;obtain rfl : v = .int .i64 q6.1 := hv;have R6 := zH ((hb.block _ Z5.out HNE.out).trans R5.out);have Z6 := zH (Nat.lt_of_lt_of_le Z5.out hb.size);have G6 := zH (G5.out.trans hb);have K6 := zH (mnum_any hx L6.out);generalize mnum q6.2 = q7 at *;clear hx hb K5;go_wp2_with fail
 refine K6.out.mono ?_;rintro e w7 ⟨v, rfl, hv, hx, hb⟩;obtain rfl : v = .int .i64 q7.1 := hv;have R7 := zH ((hb.block _ Z6.out HNE.out).trans R6.out);have Z7 := zH (Nat.lt_of_lt_of_le Z6.out hb.size);have G7 := zH (G6.out.trans hb);have K7 := zH (mnum_any hx L7.out);generalize mnum q7.2 = q8 at *;clear hx hb K6;go_wp2_with fail
 refine K7.out.mono ?_;rintro e w8 ⟨v, rfl, hv, hx, hb⟩;obtain rfl : v = .int .i64 q8.1 := hv;have R8 := zH ((hb.block _ Z7.out HNE.out).trans R7.out);have Z8 := zH (Nat.lt_of_lt_of_le Z7.out hb.size);have G8 := zH (G7.out.trans hb);have X8 := zH hx;clear hx hb K7;obtain ⟨⟨y0, y1, y2, y3, y4, y5, y6, y7⟩, f0, f1, f2, f3, f4, f5, f6, f7⟩ := tcells8 R8.out;have FC := zH (tcells8 (ts8_block (v0 := .string (bt q1.1)) (v1 := .string (bt q2.1)) (v2 := .int .i64 q3.1) (v3 := .string (bt q4.1)) (v4 := .int .i64 q5.1) (v5 := .int .i64 q6.1) (v6 := .int .i64 q7.1) (v7 := .int .i64 q8.1) R8.out)).1;have FG := zH (ts8_but (v0 := .string (bt q1.1)) (v1 := .string (bt q2.1)) (v2 := .int .i64 q3.1) (v3 := .string (bt q4.1)) (v4 := .int .i64 q5.1) (v5 := .int .i64 q6.1) (v6 := .int .i64 q7.1) (v7 := .int .i64 q8.1) G8.out HG.out (Nat.le_refl _));have FX := zH (ts8_box (v0 := .string (bt q1.1)) (v1 := .string (bt q2.1)) (v2 := .int .i64 q3.1) (v3 := .string (bt q4.1)) (v4 := .int .i64 q5.1) (v5 := .int .i64 q6.1) (v6 := .int .i64 q7.1) (v7 := .int .i64 q8.1) X8.out HG.out);unfold ts8 at FC FG FX;go_wp2_with fail
 obtain ⟨g0, g1, g2, g3, g4, g5, g6, g7⟩ := FC.out;refine bodyPost_ret (v := .agg #[.string (bt q1.1), .string (bt q2.1), .int .i64 q3.1, .string (bt q4.1), .int .i64 q5.1, .int .i64 q6.1, .int .i64 q7.1, .int .i64 q8.1]) (by simp [results, Tryz.results103, go_sem, g0, g1, g2, g3, g4, g5, g6, g7]) rfl ?_;rw [HR.out];exact ⟨_, rfl, rfl, FX.out, FG.out⟩
def lenOf : Value → Nat
 | .slice _ n _ => n
 | _ => 0
theorem mlist_num {w : World} {g : Nat} {s : Rb} (hx : MrBox w g s) (hl : s.1.length ≤ 500000) (k : Nat) (hk : k ≤ 100000) : Calls Tryz.prog 141 #[.pointer (some ⟨g, 0, none⟩), .int .i64 k, .func (.func 98) #[.pointer (some ⟨g, 0, none⟩)] #[]] w (GivesM (fun W v l => OwnE LNum w.heap.size W v l) w g (mlist mnum k s)) := by
 have HG := zH hx.lt;have K0 := zH (mcount_any hx hl k);have HC := zH (mcount_le k s);have HT0 := zH (Nat.le_trans (shrb_count k s) hl);have HR : Hid (mlist mnum k s = mN mnum (mcount k s).1 (mcount k s).2) := zH rfl;have HK := zH hk;have eg : ∀ args w, (callFunc 98 args).run Tryz.prog w = .ok (.enter 98 args) w := enters_of Tryz.func98 (by kernel_rfl) rfl;clear hx hl hk;generalize mlist mnum k s = res at *;generalize mcount k s = q0 at *;obtain ⟨n, s0⟩ := q0;go_enter Tryz.func141, Tryz.ntmps141
 go_wp2_with fail
 refine K0.out.mono ?_;rintro e w1 ⟨v, rfl, hv, hx1, hb1⟩;obtain rfl : v = .int .i64 n := hv;have HX1 := zH hx1;have HB1 := zH hb1;have HN : Hid (n ≤ 100000) := zH (Nat.le_trans HC.out HK.out);clear hx1 hb1 K0;go_wp2_with fail
 go_loopw [8] (fun z wr => ∃ (l : List Int) (j : Nat) (t : Rb), l.length + j = n ∧ Aside (res = (l ++ (mN mnum j t).1, (mN mnum j t).2)) ∧ Aside (t.1.length ≤ 500000) ∧ OwnE LNum w.heap.size wr z l ∧ MrBox wr g t ∧ But g w wr) (fun z _ => n - lenOf z)
 case atStart => exact ⟨[], n, s0, by simp, by rw [List.nil_append]; exact HR.out, HT0.out, OwnE.nil _ _, HX1.out, HB1.out⟩
 case round =>
  obtain ⟨l, j, t, hlj, HRL, HT, ho, hx, hb⟩ := hrel;have HO := zH ho;have HX := zH hx;have HB := zH hb;have HLJ := zH hlj;obtain ⟨la, lc, rfl, h1, h2, -, -⟩ := ho.parts;obtain ⟨ra, rn, rc, -, -, -, -, hh, -, -⟩ := hx.parts;obtain ⟨x0, x1, -, -⟩ := mrb_cell hh;clear ho hx hb hh;obtain ⟨b, bad⟩ := t;change wr.cell? ⟨g, 1, none⟩ = some (.bool bad) at x1;obtain ⟨ll, hll⟩ : ∃ m, l.length = m := ⟨_, rfl⟩;rw [hll] at hlj h1 HO;have LL := zH hll;have HNN := HN.out
  by_cases hlt : ll < n
  ·have hlt2 : (ll : Int) < (n : Int) := by omega
   cases bad with
   | true =>
    rw [hll];go_wp2_with fail
    go_ret
    rw [HRL.out, mN_bad, List.append_nil];exact ⟨_, rfl, HO.out, HX.out, HB.out⟩
   | false =>
    obtain ⟨i, rfl⟩ : ∃ i, j = i + 1 := ⟨j - 1, by omega⟩;have HRM : Hid (res = (l ++ [(mnum (b, false)).1] ++ (mN mnum i (mnum (b, false)).2).1, (mN mnum i (mnum (b, false)).2).2)) := zH (by rw [HRL.out, mN_more, List.append_assoc]; rfl);have HT1 := zH (Nat.le_trans (shrb_num (b, false)) HT.out);have KN := zH (mnum_any HX.out HT.out);clear HRL;generalize mnum (b, false) = q at *;rw [hll];go_wp2_with (first
     | (go_at_fn 98; refine KN.out.mono ?_; rintro e w2 ⟨v, rfl, hv, hx2, hb2⟩; obtain rfl : v = .int .i64 q.1 := hv
        have O2 := zH (HO.out.but flat_num hb2 HG.out);have G2 := zH (HB.out.trans hb2);have X2 := zH hx2;have S1 := zH (one_num w2 q.1);clear hx2 hb2 KN)
     | (at_builtin; refine wpList_append_el LNum rfl (.tmp 23) (.tmp 26) rfl w.heap.size rfl (O2.out.alloc _) rfl S1.out (fun _ _ h => h) (by rw [LL.out]; simp; omega) (by have := G2.out.size; simp; omega) ?_))
    intro v' w5 ho' hgr _;have O5 := zH ho';have G5 := zH ((G2.out.alloc HG.out _).grown hgr HG.out (fun j hj => (O2.out.lt j hj).1));have X5 := zH ((X2.out.below ((Below.refl _ _).alloc (Nat.le_refl _) _)).grown hgr (fun j hj => Nat.lt_of_lt_of_le HG.out (O2.out.lt j hj).1));obtain ⟨na, nc, hnv, hn1, hn2⟩ : ∃ na nc, v' = .slice na (ll + 1) nc ∧ (ll + 1 : Int) ≤ (nc : Int) ∧ (nc : Int) ≤ 9223372036854775807 := by
     obtain ⟨a, c, e, k1, k2, -⟩ := ho'.parts;rw [List.length_append, LL.out] at e k1;exact ⟨a, c, e, by simp at k1; omega, by omega⟩
    clear ho' hgr x0 x1;subst hnv;go_wp2_with fail
    go_roundw
    case rel => exact ⟨l ++ [q.1], i, q.2, by rw [List.length_append, LL.out]; simp; omega, HRM.out, HT1.out, O5.out, X5.out, G5.out⟩
    case measure => simp [lenOf] <;> omega
  ·have hlt2 : ¬ (ll : Int) < (n : Int) := by omega
   obtain rfl : j = 0 := by omega
   rw [hll];go_wp2_with fail
   go_ret
   rw [HRL.out, mN_zero, List.append_nil];exact ⟨_, rfl, HO.out, HX.out, HB.out⟩
theorem mlist_text {w : World} {g : Nat} {s : Rb} (hx : MrBox w g s) (hl : s.1.length ≤ 500000) (k : Nat) (hk : k ≤ 100000) : Calls Tryz.prog 142 #[.pointer (some ⟨g, 0, none⟩), .int .i64 k, .func (.func 143) #[.pointer (some ⟨g, 0, none⟩)] #[]] w (GivesM (fun W v l => OwnE LStr w.heap.size W v l) w g (mlist mtext k s)) := by
 have HG := zH hx.lt;have K0 := zH (mcount_any hx hl k);have HC := zH (mcount_le k s);have HT0 := zH (Nat.le_trans (shrb_count k s) hl);have HR : Hid (mlist mtext k s = mN mtext (mcount k s).1 (mcount k s).2) := zH rfl;have HK := zH hk;have eg : ∀ args w, (callFunc 143 args).run Tryz.prog w = .ok (.enter 143 args) w := enters_of Tryz.func143 (by kernel_rfl) rfl;clear hx hl hk;generalize mlist mtext k s = res at *;generalize mcount k s = q0 at *;obtain ⟨n, s0⟩ := q0;go_enter Tryz.func142, Tryz.ntmps142
 go_wp2_with fail
 refine K0.out.mono ?_;rintro e w1 ⟨v, rfl, hv, hx1, hb1⟩;obtain rfl : v = .int .i64 n := hv;have HX1 := zH hx1;have HB1 := zH hb1;have HN : Hid (n ≤ 100000) := zH (Nat.le_trans HC.out HK.out);clear hx1 hb1 K0;go_wp2_with fail
 go_loopw [8] (fun z wr => ∃ (l : List Txt) (j : Nat) (t : Rb), l.length + j = n ∧ Aside (res = (l ++ (mN mtext j t).1, (mN mtext j t).2)) ∧ Aside (t.1.length ≤ 500000) ∧ OwnE LStr w.heap.size wr z l ∧ MrBox wr g t ∧ But g w wr) (fun z _ => n - lenOf z)
 case atStart => exact ⟨[], n, s0, by simp, by rw [List.nil_append]; exact HR.out, HT0.out, OwnE.nil _ _, HX1.out, HB1.out⟩
 case round =>
  obtain ⟨l, j, t, hlj, HRL, HT, ho, hx, hb⟩ := hrel;have HO := zH ho;have HX := zH hx;have HB := zH hb;have HLJ := zH hlj;obtain ⟨la, lc, rfl, h1, h2, -, -⟩ := ho.parts;obtain ⟨ra, rn, rc, -, -, -, -, hh, -, -⟩ := hx.parts;obtain ⟨x0, x1, -, -⟩ := mrb_cell hh;clear ho hx hb hh;obtain ⟨b, bad⟩ := t;change wr.cell? ⟨g, 1, none⟩ = some (.bool bad) at x1;obtain ⟨ll, hll⟩ : ∃ m, l.length = m := ⟨_, rfl⟩;rw [hll] at hlj h1 HO;have LL := zH hll;have HNN := HN.out
  by_cases hlt : ll < n
  ·have hlt2 : (ll : Int) < (n : Int) := by omega
   cases bad with
   | true =>
    rw [hll];go_wp2_with fail
    go_ret
    rw [HRL.out, mN_bad, List.append_nil];exact ⟨_, rfl, HO.out, HX.out, HB.out⟩
   | false =>
    obtain ⟨i, rfl⟩ : ∃ i, j = i + 1 := ⟨j - 1, by omega⟩;have HRM : Hid (res = (l ++ [(mtext (b, false)).1] ++ (mN mtext i (mtext (b, false)).2).1, (mN mtext i (mtext (b, false)).2).2)) := zH (by rw [HRL.out, mN_more, List.append_assoc]; rfl);have HT1 := zH (Nat.le_trans (shrb_text (b, false)) HT.out);have KN := zH (mtext_any HX.out HT.out);clear HRL;generalize mtext (b, false) = q at *;rw [hll];go_wp2_with (first
     | (go_at_fn 143; refine KN.out.mono ?_; rintro e w2 ⟨v, rfl, hv, hx2, hb2⟩; obtain rfl : v = .string (bt q.1) := hv
        have O2 := zH (HO.out.but flat_str hb2 HG.out);have G2 := zH (HB.out.trans hb2);have X2 := zH hx2;have S1 := zH (one_str w2 q.1);clear hx2 hb2 KN)
     | (at_builtin; refine wpList_append_el LStr rfl (.tmp 23) (.tmp 26) rfl w.heap.size rfl (O2.out.alloc _) rfl S1.out (fun _ _ h => h) (by rw [LL.out]; simp; omega) (by have := G2.out.size; simp; omega) ?_))
    intro v' w5 ho' hgr _;have O5 := zH ho';have G5 := zH ((G2.out.alloc HG.out _).grown hgr HG.out (fun j hj => (O2.out.lt j hj).1));have X5 := zH ((X2.out.below ((Below.refl _ _).alloc (Nat.le_refl _) _)).grown hgr (fun j hj => Nat.lt_of_lt_of_le HG.out (O2.out.lt j hj).1));obtain ⟨na, nc, hnv, hn1, hn2⟩ : ∃ na nc, v' = .slice na (ll + 1) nc ∧ (ll + 1 : Int) ≤ (nc : Int) ∧ (nc : Int) ≤ 9223372036854775807 := by
     obtain ⟨a, c, e, k1, k2, -⟩ := ho'.parts;rw [List.length_append, LL.out] at e k1;exact ⟨a, c, e, by simp at k1; omega, by omega⟩
    clear ho' hgr x0 x1;subst hnv;go_wp2_with fail
    go_roundw
    case rel => exact ⟨l ++ [q.1], i, q.2, by rw [List.length_append, LL.out]; simp; omega, HRM.out, HT1.out, O5.out, X5.out, G5.out⟩
    case measure => simp [lenOf] <;> omega
  ·have hlt2 : ¬ (ll : Int) < (n : Int) := by omega
   obtain rfl : j = 0 := by omega
   rw [hll];go_wp2_with fail
   go_ret
   rw [HRL.out, mN_zero, List.append_nil];exact ⟨_, rfl, HO.out, HX.out, HB.out⟩
theorem mlist_item {w : World} {g : Nat} {s : Rb} (hx : MrBox w g s) (hl : s.1.length ≤ 500000) (k : Nat) (hk : k ≤ 100000) : Calls Tryz.prog 102 #[.pointer (some ⟨g, 0, none⟩), .int .i64 k, .func (.func 103) #[.pointer (some ⟨g, 0, none⟩)] #[]] w (GivesM (fun W v l => OwnE LItem w.heap.size W v l) w g (mlist mitem k s)) := by
 have HG := zH hx.lt;have K0 := zH (mcount_any hx hl k);have HC := zH (mcount_le k s);have HT0 := zH (Nat.le_trans (shrb_count k s) hl);have HR : Hid (mlist mitem k s = mN mitem (mcount k s).1 (mcount k s).2) := zH rfl;have HK := zH hk;have eg : ∀ args w, (callFunc 103 args).run Tryz.prog w = .ok (.enter 103 args) w := enters_of Tryz.func103 (by kernel_rfl) rfl;clear hx hl hk;generalize mlist mitem k s = res at *;generalize mcount k s = q0 at *;obtain ⟨n, s0⟩ := q0;go_enter Tryz.func102, Tryz.ntmps102
 go_wp2_with fail
 refine K0.out.mono ?_;rintro e w1 ⟨v, rfl, hv, hx1, hb1⟩;obtain rfl : v = .int .i64 n := hv;have HX1 := zH hx1;have HB1 := zH hb1;have HN : Hid (n ≤ 100000) := zH (Nat.le_trans HC.out HK.out);clear hx1 hb1 K0;go_wp2_with fail
 go_loopw [8] (fun z wr => ∃ (l : List PItem) (j : Nat) (t : Rb), l.length + j = n ∧ Aside (res = (l ++ (mN mitem j t).1, (mN mitem j t).2)) ∧ Aside (t.1.length ≤ 500000) ∧ OwnE LItem w.heap.size wr z l ∧ MrBox wr g t ∧ But g w wr) (fun z _ => n - lenOf z)
 case atStart => exact ⟨[], n, s0, by simp, by rw [List.nil_append]; exact HR.out, HT0.out, OwnE.nil _ _, HX1.out, HB1.out⟩
 case round =>
  obtain ⟨l, j, t, hlj, HRL, HT, ho, hx, hb⟩ := hrel;have HO := zH ho;have HX := zH hx;have HB := zH hb;have HLJ := zH hlj;obtain ⟨la, lc, rfl, h1, h2, -, -⟩ := ho.parts;obtain ⟨ra, rn, rc, -, -, -, -, hh, -, -⟩ := hx.parts;obtain ⟨x0, x1, -, -⟩ := mrb_cell hh;clear ho hx hb hh;obtain ⟨b, bad⟩ := t;change wr.cell? ⟨g, 1, none⟩ = some (.bool bad) at x1;obtain ⟨ll, hll⟩ : ∃ m, l.length = m := ⟨_, rfl⟩;rw [hll] at hlj h1 HO;have LL := zH hll;have HNN := HN.out
  by_cases hlt : ll < n
  ·have hlt2 : (ll : Int) < (n : Int) := by omega
   cases bad with
   | true =>
    rw [hll];go_wp2_with fail
    go_ret
    rw [HRL.out, mN_bad, List.append_nil];exact ⟨_, rfl, HO.out, HX.out, HB.out⟩
   | false =>
    obtain ⟨i, rfl⟩ : ∃ i, j = i + 1 := ⟨j - 1, by omega⟩;have HRM : Hid (res = (l ++ [(mitem (b, false)).1] ++ (mN mitem i (mitem (b, false)).2).1, (mN mitem i (mitem (b, false)).2).2)) := zH (by rw [HRL.out, mN_more, List.append_assoc]; rfl);have HT1 := zH (Nat.le_trans (shrb_item (b, false)) HT.out);have KN := zH (mitem_any HX.out HT.out);clear HRL;generalize mitem (b, false) = q at *;rw [hll];go_wp2_with (first
     | (go_at_fn 103; refine KN.out.mono ?_; rintro e w2 ⟨v, rfl, hv, hx2, hb2⟩; obtain rfl : v = .agg #[.string (bt q.1.key), .string (bt q.1.field), .int .i64 q.1.kind, .string (bt q.1.elem), .int .i64 q.1.n, .int .i64 q.1.dot.node, .int .i64 q.1.dot.seq, .int .i64 q.1.dot.pos] := hv
        have O2 := zH (HO.out.but flat_item hb2 HG.out);have G2 := zH (HB.out.trans hb2);have X2 := zH hx2;have S1 := zH (one_item w2 q.1);clear hx2 hb2 KN)
     | (at_builtin; refine wpList_append_el LItem rfl (.tmp 23) (.tmp 26) rfl w.heap.size rfl (O2.out.alloc _) rfl S1.out (fun _ _ h => h) (by rw [LL.out]; simp; omega) (by have := G2.out.size; simp; omega) ?_))
    intro v' w5 ho' hgr _;have O5 := zH ho';have G5 := zH ((G2.out.alloc HG.out _).grown hgr HG.out (fun j hj => (O2.out.lt j hj).1));have X5 := zH ((X2.out.below ((Below.refl _ _).alloc (Nat.le_refl _) _)).grown hgr (fun j hj => Nat.lt_of_lt_of_le HG.out (O2.out.lt j hj).1));obtain ⟨na, nc, hnv, hn1, hn2⟩ : ∃ na nc, v' = .slice na (ll + 1) nc ∧ (ll + 1 : Int) ≤ (nc : Int) ∧ (nc : Int) ≤ 9223372036854775807 := by
     obtain ⟨a, c, e, k1, k2, -⟩ := ho'.parts;rw [List.length_append, LL.out] at e k1;exact ⟨a, c, e, by simp at k1; omega, by omega⟩
    clear ho' hgr x0 x1;subst hnv;go_wp2_with fail
    go_roundw
    case rel => exact ⟨l ++ [q.1], i, q.2, by rw [List.length_append, LL.out]; simp; omega, HRM.out, HT1.out, O5.out, X5.out, G5.out⟩
    case measure => simp [lenOf] <;> omega
  ·have hlt2 : ¬ (ll : Int) < (n : Int) := by omega
   obtain rfl : j = 0 := by omega
   rw [hll];go_wp2_with fail
   go_ret
   rw [HRL.out, mN_zero, List.append_nil];exact ⟨_, rfl, HO.out, HX.out, HB.out⟩
end Go.Proofs.YtfapkepfngddlaaGreat
