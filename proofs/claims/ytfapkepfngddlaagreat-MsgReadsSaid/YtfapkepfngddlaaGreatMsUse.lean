/- What the program's own Read of messages leaves. (Written by gen-msreadp.py.) Stage 17's walks: sizes of what the laws look at; the laws' own function awake. -/
import Derived.Test.YtfapkepfngddlaaGreatMsMsg
import Derived.Test.YtfapkepfngddlaaGreatMsFmC
import Derived.Test.YtfapkepfngddlaaGreatMsForm
import Derived.Test.YtfapkepfngddlaaGreatMsFrm
import Derived.Test.YtfapkepfngddlaaGreatPaLists
import Derived.Deep.Cut
import Derived.Deep.DeepCutAuto
set_option maxRecDepth 100000
set_option maxHeartbeats 64000000
namespace Go.Proofs.YtfapkepfngddlaaGreat
open Go.RowKit Plain
set_option linter.unusedVariables false
theorem msFitP_raw {m : PMsg} (h : msgC0.ok m) : MsFitP m := by
 obtain ⟨⟨h1, h2, h3, ⟨v1, v2⟩, ⟨f1, f2⟩, ⟨z1, z2⟩, ⟨n1, n2⟩, ⟨i1, i2⟩, ⟨t1, t2⟩⟩, -⟩ := h;refine ⟨Nat.le_trans v1 (by decide), Nat.le_trans f1 (by decide), Nat.le_trans z1 (by decide), Nat.le_trans n1 (by decide), Nat.le_trans i1 (by decide), fun x hx => ?_, Nat.le_trans t1 (by decide), fun t ht => fitTx_back (t2 t ht)⟩;obtain ⟨⟨-, -, -, -, -, k⟩, -⟩ := i2 x hx;exact dotC_fit k
theorem vMs.is {B : Nat} {W : World} {v : Value} {m : PMsg} (h : vMs B W v m) : IsMsg W v m := by
 obtain ⟨va, vn, vc, fa, fn, fc, za, zn, zc, na, nn, nc, ia, im, ic, la, ln, lc, rfl, h1, h2, h3, h4, h5, h6⟩ := h;exact ⟨_, _, _, _, _, _, rfl, h1.seq, h2.seq, strT_of h3.seq, strT_of h4.seq, h5.seq, h6.own.seq⟩
theorem vMs.below {B : Nat} {W W' : World} {v : Value} {m : PMsg} (h : vMs B W v m) (hb : Below W.heap.size W W') : vMs B W' v m := by
 obtain ⟨va, vn, vc, fa, fn, fc, za, zn, zc, na, nn, nc, ia, im, ic, la, ln, lc, rfl, h1, h2, h3, h4, h5, h6⟩ := h;exact ⟨_, _, _, _, _, _, _, _, _, _, _, _, _, _, _, _, _, _, rfl, h1.below hb (Nat.le_refl _), h2.below hb (Nat.le_refl _), h3.below hb (Nat.le_refl _), h4.below hb (Nat.le_refl _), h5.below hb (Nat.le_refl _), h6.below hb (Nat.le_refl _)⟩
theorem vMs.but {B g : Nat} {W W' : World} {v : Value} {m : PMsg} (h : vMs B W v m) (hb : But g W W') (hg : g < B) : vMs B W' v m := by
 obtain ⟨va, vn, vc, fa, fn, fc, za, zn, zc, na, nn, nc, ia, im, ic, la, ln, lc, rfl, h1, h2, h3, h4, h5, h6⟩ := h;exact ⟨_, _, _, _, _, _, _, _, _, _, _, _, _, _, _, _, _, _, rfl, h1.but flat_int hb hg, h2.but flat_int hb hg, h3.but flat_str hb hg, h4.but flat_str hb hg, h5.but flat_item hb hg, h6.but hb hg fun b hb e => by omega⟩
def GivesMRead (w : World) (res : Option PMsg) (e : Ending) (w' : World) : Prop := match res with
 | some m => ∃ v, e = .returned (.tuple #[v, .int .i64 0]) ∧ IsMsg w' v m ∧ Below w.heap.size w w'
 | none => e = .returned (.tuple #[.agg #[.int .i64 0, .int .i64 0, .bool false, .slice none 0 0, .slice none 0 0, .slice none 0 0, .slice none 0 0, .slice none 0 0, .slice none 0 0], .int .i64 2]) ∧ Below w.heap.size w w'
theorem mreadP {b : Value} {bs : Bytes} {w : World} (hb : By.Seq w b bs) (hl : bs.length ≤ 500000) (res : Option PMsg) (hr : mread bs = res) : Calls Tryz.prog 15 #[b] w (GivesMRead w res) := by
 obtain ⟨ba, bn, bc, rfl, hbn, g1, g2, hs⟩ := byParts hb;have hbA : Below w.heap.size w (w.alloc (.cells #[.int .i64 0, .int .i64 0, .bool false, .slice none 0 0, .slice none 0 0, .slice none 0 0, .slice none 0 0, .slice none 0 0, .slice none 0 0] 28)) := (Below.refl _ _).alloc (Nat.le_refl _) _;have hbB : Below w.heap.size w ((w.alloc (.cells #[.int .i64 0, .int .i64 0, .bool false, .slice none 0 0, .slice none 0 0, .slice none 0 0, .slice none 0 0, .slice none 0 0, .slice none 0 0] 28)).alloc (.cells #[.slice ba bn bc, .bool false] 77)) := hbA.alloc hbA.size _;have hbC : Below (w.heap.size + 1) (w.alloc (.cells #[.int .i64 0, .int .i64 0, .bool false, .slice none 0 0, .slice none 0 0, .slice none 0 0, .slice none 0 0, .slice none 0 0, .slice none 0 0] 28)) ((w.alloc (.cells #[.int .i64 0, .int .i64 0, .bool false, .slice none 0 0, .slice none 0 0, .slice none 0 0, .slice none 0 0, .slice none 0 0, .slice none 0 0] 28)).alloc (.cells #[.slice ba bn bc, .bool false] 77)) := (Below.refl _ _).alloc (by simp) _;have hX : MrBox ((w.alloc (.cells #[.int .i64 0, .int .i64 0, .bool false, .slice none 0 0, .slice none 0 0, .slice none 0 0, .slice none 0 0, .slice none 0 0, .slice none 0 0] 28)).alloc (.cells #[.slice ba bn bc, .bool false] 77)) (w.heap.size + 1) (bs, false) := by
  refine ⟨ba, bc, ?_, ?_, fun hp ad he => ?_⟩
  ·have h := heap_alloc_new (w.alloc (.cells #[.int .i64 0, .int .i64 0, .bool false, .slice none 0 0, .slice none 0 0, .slice none 0 0, .slice none 0 0, .slice none 0 0, .slice none 0 0] 28)) (.cells #[.slice ba bn bc, .bool false] 77)
   rw [show (w.alloc (.cells #[.int .i64 0, .int .i64 0, .bool false, .slice none 0 0, .slice none 0 0, .slice none 0 0, .slice none 0 0, .slice none 0 0, .slice none 0 0] 28)).heap.size = w.heap.size + 1 by simp] at h
   show _ = some (mrb ba bs.length bc false)
   rw [← hbn];exact h
  ·show By.Seq _ (.slice ba bs.length bc) bs
   rw [← hbn];exact hs.below hbB
  ·obtain ⟨b', o', c', hv, -, -, -, hc⟩ := hs.spot hp
   simp only [Value.slice.injEq] at hv
   rw [hv.1] at he
   cases he
   have := World.block_lt_of_cell? w _ (hc 0 hp)
   show b' < w.heap.size + 1
   change b' < w.heap.size at this;omega
 have KT := zH (mmsg_any hX hl);have RZ : Hid (((w.alloc (.cells #[.int .i64 0, .int .i64 0, .bool false, .slice none 0 0, .slice none 0 0, .slice none 0 0, .slice none 0 0, .slice none 0 0, .slice none 0 0] 28)).alloc (.cells #[.slice ba bn bc, .bool false] 77)).heap[w.heap.size]? = some (.cells #[.int .i64 0, .int .i64 0, .bool false, .slice none 0 0, .slice none 0 0, .slice none 0 0, .slice none 0 0, .slice none 0 0, .slice none 0 0] 28 (0, 0))) := zH ((hbC.block w.heap.size (by omega)).trans (heap_alloc_new w _));have ZA : Hid (((w.alloc (.cells #[.int .i64 0, .int .i64 0, .bool false, .slice none 0 0, .slice none 0 0, .slice none 0 0, .slice none 0 0, .slice none 0 0, .slice none 0 0] 28)).alloc (.cells #[.slice ba bn bc, .bool false] 77)).heap.size = w.heap.size + 2) := zH (by simp);have GA := zH hbB;have HB := zH (fun h => mread_bad (b := bs) h);have HD := zH (fun h => mread_done (b := bs) h);rw [hr] at HB HD;have HBL : Hid ((mmsg (bs, false)).2.1.length ≤ 500000) := zH (Nat.le_trans (shrb_msg (bs, false)) hl);clear hb hl hs hX hbA hbB hbC hr hbn;generalize mmsg (bs, false) = q at *;obtain ⟨x, rest, k⟩ := q;go_enter Tryz.func15, Tryz.ntmps15
 go_upto_region 2 with fail
 generalize ((w.alloc (.cells #[.int .i64 0, .int .i64 0, .bool false, .slice none 0 0, .slice none 0 0, .slice none 0 0, .slice none 0 0, .slice none 0 0, .slice none 0 0] 28)).alloc (.cells #[.slice ba bn bc, .bool false] 77)) = wa at *;go_wp2_with fail
 refine KT.out.mono ?_;rintro e w1 ⟨v, rfl, ⟨va, vn, vc, fa, fn, fc, za, zn, zc, na, nn, nc, ia, im, ic, la, ln, lc, rfl, o1, o2, o3, o4, o5, o6⟩, hx, hbt⟩;have RZ1 := zH ((hbt.block w.heap.size (by rw [ZA.out]; omega) (by omega)).trans RZ.out);have GB := zH (GA.out.trans (hbt.below.mono (by omega)));have Z1 : Hid (w.heap.size + 2 ≤ w1.heap.size) := zH (by have := hbt.size; rw [ZA.out] at this; exact this);have hba := zB w1 (.cells #[.int .i64 x.kind, .int .i64 x.ticket, .bool x.whole, .slice va vn vc, .slice fa fn fc, .slice za zn zc, .slice na nn nc, .slice ia im ic, .slice la ln lc] 28);have M1 : vMs (w.heap.size + 2) w1 (.agg #[.int .i64 x.kind, .int .i64 x.ticket, .bool x.whole, .slice va vn vc, .slice fa fn fc, .slice za zn zc, .slice na nn nc, .slice ia im ic, .slice la ln lc]) x := by
  rw [ZA.out] at o1 o2 o3 o4 o5 o6;exact ⟨_, _, _, _, _, _, _, _, _, _, _, _, _, _, _, _, _, _, rfl, o1, o2, o3, o4, o5, o6⟩
 have M2 := zH (M1.below hba);have X2 := zH (hx.below hba);have RZ2 := zH ((hba.block w.heap.size (by have := Z1.out; omega)).trans RZ1.out);have G2 : Hid (Below w.heap.size w (w1.alloc (.cells #[.int .i64 x.kind, .int .i64 x.ticket, .bool x.whole, .slice va vn vc, .slice fa fn fc, .slice za zn zc, .slice na nn nc, .slice ia im ic, .slice la ln lc] 28))) := zH (GB.out.alloc GB.out.size _);have Z2 : Hid (w.heap.size + 2 ≤ (w1.alloc (.cells #[.int .i64 x.kind, .int .i64 x.ticket, .bool x.whole, .slice va vn vc, .slice fa fn fc, .slice za zn zc, .slice na nn nc, .slice ia im ic, .slice la ln lc] 28)).heap.size) := zH (by have := Z1.out; simp; omega);have T2 : Hid ((w1.alloc (.cells #[.int .i64 x.kind, .int .i64 x.ticket, .bool x.whole, .slice va vn vc, .slice fa fn fc, .slice za zn zc, .slice na nn nc, .slice ia im ic, .slice la ln lc] 28)).heap[w1.heap.size]? = some (.cells #[.int .i64 x.kind, .int .i64 x.ticket, .bool x.whole, .slice va vn vc, .slice fa fn fc, .slice za zn zc, .slice na nn nc, .slice ia im ic, .slice la ln lc] 28 (0, 0))) := zH (heap_alloc_new _ _);have ZT : Hid (w1.heap.size < (w1.alloc (.cells #[.int .i64 x.kind, .int .i64 x.ticket, .bool x.whole, .slice va vn vc, .slice fa fn fc, .slice za zn zc, .slice na nn nc, .slice ia im ic, .slice la ln lc] 28)).heap.size) := zH (by simp);have HTB : Hid (w1.heap.size ≠ w.heap.size) := zH (by have := Z1.out; omega);clear o1 o2 o3 o4 o5 o6 hx hbt hba M1 KT RZ1 GB RZ;go_upto_region 3 with fail
 generalize (w1.alloc (.cells #[.int .i64 x.kind, .int .i64 x.ticket, .bool x.whole, .slice va vn vc, .slice fa fn fc, .slice za zn zc, .slice na nn nc, .slice ia im ic, .slice la ln lc] 28)) = w2 at *;generalize w1.heap.size = tb at *;obtain ⟨ra, rn, rc, hrn, r1, r2, r0, hrh, hrs, -⟩ := X2.out.parts;obtain ⟨x0, x1, -, -⟩ := mrb_cell hrh;change rn = rest.length at hrn;change w2.cell? ⟨w.heap.size + 1, 1, none⟩ = some (.bool k) at x1;have HRN := zH hrn;clear hrs hrn hrh r0
 cases k with
 | true =>
  obtain rfl : res = none := HB.out rfl;obtain ⟨⟨y0, y1, y2, y3, y4, y5, y6, y7, y8⟩, f0, f1, f2, f3, f4, f5, f6, f7, f8⟩ := tcells9 RZ2.out;have FC := zH (tcells9 (ts9_block (v0 := .int .i64 0) (v1 := .int .i64 0) (v2 := .bool false) (v3 := .slice none 0 0) (v4 := .slice none 0 0) (v5 := .slice none 0 0) (v6 := .slice none 0 0) (v7 := .slice none 0 0) (v8 := .slice none 0 0) RZ2.out)).1;have FB := zH (ts9_below (v0 := .int .i64 0) (v1 := .int .i64 0) (v2 := .bool false) (v3 := .slice none 0 0) (v4 := .slice none 0 0) (v5 := .slice none 0 0) (v6 := .slice none 0 0) (v7 := .slice none 0 0) (v8 := .slice none 0 0) G2.out (Nat.le_refl w.heap.size));unfold ts9 at FC FB;go_wp2_with fail
  obtain ⟨z0, z1, z2, z3, z4, z5, z6, z7, z8⟩ := FC.out;refine bodyPost_ret (v := .tuple #[.agg #[.int .i64 0, .int .i64 0, .bool false, .slice none 0 0, .slice none 0 0, .slice none 0 0, .slice none 0 0, .slice none 0 0, .slice none 0 0], .int .i64 2]) (by simp [results, Tryz.results15, go_sem, z0, z1, z2, z3, z4, z5, z6, z7, z8]) rfl ?_;exact ⟨rfl, FB.out⟩
 | false =>
  obtain ⟨hok, hres⟩ := HD.out rfl
  by_cases hn : 0 < rn
  ·have hne : ¬ (rest = [] ∧ mformedM x = true) := fun h => by have := HRN.out; rw [h.1] at this; simp at this; omega
   rw [if_neg hne] at hres;obtain rfl : res = none := hres;have hn2 : (0 : Int) < (rn : Int) := by omega
   clear hne hok;obtain ⟨⟨y0, y1, y2, y3, y4, y5, y6, y7, y8⟩, f0, f1, f2, f3, f4, f5, f6, f7, f8⟩ := tcells9 RZ2.out;have FC := zH (tcells9 (ts9_block (v0 := .int .i64 0) (v1 := .int .i64 0) (v2 := .bool false) (v3 := .slice none 0 0) (v4 := .slice none 0 0) (v5 := .slice none 0 0) (v6 := .slice none 0 0) (v7 := .slice none 0 0) (v8 := .slice none 0 0) RZ2.out)).1;have FB := zH (ts9_below (v0 := .int .i64 0) (v1 := .int .i64 0) (v2 := .bool false) (v3 := .slice none 0 0) (v4 := .slice none 0 0) (v5 := .slice none 0 0) (v6 := .slice none 0 0) (v7 := .slice none 0 0) (v8 := .slice none 0 0) G2.out (Nat.le_refl w.heap.size));unfold ts9 at FC FB;go_wp2_with fail
   obtain ⟨z0, z1, z2, z3, z4, z5, z6, z7, z8⟩ := FC.out;refine bodyPost_ret (v := .tuple #[.agg #[.int .i64 0, .int .i64 0, .bool false, .slice none 0 0, .slice none 0 0, .slice none 0 0, .slice none 0 0, .slice none 0 0, .slice none 0 0], .int .i64 2]) (by simp [results, Tryz.results15, go_sem, z0, z1, z2, z3, z4, z5, z6, z7, z8]) rfl ?_;exact ⟨rfl, FB.out⟩
  ·have hn2 : ¬ (0 : Int) < (rn : Int) := by omega
   have hre : rest = [] := List.eq_nil_of_length_eq_zero (by have := HRN.out; omega);have FX := msFitP_raw hok;have KF := zH (mformedP M2.out.is FX _ rfl);have HRES : Hid (res = if mformedM x = true then some x else none) := zH (by rw [hres]; simp [hre]);obtain ⟨t0, t1, t2, t3, t4, t5, t6, t7, t8⟩ := nine_cells T2.out;clear hok hres hre HB HD;generalize mformedM x = r at *
   cases r with
   | false =>
    obtain rfl : res = none := HRES.out;go_wp2_with fail
    refine KF.out.mono ?_;rintro e w3 ⟨rfl, hb3⟩;have RZ3 := zH ((hb3.block w.heap.size (by have := Z2.out; omega)).trans RZ2.out);have G3 := zH (G2.out.trans (hb3.mono G2.out.size));clear hb3 KF t0 t1 t2 t3 t4 t5 t6 t7 t8 x0 x1;obtain ⟨⟨y0, y1, y2, y3, y4, y5, y6, y7, y8⟩, f0, f1, f2, f3, f4, f5, f6, f7, f8⟩ := tcells9 RZ3.out;have FC := zH (tcells9 (ts9_block (v0 := .int .i64 0) (v1 := .int .i64 0) (v2 := .bool false) (v3 := .slice none 0 0) (v4 := .slice none 0 0) (v5 := .slice none 0 0) (v6 := .slice none 0 0) (v7 := .slice none 0 0) (v8 := .slice none 0 0) RZ3.out)).1;have FB := zH (ts9_below (v0 := .int .i64 0) (v1 := .int .i64 0) (v2 := .bool false) (v3 := .slice none 0 0) (v4 := .slice none 0 0) (v5 := .slice none 0 0) (v6 := .slice none 0 0) (v7 := .slice none 0 0) (v8 := .slice none 0 0) G3.out (Nat.le_refl w.heap.size));unfold ts9 at FC FB;go_wp2_with fail
    obtain ⟨z0, z1, z2, z3, z4, z5, z6, z7, z8⟩ := FC.out;refine bodyPost_ret (v := .tuple #[.agg #[.int .i64 0, .int .i64 0, .bool false, .slice none 0 0, .slice none 0 0, .slice none 0 0, .slice none 0 0, .slice none 0 0, .slice none 0 0], .int .i64 2]) (by simp [results, Tryz.results15, go_sem, z0, z1, z2, z3, z4, z5, z6, z7, z8]) rfl ?_;exact ⟨rfl, FB.out⟩
   | true =>
    obtain rfl : res = some x := HRES.out;go_wp2_with fail
    refine KF.out.mono ?_;rintro e w3 ⟨rfl, hb3⟩;have RZ3 := zH ((hb3.block w.heap.size (by have := Z2.out; omega)).trans RZ2.out);have T3 := zH ((hb3.block tb ZT.out).trans T2.out);have G3 := zH (G2.out.trans (hb3.mono G2.out.size));have M3 := zH (M2.out.below hb3);clear hb3 KF t0 t1 t2 t3 t4 t5 t6 t7 t8 x0 x1;obtain ⟨t0, t1, t2, t3, t4, t5, t6, t7, t8⟩ := nine_cells T3.out;obtain ⟨⟨y0, y1, y2, y3, y4, y5, y6, y7, y8⟩, f0, f1, f2, f3, f4, f5, f6, f7, f8⟩ := tcells9 RZ3.out;have FC := zH (tcells9 (ts9_block (v0 := .int .i64 x.kind) (v1 := .int .i64 x.ticket) (v2 := .bool x.whole) (v3 := .slice va vn vc) (v4 := .slice fa fn fc) (v5 := .slice za zn zc) (v6 := .slice na nn nc) (v7 := .slice ia im ic) (v8 := .slice la ln lc) RZ3.out)).1;have FB := zH (ts9_below (v0 := .int .i64 x.kind) (v1 := .int .i64 x.ticket) (v2 := .bool x.whole) (v3 := .slice va vn vc) (v4 := .slice fa fn fc) (v5 := .slice za zn zc) (v6 := .slice na nn nc) (v7 := .slice ia im ic) (v8 := .slice la ln lc) G3.out (Nat.le_refl w.heap.size));have FV := zH ((M3.out.but (ts9_bare w3 w.heap.size (.int .i64 x.kind) (.int .i64 x.ticket) (.bool x.whole) (.slice va vn vc) (.slice fa fn fc) (.slice za zn zc) (.slice na nn nc) (.slice ia im ic) (.slice la ln lc)) (by omega)).is);unfold ts9 at FC FB FV;go_wp2_with fail
    obtain ⟨z0, z1, z2, z3, z4, z5, z6, z7, z8⟩ := FC.out;refine bodyPost_ret (v := .tuple #[.agg #[.int .i64 x.kind, .int .i64 x.ticket, .bool x.whole, .slice va vn vc, .slice fa fn fc, .slice za zn zc, .slice na nn nc, .slice ia im ic, .slice la ln lc], .int .i64 0]) (by simp [results, Tryz.results15, go_sem, z0, z1, z2, z3, z4, z5, z6, z7, z8]) rfl ?_;exact ⟨_, rfl, FV.out, FB.out⟩
theorem mfits_of {m : PMsg} (h : msgOk m) : mfits m :=
 ⟨fun x hx => i64_in (h.2.2.2.2.1 x hx).2.1, fun t ht => fits_effs (h.2.2.2.2.2 t ht)⟩
theorem fitT_short {xs : List Txt} (h : shortB xs = true) : FitT xs ∧ xs.length ≤ 60 := by
 obtain ⟨h1, h2⟩ := short_iff.1 h;exact ⟨fun t ht => by have := h2 t ht; omega, h1⟩
structure MsSm (m : PMsg) : Prop where
 p : MsFitP m
 r : MsFit m
 n : mfits m
 i : m.items.length ≤ 60
 t : m.txns.length ≤ 24
theorem msFit_read {b : Bytes} {m : PMsg} (h : mread b = some m) : MsFitP m ∧ MsFit m ∧ mfits m := by
 obtain ⟨hf, hp, ho⟩ := mread_is h;have F := mformedM_iff.1 hf;have P := msFitP_raw ho.1;obtain ⟨z1, z2⟩ := zoneB_parts F.zone;obtain ⟨n1, n2⟩ := zoneB_parts F.want;have hn : mfits m := by
  obtain ⟨⟨⟨-, -, -, -, -, -, -, ⟨-, i2⟩, ⟨-, t2⟩⟩, -⟩, -⟩ := ho;refine ⟨fun x hx => ?_, fun t ht => txnC_fits (t2 t ht)⟩;obtain ⟨⟨-, -, -, -, k, -⟩, -⟩ := i2 x hx;exact k
 refine ⟨P, ⟨P.v, P.f, fun s hs => by have := z2 s hs; omega, P.z, fun s hs => by have := n2 s hs; omega, P.n, P.il, fun x hx => ?_, P.tl, fun t ht => ?_⟩, hn⟩
 ·obtain ⟨-, h1, h2, -⟩ := item_parts (mayI_parts (F.items x hx)).1
  omega
 ·have hf := P.t t ht
  obtain ⟨h1, h2, h3, h4, h5⟩ := tformed_parts.1 (F.txns t ht);have hr : 0 ≤ t.node ∧ t.node ≤ 7 ∧ 1 ≤ t.seq ∧ t.seq ≤ 1073741824 := by
   unfold inRange at h1;exact of_decide_eq_true h1
  have hq : ∀ e ∈ t.effs, eformedB t.node t.seq e = true := by
   unfold rightB at h4;rw [Bool.and_eq_true, List.all_eq_true] at h4;exact h4.1
  exact ⟨by have := hf.deps; omega, by have := hf.effs; omega, by omega, fun e he => by have := hf.drops e he; omega, fun e he => by have := (eff_parts (hq e he)).1; omega, fun e he => by have := (eff_parts (hq e he)).2.1; omega⟩
theorem many_len {α : Type} (c : Codec α) (k : Nat) : ∀ l : List α, (∀ a ∈ l, k ≤ (c.put a).length) → l.length * k ≤ (putAll c l).length
 | [], _ => by simp
 | a :: l, h => by
  rw [putAll_cons, List.length_append, List.length_cons, Nat.add_mul, Nat.one_mul];have h1 := h a List.mem_cons_self;have h2 := many_len c k l fun x hx => h x (List.mem_cons_of_mem _ hx)
  omega
theorem item_least (x : PItem) : 8 ≤ (itemC.put x).length := by
 show 8 ≤ (textC.put x.key ++ (textC.put x.field ++ (numI.put x.kind ++ (textC.put x.elem ++ (iform x.n ++ dotC.put x.dot))))).length
 simp only [List.length_append]
 have := iform_len x.n;omega
theorem txn_least (t : PTxn) : 4 ≤ (txnC.put t).length := by
 show 4 ≤ (form t.node.toNat ++ (form t.seq.toNat ++ ((form t.deps.length ++ putAll numI t.deps) ++ (form t.effs.length ++ putAll effC t.effs)))).length
 simp only [List.length_append]
 have h1 := form_pos t.node.toNat;have h2 := form_pos t.seq.toNat;have h3 := form_pos t.deps.length;have h4 := form_pos t.effs.length;omega
theorem msg_few {m : PMsg} (h : (msgC.put m).length ≤ 4000) : m.items.length ≤ 1000 ∧ m.txns.length ≤ 1000 ∧ (m.txns.flatMap txnC.put).length ≤ 630000 := by
 change (numI.put m.kind ++ (numI.put m.ticket ++ (wholeC.put m.whole ++ (vecC.put m.vec ++ (vecC.put m.from_ ++ (zoneC.put m.zone ++ (zoneC.put m.want ++ ((form m.items.length ++ putAll itemC m.items) ++ (form m.txns.length ++ putAll txnC m.txns))))))))).length ≤ _ at h;simp only [List.length_append] at h
 have h1 := many_len itemC 8 m.items fun x _ => item_least x
 have h2 := many_len txnC 4 m.txns fun t _ => txn_least t
 refine ⟨by omega, by omega, ?_⟩;change (putAll txnC m.txns).length ≤ _;omega
theorem read_form {b : Bytes} {m : PMsg} (h : mread b = some m) : mformedM m = true ∧ b = pmsg m ∧ 0 < b.length := by
 obtain ⟨h1, h2, h3⟩ := mread_is h;refine ⟨h1, by rw [pmsg_put]; exact h2.symm, ?_⟩;rw [← h2]
 show 0 < (form m.kind.toNat ++ _).length
 rw [List.length_append];have := form_pos m.kind.toNat;omega
theorem read_few {b : Bytes} {m : PMsg} (h : mread b = some m) (hl : b.length ≤ 4000) : m.items.length ≤ 1000 ∧ m.txns.length ≤ 1000 ∧ (m.txns.flatMap txnC.put).length ≤ 630000 := by
 obtain ⟨h1, h2, h3⟩ := mread_is h;exact msg_few (by rw [h2]; exact hl)
theorem zero_is (w : World) : IsMsg w (.agg #[.int .i64 0, .int .i64 0, .bool false, .slice none 0 0, .slice none 0 0, .slice none 0 0, .slice none 0 0, .slice none 0 0, .slice none 0 0]) noMsg :=
 ⟨_, _, _, _, _, _, rfl, SeqE.nil _, SeqE.nil _, SeqT.nil _, SeqT.nil _, SeqE.nil _, SeqE.nil _⟩
def mOne : PMsg := ⟨5, 0, false, [1, 0, 2], [], [], [], [], []⟩
theorem mOne_formed : mformedM mOne = true := by decide +kernel
theorem mOne_fit : MsFitP mOne := ⟨by simp [mOne], by simp [mOne], by simp [mOne], by simp [mOne], by simp [mOne], fun x hx => absurd hx (by simp [mOne]), by simp [mOne], fun x hx => absurd hx (by simp [mOne])⟩
theorem mOne_fits : mfits mOne := ⟨fun x hx => absurd hx (by simp [mOne]), fun x hx => absurd hx (by simp [mOne])⟩
theorem mOne_put : pmsg mOne = [5#8, 0#8, 0#8, 3#8, 1#8, 0#8, 2#8, 0#8, 0#8, 0#8, 0#8, 0#8] := by
 have f0 : form 0 = [0#8] := form_low (by decide);have f1 : form 1 = [1#8] := form_low (by decide);have f2 : form 2 = [2#8] := form_low (by decide);have f3 : form 3 = [3#8] := form_low (by decide);have f5 : form 5 = [5#8] := form_low (by decide);simp [pmsg, pvec, pzone, pnums, ptexts, mOne, flagN, f0, f1, f2, f3, f5]
theorem mOne_read : mread [5#8, 0#8, 0#8, 3#8, 1#8, 0#8, 2#8, 0#8, 0#8, 0#8, 0#8, 0#8] = some mOne := by
 rw [← mOne_put, pmsg_put];exact mread_put mOne_formed mOne_fits
theorem msawake_any (w : World) : Calls Tryz.prog 8 #[] w (GivesB w true) := by
 have G0 := zH (zB w (.cells #[.int .i64 1, .int .i64 0, .int .i64 2] 3));have SL : SeqE LInt (w.alloc (.cells #[.int .i64 1, .int .i64 0, .int .i64 2] 3)) (.slice (some ⟨w.heap.size, 0, none⟩) 3 3) [1, 0, 2] := (lit_ints w #[.int .i64 1, .int .i64 0, .int .i64 2] [1, 0, 2] (.slice none 0 0) rfl (by simp) (by simp [Value.ownBlock])).mono fun b hb => hb.1
 have KP := zH (mputP (m := mOne) (v := .agg #[.int .i64 5, .int .i64 0, .bool false, .slice (some ⟨w.heap.size, 0, none⟩) 3 3, .slice none 0 0, .slice none 0 0, .slice none 0 0, .slice none 0 0, .slice none 0 0]) ⟨_, _, _, _, _, _, rfl, SL, SeqE.nil _, SeqT.nil _, SeqT.nil _, SeqE.nil _, SeqE.nil _⟩ mOne_fit mOne_fits (by simp [mOne]) (by simp [mOne]));clear SL;go_enter Tryz.func8, Tryz.ntmps8
 go_wp2_with fail
 refine KP.out.mono ?_;intro e w2 hg;obtain ⟨v, rfl, ho⟩ := hg.1 mOne_formed;have G2 := zH (G0.out.trans (hg.2.2.mono G0.out.size));rw [mOne_put] at ho;have SO := zH ho.seq;clear hg ho KP;obtain ⟨a, n, c, rfl, hn, -, -, hs⟩ := byParts SO.out;replace SO := zH hs;obtain rfl : n = 12 := hn;clear hs;have KR := mreadP SO.out (by simp) _ mOne_read;go_wp2_with fail
 refine KR.mono ?_;rintro e w3 ⟨u, rfl, hu, hb⟩;replace SO := zH (SO.out.below hb);replace G2 := zH (G2.out.trans (hb.mono G2.out.size));clear hb KR;obtain ⟨va, vn, vc, fa, fn, fc, za, zn, zc, na, nn, nc, ia, im, ic, la, ln, lc, rfl, H⟩ := hu.slices;obtain rfl : 3 = vn := H.v.dims.1;have hb := zB w3 (.cells #[.int .i64 mOne.kind, .int .i64 mOne.ticket, .bool mOne.whole, .slice va 3 vc, .slice fa fn fc, .slice za zn zc, .slice na nn nc, .slice ia im ic, .slice la ln lc] 28);have TB := zH (msbox_new H);replace SO := zH (SO.out.below hb);replace G2 := zH (G2.out.trans (hb.mono G2.out.size));clear hb H hu;go_upto_region 3 with fail
 generalize (w3.alloc (.cells #[.int .i64 mOne.kind, .int .i64 mOne.ticket, .bool mOne.whole, .slice va 3 vc, .slice fa fn fc, .slice za zn zc, .slice na nn nc, .slice ia im ic, .slice la ln lc] 28)) = w4 at *;have hb := zB w4 (.cells #[.int .u8 5, .int .u8 0, .int .u8 0, .int .u8 3, .int .u8 1, .int .u8 0, .int .u8 2, .int .u8 0, .int .u8 0, .int .u8 0, .int .u8 0, .int .u8 0] 5);have KS := rsameBy (SO.out.below hb) (by_lit w4 [5#8, 0#8, 0#8, 3#8, 1#8, 0#8, 2#8, 0#8, 0#8, 0#8, 0#8, 0#8] #[.int .u8 5, .int .u8 0, .int .u8 0, .int .u8 3, .int .u8 1, .int .u8 0, .int .u8 2, .int .u8 0, .int .u8 0, .int .u8 0, .int .u8 0, .int .u8 0] rfl (by simp));replace G2 := zH (G2.out.trans (hb.mono G2.out.size));replace TB := zH (TB.out.below hb);clear hb;go_wp2_with fail
 refine KS.mono ?_;rintro e w5 ⟨rfl, hb⟩;replace G2 := zH (G2.out.trans (hb.mono G2.out.size));replace TB := zH (TB.out.below hb);clear hb KS;obtain ⟨x0, x1, x2, x3, x4, x5, x6, x7, x8⟩ := TB.out.c;have e1 : ((mOne.kind : Int) == 5) = true := by decide
 go_wp2_with fail
 go_ret
 exact ⟨rfl, G2.out⟩
end Go.Proofs.YtfapkepfngddlaaGreat
