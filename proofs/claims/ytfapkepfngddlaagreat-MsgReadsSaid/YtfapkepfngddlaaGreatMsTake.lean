/- The program's own reader of messages: first, take, num, whole, text, count. (Written by gen-msread.py.) -/
import Derived.Test.YtfapkepfngddlaaGreatMsBox
import Derived.Test.YtfapkepfngddlaaGreatTxRds
import Derived.Test.YtfapkepfngddlaaGreatPaLists
import Derived.Lib.MinMax
import Derived.Shelf.Abstract
import Derived.Deep.Cut
set_option maxRecDepth 100000
set_option maxHeartbeats 64000000
namespace Go.Proofs.YtfapkepfngddlaaGreat
open Go.RowKit Plain
set_option linter.unusedVariables false
theorem mfirst_any {w : World} {g : Nat} {s : Rb} (hx : MrBox w g s) (m : Nat) (hm : m ≤ 100000000000000000) : Calls Tryz.prog 168 #[.pointer (some ⟨g, 0, none⟩), .int .i64 m] w fun e w' => ∃ a k c, k = min m s.1.length ∧ e = .returned (.slice a k c) ∧ By.Seq w' (.slice a k c) (s.1.take m) ∧ Below w.heap.size w w' := by
 obtain ⟨a, n, c, hn, h1, h2, h0, hh, hs, -⟩ := hx.parts;obtain ⟨c0, -, -, -⟩ := mrb_cell hh;obtain ⟨k, hk⟩ : ∃ k, k = min m s.1.length := ⟨_, rfl⟩;have hf := hs.first k (by omega);have e : s.1.take k = s.1.take m := by rw [hk, ← List.take_eq_take_min]
 rw [e] at hf;have HF := zH hf;have M1 : min (m : Int) (n : Int) = (k : Int) := by omega
 have m1 : (k : Int) ≤ n := by omega
 have m2 : (k : Int) ≤ c := by omega
 have m3 : (0 : Int) ≤ k := by omega
 have m4 : (n : Int) ≤ c := by omega
 have HK := zH hk;have HN := zH hn;clear hx hs hh hf e hn hk h0;go_enter Tryz.func168, Tryz.ntmps168
 go_wp2_with fail
 go_quiet (fail)
 go_wp2_with fail
 go_ret
 exact ⟨_, _, _, HK.out, rfl, HF.out.below (below_drewN (Below.refl _ _) _), below_drewN (Below.refl _ _) _⟩
theorem mtake_num {w : World} {g : Nat} {s : Rb} (hx : MrBox w g s) (hl : s.1.length ≤ 500000) : Calls Tryz.prog 139 #[.pointer (some ⟨g, 0, none⟩), .int .i64 8, .func (.func 140) #[] #[]] w (GivesM vN w g (mdo numC 0 s)) := by
 obtain ⟨r, k⟩ := s;obtain ⟨a0, n0, cc, hn0, h1, h2, h0, hh, hs, -⟩ := hx.parts;obtain ⟨c0, c1, f0, f1⟩ := mrb_cell hh;have HX := zH hx
 cases k with
 | false =>
  have KF := mfirst_any hx 8 (by decide);have HL : LocB numC 8 r := locB_num r;have eg : ∀ args w, (callFunc 140 args).run Tryz.prog w = .ok (.enter 140 args) w := enters_of Tryz.func140 (by kernel_rfl) rfl;have HG := zH hx.lt;have e0 : ((0 : Int) != 0) = false := by decide
  have hlr : (r.take 8).length ≤ 1000000 := by
   have := List.length_take_le 8 r;have h3 : r.length ≤ 500000 := hl;have h4 := List.length_take_le' 8 r;omega
  cases hres : numC.get (r.take 8) with
  | err j =>
   have hj : j ≠ 0 := numC.bad hres;obtain ⟨j2, HL2⟩ := HL.2 _ hres;have HE := zH (mdo_err (z := 0) HL2);have e1 : (j != 0) = true := bne_iff_ne.2 hj;clear hx hs hh HL HL2;go_enter Tryz.func139, Tryz.ntmps139
   go_wp2_with fail
   refine KF.mono ?_;rintro e w1 ⟨a1, k1, c1x, -, rfl, hs1, hb⟩;have KR := By.num_get hs1 hlr;rw [hres] at KR;have HB := zH hb;have HX1 := zH (HX.out.below hb);clear hs1 hb KF hres c0 c1 f0 f1;go_upto_region 6 with (go_at_fn 140; refine KR.mono ?_; rintro e w2 ⟨rfl, rfl⟩)
   obtain ⟨a2, n2, c2, hn2, -, -, -, hh2, hs2, hl2⟩ := HX1.out.parts;have HL2 := zH hl2;obtain ⟨d0, d1, f0, f1⟩ := mrb_cell hh2;have hh2' := zH hh2;have hs2' := zH hs2;have HN := zH hn2;clear hh2 hs2 hn2 KR;go_wp2_with fail
   go_ret
   rw [HE.out];have hn3 : n2 = r.length := HN.out;subst hn3;exact ⟨_, rfl, rfl, mrBox_err hh2'.out hs2'.out HL2.out, (But.of HB.out (Nat.le_of_lt HG.out)).trans (But.set _ _ _ _)⟩
  | ok x q =>
   obtain ⟨HL2, hq⟩ := HL.1 _ _ hres;have HE := zH (mdo_ok (z := 0) HL2);obtain ⟨p, hp⟩ : ∃ p, p = min 8 r.length - q.length := ⟨_, rfl⟩;rw [← hp] at HE;have hp0 : 0 < p := by omega
   have hpr : p ≤ r.length := by omega
   have HQ := zH hq;have HP := zH hp;clear hx hs hh HL HL2 hq hp;go_enter Tryz.func139, Tryz.ntmps139
   go_wp2_with fail
   refine KF.mono ?_;rintro e w1 ⟨a1, k1, c1x, hk1, rfl, hs1, hb⟩;have KR := By.num_get hs1 hlr;rw [hres] at KR;have HB := zH hb;have HX1 := zH (HX.out.below hb);have HK1 := zH hk1;clear hs1 hb KF hres c0 c1 f0 f1 hk1;go_upto_region 6 with (go_at_fn 140; refine KR.mono ?_; rintro e w2 ⟨v2, rfl, ho2, hb2⟩)
   have HB2 := zH (HB.out.trans (hb2.mono HB.out.size));have HX2 := zH (HX1.out.below hb2);obtain ⟨a3, c3, rfl, -, -, -, -⟩ := ho2.parts;clear ho2 hb2 KR;obtain ⟨a2, n2, c2, hn2, g1, g2, g0, hh2, hs2, hl2⟩ := HX2.out.parts;have HL2 := zH hl2;obtain ⟨d0, d1, f0, f1⟩ := mrb_cell hh2;have hn3 : n2 = r.length := hn2;subst hn3;have hs3 := hs2;obtain ⟨b2, o2, c2', hv, -, -, -, -⟩ := hs3.spot (by omega);simp only [Value.slice.injEq] at hv
   obtain ⟨rfl, -, rfl⟩ := hv;have hd := hs2.from p hpr;have hh2' := zH hh2;have HD := zH hd;have HG2 := zH (But.of HB2.out (Nat.le_of_lt HG.out));have e2 : (k1 : Int) - (q.length : Int) = (p : Int) := by have h3 := HP.out; have h4 := HQ.out; have h5 : k1 = min 8 r.length := HK1.out; omega
   have e3 : IntKind.i64.wrap ((k1 : Int) - (q.length : Int)) = (p : Int) := by rw [e2]; simp [IntKind.wrap, IntKind.bits, IntKind.signed]; omega
   have HLD : Hid ((r.drop p).length = r.length - p) := zH List.length_drop;clear hh2 hs2 hs3 hd hn2 g0 e2;generalize q.length = ql at *;have p1 : (p : Int) ≤ (r.length : Int) := by omega
   have p2 : (r.length : Int) ≤ (c2 : Int) := by omega
   have p3 : (p : Int) ≤ (c2 : Int) := by omega
   have p4 : (0 : Int) ≤ (p : Int) := by omega
   by_cases hcp : c2 = p
   ·rw [if_pos hcp] at HD
    subst hcp;have hpl : r.length = c2 := by omega
    rw [hpl, Nat.sub_self] at HD;rw [hpl, Nat.sub_self] at HLD;have HPL := zH hpl;generalize r.length = n at *;subst hpl;go_wp2_with fail
    go_ret
    rw [HE.out];refine ⟨_, rfl, rfl, ?_, HG2.out.trans (But.set _ _ _ _)⟩;have HR := mrBox_rest (r := r.drop n) (c' := 0) hh2'.out (by rw [HLD.out]; exact HD.out) (fun _ ad he => by cases he; exact HL2.out (by first | omega | (show 0 < r.length; omega)) ⟨b2, o2, none⟩ rfl);rw [HLD.out] at HR;exact HR
   ·rw [if_neg hcp] at HD
    go_wp2_with fail
    go_ret
    rw [HE.out];refine ⟨_, rfl, rfl, ?_, HG2.out.trans (But.set _ _ _ _)⟩;have HR := mrBox_rest (r := r.drop p) (c' := c2 - p) hh2'.out (by rw [HLD.out]; exact HD.out) (fun _ ad he => by cases he; exact HL2.out (by first | omega | (show 0 < r.length; omega)) ⟨b2, o2, none⟩ rfl);rw [HLD.out] at HR;exact HR
 | true =>
  have HE := zH (mdo_past (c := numC) (z := 0) (b := r));clear hx hs hh;go_enter Tryz.func139, Tryz.ntmps139
  go_wp2_with fail
  go_ret
  rw [HE.out];exact ⟨_, rfl, rfl, HX.out, But.refl _ _⟩
theorem mtake_int {w : World} {g : Nat} {s : Rb} (hx : MrBox w g s) (hl : s.1.length ≤ 500000) : Calls Tryz.prog 173 #[.pointer (some ⟨g, 0, none⟩), .int .i64 8, .func (.func 174) #[] #[]] w (GivesM vI w g (mdo intC 0 s)) := by
 obtain ⟨r, k⟩ := s;obtain ⟨a0, n0, cc, hn0, h1, h2, h0, hh, hs, -⟩ := hx.parts;obtain ⟨c0, c1, f0, f1⟩ := mrb_cell hh;have HX := zH hx
 cases k with
 | false =>
  have KF := mfirst_any hx 8 (by decide);have HL : LocB intC 8 r := locB_int r;have eg : ∀ args w, (callFunc 174 args).run Tryz.prog w = .ok (.enter 174 args) w := enters_of Tryz.func174 (by kernel_rfl) rfl;have HG := zH hx.lt;have e0 : ((0 : Int) != 0) = false := by decide
  have hlr : (r.take 8).length ≤ 1000000 := by
   have := List.length_take_le 8 r;have h3 : r.length ≤ 500000 := hl;have h4 := List.length_take_le' 8 r;omega
  cases hres : intC.get (r.take 8) with
  | err j =>
   have hj : j ≠ 0 := intC.bad hres;obtain ⟨j2, HL2⟩ := HL.2 _ hres;have HE := zH (mdo_err (z := 0) HL2);have e1 : (j != 0) = true := bne_iff_ne.2 hj;clear hx hs hh HL HL2;go_enter Tryz.func173, Tryz.ntmps173
   go_wp2_with fail
   refine KF.mono ?_;rintro e w1 ⟨a1, k1, c1x, -, rfl, hs1, hb⟩;have KR := By.int_get hs1 hlr;rw [hres] at KR;have HB := zH hb;have HX1 := zH (HX.out.below hb);clear hs1 hb KF hres c0 c1 f0 f1;go_upto_region 6 with (go_at_fn 174; refine KR.mono ?_; rintro e w2 ⟨rfl, rfl⟩)
   obtain ⟨a2, n2, c2, hn2, -, -, -, hh2, hs2, hl2⟩ := HX1.out.parts;have HL2 := zH hl2;obtain ⟨d0, d1, f0, f1⟩ := mrb_cell hh2;have hh2' := zH hh2;have hs2' := zH hs2;have HN := zH hn2;clear hh2 hs2 hn2 KR;go_wp2_with fail
   go_ret
   rw [HE.out];have hn3 : n2 = r.length := HN.out;subst hn3;exact ⟨_, rfl, rfl, mrBox_err hh2'.out hs2'.out HL2.out, (But.of HB.out (Nat.le_of_lt HG.out)).trans (But.set _ _ _ _)⟩
  | ok x q =>
   obtain ⟨HL2, hq⟩ := HL.1 _ _ hres;have HE := zH (mdo_ok (z := 0) HL2);obtain ⟨p, hp⟩ : ∃ p, p = min 8 r.length - q.length := ⟨_, rfl⟩;rw [← hp] at HE;have hp0 : 0 < p := by omega
   have hpr : p ≤ r.length := by omega
   have HQ := zH hq;have HP := zH hp;clear hx hs hh HL HL2 hq hp;go_enter Tryz.func173, Tryz.ntmps173
   go_wp2_with fail
   refine KF.mono ?_;rintro e w1 ⟨a1, k1, c1x, hk1, rfl, hs1, hb⟩;have KR := By.int_get hs1 hlr;rw [hres] at KR;have HB := zH hb;have HX1 := zH (HX.out.below hb);have HK1 := zH hk1;clear hs1 hb KF hres c0 c1 f0 f1 hk1;go_upto_region 6 with (go_at_fn 174; refine KR.mono ?_; rintro e w2 ⟨v2, rfl, ho2, hb2⟩)
   have HB2 := zH (HB.out.trans (hb2.mono HB.out.size));have HX2 := zH (HX1.out.below hb2);obtain ⟨a3, c3, rfl, -, -, -, -⟩ := ho2.parts;clear ho2 hb2 KR;obtain ⟨a2, n2, c2, hn2, g1, g2, g0, hh2, hs2, hl2⟩ := HX2.out.parts;have HL2 := zH hl2;obtain ⟨d0, d1, f0, f1⟩ := mrb_cell hh2;have hn3 : n2 = r.length := hn2;subst hn3;have hs3 := hs2;obtain ⟨b2, o2, c2', hv, -, -, -, -⟩ := hs3.spot (by omega);simp only [Value.slice.injEq] at hv
   obtain ⟨rfl, -, rfl⟩ := hv;have hd := hs2.from p hpr;have hh2' := zH hh2;have HD := zH hd;have HG2 := zH (But.of HB2.out (Nat.le_of_lt HG.out));have e2 : (k1 : Int) - (q.length : Int) = (p : Int) := by have h3 := HP.out; have h4 := HQ.out; have h5 : k1 = min 8 r.length := HK1.out; omega
   have e3 : IntKind.i64.wrap ((k1 : Int) - (q.length : Int)) = (p : Int) := by rw [e2]; simp [IntKind.wrap, IntKind.bits, IntKind.signed]; omega
   have HLD : Hid ((r.drop p).length = r.length - p) := zH List.length_drop;clear hh2 hs2 hs3 hd hn2 g0 e2;generalize q.length = ql at *;have p1 : (p : Int) ≤ (r.length : Int) := by omega
   have p2 : (r.length : Int) ≤ (c2 : Int) := by omega
   have p3 : (p : Int) ≤ (c2 : Int) := by omega
   have p4 : (0 : Int) ≤ (p : Int) := by omega
   by_cases hcp : c2 = p
   ·rw [if_pos hcp] at HD
    subst hcp;have hpl : r.length = c2 := by omega
    rw [hpl, Nat.sub_self] at HD;rw [hpl, Nat.sub_self] at HLD;have HPL := zH hpl;generalize r.length = n at *;subst hpl;go_wp2_with fail
    go_ret
    rw [HE.out];refine ⟨_, rfl, rfl, ?_, HG2.out.trans (But.set _ _ _ _)⟩;have HR := mrBox_rest (r := r.drop n) (c' := 0) hh2'.out (by rw [HLD.out]; exact HD.out) (fun _ ad he => by cases he; exact HL2.out (by first | omega | (show 0 < r.length; omega)) ⟨b2, o2, none⟩ rfl);rw [HLD.out] at HR;exact HR
   ·rw [if_neg hcp] at HD
    go_wp2_with fail
    go_ret
    rw [HE.out];refine ⟨_, rfl, rfl, ?_, HG2.out.trans (But.set _ _ _ _)⟩;have HR := mrBox_rest (r := r.drop p) (c' := c2 - p) hh2'.out (by rw [HLD.out]; exact HD.out) (fun _ ad he => by cases he; exact HL2.out (by first | omega | (show 0 < r.length; omega)) ⟨b2, o2, none⟩ rfl);rw [HLD.out] at HR;exact HR
 | true =>
  have HE := zH (mdo_past (c := intC) (z := 0) (b := r));clear hx hs hh;go_enter Tryz.func173, Tryz.ntmps173
  go_wp2_with fail
  go_ret
  rw [HE.out];exact ⟨_, rfl, rfl, HX.out, But.refl _ _⟩
theorem mtake_text {w : World} {g : Nat} {s : Rb} (hx : MrBox w g s) (hl : s.1.length ≤ 500000) (M : Nat) (hM : M = tmost s.1) (hm : M ≤ 100000000000000000) : Calls Tryz.prog 171 #[.pointer (some ⟨g, 0, none⟩), .int .i64 M, .func (.func 172) #[] #[]] w (GivesM vT w g (mdo textC [] s)) := by
 obtain ⟨r, k⟩ := s;obtain ⟨a0, n0, cc, hn0, h1, h2, h0, hh, hs, -⟩ := hx.parts;obtain ⟨c0, c1, f0, f1⟩ := mrb_cell hh;have HX := zH hx
 cases k with
 | false =>
  have KF := mfirst_any hx M hm;have HL : LocB textC M r := hM ▸ locB_text r;have eg : ∀ args w, (callFunc 172 args).run Tryz.prog w = .ok (.enter 172 args) w := enters_of Tryz.func172 (by kernel_rfl) rfl;have HG := zH hx.lt;have e0 : ((0 : Int) != 0) = false := by decide
  have hlr : (r.take M).length ≤ 1000000 := by
   have := List.length_take_le M r;have h3 : r.length ≤ 500000 := hl;have h4 := List.length_take_le' M r;omega
  cases hres : textC.get (r.take M) with
  | err j =>
   have hj : j ≠ 0 := textC.bad hres;obtain ⟨j2, HL2⟩ := HL.2 _ hres;have HE := zH (mdo_err (z := []) HL2);have e1 : (j != 0) = true := bne_iff_ne.2 hj;clear hx hs hh HL HL2 hM hm;go_enter Tryz.func171, Tryz.ntmps171
   go_wp2_with fail
   refine KF.mono ?_;rintro e w1 ⟨a1, k1, c1x, -, rfl, hs1, hb⟩;have KR := By.text_get hs1 hlr;rw [hres] at KR;have HB := zH hb;have HX1 := zH (HX.out.below hb);clear hs1 hb KF hres c0 c1 f0 f1;go_upto_region 6 with (go_at_fn 172; refine KR.mono ?_; rintro e w2 ⟨rfl, rfl⟩)
   obtain ⟨a2, n2, c2, hn2, -, -, -, hh2, hs2, hl2⟩ := HX1.out.parts;have HL2 := zH hl2;obtain ⟨d0, d1, f0, f1⟩ := mrb_cell hh2;have hh2' := zH hh2;have hs2' := zH hs2;have HN := zH hn2;clear hh2 hs2 hn2 KR;go_wp2_with fail
   go_ret
   rw [HE.out];have hn3 : n2 = r.length := HN.out;subst hn3;exact ⟨_, rfl, rfl, mrBox_err hh2'.out hs2'.out HL2.out, (But.of HB.out (Nat.le_of_lt HG.out)).trans (But.set _ _ _ _)⟩
  | ok x q =>
   obtain ⟨HL2, hq⟩ := HL.1 _ _ hres;have HE := zH (mdo_ok (z := []) HL2);obtain ⟨p, hp⟩ : ∃ p, p = min M r.length - q.length := ⟨_, rfl⟩;rw [← hp] at HE;have hp0 : 0 < p := by omega
   have hpr : p ≤ r.length := by omega
   have HQ := zH hq;have HP := zH hp;clear hx hs hh HL HL2 hq hp hM hm;go_enter Tryz.func171, Tryz.ntmps171
   go_wp2_with fail
   refine KF.mono ?_;rintro e w1 ⟨a1, k1, c1x, hk1, rfl, hs1, hb⟩;have KR := By.text_get hs1 hlr;rw [hres] at KR;have HB := zH hb;have HX1 := zH (HX.out.below hb);have HK1 := zH hk1;clear hs1 hb KF hres c0 c1 f0 f1 hk1;go_upto_region 6 with (go_at_fn 172; refine KR.mono ?_; rintro e w2 ⟨v2, rfl, ho2, hb2⟩)
   have HB2 := zH (HB.out.trans (hb2.mono HB.out.size));have HX2 := zH (HX1.out.below hb2);obtain ⟨a3, c3, rfl, -, -, -, -⟩ := ho2.parts;clear ho2 hb2 KR;obtain ⟨a2, n2, c2, hn2, g1, g2, g0, hh2, hs2, hl2⟩ := HX2.out.parts;have HL2 := zH hl2;obtain ⟨d0, d1, f0, f1⟩ := mrb_cell hh2;have hn3 : n2 = r.length := hn2;subst hn3;have hs3 := hs2;obtain ⟨b2, o2, c2', hv, -, -, -, -⟩ := hs3.spot (by omega);simp only [Value.slice.injEq] at hv
   obtain ⟨rfl, -, rfl⟩ := hv;have hd := hs2.from p hpr;have hh2' := zH hh2;have HD := zH hd;have HG2 := zH (But.of HB2.out (Nat.le_of_lt HG.out));have e2 : (k1 : Int) - (q.length : Int) = (p : Int) := by have h3 := HP.out; have h4 := HQ.out; have h5 : k1 = min M r.length := HK1.out; omega
   have e3 : IntKind.i64.wrap ((k1 : Int) - (q.length : Int)) = (p : Int) := by rw [e2]; simp [IntKind.wrap, IntKind.bits, IntKind.signed]; omega
   have HLD : Hid ((r.drop p).length = r.length - p) := zH List.length_drop;clear hh2 hs2 hs3 hd hn2 g0 e2;generalize q.length = ql at *;have p1 : (p : Int) ≤ (r.length : Int) := by omega
   have p2 : (r.length : Int) ≤ (c2 : Int) := by omega
   have p3 : (p : Int) ≤ (c2 : Int) := by omega
   have p4 : (0 : Int) ≤ (p : Int) := by omega
   by_cases hcp : c2 = p
   ·rw [if_pos hcp] at HD
    subst hcp;have hpl : r.length = c2 := by omega
    rw [hpl, Nat.sub_self] at HD;rw [hpl, Nat.sub_self] at HLD;have HPL := zH hpl;generalize r.length = n at *;subst hpl;go_wp2_with fail
    go_ret
    rw [HE.out];refine ⟨_, rfl, rfl, ?_, HG2.out.trans (But.set _ _ _ _)⟩;have HR := mrBox_rest (r := r.drop n) (c' := 0) hh2'.out (by rw [HLD.out]; exact HD.out) (fun _ ad he => by cases he; exact HL2.out (by first | omega | (show 0 < r.length; omega)) ⟨b2, o2, none⟩ rfl);rw [HLD.out] at HR;exact HR
   ·rw [if_neg hcp] at HD
    go_wp2_with fail
    go_ret
    rw [HE.out];refine ⟨_, rfl, rfl, ?_, HG2.out.trans (But.set _ _ _ _)⟩;have HR := mrBox_rest (r := r.drop p) (c' := c2 - p) hh2'.out (by rw [HLD.out]; exact HD.out) (fun _ ad he => by cases he; exact HL2.out (by first | omega | (show 0 < r.length; omega)) ⟨b2, o2, none⟩ rfl);rw [HLD.out] at HR;exact HR
 | true =>
  have HE := zH (mdo_past (c := textC) (z := []) (b := r));clear hx hs hh hM hm;go_enter Tryz.func171, Tryz.ntmps171
  go_wp2_with fail
  go_ret
  rw [HE.out];exact ⟨_, rfl, rfl, HX.out, But.refl _ _⟩
theorem mnum_any {w : World} {g : Nat} {s : Rb} (hx : MrBox w g s) (hl : s.1.length ≤ 500000) : Calls Tryz.prog 98 #[.pointer (some ⟨g, 0, none⟩)] w (GivesM vI w g (mnum s)) := by
 have K := zH (mtake_num hx hl);have HR : Hid (mnum s = (((mdo numC 0 s).1 : Int), (mdo numC 0 s).2)) := zH rfl;clear hx hl;generalize mnum s = p at *;generalize mdo numC 0 s = q at *;go_enter Tryz.func98, Tryz.ntmps98
 go_wp2_with fail
 refine K.out.mono ?_;rintro e w1 ⟨v, rfl, hv, hx, hb⟩;obtain rfl : v = .int .i64 q.1 := hv;have HX := zH hx;have HB := zH hb;clear hx hb K;go_wp2_with fail
 go_ret
 rw [HR.out];exact ⟨_, rfl, rfl, HX.out, HB.out⟩
theorem mint_any {w : World} {g : Nat} {s : Rb} (hx : MrBox w g s) (hl : s.1.length ≤ 500000) : Calls Tryz.prog 144 #[.pointer (some ⟨g, 0, none⟩)] w (GivesM vI w g (mint s)) := by
 have K := zH (mtake_int hx hl);have HR : Hid (mint s = mdo intC 0 s) := zH rfl;clear hx hl;generalize mint s = p at *;generalize mdo intC 0 s = q at *;go_enter Tryz.func144, Tryz.ntmps144
 go_wp2_with fail
 refine K.out.mono ?_;rintro e w1 ⟨v, rfl, hv, hx, hb⟩;obtain rfl : v = .int .i64 q.1 := hv;have HX := zH hx;have HB := zH hb;clear hx hb K;go_wp2_with fail
 go_ret
 rw [HR.out];exact ⟨_, rfl, rfl, HX.out, HB.out⟩
theorem mtext_any {w : World} {g : Nat} {s : Rb} (hx : MrBox w g s) (hl : s.1.length ≤ 500000) : Calls Tryz.prog 143 #[.pointer (some ⟨g, 0, none⟩)] w (GivesM vT w g (mtext s)) := by
 have HG := zH hx.lt;have KF := mfirst_any hx 8 (by decide);have HT : Hid (tmost s.1 = 8 + (match getNum (s.1.take 8) with | .ok n _ => n | .err _ => 0)) := zH rfl;have HM := zH (tmost_le s.1);have HR : Hid (mtext s = mdo textC [] s) := zH rfl;have HX := zH hx;have hlr : (s.1.take 8).length ≤ 1000000 := by rw [List.length_take]; omega
 have KT : Hid (∀ W, MrBox W g s → ∀ M : Nat, M = tmost s.1 → M ≤ 100000000000000000 → Calls Tryz.prog 171 #[.pointer (some ⟨g, 0, none⟩), .int .i64 M, .func (.func 172) #[] #[]] W (GivesM vT W g (mdo textC [] s))) := zH (fun W h M h1 h2 => mtake_text h hl M h1 h2);clear hx hl;generalize mtext s = p at *;generalize mdo textC [] s = q at *;go_enter Tryz.func143, Tryz.ntmps143
 go_wp2_with fail
 refine KF.mono ?_;rintro e w1 ⟨a1, k1, c1x, -, rfl, hs1, hb⟩;have KN := By.num_get hs1 hlr;change Calls _ _ _ _ (By.GetT (fun n : Nat => .int .i64 n) (.int .i64 0) w1 (getNum (s.1.take 8))) at KN;have HB := zH hb;have HX1 := zH (HX.out.below hb);clear hs1 hb KF HX
 cases hres : getNum (s.1.take 8) with
 | err j =>
  rw [hres] at KN HT;obtain ⟨M, hM⟩ : ∃ M, M = 8 := ⟨_, rfl⟩;have KK := KT.out w1 HX1.out 8 (by rw [HT.out]; rfl) (by decide);clear HX1 HT hM hres;go_wp2_with fail
  refine KN.mono ?_;rintro e w2 ⟨rfl, rfl⟩;go_wp2_with fail
  refine KK.mono ?_;rintro e w2 ⟨v, rfl, hv, hx, hb⟩;obtain rfl : v = .string (bt q.1) := hv;have HX2 := zH hx;have HB2 := zH ((But.of HB.out (Nat.le_of_lt HG.out)).trans hb);clear hx hb KK;go_wp2_with fail
  go_ret
  rw [HR.out];exact ⟨_, rfl, rfl, HX2.out, HB2.out⟩
 | ok n r =>
  rw [hres] at KN HT;obtain ⟨M, hM⟩ : ∃ M, M = 8 + n := ⟨_, rfl⟩;have hM2 : M ≤ 100000000000000000 := by have := HM.out; rw [HT.out] at this; change 8 + n ≤ _ at this; omega
  have HKK : Hid (∀ W, MrBox W g s → Calls Tryz.prog 171 #[.pointer (some ⟨g, 0, none⟩), .int .i64 M, .func (.func 172) #[] #[]] W (GivesM vT W g q)) := zH (fun W h => KT.out W h M (by rw [HT.out]; exact hM) hM2);have e2 : (8 : Int) + (n : Int) = (M : Int) := by omega
  have e3 : IntKind.i64.wrap ((8 : Int) + (n : Int)) = (M : Int) := by rw [e2]; simp [IntKind.wrap, IntKind.bits, IntKind.signed]; omega
  clear HT hM hres hM2 e2;go_wp2_with fail
  refine KN.mono ?_;rintro e w2 ⟨v2, rfl, ho2, hb2⟩;have HX2 := zH (HX1.out.below hb2);have HB2 := zH (HB.out.trans (hb2.mono HB.out.size));have KK := HKK.out w2 HX2.out;clear ho2 hb2 KN;go_wp2_with fail
  refine KK.mono ?_;rintro e w3 ⟨v, rfl, hv, hx, hb⟩;obtain rfl : v = .string (bt q.1) := hv;have HX3 := zH hx;have HB3 := zH ((But.of HB2.out (Nat.le_of_lt HG.out)).trans hb);clear hx hb KK;go_wp2_with fail
  go_ret
  rw [HR.out];exact ⟨_, rfl, rfl, HX3.out, HB3.out⟩
theorem mcount_any {w : World} {g : Nat} {s : Rb} (hx : MrBox w g s) (hl : s.1.length ≤ 500000) (k : Nat) : Calls Tryz.prog 99 #[.pointer (some ⟨g, 0, none⟩), .int .i64 k] w (GivesM vN w g (mcount k s)) := by
 have K := zH (mnum_any hx hl);have H1 : Hid (k < (mdo numC 0 s).1 → mcount k s = (0, ((mdo numC 0 s).2.1, true))) := zH (fun h => by unfold mcount; rw [if_pos h]);have H2 : Hid (¬ k < (mdo numC 0 s).1 → mcount k s = mdo numC 0 s) := zH (fun h => by unfold mcount; rw [if_neg h]);change Hid (Calls _ _ _ _ (GivesM vI w g (((mdo numC 0 s).1 : Int), (mdo numC 0 s).2))) at K;clear hx hl;generalize mcount k s = p at *;generalize mdo numC 0 s = q at *;obtain ⟨n, b, j⟩ := q;go_enter Tryz.func99, Tryz.ntmps99
 go_wp2_with fail
 refine K.out.mono ?_;rintro e w1 ⟨v, rfl, hv, hx, hb⟩;obtain rfl : v = .int .i64 n := hv;have HX := zH hx;have HB := zH hb;clear hb K
 by_cases hk : k < n
 ·obtain rfl := H1.out hk
  obtain ⟨a2, n2, c2, hn2, -, -, -, hh2, hs2, hl2⟩ := hx.parts;have HL2 := zH hl2;obtain ⟨d0, d1, f0, f1⟩ := mrb_cell hh2;have hk' : (k : Int) < (n : Int) := by omega
  have hh2' := zH hh2;have hs2' := zH hs2;have HN := zH hn2;clear hx hh2 hs2 hn2 H1 H2;go_wp2_with fail
  go_ret
  have hn3 : n2 = b.length := HN.out;subst hn3;exact ⟨_, rfl, rfl, mrBox_err hh2'.out hs2'.out HL2.out, HB.out.trans (But.set _ _ _ _)⟩
 ·obtain rfl := H2.out hk
  have hk' : ¬ (k : Int) < (n : Int) := by omega
  clear hx H1 H2;go_wp2_with fail
  go_ret
  exact ⟨_, rfl, rfl, HX.out, HB.out⟩
end Go.Proofs.YtfapkepfngddlaaGreat
