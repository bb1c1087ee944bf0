/- What the program's own putNums, putTexts, putItem and flag of messages leave. (Written by gen-msputp.py.) -/
import Derived.Test.YtfapkepfngddlaaGreatTxPuts
import Derived.Test.YtfapkepfngddlaaGreatMsBox
import Derived.Test.YtfapkepfngddlaaGreatEForms
import Derived.Deep.Cut
set_option maxRecDepth 100000
set_option maxHeartbeats 64000000
namespace Go.Proofs.YtfapkepfngddlaaGreat
open Go.RowKit Plain
set_option linter.unusedVariables false
theorem mpnums_any {B : Nat} {v l : Value} {xs : Bytes} {ns : List Int} {Q : Nat → Prop} {w : World} (hv : By.Owns B w v xs) (hB : B ≤ w.heap.size) (hl : Sq LInt Q w l ns) (hQ : ∀ b, Q b → b < w.heap.size ∧ v.ownBlock ≠ some b) (hn : ∀ n ∈ ns, 0 ≤ n ∧ n < 72057594037927936) (hx : xs.length + 8 * ns.length ≤ 900000) :
  Calls Tryz.prog 58 #[v, l] w (GivesO B w v (xs ++ pnums ns)) := by
 have HL : Hid (∀ W u, Grow B w v W u → SeqE LInt W l ns) := zH (fun W u h => h.sq hl hQ);obtain ⟨la, lc, lvs, rfl, k1, k2, -⟩ := hl;have PS0 := zH (fun k (hk : k < ns.length) => flatMap_take (fun n => form (n : Int).toNat) ns (k := k) hk);obtain ⟨P, hP⟩ : ∃ P : Nat → Bytes, P = fun k => pnums (ns.take k) := ⟨_, rfl⟩
 have PS : Hid (∀ k, k < ns.length → P (k + 1) = P k ++ (form ((ns.getD k default) : Int).toNat)) := zH (fun k hk => by rw [hP]; exact PS0.out k hk);have P0 : Hid (P 0 = []) := zH (by rw [hP]; rfl);have PN : Hid (P ns.length = pnums ns) := zH (by rw [hP]; show pnums (ns.take ns.length) = _; rw [List.take_length]);have PL : Hid (∀ k, (P k).length ≤ 8 * ns.length) := zH (fun k => by
  rw [hP];refine Nat.le_trans (flatMap_len (fun n => form (n : Int).toNat) 8 (ns.take k) fun n h => ?_) (Nat.mul_le_mul_left _ (by rw [List.length_take]; omega));have := hn n (List.mem_of_mem_take h);exact form_len8 _ (by omega))
 have HM := zH (fun k (hk : k < ns.length) => hn _ (tmem_getD (l := ns) hk));have HO0 := zH hv;rw [← PN.out];clear hP PS0 PN hn hQ;have OU := zH hv.lt;obtain ⟨va, vc, rfl, -, -, -, -⟩ := hv.parts;have km : maxLen = 9223372036854775807 := rfl;rw [km] at k2;clear km;obtain ⟨n, hN⟩ : ∃ n, ns.length = n := ⟨_, rfl⟩;rw [hN] at hx k1 PS PL HM ⊢;have LN := zH hN;rw [hN] at HL;clear hv hN;generalize hxl : xs.length = xl at *;have XL := zH hxl;clear hxl;go_enter Tryz.func58, Tryz.ntmps58
 go_wp2_with fail
 go_loopw [0, 11] (fun z i wr => ∃ k : Nat, k ≤ n ∧ i = .int .i64 k ∧ By.Owns B wr z (xs ++ P k) ∧ Grow B w (.slice va xl vc) wr z) (fun _ i _ => n - (intOf i).toNat)
 case atStart => exact ⟨0, Nat.zero_le _, rfl, by rw [P0.out, List.append_nil]; exact HO0.out, Grow.refl _ _ _⟩
 case round =>
  obtain ⟨k, hk, rfl, ho, hg⟩ := hrel;have HO := zH ho;have HG := zH hg;clear ho hg
  by_cases hlt : k < n
  ·have PK := zH (PS.out k hlt)
   have LK := zH (PL.out k);have MK := HM.out k hlt;have SL := HL.out _ _ HG.out;obtain ⟨b, o, c, hv, -, -, -, hc⟩ := (seqI_of SL).spot (by rw [LN.out]; omega);rw [LN.out] at hv;simp only [Value.slice.injEq] at hv
   obtain ⟨rfl, -, rfl⟩ := hv;have c0 := hc k (by rw [LN.out]; exact hlt);clear hc;change _ = some (Value.int .i64 (ns.getD k default)) at c0;obtain ⟨m, hm⟩ : ∃ m : Nat, ns.getD k default = (m : Int) := ⟨(ns.getD k default).toNat, by omega⟩;rw [hm] at c0 MK PK;clear hm;have hm2 : m < 72057594037927936 := by omega
   clear MK;clear SL;obtain ⟨za, zc, rfl, -, -, -, -⟩ := HO.out.parts;generalize (xs ++ P k).length = zl at *;have KP := zH (By.putNum_ok (By.Seq.nil wr) (by simp) m hm2);have FL := form_len8 m hm2;replace PK : Hid (P (k + 1) = P k ++ form m) := PK;generalize form m = fm at *;go_wp2_with fail
   refine KP.out.mono ?_;rintro e w2 ⟨v2, rfl, ho2, hb2⟩;rw [List.nil_append] at ho2;have O2 := zH (HO.out.below hb2 (Nat.le_refl _));have G2 := zH (HG.out.keep hb2 hB);have S2 := zH ho2.seq;obtain ⟨a2, c2, rfl, -, -, -, -⟩ := ho2.parts;clear ho2 hb2 KP;have FL2 := zH FL;have Z2 := zH G2.out.size;clear FL;generalize hfe : fm.length = fl at *;have FE := zH hfe;clear hfe;go_wp2_with (at_builtin; refine By.wpList_append_seq rfl (.tmp 20) (.tmp 21) rfl B rfl O2.out rfl S2.out (by rw [List.length_append, XL.out, FE.out]; have := LK.out; have := FL2.out; omega) (by have := Z2.out; omega) ?_)
   intro v5 w5 ho5 hgr hat;have O5 := zH ho5;have G5 := zH (G2.out.app hgr hat (fun k hk => (O2.out.lt k hk).1) hB);clear ho5 hgr hat;go_wp2_with fail
   go_roundw
   case rel => exact ⟨k + 1, by omega, by go_num, by rw [PK.out]; exact O5.out, G5.out⟩
   case measure => simp [intOf] <;> omega
  ·obtain rfl : k = n := by omega
   go_wp2_with fail
   go_ret
   exact ⟨_, rfl, HO.out, HG.out⟩
theorem mptexts_any {B : Nat} {v l : Value} {xs : Bytes} {ns : List Txt} {Q : Nat → Prop} {w : World} (hv : By.Owns B w v xs) (hB : B ≤ w.heap.size) (hl : Sq LStr Q w l ns) (hQ : ∀ b, Q b → b < w.heap.size ∧ v.ownBlock ≠ some b) (hn : ∀ n ∈ ns, n.length ≤ 1000) (hx : xs.length + 1008 * ns.length ≤ 900000) :
  Calls Tryz.prog 60 #[v, l] w (GivesO B w v (xs ++ ptexts ns)) := by
 have HL : Hid (∀ W u, Grow B w v W u → SeqE LStr W l ns) := zH (fun W u h => h.sq hl hQ);obtain ⟨la, lc, lvs, rfl, k1, k2, -⟩ := hl;have PS0 := zH (fun k (hk : k < ns.length) => flatMap_take (fun n => form (n : Txt).length ++ tbs n) ns (k := k) hk);obtain ⟨P, hP⟩ : ∃ P : Nat → Bytes, P = fun k => ptexts (ns.take k) := ⟨_, rfl⟩
 have PS : Hid (∀ k, k < ns.length → P (k + 1) = P k ++ (form ((ns.getD k default) : Txt).length ++ tbs (ns.getD k default))) := zH (fun k hk => by rw [hP]; exact PS0.out k hk);have P0 : Hid (P 0 = []) := zH (by rw [hP]; rfl);have PN : Hid (P ns.length = ptexts ns) := zH (by rw [hP]; show ptexts (ns.take ns.length) = _; rw [List.take_length]);have PL : Hid (∀ k, (P k).length ≤ 1008 * ns.length) := zH (fun k => by
  rw [hP];refine Nat.le_trans (flatMap_len (fun n => form (n : Txt).length ++ tbs n) 1008 (ns.take k) fun n h => ?_) (Nat.mul_le_mul_left _ (by rw [List.length_take]; omega));have := hn n (List.mem_of_mem_take h);rw [List.length_append, tbs_len]; have := form_len8 n.length (by omega); omega)
 have HM := zH (fun k (hk : k < ns.length) => hn _ (tmem_getD (l := ns) hk));have HO0 := zH hv;rw [← PN.out];clear hP PS0 PN hn hQ;have OU := zH hv.lt;obtain ⟨va, vc, rfl, -, -, -, -⟩ := hv.parts;have km : maxLen = 9223372036854775807 := rfl;rw [km] at k2;clear km;obtain ⟨n, hN⟩ : ∃ n, ns.length = n := ⟨_, rfl⟩;rw [hN] at hx k1 PS PL HM ⊢;have LN := zH hN;rw [hN] at HL;clear hv hN;generalize hxl : xs.length = xl at *;have XL := zH hxl;clear hxl;go_enter Tryz.func60, Tryz.ntmps60
 go_wp2_with fail
 go_loopw [0, 11] (fun z i wr => ∃ k : Nat, k ≤ n ∧ i = .int .i64 k ∧ By.Owns B wr z (xs ++ P k) ∧ Grow B w (.slice va xl vc) wr z) (fun _ i _ => n - (intOf i).toNat)
 case atStart => exact ⟨0, Nat.zero_le _, rfl, by rw [P0.out, List.append_nil]; exact HO0.out, Grow.refl _ _ _⟩
 case round =>
  obtain ⟨k, hk, rfl, ho, hg⟩ := hrel;have HO := zH ho;have HG := zH hg;clear ho hg
  by_cases hlt : k < n
  ·have PK := zH (PS.out k hlt)
   have LK := zH (PL.out k);have MK := HM.out k hlt;have SL := HL.out _ _ HG.out;obtain ⟨b, o, c, hv, -, -, -, hc⟩ := SL.spot (by rw [LN.out]; omega);rw [LN.out] at hv;simp only [Value.slice.injEq] at hv
   obtain ⟨rfl, -, rfl⟩ := hv;obtain ⟨vs, hr, hc0⟩ := hc k _ (getD_at (by rw [LN.out]; exact hlt));obtain rfl : vs = [tv (ns.getD k default)] := hr;have c0 := hc0 0 _ rfl;clear hc hc0;rw [show o + (k * LStr.k + 0) = o + k by show o + (k * 1 + 0) = o + k; omega] at c0;unfold tv at c0;generalize ns.getD k default = t at *;clear SL;obtain ⟨za, zc, rfl, -, -, -, -⟩ := HO.out.parts;generalize (xs ++ P k).length = zl at *;have KP := zH (By.putText_ok (By.Seq.nil wr) (by simp) (bt t) (show (bt t).size ≤ 65536 by rw [bt_size]; omega));have FL : (form t.length ++ tbs t).length ≤ 1008 := by rw [List.length_append, tbs_len]; have := form_len8 t.length (by omega); omega
   rw [tform_bt] at KP;generalize form t.length ++ tbs t = fm at *;have hst : (bt t).size ≤ 1000 := MK;clear MK;go_wp2_with fail
   refine KP.out.mono ?_;rintro e w2 ⟨v2, rfl, ho2, hb2⟩;rw [List.nil_append] at ho2;have O2 := zH (HO.out.below hb2 (Nat.le_refl _));have G2 := zH (HG.out.keep hb2 hB);have S2 := zH ho2.seq;obtain ⟨a2, c2, rfl, -, -, -, -⟩ := ho2.parts;clear ho2 hb2 KP;have FL2 := zH FL;have Z2 := zH G2.out.size;clear FL;generalize hfe : fm.length = fl at *;have FE := zH hfe;clear hfe;go_wp2_with (at_builtin; refine By.wpList_append_seq rfl (.tmp 20) (.tmp 21) rfl B rfl O2.out rfl S2.out (by rw [List.length_append, XL.out, FE.out]; have := LK.out; have := FL2.out; omega) (by have := Z2.out; omega) ?_)
   intro v5 w5 ho5 hgr hat;have O5 := zH ho5;have G5 := zH (G2.out.app hgr hat (fun k hk => (O2.out.lt k hk).1) hB);clear ho5 hgr hat;go_wp2_with fail
   go_roundw
   case rel => exact ⟨k + 1, by omega, by go_num, by rw [PK.out]; exact O5.out, G5.out⟩
   case measure => simp [intOf] <;> omega
  ·obtain rfl : k = n := by omega
   go_wp2_with fail
   go_ret
   exact ⟨_, rfl, HO.out, HG.out⟩
theorem ItemAt.same {w w' : World} {b o : Nat} {x : PItem} (h : ItemAt w b o x) (he : w'.heap[b]? = w.heap[b]?) : ItemAt w' b o x := by
 have c : ∀ (j : Nat) (v : Value), w.cell? ⟨b, j, none⟩ = some v → w'.cell? ⟨b, j, none⟩ = some v := fun j v g => (World.cell?_of_block (w := w) (a := ⟨b, j, none⟩) he).trans g
 exact ⟨c _ _ h.c0, c _ _ h.c1, c _ _ h.c2, c _ _ h.c3, c _ _ h.c4, c _ _ h.c5, c _ _ h.c6, c _ _ h.c7⟩
def PutI (x : PItem) : Prop := x.key.length ≤ 1000 ∧ x.field.length ≤ 1000 ∧ (0 ≤ x.kind ∧ x.kind ≤ 3) ∧ x.elem.length ≤ 1000 ∧ Nm.Plain.fits x.n ∧ (0 ≤ x.dot.node ∧ x.dot.node ≤ 1073741824) ∧ (0 ≤ x.dot.seq ∧ x.dot.seq ≤ 1073741824) ∧ (0 ≤ x.dot.pos ∧ x.dot.pos ≤ 1073741824)
theorem putI_of {x : PItem} (h : formedB x = true) (hn : Nm.Plain.fits x.n) : PutI x := by
 obtain ⟨h1, h2, h3, h4, h5, h6⟩ := item_parts h;unfold dotB at h1;rw [decide_eq_true_iff] at h1;exact ⟨by omega, by omega, by omega, by omega, hn, by omega, by omega, by omega⟩
theorem mpitem_any {B : Nat} {v : Value} {xs : Bytes} {x : PItem} {w : World} (hv : By.Owns B w v xs) (hB : B ≤ w.heap.size) (hp : PutI x) (hl : xs.length ≤ 800000) :
  Calls Tryz.prog 61 #[v, .agg #[.string (bt x.key), .string (bt x.field), .int .i64 x.kind, .string (bt x.elem), .int .i64 x.n, .int .i64 x.dot.node, .int .i64 x.dot.seq, .int .i64 x.dot.pos]] w (GivesO B w v (xs ++ pitem x)) := by
 have EB := zH (itemAt_box w x);have ZE : Hid (w.heap.size < (w.alloc (.cells #[.string (bt x.key), .string (bt x.field), .int .i64 x.kind, .string (bt x.elem), .int .i64 x.n, .int .i64 x.dot.node, .int .i64 x.dot.seq, .int .i64 x.dot.pos] 47)).heap.size) := zH (by simp);have ZB : Hid (B ≤ (w.alloc (.cells #[.string (bt x.key), .string (bt x.field), .int .i64 x.kind, .string (bt x.elem), .int .i64 x.n, .int .i64 x.dot.node, .int .i64 x.dot.seq, .int .i64 x.dot.pos] 47)).heap.size) := zH (by simp; omega);have NE : Hid (v.ownBlock ≠ some w.heap.size) := zH (fun e => by have := (hv.lt _ e).2; omega);have GW : Hid (Grow B w v (w.alloc (.cells #[.string (bt x.key), .string (bt x.field), .int .i64 x.kind, .string (bt x.elem), .int .i64 x.n, .int .i64 x.dot.node, .int .i64 x.dot.seq, .int .i64 x.dot.pos] 47)) v) := zH ((Grow.refl B w v).keep ((Below.refl _ _).alloc (Nat.le_refl _) _) hB);have O0 := zH (hv.alloc (.cells #[.string (bt x.key), .string (bt x.field), .int .i64 x.kind, .string (bt x.elem), .int .i64 x.n, .int .i64 x.dot.node, .int .i64 x.dot.seq, .int .i64 x.dot.pos] 47));have G0 := zH (Grow.refl B (w.alloc (.cells #[.string (bt x.key), .string (bt x.field), .int .i64 x.kind, .string (bt x.elem), .int .i64 x.n, .int .i64 x.dot.node, .int .i64 x.dot.seq, .int .i64 x.dot.pos] 47)) v);obtain ⟨p1, p2, p3, p4, p5, p6, p7, p8⟩ := hp;have P1 := zH p1;have P2 := zH p2;have P3 := zH p3;have P4 := zH p4;have P5 := zH p5;have P6 := zH p6;have P7 := zH p7;have P8 := zH p8;have HPE : Hid (pitem x = ptexts [x.key, x.field] ++ pnums [x.kind] ++ ptexts [x.elem] ++ iform x.n ++ pnums [x.dot.node, x.dot.seq, x.dot.pos]) := zH rfl;clear p1 p2 p3 p4 p5 p6 p7 p8;obtain ⟨a0, c0, rfl, -, -, -, -⟩ := hv.parts;clear hv;generalize hxl : xs.length = xl at *;have M0 := zH hxl;have N0 : Hid (xs.length ≤ xl + 0) := zH (by omega);clear hxl;obtain ⟨Y0, hY0⟩ : ∃ Y, Y = xs := ⟨_, rfl⟩;rw [← hY0] at O0 M0 N0 ⊢;clear hY0;obtain ⟨n0, hn0⟩ : ∃ n, n = xl := ⟨_, rfl⟩;rw [← hn0] at O0 G0 NE GW ⊢;go_enter Tryz.func61, Tryz.ntmps61
 go_upto_region 1 with fail
 clear hn0;generalize (w.alloc (.cells #[.string (bt x.key), .string (bt x.field), .int .i64 x.kind, .string (bt x.elem), .int .i64 x.n, .int .i64 x.dot.node, .int .i64 x.dot.seq, .int .i64 x.dot.pos] 47)) = u0 at *;have K1 : Hid (Calls Tryz.prog 60 #[.slice a0 n0 c0, .slice (some ⟨u0.heap.size, 0, none⟩) 2 2] (u0.alloc (.cells #[.string (bt x.key), .string (bt x.field)] 9)) (GivesO B (u0.alloc (.cells #[.string (bt x.key), .string (bt x.field)] 9)) (.slice a0 n0 c0) (Y0 ++ ptexts [x.key, x.field]))) := zH (mptexts_any (O0.out.alloc _) (by have := G0.out.size; have := ZB.out; simp; omega) (lit_strs u0 #[.string (bt x.key), .string (bt x.field)] [x.key, x.field] (.slice a0 n0 c0) rfl (by simp) (fun k hk => (O0.out.lt k hk).2)) (fun b hb => hb) (by intro n hn; simp at hn; rcases hn with rfl | rfl; exact P1.out; exact P2.out) (by have := N0.out; simp; omega));have LL1 := ptexts_len (ns := [x.key, x.field]) (by intro n hn; simp at hn; rcases hn with rfl | rfl; exact P1.out; exact P2.out);simp only [List.length_cons, List.length_nil] at LL1
 obtain ⟨e0, e1, e2, e3, e4, e5, e6, e7⟩ := (EB.out.same (G0.out.kept _ ZE.out NE.out)).zero;go_wp2_with fail
 refine K1.out.mono ?_;rintro e u1 ⟨v', rfl, ho, hg⟩;have G1 := zH ((G0.out.keep ((Below.refl _ _).alloc (Nat.le_refl _) _) ZB.out).trans hg);obtain ⟨a1, c1, rfl, -, -, -, -⟩ := ho.parts;have O1 := zH ho;clear ho hg K1;have YL : (Y0 ++ ptexts [x.key, x.field]).length ≤ xl + 2016 := by rw [List.length_append]; have := N0.out; omega
 clear LL1;generalize hn : (Y0 ++ ptexts [x.key, x.field]).length = n1 at *;generalize hY : Y0 ++ ptexts [x.key, x.field] = Y1 at *;have E1 := zH hY.symm;have N1 : Hid (Y1.length ≤ xl + 2016) := zH (by rw [hn]; exact YL);have M1 := zH hn;clear hn hY YL;clear e0 e1 e2 e3 e4 e5 e6 e7;have K2 : Hid (Calls Tryz.prog 58 #[.slice a1 n1 c1, .slice (some ⟨u1.heap.size, 0, none⟩) 1 1] (u1.alloc (.cells #[.int .i64 x.kind] 3)) (GivesO B (u1.alloc (.cells #[.int .i64 x.kind] 3)) (.slice a1 n1 c1) (Y1 ++ pnums [x.kind]))) := zH (mpnums_any (O1.out.alloc _) (by have := G1.out.size; have := ZB.out; simp; omega) (lit_ints u1 #[.int .i64 x.kind] [x.kind] (.slice a1 n1 c1) rfl (by simp) (fun k hk => (O1.out.lt k hk).2)) (fun b hb => hb) (by intro n hn; simp at hn; have := P3.out; omega) (by have := N1.out; simp; omega));have LL2 := pnums_len (ns := [x.kind]) (by intro n hn; simp at hn; have := P3.out; omega);simp only [List.length_cons, List.length_nil] at LL2
 obtain ⟨e0, e1, e2, e3, e4, e5, e6, e7⟩ := (EB.out.same (G1.out.kept _ ZE.out NE.out)).zero;go_wp2_with fail
 refine K2.out.mono ?_;rintro e u2 ⟨v', rfl, ho, hg⟩;have G2 := zH ((G1.out.keep ((Below.refl _ _).alloc (Nat.le_refl _) _) ZB.out).trans hg);obtain ⟨a2, c2, rfl, -, -, -, -⟩ := ho.parts;have O2 := zH ho;clear ho hg K2;have YL : (Y1 ++ pnums [x.kind]).length ≤ xl + 2024 := by rw [List.length_append]; have := N1.out; omega
 clear LL2;generalize hn : (Y1 ++ pnums [x.kind]).length = n2 at *;generalize hY : Y1 ++ pnums [x.kind] = Y2 at *;have E2 := zH hY.symm;have N2 : Hid (Y2.length ≤ xl + 2024) := zH (by rw [hn]; exact YL);have M2 := zH hn;clear hn hY YL;clear e0 e1 e2 e3 e4 e5 e6 e7;have K3 : Hid (Calls Tryz.prog 60 #[.slice a2 n2 c2, .slice (some ⟨u2.heap.size, 0, none⟩) 1 1] (u2.alloc (.cells #[.string (bt x.elem)] 9)) (GivesO B (u2.alloc (.cells #[.string (bt x.elem)] 9)) (.slice a2 n2 c2) (Y2 ++ ptexts [x.elem]))) := zH (mptexts_any (O2.out.alloc _) (by have := G2.out.size; have := ZB.out; simp; omega) (lit_strs u2 #[.string (bt x.elem)] [x.elem] (.slice a2 n2 c2) rfl (by simp) (fun k hk => (O2.out.lt k hk).2)) (fun b hb => hb) (by intro n hn; simp at hn; subst hn; exact P4.out) (by have := N2.out; simp; omega));have LL3 := ptexts_len (ns := [x.elem]) (by intro n hn; simp at hn; subst hn; exact P4.out);simp only [List.length_cons, List.length_nil] at LL3
 obtain ⟨e0, e1, e2, e3, e4, e5, e6, e7⟩ := (EB.out.same (G2.out.kept _ ZE.out NE.out)).zero;go_wp2_with fail
 refine K3.out.mono ?_;rintro e u3 ⟨v', rfl, ho, hg⟩;have G3 := zH ((G2.out.keep ((Below.refl _ _).alloc (Nat.le_refl _) _) ZB.out).trans hg);obtain ⟨a3, c3, rfl, -, -, -, -⟩ := ho.parts;have O3 := zH ho;clear ho hg K3;have YL : (Y2 ++ ptexts [x.elem]).length ≤ xl + 3032 := by rw [List.length_append]; have := N2.out; omega
 clear LL3;generalize hn : (Y2 ++ ptexts [x.elem]).length = n3 at *;generalize hY : Y2 ++ ptexts [x.elem] = Y3 at *;have E3 := zH hY.symm;have N3 : Hid (Y3.length ≤ xl + 3032) := zH (by rw [hn]; exact YL);have M3 := zH hn;clear hn hY YL;clear e0 e1 e2 e3 e4 e5 e6 e7;have KI := zH (By.putInt_any (By.Seq.nil u3) (by simp) x.n P5.out.1 P5.out.2);obtain ⟨e0, e1, e2, e3, e4, e5, e6, e7⟩ := (EB.out.same (G3.out.kept _ ZE.out NE.out)).zero;go_wp2_with fail
 refine KI.out.mono ?_;rintro e u3b ⟨v2, rfl, ho2, hb2⟩;rw [List.nil_append] at ho2;have O3b := zH (O3.out.below hb2 (Nat.le_refl _));have G3b := zH (G3.out.keep hb2 ZB.out);have S3 := zH ho2.seq;have IL := zH (iform_len x.n);obtain ⟨a2, c2, rfl, -, -, -, -⟩ := ho2.parts;clear ho2 hb2 KI e0 e1 e2 e3 e4 e5 e6 e7;generalize hil : (iform x.n).length = il at *;clear hil;generalize hIF : iform x.n = IF at *;have IFE := zH hIF.symm;clear hIF;have ILF : Hid (IF.length = il) := zH (by
  obtain ⟨a, c, hv, -⟩ := S3.out;simp only [Value.slice.injEq] at hv
  exact hv.2.1.symm)
 go_wp2_with (at_builtin; refine By.wpList_append_seq rfl (.tmp 22) (.tmp 25) rfl B rfl O3b.out rfl S3.out (by rw [ILF.out]; have := N3.out; have := IL.out; omega) (by have := G3b.out.size; have := ZB.out; omega) ?_)
 intro v5 u4 ho hgr hat;have G4 := zH (G3b.out.app hgr hat (fun k hk => (O3b.out.lt k hk).1) ZB.out);obtain ⟨a4, c4, rfl, -, -, -, -⟩ := ho.parts;have O4 := zH ho;clear ho hgr hat;have YL : (Y3 ++ IF).length ≤ xl + 3040 := by rw [List.length_append, ILF.out]; have := N3.out; have := IL.out; omega
 generalize hn : (Y3 ++ IF).length = n4 at *;generalize hY : Y3 ++ IF = Y4 at *;have E4 := zH hY.symm;have N4 : Hid (Y4.length ≤ xl + 3040) := zH (by rw [hn]; exact YL);have M4 := zH hn;clear hn hY YL IL;have K5 : Hid (Calls Tryz.prog 58 #[.slice a4 n4 c4, .slice (some ⟨u4.heap.size, 0, none⟩) 3 3] (u4.alloc (.cells #[.int .i64 x.dot.node, .int .i64 x.dot.seq, .int .i64 x.dot.pos] 3)) (GivesO B (u4.alloc (.cells #[.int .i64 x.dot.node, .int .i64 x.dot.seq, .int .i64 x.dot.pos] 3)) (.slice a4 n4 c4) (Y4 ++ pnums [x.dot.node, x.dot.seq, x.dot.pos]))) := zH (mpnums_any (O4.out.alloc _) (by have := G4.out.size; have := ZB.out; simp; omega) (lit_ints u4 #[.int .i64 x.dot.node, .int .i64 x.dot.seq, .int .i64 x.dot.pos] [x.dot.node, x.dot.seq, x.dot.pos] (.slice a4 n4 c4) rfl (by simp) (fun k hk => (O4.out.lt k hk).2)) (fun b hb => hb) (by intro n hn; simp at hn; have := P6.out; have := P7.out; have := P8.out; omega) (by have := N4.out; simp; omega));have LL5 := pnums_len (ns := [x.dot.node, x.dot.seq, x.dot.pos]) (by intro n hn; simp at hn; have := P6.out; have := P7.out; have := P8.out; omega);simp only [List.length_cons, List.length_nil] at LL5
 obtain ⟨e0, e1, e2, e3, e4, e5, e6, e7⟩ := (EB.out.same (G4.out.kept _ ZE.out NE.out)).zero;go_wp2_with fail
 refine K5.out.mono ?_;rintro e u5 ⟨v', rfl, ho, hg⟩;have G5 := zH ((G4.out.keep ((Below.refl _ _).alloc (Nat.le_refl _) _) ZB.out).trans hg);obtain ⟨a5, c5, rfl, -, -, -, -⟩ := ho.parts;have O5 := zH ho;clear ho hg K5;have YL : (Y4 ++ pnums [x.dot.node, x.dot.seq, x.dot.pos]).length ≤ xl + 3064 := by rw [List.length_append]; have := N4.out; omega
 clear LL5;generalize hn : (Y4 ++ pnums [x.dot.node, x.dot.seq, x.dot.pos]).length = n5 at *;generalize hY : Y4 ++ pnums [x.dot.node, x.dot.seq, x.dot.pos] = Y5 at *;have E5 := zH hY.symm;have N5 : Hid (Y5.length ≤ xl + 3064) := zH (by rw [hn]; exact YL);have M5 := zH hn;clear hn hY YL;clear e0 e1 e2 e3 e4 e5 e6 e7;have OE : Hid (By.Owns B u5 _ (Y0 ++ pitem x)) := zH (by
  have h := O5.out;rw [E5.out, E4.out, E3.out, E2.out, E1.out] at h;rw [HPE.out]
  simpa only [List.append_assoc] using h)
 go_wp2_with fail
 go_ret
 exact ⟨_, rfl, OE.out, GW.out.trans G5.out⟩
theorem mflag_any (b : Bool) (w : World) : Calls Tryz.prog 59 #[.bool b] w fun e w' => e = .returned (.int .i64 (flagN b)) ∧ w' = w := by
 cases b with
 | true =>
  go_enter Tryz.func59, Tryz.ntmps59
  go_wp2_with fail
  go_ret
  exact ⟨rfl, rfl⟩
 | false =>
  go_enter Tryz.func59, Tryz.ntmps59
  go_wp2_with fail
  go_ret
  exact ⟨rfl, rfl⟩
end Go.Proofs.YtfapkepfngddlaaGreat
