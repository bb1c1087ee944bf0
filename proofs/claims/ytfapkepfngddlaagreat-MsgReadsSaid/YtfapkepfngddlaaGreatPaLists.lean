/- What the program's own form and Put of transactions leave. (Written by gen-put3.py.) What the program's own Read of transactions leaves. (Written by gen-con.py.) What slices.Clone of vectors and the program's own Only of transactions leave. The contracts of the program's own Formed, Put, Read and Only of transactions, all of them. The contracts of stage 13's walks; the laws' own function awake. -/
import Derived.Test.YtfapkepfngddlaaGreatTxPuts
import Derived.Test.YtfapkepfngddlaaGreatRefTxOC
import Derived.Test.YtfapkepfngddlaaGreatTxRds
import Derived.Test.YtfapkepfngddlaaGreatShelf
import Derived.RegionTactic
import Derived.ChangeAlike
import Derived.Deep.RegionHeld3
import Derived.Test.YtfapkepfngddlaaGreatTxIns
import Derived.Test.YtfapkepfngddlaaGreatEForms
import Derived.Test.YtfapkepfngddlaaGreatINorms
import Derived.Test.YtfapkepfngddlaaGreatEMades
import Derived.Test.YtfapkepfngddlaaGreatISets
import Derived.Deep.LoopGhost
import Derived.BigQuiet
import Derived.Test.YtfapkepfngddlaaGreatIKeyF
import Derived.Test.YtfapkepfngddlaaGreatStItems
import Derived.Deep.Cut
import Derived.Deep.DeepCutAuto
import Derived.Lib.AppendZeros
import Derived.WalkSpells
import Derived.Shelf.Abstract
set_option maxRecDepth 100000
set_option maxHeartbeats 64000000
namespace Go.Proofs.YtfapkepfngddlaaGreat
open Go.RowKit Plain
set_option linter.unusedVariables false
theorem putE_of {node seq : Int} {x : PEff} (h : eformedB node seq x = true) (hn : Nm.Plain.fits x.n) : PutE x := by
 obtain ⟨h1, h2, h3, h4, h5, h6, h7, h8, h9⟩ := eff_parts h;exact ⟨⟨h6, h7⟩, by omega, by omega, ⟨h4, h5⟩, by omega, hn, h8, h9⟩
theorem pform_any {t : PTxn} {da ea : Option Addr} {dn dc en ec : Nat} {w : World} (hd : SeqE LInt w (.slice da dn dc) t.deps) (he : SeqE LEff w (.slice ea en ec) t.effs) (hf : tformedB t = true) (hn : ∀ e ∈ t.effs, Nm.Plain.fits e.n) :
  Calls Tryz.prog 112 #[.agg #[.int .i64 t.node, .int .i64 t.seq, .slice da dn dc, .slice ea en ec]] w (GivesO w.heap.size w (.slice none 0 0) (ptxn t)) := by
 obtain ⟨f1, f2, f3, f4, f5⟩ := tformed_parts.1 hf;have hr : 0 ≤ t.node ∧ t.node ≤ 7 ∧ 1 ≤ t.seq ∧ t.seq ≤ 1073741824 := by
  unfold inRange at f1;exact of_decide_eq_true f1
 obtain ⟨d1, d2⟩ := deps_parts f2;have hq : ∀ e ∈ t.effs, PutE e := by
  unfold rightB at f4;rw [Bool.and_eq_true, List.all_eq_true] at f4;exact fun e h => putE_of (f4.1 e h) (hn e h)
 have hdn := hd.dims;have hen := he.dims;have RT := zH hr;have R1 := zH d1;have R2 := zH d2;have R3 := zH f3;have RQ := zH hq;have hba := zB w (.cells #[.int .i64 t.node, .int .i64 t.seq, .slice da dn dc, .slice ea en ec] 51);have ZB : Hid (w.heap.size ≤ (w.alloc (.cells #[.int .i64 t.node, .int .i64 t.seq, .slice da dn dc, .slice ea en ec] 51)).heap.size) := zH hba.size;have GW : Hid (Grow w.heap.size w (.slice none 0 0) (w.alloc (.cells #[.int .i64 t.node, .int .i64 t.seq, .slice da dn dc, .slice ea en ec] 51)) (.slice none 0 0)) := zH ((Grow.refl _ w _).keep hba (Nat.le_refl _));have O0 : Hid (By.Owns w.heap.size (w.alloc (.cells #[.int .i64 t.node, .int .i64 t.seq, .slice da dn dc, .slice ea en ec] 51)) (.slice none 0 0) []) := zH (By.Owns.nil _ _);have G0 := zH (Grow.refl w.heap.size (w.alloc (.cells #[.int .i64 t.node, .int .i64 t.seq, .slice da dn dc, .slice ea en ec] 51)) (.slice none 0 0));have CT : Hid (∀ W u, Grow w.heap.size (w.alloc (.cells #[.int .i64 t.node, .int .i64 t.seq, .slice da dn dc, .slice ea en ec] 51)) (.slice none 0 0) W u → W.cell? ⟨w.heap.size, 0, none⟩ = some (.int .i64 t.node) ∧ W.cell? ⟨w.heap.size, 1, none⟩ = some (.int .i64 t.seq) ∧ W.cell? ⟨w.heap.size, 2, none⟩ = some (.slice da dn dc) ∧ W.cell? ⟨w.heap.size, 3, none⟩ = some (.slice ea en ec)) := zH (fun W u h => by
  have hb := h.kept w.heap.size (by simp) (by simp [Value.ownBlock]);refine ⟨?_, ?_, ?_, ?_⟩
  ·exact (World.cell?_of_block (a := ⟨w.heap.size, 0, none⟩) hb).trans (by simp)
  ·exact (World.cell?_of_block (a := ⟨w.heap.size, 1, none⟩) hb).trans (by simp)
  ·exact (World.cell?_of_block (a := ⟨w.heap.size, 2, none⟩) hb).trans (by simp)
  ·exact (World.cell?_of_block (a := ⟨w.heap.size, 3, none⟩) hb).trans (by simp))
 have HBW : Hid (∀ W u, Grow w.heap.size (w.alloc (.cells #[.int .i64 t.node, .int .i64 t.seq, .slice da dn dc, .slice ea en ec] 51)) (.slice none 0 0) W u → Below w.heap.size w W) := zH (fun W u h => hba.trans h.below);have HD := zH hd;have HE := zH he;have HPE : Hid (ptxn t = pnums [t.node, t.seq, (t.deps.length : Int)] ++ pnums t.deps ++ pnums [(t.effs.length : Int)] ++ t.effs.flatMap peff) := zH rfl;have PS0 := zH (fun k (hk : k < t.effs.length) => flatMap_take peff t.effs (k := k) hk);obtain ⟨P, hP⟩ : ∃ P : Nat → Bytes, P = fun k => (t.effs.take k).flatMap peff := ⟨_, rfl⟩
 have PS : Hid (∀ k, k < t.effs.length → P (k + 1) = P k ++ peff (t.effs.getD k default)) := zH (fun k hk => by rw [hP]; exact PS0.out k hk);have P0 : Hid (P 0 = []) := zH (by rw [hP]; rfl);have PN : Hid (P t.effs.length = t.effs.flatMap peff) := zH (by rw [hP]; show (t.effs.take t.effs.length).flatMap peff = _; rw [List.take_length]);have PL : Hid (∀ k, (P k).length ≤ 48000) := zH (fun k => by
  rw [hP];have h1 := flatMap_len peff 6000 (t.effs.take k) (fun d hd => peff_len (hq d (List.mem_of_mem_take hd)));have h2 : (t.effs.take k).length ≤ 8 := by rw [List.length_take]; omega
  exact Nat.le_trans h1 (by omega))
 clear hP PS0 hd he hf hn f1 f2 f3 f4 f5 hr d1 d2 hq hba;obtain ⟨hdn, hd1, hd2⟩ := hdn;obtain ⟨hen, he1, he2⟩ := hen;rw [hdn] at HPE R1;rw [hen] at HPE PS PN R3;have LD := zH hdn;have LE := zH hen;clear hdn hen;have PF : Hid ((pnums t.deps).length ≤ 64) := zH (by
  have := pnums_len (ns := t.deps) (fun n h => by have := R2.out n h; omega);rw [LD.out] at this;have := R1.out;omega)
 obtain ⟨Y0, hY0⟩ : ∃ Y : Bytes, Y = [] := ⟨_, rfl⟩;rw [← hY0] at O0;have N0 : Hid (Y0.length ≤ 0 + 0) := zH (by rw [hY0]; simp);have EY0 := zH hY0;clear hY0;obtain ⟨xl, hxl⟩ : ∃ n : Nat, n = 0 := ⟨_, rfl⟩;rw [← hxl] at N0;replace N0 : Hid (Y0.length ≤ xl + 0) := zH (by have := N0.out; omega);replace hxl := zH hxl;obtain ⟨a0, ha0⟩ : ∃ a : Option Addr, a = none := ⟨_, rfl⟩;go_enter Tryz.func112, Tryz.ntmps112
 go_upto_region 1 with fail
 generalize (w.alloc (.cells #[.int .i64 t.node, .int .i64 t.seq, .slice da dn dc, .slice ea en ec] 51)) = u0 at *;clear ha0;have K1 : Hid (Calls Tryz.prog 149 #[.slice none 0 0, .slice (some ⟨u0.heap.size, 0, none⟩) 3 3] (u0.alloc (.cells #[.int .i64 t.node, .int .i64 t.seq, .int .i64 (dn : Int)] 3)) (GivesO w.heap.size (u0.alloc (.cells #[.int .i64 t.node, .int .i64 t.seq, .int .i64 (dn : Int)] 3)) (.slice none 0 0) (Y0 ++ pnums [t.node, t.seq, (dn : Int)]))) := zH (pnums_any (O0.out.alloc _) (by have := G0.out.size; have := ZB.out; simp; omega) (lit_ints u0 #[.int .i64 t.node, .int .i64 t.seq, .int .i64 (dn : Int)] [t.node, t.seq, (dn : Int)] (.slice none 0 0) rfl (by simp) (fun k hk => (O0.out.lt k hk).2)) (fun b hb => hb) (by intro n hn; simp at hn; have := RT.out; have := R1.out; omega) (by have := N0.out; have := hxl.out; simp; omega));have LL1 := pnums_len (ns := [t.node, t.seq, (dn : Int)]) (by intro n hn; simp at hn; have := RT.out; have := R1.out; omega);simp only [List.length_cons, List.length_nil] at LL1
 obtain ⟨e0, e1, e2, e3⟩ := CT.out _ _ G0.out;go_wp2_with fail
 refine K1.out.mono ?_;rintro e u1 ⟨v', rfl, ho, hg⟩;have G1 := zH ((G0.out.keep ((Below.refl _ _).alloc (Nat.le_refl _) _) ZB.out).trans hg);obtain ⟨a1, c1, rfl, -, -, -, -⟩ := ho.parts;have O1 := zH ho;clear ho hg K1;have YL : (Y0 ++ pnums [t.node, t.seq, (dn : Int)]).length ≤ xl + 24 := by rw [List.length_append]; have := N0.out; omega
 clear LL1;generalize hn : (Y0 ++ pnums [t.node, t.seq, (dn : Int)]).length = n1 at *;generalize hY : Y0 ++ pnums [t.node, t.seq, (dn : Int)] = Y1 at *;have E1 := zH hY.symm;have N1 : Hid (Y1.length ≤ xl + 24) := zH (by rw [hn]; exact YL);have M1 := zH hn;clear hn hY YL;clear e0 e1 e2 e3;have K2 : Hid (Calls Tryz.prog 149 #[.slice a1 n1 c1, .slice da dn dc] u1 (GivesO w.heap.size u1 (.slice a1 n1 c1) (Y1 ++ pnums t.deps))) := zH (pnums_any O1.out (by have := G1.out.size; have := ZB.out; omega) (Q := (· < w.heap.size)) (HD.out.agree fun b hb => (HBW.out _ _ G1.out).block b hb) (fun b hb => ⟨by have := G1.out.size; have := ZB.out; omega, fun e => by have := (O1.out.lt _ e).1; omega⟩) (fun n h => by have := R2.out n h; omega) (by rw [LD.out]; have := R1.out; have := N1.out; have := hxl.out; omega));obtain ⟨e0, e1, e2, e3⟩ := CT.out _ _ G1.out;go_wp2_with fail
 refine K2.out.mono ?_;rintro e u2 ⟨v', rfl, ho, hg⟩;have G2 := zH (G1.out.trans hg);obtain ⟨a2, c2, rfl, -, -, -, -⟩ := ho.parts;have O2 := zH ho;clear ho hg K2 e0 e1 e2 e3;have YL : (Y1 ++ pnums t.deps).length ≤ xl + 88 := by rw [List.length_append]; have := N1.out; have := PF.out; omega
 generalize hn : (Y1 ++ pnums t.deps).length = n2 at *;generalize hY : Y1 ++ pnums t.deps = Y2 at *;have E2 := zH hY.symm;have N2 : Hid (Y2.length ≤ xl + 88) := zH (by rw [hn]; exact YL);clear hn hY YL;have K3 : Hid (Calls Tryz.prog 149 #[.slice a2 n2 c2, .slice (some ⟨u2.heap.size, 0, none⟩) 1 1] (u2.alloc (.cells #[.int .i64 (en : Int)] 3)) (GivesO w.heap.size (u2.alloc (.cells #[.int .i64 (en : Int)] 3)) (.slice a2 n2 c2) (Y2 ++ pnums [(en : Int)]))) := zH (pnums_any (O2.out.alloc _) (by have := G2.out.size; have := ZB.out; simp; omega) (lit_ints u2 #[.int .i64 (en : Int)] [(en : Int)] (.slice a2 n2 c2) rfl (by simp) (fun k hk => (O2.out.lt k hk).2)) (fun b hb => hb) (by intro n hn; simp at hn; have := R3.out; omega) (by have := N2.out; have := hxl.out; simp; omega));have LL3 := pnums_len (ns := [(en : Int)]) (by intro n hn; simp at hn; have := R3.out; omega);simp only [List.length_cons, List.length_nil] at LL3
 obtain ⟨e0, e1, e2, e3⟩ := CT.out _ _ G2.out;go_wp2_with fail
 refine K3.out.mono ?_;rintro e u3 ⟨v', rfl, ho, hg⟩;have G3 := zH ((G2.out.keep ((Below.refl _ _).alloc (Nat.le_refl _) _) ZB.out).trans hg);obtain ⟨a3, c3, rfl, -, -, -, -⟩ := ho.parts;have O3 := zH ho;clear ho hg K3;have YL : (Y2 ++ pnums [(en : Int)]).length ≤ xl + 96 := by rw [List.length_append]; have := N2.out; omega
 clear LL3;generalize hn : (Y2 ++ pnums [(en : Int)]).length = n3 at *;generalize hY : Y2 ++ pnums [(en : Int)] = Y3 at *;have E3 := zH hY.symm;have N3 : Hid (Y3.length ≤ xl + 96) := zH (by rw [hn]; exact YL);have M3 := zH hn;clear hn hY YL;clear e0 e1 e2 e3;obtain ⟨e0, e1, e2, e3⟩ := CT.out _ _ G3.out;go_wp2_with fail
 clear e0 e1 e2 e3
 go_loopw [3, 28] (fun z i wr => ∃ k : Nat, k ≤ en ∧ i = .int .i64 k ∧ By.Owns w.heap.size wr z (Y3 ++ P k) ∧ Grow w.heap.size u0 (.slice none 0 0) wr z) (fun _ i _ => en - (intOf i).toNat)
 case atStart => exact ⟨0, Nat.zero_le _, rfl, by rw [P0.out, List.append_nil]; exact O3.out, G3.out⟩
 case round =>
  obtain ⟨k, hk, rfl, ho, hg⟩ := hrel;have HO := zH ho;have HG := zH hg;clear ho hg
  by_cases hlt : k < en
  ·have PK := zH (PS.out k hlt)
   have LK := zH (PL.out k);have BW := zH (HBW.out _ _ HG.out);obtain ⟨b, o, c, hv, -, -, -, hc⟩ := effs_spot HE.out (by rw [LE.out]; omega);rw [LE.out] at hv;simp only [Value.slice.injEq] at hv
   obtain ⟨rfl, -, rfl⟩ := hv;obtain ⟨dv, EX, hsd⟩ := hc k (by rw [LE.out]; exact hlt);have QX := zH (RQ.out _ (tmem_getD (l := t.effs) (k := k) (by rw [LE.out]; exact hlt)));clear hc;generalize t.effs.getD k default = x at *;obtain ⟨xa, xn, rfl, -, -, -, -⟩ : ∃ xa xn, dv = .slice xa x.drops.length xn ∧ True ∧ True ∧ True ∧ True := by
    obtain ⟨a, c, e, -⟩ := hsd.parts;exact ⟨a, c, e, trivial, trivial, trivial, trivial⟩
   have SD : Hid (Sq LDot (· < w.heap.size) wr (.slice xa x.drops.length xn) x.drops) := zH (hsd.agree fun b hb => BW.out.block b hb);obtain ⟨e0, e1, e2, e3, e4, e5, e6⟩ := EX.below BW.out EX.lt;clear hsd EX;obtain ⟨za, zc, rfl, -, -, -, -⟩ := HO.out.parts;generalize hzl : (Y3 ++ P k).length = zl at *;clear hzl;generalize x.drops.length = xm at *;have EB := zH (effAt_box wr x xa xm xn);have OB := zH (HO.out.alloc (.cells #[.int .i64 x.pos, .string (bt x.key), .string (bt x.field), .int .i64 x.kind, .string (bt x.elem), .int .i64 x.n, .slice xa xm xn] 54));have GB := zH (HG.out.keep ((Below.refl _ _).alloc (Nat.le_refl _) (.cells #[.int .i64 x.pos, .string (bt x.key), .string (bt x.field), .int .i64 x.kind, .string (bt x.elem), .int .i64 x.n, .slice xa xm xn] 54)) ZB.out);have SB := zH (SD.out.agree fun b hb => (zB wr (.cells #[.int .i64 x.pos, .string (bt x.key), .string (bt x.field), .int .i64 x.kind, .string (bt x.elem), .int .i64 x.n, .slice xa xm xn] 54)).block b (by have := BW.out.size; omega));go_upto_region 7 with fail
   clear e0 e1 e2 e3 e4 e5 e6;generalize (wr.alloc (.cells #[.int .i64 x.pos, .string (bt x.key), .string (bt x.field), .int .i64 x.kind, .string (bt x.elem), .int .i64 x.n, .slice xa xm xn] 54)) = wd at *;obtain ⟨e0, e1, e2, e3, e4, e5, e6⟩ := EB.out.zero;have K7 := zH (peff_any OB.out (by have := GB.out.size; have := ZB.out; omega) SB.out QX.out (by rw [List.length_append]; have := N3.out; have := LK.out; have := hxl.out; omega));go_wp2_with fail
   refine K7.out.mono ?_;rintro e u7 ⟨v', rfl, ho, hg⟩;have G7 := zH (GB.out.trans hg);have O7 := zH ho;obtain ⟨a7, c7, rfl, -, -, -, -⟩ := ho.parts;clear ho hg K7 e0 e1 e2 e3 e4 e5 e6;generalize hnn : (Y3 ++ P k ++ peff x).length = n7 at *;clear hnn;go_wp2_with fail
   go_roundw
   case rel => exact ⟨k + 1, by omega, by go_num, by rw [PK.out, ← List.append_assoc]; exact O7.out, G7.out⟩
   case measure => simp [intOf] <;> omega
  ·obtain rfl : k = en := by omega
   have OE : Hid (By.Owns w.heap.size wr _ (ptxn t)) := zH (by
    have h := HO.out;rw [E3.out, E2.out, E1.out, PN.out, EY0.out, List.nil_append] at h;rw [HPE.out];exact h)
   go_wp2_with fail
   go_ret
   exact ⟨_, rfl, OE.out, GW.out.trans HG.out⟩
def GivesPut (w : World) (bs : Bytes) (t : PTxn) (e : Ending) (w' : World) : Prop :=
 (tformedB t = true → ∃ v, e = .returned (.tuple #[v, .int .i64 0]) ∧ By.Owns w.heap.size w' v (bs ++ txnC.put t)) ∧ (tformedB t = false → ∃ a c, e = .returned (.tuple #[.slice a 0 c, .int .i64 2])) ∧ Below w.heap.size w w'
theorem txputP {b v : Value} {bs : Bytes} {t : PTxn} {w : World} (hb : By.Seq w b bs) (hl : bs.length ≤ 10000) (h : IsTxn w v t) (ht : FitTx t) : Calls Tryz.prog 62 #[b, v] w (GivesPut w bs t) := by
 obtain ⟨da, dn, dc, ea, en, ec, rfl, k1, k2⟩ := h.slices;have hba := zB w (.cells #[.int .i64 t.node, .int .i64 t.seq, .slice da dn dc, .slice ea en ec] 51);have KF := zH (txformedP (h.below hba) ht _ rfl);have ZT : Hid (w.heap.size < (w.alloc (.cells #[.int .i64 t.node, .int .i64 t.seq, .slice da dn dc, .slice ea en ec] 51)).heap.size) := zH (by simp);have G0 := zH hba;have KP := zH (fun W (hb : Below (w.alloc (.cells #[.int .i64 t.node, .int .i64 t.seq, .slice da dn dc, .slice ea en ec] 51)).heap.size (w.alloc (.cells #[.int .i64 t.node, .int .i64 t.seq, .slice da dn dc, .slice ea en ec] 51)) W) (hf : tformedB t = true) => pform_any (k1.below (hba.trans (hb.mono hba.size))) (k2.below (hba.trans (hb.mono hba.size))) hf (fun e he => i64_in (ht.ok.2.2.2 e he).2.2.1));have HL := zH (fun hf : tformedB t = true => txnC_len hf);have HP := zH (ptxn_put t);have SB := zH (fun W (hb' : Below w.heap.size w W) => hb.below hb');obtain ⟨ba, bc, rfl, -, -, -, -⟩ := hb.parts;have CT : Hid (∀ W, Below (w.alloc (.cells #[.int .i64 t.node, .int .i64 t.seq, .slice da dn dc, .slice ea en ec] 51)).heap.size (w.alloc (.cells #[.int .i64 t.node, .int .i64 t.seq, .slice da dn dc, .slice ea en ec] 51)) W → W.cell? ⟨w.heap.size, 0, none⟩ = some (.int .i64 t.node) ∧ W.cell? ⟨w.heap.size, 1, none⟩ = some (.int .i64 t.seq) ∧ W.cell? ⟨w.heap.size, 2, none⟩ = some (.slice da dn dc) ∧ W.cell? ⟨w.heap.size, 3, none⟩ = some (.slice ea en ec)) := zH (fun W h => by
  refine ⟨?_, ?_, ?_, ?_⟩
  ·exact (h.cell (p := ⟨w.heap.size, 0, none⟩) ZT.out).trans (by simp)
  ·exact (h.cell (p := ⟨w.heap.size, 1, none⟩) ZT.out).trans (by simp)
  ·exact (h.cell (p := ⟨w.heap.size, 2, none⟩) ZT.out).trans (by simp)
  ·exact (h.cell (p := ⟨w.heap.size, 3, none⟩) ZT.out).trans (by simp))
 unfold GivesPut;rw [← HP.out] at HL ⊢;clear HP;generalize ptxn t = pt at *;clear hb h ht k1 k2 hba;generalize tformedB t = r at *;generalize hbl : bs.length = bl at *;have BL := zH hbl;clear hbl;go_enter Tryz.func62, Tryz.ntmps62
 go_upto_region 1 with fail
 generalize (w.alloc (.cells #[.int .i64 t.node, .int .i64 t.seq, .slice da dn dc, .slice ea en ec] 51)) = w0 at *;obtain ⟨e0, e1, e2, e3⟩ := CT.out _ (Below.refl _ _);go_wp2_with fail
 refine KF.out.mono ?_;rintro e w1 ⟨rfl, hb1⟩;have B1 := zH hb1;clear hb1 KF e0 e1 e2 e3;obtain ⟨e0, e1, e2, e3⟩ := CT.out _ B1.out
 cases r with
 | false =>
  have GE : Hid (Below w.heap.size w w1) := zH (G0.out.trans (B1.out.mono G0.out.size));clear KP HL;go_wp2_with fail
  go_ret2
  exact ⟨⟨_, _, rfl⟩, GE.out⟩
 | true =>
  have K := zH (KP.out w1 B1.out rfl);have GE : Hid (Below w.heap.size w w1) := zH (G0.out.trans (B1.out.mono G0.out.size));have FL := zH (HL.out rfl);clear KP HL;go_wp2_with fail
  refine K.out.mono ?_;rintro e w2 ⟨v2, rfl, ho, hg⟩;have B2 : Hid (Below w1.heap.size w1 w2) := zH hg.below;have S2 := zH ho.seq;obtain ⟨a2, c2, rfl, -, -, -, -⟩ := ho.parts;have GE2 : Hid (Below w.heap.size w w2) := zH (GE.out.trans (B2.out.mono GE.out.size));clear ho hg K e0 e1 e2 e3;have SB2 := zH (SB.out w2 GE2.out);generalize hpl : pt.length = pl at *;have PLE := zH hpl;clear hpl;go_wp2_with fail
  refine (By.concat_two _ _ _ (cell_of_row _ _ 0 _ 31 (0, 0) (heap_alloc_new w2 _)) (cell_of_row _ _ 1 _ 31 (0, 0) (heap_alloc_new w2 _)) (SB2.out.below_alloc _) (S2.out.below_alloc _) (by rw [PLE.out, BL.out]; have := FL.out; omega)).mono ?_;rintro e w3 ⟨v3, rfl, ho3, hb3⟩;have O3 : Hid (By.Owns w.heap.size w3 v3 (bs ++ pt)) := zH (ho3.mono (by have := GE2.out.size; simp; omega));have GE3 : Hid (Below w.heap.size w w3) := zH ((GE2.out.alloc GE2.out.size _).trans (hb3.mono (by have := GE2.out.size; simp; omega)));clear ho3 hb3;go_wp2_with fail
  go_ret2
  exact ⟨⟨_, rfl, O3.out⟩, GE3.out⟩
theorem byOwns_but {B g : Nat} {w w' : World} {v : Value} {xs : Bytes} (h : By.Owns B w v xs) (hb : But g w w') (hg : g < B) : By.Owns B w' v xs := by
 refine ⟨h.1, ?_⟩
 rcases h.2 with hn | ⟨g', cap, cur, hv, hb', hg', hr'⟩
 ·exact .inl hn
 ·have hlt : g' < w.heap.size := (Array.getElem?_eq_some_iff.1 hg').1
  exact .inr ⟨g', cap, cur, hv, hb', (hb.block g' hlt (by omega)).trans hg', hr'⟩
theorem bclone_any {a : Option Addr} {n c : Nat} {xs : Bytes} {w : World} (hs : By.Seq w (.slice a n c) xs) (hl : xs.length ≤ 1000000) (h0 : a = none → c = 0) : Calls Tryz.prog 170 #[.slice a n c] w fun e w' => ∃ v, e = .returned v ∧ By.Owns w.heap.size w' v xs ∧ Below w.heap.size w w' := by
 cases a with
 | some ad => exact By.clone_some hs hl
 | none =>
  obtain ⟨a', c', hv, h1, -⟩ := hs;simp only [Value.slice.injEq] at hv
  obtain ⟨-, rfl, rfl⟩ := hv;have hc : c = 0 := h0 rfl;obtain rfl : xs = [] := List.eq_nil_of_length_eq_zero (by omega);subst hc;simp only [List.length_nil]
  exact (Tryz.bytes_Clone_nil 0 0 w).mono fun e w' ⟨he, hw⟩ => ⟨_, he, By.Owns.nil _ _, hw ▸ Below.refl _ _⟩
theorem wf_num {n : Int} (h : 0 ≤ n ∧ n < 72057594037927936) : (Lit.int .i64 n).wf = true := by
 simp only [Lit.wf, IntKind.min, IntKind.max, IntKind.signed, IntKind.bits, decide_eq_true_iff, Bool.and_eq_true]
 simp
 omega
theorem wf_int {n : Int} (h : -9223372036854775808 ≤ n ∧ n ≤ 9223372036854775807) : (Lit.int .i64 n).wf = true := by
 simp only [Lit.wf, IntKind.min, IntKind.max, IntKind.signed, IntKind.bits, decide_eq_true_iff, Bool.and_eq_true]
 simp
 omega
theorem dotC_fit {d : PDot} (h : dotC.ok d) : dotOk d := by
 obtain ⟨⟨h1, h2, h3⟩, -⟩ := h;exact ⟨wf_num (numI_ok.1 h1), wf_num (numI_ok.1 h2), wf_num (numI_ok.1 h3)⟩
theorem fitTx_raw {t : PTxn} (h : txnC0.ok t) : FitTx t := by
 obtain ⟨⟨h1, h2, ⟨h3, h4⟩, h5, h6⟩, -⟩ := h;refine ⟨Nat.le_trans h3 (by decide), Nat.le_trans h5 (by decide), fun e he => ?_, wf_num (numI_ok.1 h1), wf_num (numI_ok.1 h2), fun n hn => wf_num (numI_ok.1 (h4 n hn)), fun e he => ?_⟩
 ·obtain ⟨⟨-, -, -, -, -, -, k1, -⟩, -⟩ := h6 e he
  exact Nat.le_trans k1 (by decide)
 ·obtain ⟨⟨k1, k2, k3, k4, k5, k6, k7, k8⟩, -⟩ := h6 e he
  exact ⟨wf_num (numI_ok.1 k1), wf_num (numI_ok.1 k4), wf_int k6, fun d hd => dotC_fit (k8 d hd), Nat.le_trans k2 (by decide), Nat.le_trans k3 (by decide), Nat.le_trans k5 (by decide)⟩
theorem txn_none (w : World) : IsTxn w (.agg #[.int .i64 0, .int .i64 0, .slice none 0 0, .slice none 0 0]) default := ⟨_, _, rfl, SeqE.nil w, SeqE.nil w⟩
end Go.Proofs.YtfapkepfngddlaaGreat
namespace Go.Proofs.YtfapkepfngddlaaGreat
end Go.Proofs.YtfapkepfngddlaaGreat
namespace Go.Proofs.YtfapkepfngddlaaGreat
open Go.RowKit Plain
set_option linter.unusedVariables false
structure TxBox (g : Nat) (t : PTxn) (da : Option Addr) (dn dc : Nat) (ea : Option Addr) (en ec : Nat) (u : World) : Prop where
 c : u.cell? ⟨g, 0, none⟩ = some (.int .i64 t.node) ∧ u.cell? ⟨g, 1, none⟩ = some (.int .i64 t.seq) ∧ u.cell? ⟨g, 2, none⟩ = some (.slice da dn dc) ∧ u.cell? ⟨g, 3, none⟩ = some (.slice ea en ec)
 d : SeqE LInt u (.slice da dn dc) t.deps
 e : SeqE LEff u (.slice ea en ec) t.effs
theorem TxBox.below {g : Nat} {t : PTxn} {da : Option Addr} {dn dc : Nat} {ea : Option Addr} {en ec : Nat} {u u' : World} (k : TxBox g t da dn dc ea en ec u) (hb : Below u.heap.size u u') : TxBox g t da dn dc ea en ec u' := by
 have c : ∀ {a : Addr} {v : Value}, u.cell? a = some v → u'.cell? a = some v := fun g => (hb.cell (World.block_lt_of_cell? u _ g)).trans g
 obtain ⟨h0, h1, h2, h3⟩ := k.c;exact ⟨⟨c h0, c h1, c h2, c h3⟩, k.d.below hb, k.e.below hb⟩
theorem TxBox.is {g : Nat} {t : PTxn} {da : Option Addr} {dn dc : Nat} {ea : Option Addr} {en ec : Nat} {u : World} (k : TxBox g t da dn dc ea en ec u) : IsTxn u (.agg #[.int .i64 t.node, .int .i64 t.seq, .slice da dn dc, .slice ea en ec]) t := ⟨_, _, rfl, k.d, k.e⟩
theorem txbox_new {w : World} {t : PTxn} {da : Option Addr} {dn dc : Nat} {ea : Option Addr} {en ec : Nat} (h1 : SeqE LInt w (.slice da dn dc) t.deps) (h2 : SeqE LEff w (.slice ea en ec) t.effs) : TxBox w.heap.size t da dn dc ea en ec (w.alloc (.cells #[.int .i64 t.node, .int .i64 t.seq, .slice da dn dc, .slice ea en ec] 51)) :=
 have hb := zB w (.cells #[.int .i64 t.node, .int .i64 t.seq, .slice da dn dc, .slice ea en ec] 51)
 ⟨⟨by simp, by simp, by simp, by simp⟩, h1.below hb, h2.below hb⟩
theorem IsTxn.parts {w : World} {v : Value} {t : PTxn} (h : IsTxn w v t) : ∃ da dn dc ea en ec, v = .agg #[.int .i64 t.node, .int .i64 t.seq, .slice da dn dc, .slice ea en ec] ∧ SeqE LInt w (.slice da dn dc) t.deps ∧ SeqE LEff w (.slice ea en ec) t.effs := by
 obtain ⟨dv, ev, rfl, h1, h2⟩ := h;obtain ⟨a1, c1, rfl, -, -, -, k1⟩ := h1.parts;obtain ⟨a2, c2, rfl, -, -, -, k2⟩ := h2.parts;exact ⟨_, _, _, _, _, _, rfl, k1, k2⟩
theorem fits_effs {t : PTxn} (h : txnOk t) : ∀ e ∈ t.effs, Nm.Plain.fits e.n := fun e he => i64_in (h.2.2.2 e he).2.2.1
theorem wf_small {n : Int} (h0 : -1000 ≤ n) (h1 : n ≤ 1073741824) : (Lit.int .i64 n).wf = true := by
 simp only [Lit.wf, IntKind.min, IntKind.max, IntKind.signed, IntKind.bits, decide_eq_true_iff, Bool.and_eq_true]
 simp
 omega
theorem dotOk_dotB {d : PDot} (h : dotB d = true) : dotOk d := by
 unfold dotB at h;rw [decide_eq_true_iff] at h;exact ⟨wf_small (by omega) (by omega), wf_small (by omega) (by omega), wf_small (by omega) (by omega)⟩
theorem fitTx_back {t : PTxn} (h : txnC.ok t) : FitTx t := by
 have hf := txnC_fits h;obtain ⟨h1, h2, h3, h4, h5⟩ := tformed_parts.1 h.2;have hr : 0 ≤ t.node ∧ t.node ≤ 7 ∧ 1 ≤ t.seq ∧ t.seq ≤ 1073741824 := by
  unfold inRange at h1;exact of_decide_eq_true h1
 obtain ⟨d1, d2⟩ := deps_parts h2;have hq : ∀ e ∈ t.effs, eformedB t.node t.seq e = true := by
  unfold rightB at h4;rw [Bool.and_eq_true, List.all_eq_true] at h4;exact h4.1
 refine ⟨by omega, by omega, fun e he => ?_, wf_small (by omega) (by omega), wf_small (by omega) (by omega), fun n hn => wf_small (by have := d2 n hn; omega) (by have := d2 n hn; omega), fun e he => ?_⟩
 ·obtain ⟨-, -, -, -, -, -, -, k, -⟩ := eff_parts (hq e he)
  omega
 ·obtain ⟨k1, k2, k3, k4, k5, k6, k7, k8, k9⟩ := eff_parts (hq e he)
  have hn := hf e he;refine ⟨wf_small (by omega) (by omega), wf_small (by omega) (by omega), ?_, fun d hd => dotOk_dotB (k9 d hd), by omega, by omega, by omega⟩;unfold Nm.Plain.fits at hn;simp only [Lit.wf, IntKind.min, IntKind.max, IntKind.signed, IntKind.bits, decide_eq_true_iff, Bool.and_eq_true]
  simp
  omega
theorem rsameBy {u v : Value} {xs : Bytes} {w : World} (hu : By.Seq w u xs) (hv : By.Seq w v xs) : Calls Tryz.prog 13 #[u, v] w (GivesB w true) := (By.same_yes hu hv).mono fun _ _ ⟨h, hd⟩ => ⟨h, below_of_drawn hd⟩
theorem byParts {w : World} {v : Value} {xs : Bytes} (h : By.Seq w v xs) : ∃ a n c, v = .slice a n c ∧ n = xs.length ∧ n ≤ c ∧ c ≤ 9223372036854775807 ∧ By.Seq w (.slice a n c) xs := by
 have h' := h;obtain ⟨a, c, rfl, h1, h2, -⟩ := h;exact ⟨a, _, c, rfl, rfl, h1, h2, h'⟩
def FirstAt (p : PTxn → Bool) (ds : List PTxn) (r : Int) : Prop := (r = -1 ∧ ∀ j, j < ds.length → p (ds.getD j default) = false) ∨ ∃ k : Nat, r = (k : Int) ∧ k < ds.length ∧ p (ds.getD k default) = true ∧ ∀ j, j < k → p (ds.getD j default) = false
theorem FirstAt.any {p : PTxn → Bool} {ds : List PTxn} {r : Int} (h : FirstAt p ds r) : decide (0 ≤ r) = ds.any p := by
 rcases h with ⟨rfl, h⟩ | ⟨k, rfl, hk, h, -⟩
 ·rw [Eq.comm]
  show ds.any p = false
  rw [List.any_eq_false];intro d hd;obtain ⟨j, hj, rfl⟩ := List.getElem_of_mem hd;have := h j hj;rw [show ds.getD j default = ds[j] by simp [List.getD, List.getElem?_eq_getElem hj]] at this;rw [this]
  decide
 ·rw [decide_eq_true (by omega), Eq.comm, List.any_eq_true]
  exact ⟨_, List.mem_of_getElem? (getD_at hk), h⟩
theorem txindex_any {v : Value} {ds : List PTxn} {w : World} (hv : SeqE LTxn w v ds) (hn : ds.length ≤ 1000000) (p : PTxn → Bool) (g : Nat) (lb : Array Value)
  (eg : ∀ args w, (callFunc g args).run Tryz.prog w = .ok (.enter g args) w)
  (hp : ∀ W d tv, d ∈ ds → Below w.heap.size w W → IsTxn W tv d → Calls Tryz.prog g (#[tv] ++ lb) W (GivesB W (p d))) :
  Calls Tryz.prog 130 #[v, .func (.func g) #[] lb] w fun e w' => ∃ r : Int, e = .returned (.int .i64 r) ∧ FirstAt p ds r ∧ Below w.heap.size w w' := by
 obtain ⟨a, cap, rfl, g1, g2, g0, h⟩ := hv.parts;have HS := zH h;have HP := zH hp;have HM := zH (fun k (hk : k < ds.length) => (List.mem_of_getElem? (getD_at hk) : ds.getD k default ∈ ds));clear hp hv h g0;obtain ⟨n, hN⟩ : ∃ n, ds.length = n := ⟨_, rfl⟩;rw [hN] at hn g1 HS HM ⊢;have LN := zH hN;clear hN;go_enter Tryz.func130, Tryz.ntmps130
 go_wp2_with fail
 go_loopw [8] (fun i wr => ∃ k : Nat, k ≤ n ∧ i = .int .i64 k ∧ (∀ j, j < k → p (ds.getD j default) = false) ∧ Below w.heap.size w wr) (fun i _ => n - (intOf i).toNat)
 case atStart => exact ⟨0, Nat.zero_le _, rfl, fun j hj => absurd hj (by omega), Below.refl _ _⟩
 case round =>
  obtain ⟨k, hk, rfl, hall, hb⟩ := hrel;have HA := zH hall;have HB := zH hb;clear hall hb
  by_cases hlt : k < n
  ·obtain ⟨b, o, c, hv, -, -, -, hc⟩ := txns_spot (HS.out.below HB.out) (by rw [LN.out]; omega)
   rw [LN.out] at hv;simp only [Value.slice.injEq] at hv
   obtain ⟨rfl, -, rfl⟩ := hv;obtain ⟨dv, ev, ⟨c0, c1, c2, c3⟩, hdv, hev⟩ := hc k (by rw [LN.out]; exact hlt);have HAK : Hid (p (ds.getD k default) = false → ∀ j, j < k + 1 → p (ds.getD j default) = false) := zH (fun h j hj => by
    by_cases e : j = k
    ·rw [e]; exact h
    ·exact HA.out j (by omega))
   have K := HP.out wr (ds.getD k default) _ (HM.out k hlt) HB.out ⟨_, _, rfl, hdv, hev⟩;obtain ⟨da, dc, rfl, -⟩ := hdv.parts;obtain ⟨ea, ec, rfl, -⟩ := hev.parts;obtain ⟨d, hd⟩ : ∃ d, d = ds.getD k default := ⟨_, rfl⟩;have HD := zH hd;rw [← hd] at K c0 c1 c2 c3 HAK;clear hc hd hdv hev
   cases hpd : p d with
   | true =>
    rw [hpd] at K;have HPD := zH hpd;clear hpd;go_wp2_with (go_at_fn g; refine K.mono ?_; rintro e w1 ⟨rfl, hb⟩)
    have G := zH (HB.out.trans (hb.mono HB.out.size));clear hb c0 c1 c2 c3 K;go_wp2_with fail
    go_ret
    exact ⟨k, rfl, .inr ⟨k, rfl, by rw [LN.out]; exact hlt, by rw [← HD.out]; exact HPD.out, HA.out⟩, G.out⟩
   | false =>
    rw [hpd] at K;have HX := zH (HAK.out hpd);clear hpd;go_wp2_with (go_at_fn g; refine K.mono ?_; rintro e w1 ⟨rfl, hb⟩)
    have G := zH (HB.out.trans (hb.mono HB.out.size));clear hb c0 c1 c2 c3 K;go_wp2_with fail
    go_roundw
    case rel => exact ⟨k + 1, by omega, by go_num, HX.out, G.out⟩
    case measure => simp [intOf]; omega
  ·obtain rfl : k = n := by omega
   go_wp2_with fail
   go_ret
   exact ⟨-1, rfl, .inl ⟨rfl, by rw [LN.out]; exact HA.out⟩, HB.out⟩
theorem txcontains_any {v : Value} {ds : List PTxn} {w : World} (hv : SeqE LTxn w v ds) (hn : ds.length ≤ 1000000) (p : PTxn → Bool) (g : Nat) (lb : Array Value)
  (eg : ∀ args w, (callFunc g args).run Tryz.prog w = .ok (.enter g args) w)
  (hp : ∀ W d tv, d ∈ ds → Below w.heap.size w W → IsTxn W tv d → Calls Tryz.prog g (#[tv] ++ lb) W (GivesB W (p d))) :
  Calls Tryz.prog 76 #[v, .func (.func g) #[] lb] w (GivesB w (ds.any p)) := by
 have K := txindex_any hv hn p g lb eg hp;obtain ⟨a, cap, rfl, -⟩ := hv.parts;generalize ds.length = n at *;clear hv hp;go_enter Tryz.func76, Tryz.ntmps76
 go_wp2_with fail
 refine K.mono ?_;rintro e w1 ⟨q, rfl, hq, hb⟩;have G := zH hb;have hq := hq.any;generalize ds.any p = r at *;subst hq;clear hb K;go_wp2_with fail
 go_ret
 exact ⟨rfl, G.out⟩
end Go.Proofs.YtfapkepfngddlaaGreat
