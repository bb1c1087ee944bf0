/- What the program's own form and Put of transactions leave. (Written by gen-put3.py.) What the program's own Read of transactions leaves. (Written by gen-con.py.) What slices.Clone of vectors and the program's own Only of transactions leave. The contracts of the program's own Formed, Put, Read and Only of transactions, all of them. The contracts of stage 13's walks; the laws' own function awake. -/
import Derived.Test.YtkanklppgioacaaGreatTxPuts
import Derived.Test.YtkanklppgioacaaGreatTxFrm
import Derived.Test.YtkanklppgioacaaGreatTxRds
import Derived.Test.YtkanklppgioacaaGreatShelf
import Derived.RegionTactic
import Derived.ChangeAlike
import Derived.Deep.RegionHeld3
import Derived.Test.YtkanklppgioacaaGreatTxIns
import Derived.Test.YtkanklppgioacaaGreatEDos
import Derived.Deep.Cut
import Derived.Deep.DeepCutAuto
namespace Go.Proofs.YtkanklppgioacaaGreat
open Go.RowKit Plain
set_option linter.unusedVariables false

theorem putE_of {node seq : Int} {x : PEff} (h : eformedB node seq x = true) (hn : Nm.Plain.fits x.n) : PutE x := by
 obtain ⟨h1, h2, h3, h4, h5, h6, h7, h8, h9⟩ := eff_parts h
 exact ⟨⟨h6, h7⟩, by omega, by omega, ⟨h4, h5⟩, by omega, hn, h8, h9⟩
set_option maxRecDepth 100000 in
set_option maxHeartbeats 8000000 in
/-- form -/
theorem pform_any {t : PTxn} {da ea : Option Addr} {dn dc en ec : Nat} {w : World} (hd : SeqE LInt w (.slice da dn dc) t.deps) (he : SeqE LEff w (.slice ea en ec) t.effs) (hf : tformedB t = true) (hn : ∀ e ∈ t.effs, Nm.Plain.fits e.n) :
  Calls Tryz.prog 24 #[.agg #[.int .i64 t.node, .int .i64 t.seq, .slice da dn dc, .slice ea en ec]] w (GivesO w.heap.size w (.slice none 0 0) (ptxn t)) := by
 obtain ⟨f1, f2, f3, f4, f5⟩ := tformed_parts.1 hf
 have hr : 0 ≤ t.node ∧ t.node ≤ 7 ∧ 1 ≤ t.seq ∧ t.seq ≤ 1073741824 := by
  unfold inRange at f1
  exact of_decide_eq_true f1
 obtain ⟨d1, d2⟩ := deps_parts f2
 have hq : ∀ e ∈ t.effs, PutE e := by
  unfold rightB at f4
  rw [Bool.and_eq_true, List.all_eq_true] at f4
  exact fun e h => putE_of (f4.1 e h) (hn e h)
 have hdn := hd.dims
 have hen := he.dims
 have RT := Lib.hid hr
 have R1 := Lib.hid d1
 have R2 := Lib.hid d2
 have R3 := Lib.hid f3
 have RQ := Lib.hid hq
 have hba := (Below.refl w.heap.size w).alloc (Nat.le_refl _) (.cells #[.int .i64 t.node, .int .i64 t.seq, .slice da dn dc, .slice ea en ec] 26)
 have ZB : Hid (w.heap.size ≤ (w.alloc (.cells #[.int .i64 t.node, .int .i64 t.seq, .slice da dn dc, .slice ea en ec] 26)).heap.size) := Lib.hid hba.size
 have GW : Hid (Grow w.heap.size w (.slice none 0 0) (w.alloc (.cells #[.int .i64 t.node, .int .i64 t.seq, .slice da dn dc, .slice ea en ec] 26)) (.slice none 0 0)) := Lib.hid ((Grow.refl _ w _).keep hba (Nat.le_refl _))
 have O0 : Hid (By.Owns w.heap.size (w.alloc (.cells #[.int .i64 t.node, .int .i64 t.seq, .slice da dn dc, .slice ea en ec] 26)) (.slice none 0 0) []) := Lib.hid (By.Owns.nil _ _)
 have G0 := Lib.hid (Grow.refl w.heap.size (w.alloc (.cells #[.int .i64 t.node, .int .i64 t.seq, .slice da dn dc, .slice ea en ec] 26)) (.slice none 0 0))
 have CT : Hid (∀ W u, Grow w.heap.size (w.alloc (.cells #[.int .i64 t.node, .int .i64 t.seq, .slice da dn dc, .slice ea en ec] 26)) (.slice none 0 0) W u → W.cell? ⟨w.heap.size, 0, none⟩ = some (.int .i64 t.node) ∧ W.cell? ⟨w.heap.size, 1, none⟩ = some (.int .i64 t.seq) ∧ W.cell? ⟨w.heap.size, 2, none⟩ = some (.slice da dn dc) ∧ W.cell? ⟨w.heap.size, 3, none⟩ = some (.slice ea en ec)) := Lib.hid (fun W u h => by
  have hb := h.kept w.heap.size (by simp) (by simp [Value.ownBlock])
  refine ⟨?_, ?_, ?_, ?_⟩
  ·exact (World.cell?_of_block (a := ⟨w.heap.size, 0, none⟩) hb).trans (by simp)
  ·exact (World.cell?_of_block (a := ⟨w.heap.size, 1, none⟩) hb).trans (by simp)
  ·exact (World.cell?_of_block (a := ⟨w.heap.size, 2, none⟩) hb).trans (by simp)
  ·exact (World.cell?_of_block (a := ⟨w.heap.size, 3, none⟩) hb).trans (by simp))
 have HBW : Hid (∀ W u, Grow w.heap.size (w.alloc (.cells #[.int .i64 t.node, .int .i64 t.seq, .slice da dn dc, .slice ea en ec] 26)) (.slice none 0 0) W u → Below w.heap.size w W) := Lib.hid (fun W u h => hba.trans h.below)
 have HD := Lib.hid hd
 have HE := Lib.hid he
 have HPE : Hid (ptxn t = pnums [t.node, t.seq, (t.deps.length : Int)] ++ pnums t.deps ++ pnums [(t.effs.length : Int)] ++ t.effs.flatMap peff) := Lib.hid rfl
 have PS0 := Lib.hid (fun k (hk : k < t.effs.length) => flatMap_take peff t.effs (k := k) hk)
 obtain ⟨P, hP⟩ : ∃ P : Nat → Bytes, P = fun k => (t.effs.take k).flatMap peff := ⟨_, rfl⟩
 have PS : Hid (∀ k, k < t.effs.length → P (k + 1) = P k ++ peff (t.effs.getD k default)) := Lib.hid (fun k hk => by rw [hP]; exact PS0.out k hk)
 have P0 : Hid (P 0 = []) := Lib.hid (by rw [hP]; rfl)
 have PN : Hid (P t.effs.length = t.effs.flatMap peff) := Lib.hid (by rw [hP]; show (t.effs.take t.effs.length).flatMap peff = _; rw [List.take_length])
 have PL : Hid (∀ k, (P k).length ≤ 48000) := Lib.hid (fun k => by
  rw [hP]
  have h1 := flatMap_len peff 6000 (t.effs.take k) (fun d hd => peff_len (hq d (List.mem_of_mem_take hd)))
  have h2 : (t.effs.take k).length ≤ 8 := by rw [List.length_take]; omega
  exact Nat.le_trans h1 (by omega))
 clear hP PS0 hd he hf hn f1 f2 f3 f4 f5 hr d1 d2 hq hba
 obtain ⟨hdn, hd1, hd2⟩ := hdn
 obtain ⟨hen, he1, he2⟩ := hen
 rw [hdn] at HPE R1
 rw [hen] at HPE PS PN R3
 have LD := Lib.hid hdn
 have LE := Lib.hid hen
 clear hdn hen
 have PF : Hid ((pnums t.deps).length ≤ 64) := Lib.hid (by
  have := pnums_len (ns := t.deps) (fun n h => by have := R2.out n h; omega)
  rw [LD.out] at this
  have := R1.out
  omega)
 obtain ⟨Y0, hY0⟩ : ∃ Y : Bytes, Y = [] := ⟨_, rfl⟩
 rw [← hY0] at O0
 have N0 : Hid (Y0.length ≤ 0 + 0) := Lib.hid (by rw [hY0]; simp)
 have EY0 := Lib.hid hY0
 clear hY0
 obtain ⟨xl, hxl⟩ : ∃ n : Nat, n = 0 := ⟨_, rfl⟩
 rw [← hxl] at N0
 replace N0 : Hid (Y0.length ≤ xl + 0) := Lib.hid (by have := N0.out; omega)
 replace hxl := Lib.hid hxl
 obtain ⟨a0, ha0⟩ : ∃ a : Option Addr, a = none := ⟨_, rfl⟩
 go_enter Tryz.func24, Tryz.ntmps24
 go_upto_region 1 with fail
 generalize (w.alloc (.cells #[.int .i64 t.node, .int .i64 t.seq, .slice da dn dc, .slice ea en ec] 26)) = u0 at *
 clear ha0
 have K1 : Hid (Calls Tryz.prog 44 #[.slice none 0 0, .slice (some ⟨u0.heap.size, 0, none⟩) 3 3] (u0.alloc (.cells #[.int .i64 t.node, .int .i64 t.seq, .int .i64 (dn : Int)] 3)) (GivesO w.heap.size (u0.alloc (.cells #[.int .i64 t.node, .int .i64 t.seq, .int .i64 (dn : Int)] 3)) (.slice none 0 0) (Y0 ++ pnums [t.node, t.seq, (dn : Int)]))) := Lib.hid (pnums_any (O0.out.alloc _) (by have := G0.out.size; have := ZB.out; simp; omega) (lit_ints u0 #[.int .i64 t.node, .int .i64 t.seq, .int .i64 (dn : Int)] [t.node, t.seq, (dn : Int)] (.slice none 0 0) rfl (by simp) (fun k hk => (O0.out.lt k hk).2)) (fun b hb => hb) (by intro n hn; simp at hn; have := RT.out; have := R1.out; omega) (by have := N0.out; have := hxl.out; simp; omega))
 have LL1 := pnums_len (ns := [t.node, t.seq, (dn : Int)]) (by intro n hn; simp at hn; have := RT.out; have := R1.out; omega)
 simp only [List.length_cons, List.length_nil] at LL1
 obtain ⟨e0, e1, e2, e3⟩ := CT.out _ _ G0.out
 go_wp2_with fail
 refine K1.out.mono ?_
 rintro e u1 ⟨v', rfl, ho, hg⟩
 have G1 := Lib.hid ((G0.out.keep ((Below.refl _ _).alloc (Nat.le_refl _) _) ZB.out).trans hg)
 obtain ⟨a1, c1, rfl, -, -, -, -⟩ := ho.parts
 have O1 := Lib.hid ho
 clear ho hg K1
 have YL : (Y0 ++ pnums [t.node, t.seq, (dn : Int)]).length ≤ xl + 24 := by rw [List.length_append]; have := N0.out; omega
 clear LL1
 generalize hn : (Y0 ++ pnums [t.node, t.seq, (dn : Int)]).length = n1 at *
 generalize hY : Y0 ++ pnums [t.node, t.seq, (dn : Int)] = Y1 at *
 have E1 := Lib.hid hY.symm
 have N1 : Hid (Y1.length ≤ xl + 24) := Lib.hid (by rw [hn]; exact YL)
 have M1 := Lib.hid hn
 clear hn hY YL
 clear e0 e1 e2 e3
 have K2 : Hid (Calls Tryz.prog 44 #[.slice a1 n1 c1, .slice da dn dc] u1 (GivesO w.heap.size u1 (.slice a1 n1 c1) (Y1 ++ pnums t.deps))) := Lib.hid (pnums_any O1.out (by have := G1.out.size; have := ZB.out; omega) (Q := (· < w.heap.size)) (HD.out.agree fun b hb => (HBW.out _ _ G1.out).block b hb) (fun b hb => ⟨by have := G1.out.size; have := ZB.out; omega, fun e => by have := (O1.out.lt _ e).1; omega⟩) (fun n h => by have := R2.out n h; omega) (by rw [LD.out]; have := R1.out; have := N1.out; have := hxl.out; omega))
 obtain ⟨e0, e1, e2, e3⟩ := CT.out _ _ G1.out
 go_wp2_with fail
 refine K2.out.mono ?_
 rintro e u2 ⟨v', rfl, ho, hg⟩
 have G2 := Lib.hid (G1.out.trans hg)
 obtain ⟨a2, c2, rfl, -, -, -, -⟩ := ho.parts
 have O2 := Lib.hid ho
 clear ho hg K2 e0 e1 e2 e3
 have YL : (Y1 ++ pnums t.deps).length ≤ xl + 88 := by rw [List.length_append]; have := N1.out; have := PF.out; omega
 generalize hn : (Y1 ++ pnums t.deps).length = n2 at *
 generalize hY : Y1 ++ pnums t.deps = Y2 at *
 have E2 := Lib.hid hY.symm
 have N2 : Hid (Y2.length ≤ xl + 88) := Lib.hid (by rw [hn]; exact YL)
 clear hn hY YL
 have K3 : Hid (Calls Tryz.prog 44 #[.slice a2 n2 c2, .slice (some ⟨u2.heap.size, 0, none⟩) 1 1] (u2.alloc (.cells #[.int .i64 (en : Int)] 3)) (GivesO w.heap.size (u2.alloc (.cells #[.int .i64 (en : Int)] 3)) (.slice a2 n2 c2) (Y2 ++ pnums [(en : Int)]))) := Lib.hid (pnums_any (O2.out.alloc _) (by have := G2.out.size; have := ZB.out; simp; omega) (lit_ints u2 #[.int .i64 (en : Int)] [(en : Int)] (.slice a2 n2 c2) rfl (by simp) (fun k hk => (O2.out.lt k hk).2)) (fun b hb => hb) (by intro n hn; simp at hn; have := R3.out; omega) (by have := N2.out; have := hxl.out; simp; omega))
 have LL3 := pnums_len (ns := [(en : Int)]) (by intro n hn; simp at hn; have := R3.out; omega)
 simp only [List.length_cons, List.length_nil] at LL3
 obtain ⟨e0, e1, e2, e3⟩ := CT.out _ _ G2.out
 go_wp2_with fail
 refine K3.out.mono ?_
 rintro e u3 ⟨v', rfl, ho, hg⟩
 have G3 := Lib.hid ((G2.out.keep ((Below.refl _ _).alloc (Nat.le_refl _) _) ZB.out).trans hg)
 obtain ⟨a3, c3, rfl, -, -, -, -⟩ := ho.parts
 have O3 := Lib.hid ho
 clear ho hg K3
 have YL : (Y2 ++ pnums [(en : Int)]).length ≤ xl + 96 := by rw [List.length_append]; have := N2.out; omega
 clear LL3
 generalize hn : (Y2 ++ pnums [(en : Int)]).length = n3 at *
 generalize hY : Y2 ++ pnums [(en : Int)] = Y3 at *
 have E3 := Lib.hid hY.symm
 have N3 : Hid (Y3.length ≤ xl + 96) := Lib.hid (by rw [hn]; exact YL)
 have M3 := Lib.hid hn
 clear hn hY YL
 clear e0 e1 e2 e3
 obtain ⟨e0, e1, e2, e3⟩ := CT.out _ _ G3.out
 go_wp2_with fail
 clear e0 e1 e2 e3
 go_loopw [3, 28] (fun z i wr => ∃ k : Nat, k ≤ en ∧ i = .int .i64 k ∧ By.Owns w.heap.size wr z (Y3 ++ P k) ∧ Grow w.heap.size u0 (.slice none 0 0) wr z) (fun _ i _ => en - (intOf i).toNat)
 case atStart => exact ⟨0, Nat.zero_le _, rfl, by rw [P0.out, List.append_nil]; exact O3.out, G3.out⟩
 case round =>
  obtain ⟨k, hk, rfl, ho, hg⟩ := hrel
  have HO := Lib.hid ho
  have HG := Lib.hid hg
  clear ho hg
  by_cases hlt : k < en
  ·have PK := Lib.hid (PS.out k hlt)
   have LK := Lib.hid (PL.out k)
   have BW := Lib.hid (HBW.out _ _ HG.out)
   obtain ⟨b, o, c, hv, -, -, -, hc⟩ := effs_spot HE.out (by rw [LE.out]; omega)
   rw [LE.out] at hv
   simp only [Value.slice.injEq] at hv
   obtain ⟨rfl, -, rfl⟩ := hv
   obtain ⟨dv, EX, hsd⟩ := hc k (by rw [LE.out]; exact hlt)
   have QX := Lib.hid (RQ.out _ (tmem_getD (l := t.effs) (k := k) (by rw [LE.out]; exact hlt)))
   clear hc
   generalize t.effs.getD k default = x at *
   obtain ⟨xa, xn, rfl, -, -, -, -⟩ : ∃ xa xn, dv = .slice xa x.drops.length xn ∧ True ∧ True ∧ True ∧ True := by
    obtain ⟨a, c, e, -⟩ := hsd.parts
    exact ⟨a, c, e, trivial, trivial, trivial, trivial⟩
   have SD : Hid (Sq LDot (· < w.heap.size) wr (.slice xa x.drops.length xn) x.drops) := Lib.hid (hsd.agree fun b hb => BW.out.block b hb)
   obtain ⟨e0, e1, e2, e3, e4, e5, e6⟩ := EX.below BW.out EX.lt
   clear hsd EX
   obtain ⟨za, zc, rfl, -, -, -, -⟩ := HO.out.parts
   generalize hzl : (Y3 ++ P k).length = zl at *
   clear hzl
   generalize x.drops.length = xm at *
   have EB := Lib.hid (effAt_box wr x xa xm xn)
   have OB := Lib.hid (HO.out.alloc (.cells #[.int .i64 x.pos, .string (bt x.key), .string (bt x.field), .int .i64 x.kind, .string (bt x.elem), .int .i64 x.n, .slice xa xm xn] 64))
   have GB := Lib.hid (HG.out.keep ((Below.refl _ _).alloc (Nat.le_refl _) (.cells #[.int .i64 x.pos, .string (bt x.key), .string (bt x.field), .int .i64 x.kind, .string (bt x.elem), .int .i64 x.n, .slice xa xm xn] 64)) ZB.out)
   have SB := Lib.hid (SD.out.agree fun b hb => ((Below.refl wr.heap.size wr).alloc (Nat.le_refl _) (.cells #[.int .i64 x.pos, .string (bt x.key), .string (bt x.field), .int .i64 x.kind, .string (bt x.elem), .int .i64 x.n, .slice xa xm xn] 64)).block b (by have := BW.out.size; omega))
   go_upto_region 7 with fail
   clear e0 e1 e2 e3 e4 e5 e6
   generalize (wr.alloc (.cells #[.int .i64 x.pos, .string (bt x.key), .string (bt x.field), .int .i64 x.kind, .string (bt x.elem), .int .i64 x.n, .slice xa xm xn] 64)) = wd at *
   obtain ⟨e0, e1, e2, e3, e4, e5, e6⟩ := EB.out.zero
   have K7 := Lib.hid (peff_any OB.out (by have := GB.out.size; have := ZB.out; omega) SB.out QX.out (by rw [List.length_append]; have := N3.out; have := LK.out; have := hxl.out; omega))
   go_wp2_with fail
   refine K7.out.mono ?_
   rintro e u7 ⟨v', rfl, ho, hg⟩
   have G7 := Lib.hid (GB.out.trans hg)
   have O7 := Lib.hid ho
   obtain ⟨a7, c7, rfl, -, -, -, -⟩ := ho.parts
   clear ho hg K7 e0 e1 e2 e3 e4 e5 e6
   generalize hnn : (Y3 ++ P k ++ peff x).length = n7 at *
   clear hnn
   go_wp2_with fail
   go_roundw
   case rel => exact ⟨k + 1, by omega, by go_num, by rw [PK.out, ← List.append_assoc]; exact O7.out, G7.out⟩
   case measure => simp [intOf] <;> omega
  ·obtain rfl : k = en := by omega
   have OE : Hid (By.Owns w.heap.size wr _ (ptxn t)) := Lib.hid (by
    have h := HO.out
    rw [E3.out, E2.out, E1.out, PN.out, EY0.out, List.nil_append] at h
    rw [HPE.out]
    exact h)
   go_wp2_with fail
   go_ret
   exact ⟨_, rfl, OE.out, GW.out.trans HG.out⟩
def GivesPut (w : World) (bs : Bytes) (t : PTxn) (e : Ending) (w' : World) : Prop :=
 (tformedB t = true → ∃ v, e = .returned (.tuple #[v, .int .i64 0]) ∧ By.Owns w.heap.size w' v (bs ++ txnC.put t)) ∧ (tformedB t = false → ∃ a c, e = .returned (.tuple #[.slice a 0 c, .int .i64 2])) ∧ Below w.heap.size w w'
set_option maxRecDepth 100000 in
set_option maxHeartbeats 4000000 in
/-- Put -/
theorem txputP {b v : Value} {bs : Bytes} {t : PTxn} {w : World} (hb : By.Seq w b bs) (hl : bs.length ≤ 10000) (h : IsTxn w v t) (ht : FitTx t) : Calls Tryz.prog 9 #[b, v] w (GivesPut w bs t) := by
 obtain ⟨da, dn, dc, ea, en, ec, rfl, k1, k2⟩ := h.slices
 have hba := (Below.refl w.heap.size w).alloc (Nat.le_refl _) (.cells #[.int .i64 t.node, .int .i64 t.seq, .slice da dn dc, .slice ea en ec] 26)
 have KF := Lib.hid (txformedP (h.below hba) ht _ rfl)
 have ZT : Hid (w.heap.size < (w.alloc (.cells #[.int .i64 t.node, .int .i64 t.seq, .slice da dn dc, .slice ea en ec] 26)).heap.size) := Lib.hid (by simp)
 have G0 := Lib.hid hba
 have KP := Lib.hid (fun W (hb : Below (w.alloc (.cells #[.int .i64 t.node, .int .i64 t.seq, .slice da dn dc, .slice ea en ec] 26)).heap.size (w.alloc (.cells #[.int .i64 t.node, .int .i64 t.seq, .slice da dn dc, .slice ea en ec] 26)) W) (hf : tformedB t = true) => pform_any (k1.below (hba.trans (hb.mono hba.size))) (k2.below (hba.trans (hb.mono hba.size))) hf (fun e he => i64_in (ht.ok.2.2.2 e he).2.2.1))
 have HL := Lib.hid (fun hf : tformedB t = true => txnC_len hf)
 have HP := Lib.hid (ptxn_put t)
 have SB := Lib.hid (fun W (hb' : Below w.heap.size w W) => hb.below hb')
 obtain ⟨ba, bc, rfl, -, -, -, -⟩ := hb.parts
 have CT : Hid (∀ W, Below (w.alloc (.cells #[.int .i64 t.node, .int .i64 t.seq, .slice da dn dc, .slice ea en ec] 26)).heap.size (w.alloc (.cells #[.int .i64 t.node, .int .i64 t.seq, .slice da dn dc, .slice ea en ec] 26)) W → W.cell? ⟨w.heap.size, 0, none⟩ = some (.int .i64 t.node) ∧ W.cell? ⟨w.heap.size, 1, none⟩ = some (.int .i64 t.seq) ∧ W.cell? ⟨w.heap.size, 2, none⟩ = some (.slice da dn dc) ∧ W.cell? ⟨w.heap.size, 3, none⟩ = some (.slice ea en ec)) := Lib.hid (fun W h => by
  refine ⟨?_, ?_, ?_, ?_⟩
  ·exact (h.cell (p := ⟨w.heap.size, 0, none⟩) ZT.out).trans (by simp)
  ·exact (h.cell (p := ⟨w.heap.size, 1, none⟩) ZT.out).trans (by simp)
  ·exact (h.cell (p := ⟨w.heap.size, 2, none⟩) ZT.out).trans (by simp)
  ·exact (h.cell (p := ⟨w.heap.size, 3, none⟩) ZT.out).trans (by simp))
 unfold GivesPut
 rw [← HP.out] at HL ⊢
 clear HP
 generalize ptxn t = pt at *
 clear hb h ht k1 k2 hba
 generalize tformedB t = r at *
 generalize hbl : bs.length = bl at *
 have BL := Lib.hid hbl
 clear hbl
 go_enter Tryz.func9, Tryz.ntmps9
 go_upto_region 1 with fail
 generalize (w.alloc (.cells #[.int .i64 t.node, .int .i64 t.seq, .slice da dn dc, .slice ea en ec] 26)) = w0 at *
 obtain ⟨e0, e1, e2, e3⟩ := CT.out _ (Below.refl _ _)
 go_wp2_with fail
 refine KF.out.mono ?_
 rintro e w1 ⟨rfl, hb1⟩
 have B1 := Lib.hid hb1
 clear hb1 KF e0 e1 e2 e3
 obtain ⟨e0, e1, e2, e3⟩ := CT.out _ B1.out
 cases r with
 | false =>
  have GE : Hid (Below w.heap.size w w1) := Lib.hid (G0.out.trans (B1.out.mono G0.out.size))
  clear KP HL
  go_wp2_with fail
  go_ret2
  exact ⟨⟨_, _, rfl⟩, GE.out⟩
 | true =>
  have K := Lib.hid (KP.out w1 B1.out rfl)
  have GE : Hid (Below w.heap.size w w1) := Lib.hid (G0.out.trans (B1.out.mono G0.out.size))
  have FL := Lib.hid (HL.out rfl)
  clear KP HL
  go_wp2_with fail
  refine K.out.mono ?_
  rintro e w2 ⟨v2, rfl, ho, hg⟩
  have B2 : Hid (Below w1.heap.size w1 w2) := Lib.hid hg.below
  have S2 := Lib.hid ho.seq
  obtain ⟨a2, c2, rfl, -, -, -, -⟩ := ho.parts
  have GE2 : Hid (Below w.heap.size w w2) := Lib.hid (GE.out.trans (B2.out.mono GE.out.size))
  clear ho hg K e0 e1 e2 e3
  have SB2 := Lib.hid (SB.out w2 GE2.out)
  generalize hpl : pt.length = pl at *
  have PLE := Lib.hid hpl
  clear hpl
  go_wp2_with fail
  refine (By.concat_two _ _ _ (cell_of_row _ _ 0 _ 28 (0, 0) (heap_alloc_new w2 _)) (cell_of_row _ _ 1 _ 28 (0, 0) (heap_alloc_new w2 _)) (SB2.out.below_alloc _) (S2.out.below_alloc _) (by rw [PLE.out, BL.out]; have := FL.out; omega)).mono ?_
  rintro e w3 ⟨v3, rfl, ho3, hb3⟩
  have O3 : Hid (By.Owns w.heap.size w3 v3 (bs ++ pt)) := Lib.hid (ho3.mono (by have := GE2.out.size; simp; omega))
  have GE3 : Hid (Below w.heap.size w w3) := Lib.hid ((GE2.out.alloc GE2.out.size _).trans (hb3.mono (by have := GE2.out.size; simp; omega)))
  clear ho3 hb3
  go_wp2_with fail
  go_ret2
  exact ⟨⟨_, rfl, O3.out⟩, GE3.out⟩
end Go.Proofs.YtkanklppgioacaaGreat
namespace Go.Proofs.YtkanklppgioacaaGreat
open Go.RowKit Plain
set_option linter.unusedVariables false

theorem byOwns_but {B g : Nat} {w w' : World} {v : Value} {xs : Bytes} (h : By.Owns B w v xs) (hb : But g w w') (hg : g < B) : By.Owns B w' v xs := by
 refine ⟨h.1, ?_⟩
 rcases h.2 with hn | ⟨g', cap, cur, hv, hb', hg', hr'⟩
 ·exact .inl hn
 ·have hlt : g' < w.heap.size := (Array.getElem?_eq_some_iff.1 hg').1
  exact .inr ⟨g', cap, cur, hv, hb', (hb.block g' hlt (by omega)).trans hg', hr'⟩
set_option maxRecDepth 100000 in
/-- bytes.Clone, of nil, too -/
theorem bclone_any {a : Option Addr} {n c : Nat} {xs : Bytes} {w : World} (hs : By.Seq w (.slice a n c) xs) (hl : xs.length ≤ 1000000) (h0 : a = none → c = 0) : Calls Tryz.prog 42 #[.slice a n c] w fun e w' => ∃ v, e = .returned v ∧ By.Owns w.heap.size w' v xs ∧ Below w.heap.size w w' := by
 cases a with
 | some ad => exact By.clone_some hs hl
 | none =>
  obtain ⟨a', c', hv, h1, -⟩ := hs
  simp only [Value.slice.injEq] at hv
  obtain ⟨-, rfl, rfl⟩ := hv
  have hc : c = 0 := h0 rfl
  obtain rfl : xs = [] := List.eq_nil_of_length_eq_zero (by omega)
  subst hc
  simp only [List.length_nil]
  exact (Tryz.bytes_Clone_nil 0 0 w).mono fun e w' ⟨he, hw⟩ => ⟨_, he, By.Owns.nil _ _, hw ▸ Below.refl _ _⟩
theorem wf_num {n : Int} (h : 0 ≤ n ∧ n < 72057594037927936) : (Lit.int .i64 n).wf = true := by
 simp only [Lit.wf, IntKind.min, IntKind.max, IntKind.signed, IntKind.bits, decide_eq_true_iff, Bool.and_eq_true]
 simp
 omega
theorem wf_int {n : Int} (h : -9223372036854775808 ≤ n ∧ n ≤ 9223372036854775807) : (Lit.int .i64 n).wf = true := by
 simp only [Lit.wf, IntKind.min, IntKind.max, IntKind.signed, IntKind.bits, decide_eq_true_iff, Bool.and_eq_true]
 simp
 omega
theorem dotC_fit {d : PDot} (h : dotC.ok d) : dotOk d := by
 obtain ⟨⟨h1, h2, h3⟩, -⟩ := h
 exact ⟨wf_num (numI_ok.1 h1), wf_num (numI_ok.1 h2), wf_num (numI_ok.1 h3)⟩
/-- what was read, formed or not, has the sizes that are looked at -/
theorem fitTx_raw {t : PTxn} (h : txnC0.ok t) : FitTx t := by
 obtain ⟨⟨h1, h2, ⟨h3, h4⟩, h5, h6⟩, -⟩ := h
 refine ⟨Nat.le_trans h3 (by decide), Nat.le_trans h5 (by decide), fun e he => ?_, wf_num (numI_ok.1 h1), wf_num (numI_ok.1 h2), fun n hn => wf_num (numI_ok.1 (h4 n hn)), fun e he => ?_⟩
 ·obtain ⟨⟨-, -, -, -, -, -, k1, -⟩, -⟩ := h6 e he
  exact Nat.le_trans k1 (by decide)
 ·obtain ⟨⟨k1, k2, k3, k4, k5, k6, k7, k8⟩, -⟩ := h6 e he
  exact ⟨wf_num (numI_ok.1 k1), wf_num (numI_ok.1 k4), wf_int k6, fun d hd => dotC_fit (k8 d hd), Nat.le_trans k2 (by decide), Nat.le_trans k3 (by decide), Nat.le_trans k5 (by decide)⟩
def GivesRead (w : World) (res : Res PTxn) (e : Ending) (w' : World) : Prop := match res with
 | .ok t rest => ∃ u v, e = .returned (.tuple #[u, v, .int .i64 0]) ∧ IsTxn w' u t ∧ By.Seq w' v rest ∧ Below w.heap.size w w'
 | .err k => ∃ u v, e = .returned (.tuple #[u, v, .int .i64 k]) ∧ IsTxn w' u default ∧ By.Seq w' v [] ∧ Below w.heap.size w w'
theorem txn_none (w : World) : IsTxn w (.agg #[.int .i64 0, .int .i64 0, .slice none 0 0, .slice none 0 0]) default := ⟨_, _, rfl, SeqE.nil w, SeqE.nil w⟩
set_option maxRecDepth 100000 in
set_option maxHeartbeats 8000000 in
/-- Read -/
theorem txreadP {b : Value} {bs : Bytes} {w : World} (hb : By.Seq w b bs) (hl : bs.length ≤ 100000) (res : Res PTxn) (hr : txnC.get bs = res) : Calls Tryz.prog 19 #[b] w (GivesRead w res) := by
 obtain ⟨ba, bc, rfl, g1, g2, g0, hs⟩ := hb.parts
 have hbA : Below w.heap.size w (w.alloc (.cells #[.int .i64 0, .int .i64 0, .slice none 0 0, .slice none 0 0] 26)) := (Below.refl _ _).alloc (Nat.le_refl _) _
 have hbB : Below w.heap.size w ((w.alloc (.cells #[.int .i64 0, .int .i64 0, .slice none 0 0, .slice none 0 0] 26)).alloc (.cells #[.slice ba bs.length bc, .int .i64 0] 68)) := hbA.alloc hbA.size _
 have hbC : Below (w.heap.size + 1) (w.alloc (.cells #[.int .i64 0, .int .i64 0, .slice none 0 0, .slice none 0 0] 26)) ((w.alloc (.cells #[.int .i64 0, .int .i64 0, .slice none 0 0, .slice none 0 0] 26)).alloc (.cells #[.slice ba bs.length bc, .int .i64 0] 68)) := (Below.refl _ _).alloc (by simp) _
 have hX : RdBox ((w.alloc (.cells #[.int .i64 0, .int .i64 0, .slice none 0 0, .slice none 0 0] 26)).alloc (.cells #[.slice ba bs.length bc, .int .i64 0] 68)) (w.heap.size + 1) (bs, 0) := by
  refine ⟨ba, bc, ?_, hs.below hbB, fun hp ad he => ?_⟩
  ·have h := heap_alloc_new (w.alloc (.cells #[.int .i64 0, .int .i64 0, .slice none 0 0, .slice none 0 0] 26)) (.cells #[.slice ba bs.length bc, .int .i64 0] 68)
   rw [show (w.alloc (.cells #[.int .i64 0, .int .i64 0, .slice none 0 0, .slice none 0 0] 26)).heap.size = w.heap.size + 1 by simp] at h
   exact h
  ·obtain ⟨b', o', c', hv, -, -, -, hc⟩ := hs.spot hp
   simp only [Value.slice.injEq] at hv
   rw [hv.1] at he
   cases he
   have := World.block_lt_of_cell? w _ (hc 0 hp)
   show b' < w.heap.size + 1
   change b' < w.heap.size at this
   omega
 have KT := Lib.hid (rtxn_any hX hl)
 have RZ : Hid (((w.alloc (.cells #[.int .i64 0, .int .i64 0, .slice none 0 0, .slice none 0 0] 26)).alloc (.cells #[.slice ba bs.length bc, .int .i64 0] 68)).heap[w.heap.size]? = some (.cells #[.int .i64 0, .int .i64 0, .slice none 0 0, .slice none 0 0] 26 (0, 0))) := Lib.hid ((hbC.block w.heap.size (by omega)).trans (heap_alloc_new w _))
 have ZA : Hid (((w.alloc (.cells #[.int .i64 0, .int .i64 0, .slice none 0 0, .slice none 0 0] 26)).alloc (.cells #[.slice ba bs.length bc, .int .i64 0] 68)).heap.size = w.heap.size + 2) := Lib.hid (by simp)
 have GA := Lib.hid hbB
 have HE := Lib.hid (fun k (h : (rtxn (bs, 0)).2.2 = k) (hk : k ≠ 0) => read_err h hk)
 have HD := Lib.hid (fun h => read_done (b := bs) h)
 rw [hr] at HE HD
 have HBL : Hid ((rtxn (bs, 0)).2.1.length ≤ 100000) := Lib.hid (Nat.le_trans (shr_list shr_eff 8 _) (Nat.le_trans (le_t3 (bs, 0)) hl))
 clear hb hl hs hX hbA hbB hbC hr
 generalize rtxn (bs, 0) = q at *
 obtain ⟨x, rest, k⟩ := q
 generalize bs.length = bl at *
 go_enter Tryz.func19, Tryz.ntmps19
 go_upto_region 2 with fail
 generalize ((w.alloc (.cells #[.int .i64 0, .int .i64 0, .slice none 0 0, .slice none 0 0] 26)).alloc (.cells #[.slice ba bl bc, .int .i64 0] 68)) = wa at *
 go_wp2_with fail
 refine KT.out.mono ?_
 rintro e w1 ⟨v, rfl, ⟨da, dn, dc, ea, en, ec, rfl, hd, he⟩, hx, hbt⟩
 have RZ1 := Lib.hid ((hbt.block w.heap.size (by rw [ZA.out]; omega) (by omega)).trans RZ.out)
 have GB := Lib.hid (GA.out.trans (hbt.below.mono (by omega)))
 have Z1 : Hid (w.heap.size + 2 ≤ w1.heap.size) := Lib.hid (by have := hbt.size; rw [ZA.out] at this; exact this)
 rw [ZA.out] at hd he
 have hba := (Below.refl w1.heap.size w1).alloc (Nat.le_refl _) (.cells #[.int .i64 x.node, .int .i64 x.seq, .slice da dn dc, .slice ea en ec] 26)
 have D2 := Lib.hid (hd.below hba (Nat.le_refl _))
 have E2 := Lib.hid (he.below hba (Nat.le_refl _))
 have X2 := Lib.hid (hx.below hba)
 have RZ2 := Lib.hid ((hba.block w.heap.size (by have := Z1.out; omega)).trans RZ1.out)
 have G2 : Hid (Below w.heap.size w (w1.alloc (.cells #[.int .i64 x.node, .int .i64 x.seq, .slice da dn dc, .slice ea en ec] 26))) := Lib.hid (GB.out.alloc GB.out.size _)
 have Z2 : Hid (w.heap.size + 2 ≤ (w1.alloc (.cells #[.int .i64 x.node, .int .i64 x.seq, .slice da dn dc, .slice ea en ec] 26)).heap.size) := Lib.hid (by have := Z1.out; simp; omega)
 have T2 : Hid (∀ W, Below (w1.alloc (.cells #[.int .i64 x.node, .int .i64 x.seq, .slice da dn dc, .slice ea en ec] 26)).heap.size (w1.alloc (.cells #[.int .i64 x.node, .int .i64 x.seq, .slice da dn dc, .slice ea en ec] 26)) W → W.cell? ⟨w1.heap.size, 0, none⟩ = some (.int .i64 x.node) ∧ W.cell? ⟨w1.heap.size, 1, none⟩ = some (.int .i64 x.seq) ∧ W.cell? ⟨w1.heap.size, 2, none⟩ = some (.slice da dn dc) ∧ W.cell? ⟨w1.heap.size, 3, none⟩ = some (.slice ea en ec)) := Lib.hid (fun W h => by
  refine ⟨?_, ?_, ?_, ?_⟩
  ·exact (h.cell (p := ⟨w1.heap.size, 0, none⟩) (by simp)).trans (by simp)
  ·exact (h.cell (p := ⟨w1.heap.size, 1, none⟩) (by simp)).trans (by simp)
  ·exact (h.cell (p := ⟨w1.heap.size, 2, none⟩) (by simp)).trans (by simp)
  ·exact (h.cell (p := ⟨w1.heap.size, 3, none⟩) (by simp)).trans (by simp))
 clear hd he hx hbt hba KT RZ1 GB
 go_upto_region 3 with fail
 generalize (w1.alloc (.cells #[.int .i64 x.node, .int .i64 x.seq, .slice da dn dc, .slice ea en ec] 26)) = w2 at *
 generalize w1.heap.size = tb at *
 obtain ⟨ra, rn, rc, hrn, r1, r2, r0, hrh, hrs, -⟩ := X2.out.parts
 obtain ⟨x0, x1, -, -⟩ := rdb_cell hrh
 change rn = rest.length at hrn
 change By.Seq w2 (.slice ra rn rc) rest at hrs
 change w2.cell? ⟨w.heap.size + 1, 1, none⟩ = some (.int .i64 k) at x1
 have HRS := Lib.hid hrs
 have HRN := Lib.hid hrn
 have HX0 := Lib.hid x0
 clear hrs hrn hrh x0
 obtain ⟨⟨y0, y1, y2, y3⟩, f0, f1, f2, f3⟩ := st4_cells RZ2.out
 by_cases hk : k = 0
 rotate_left
 ·have hkb : (k != 0) = true := bne_iff_ne.2 hk
  obtain rfl : res = .err k := HE.out k rfl hk
  have FC := Lib.hid (st4_cells (st4_block (v0 := .int .i64 0) (v1 := .int .i64 0) (v2 := .slice none 0 0) (v3 := .slice none 0 0) RZ2.out)).1
  have FB := Lib.hid (st4_below (v0 := .int .i64 0) (v1 := .int .i64 0) (v2 := .slice none 0 0) (v3 := .slice none 0 0) G2.out (Nat.le_refl w.heap.size))
  unfold st4 at FC FB
  clear HE HD hk r0
  go_wp2_with fail
  go_region
  go_wp2_with fail
  obtain ⟨z0, z1, z2, z3⟩ := FC.out
  refine bodyPost_ret (v := .tuple #[.agg #[.int .i64 0, .int .i64 0, .slice none 0 0, .slice none 0 0], .slice none 0 0, .int .i64 k]) (by simp [results, Tryz.results19, go_sem, z0, z1, z2, z3]) rfl ?_
  exact ⟨_, _, rfl, txn_none _, By.Seq.nil _, FB.out.drew⟩
 ·subst hk
  have hkb : ((0 : Int) != 0) = false := by decide
  obtain ⟨hok, hres⟩ := HD.out rfl
  have FX := Lib.hid (fitTx_raw hok)
  have KF := Lib.hid (txformedP (w := w2) (v := .agg #[.int .i64 x.node, .int .i64 x.seq, .slice da dn dc, .slice ea en ec]) ⟨_, _, rfl, D2.out.seq, E2.out.own.seq⟩ FX.out _ rfl)
  have HRES := Lib.hid hres
  obtain ⟨t0, t1, t2, t3⟩ := T2.out w2 (Below.refl _ _)
  clear hres hok HE HD
  generalize tformedB x = r at *
  go_wp2_with fail
  refine KF.out.mono ?_
  rintro e w3 ⟨rfl, hb3⟩
  have RZ3 := Lib.hid ((hb3.block w.heap.size (by have := Z2.out; omega)).trans RZ2.out)
  have G3 := Lib.hid (G2.out.trans (hb3.mono G2.out.size))
  have Z3 : Hid (w.heap.size + 2 ≤ w3.heap.size) := Lib.hid (Nat.le_trans Z2.out hb3.size)
  cases r with
  | false =>
   obtain rfl : res = .err 2 := HRES.out
   clear hb3 y0 y1 y2 y3 f0 f1 f2 f3 t0 t1 t2 t3 KF x1 T2 HRES
   obtain ⟨⟨y0, y1, y2, y3⟩, f0, f1, f2, f3⟩ := st4_cells RZ3.out
   have FC := Lib.hid (st4_cells (st4_block (v0 := .int .i64 0) (v1 := .int .i64 0) (v2 := .slice none 0 0) (v3 := .slice none 0 0) RZ3.out)).1
   have FB := Lib.hid (st4_below (v0 := .int .i64 0) (v1 := .int .i64 0) (v2 := .slice none 0 0) (v3 := .slice none 0 0) G3.out (Nat.le_refl w.heap.size))
   unfold st4 at FC FB
   go_wp2_with fail
   obtain ⟨z0, z1, z2, z3⟩ := FC.out
   refine bodyPost_ret (v := .tuple #[.agg #[.int .i64 0, .int .i64 0, .slice none 0 0, .slice none 0 0], .slice none 0 0, .int .i64 2]) (by simp [results, Tryz.results19, go_sem, z0, z1, z2, z3]) rfl ?_
   exact ⟨_, _, rfl, txn_none _, By.Seq.nil _, FB.out⟩
  | true =>
   obtain rfl : res = .ok x rest := HRES.out
   have T3 : Hid (∀ W, Below w3.heap.size w3 W → W.cell? ⟨tb, 0, none⟩ = some (.int .i64 x.node) ∧ W.cell? ⟨tb, 1, none⟩ = some (.int .i64 x.seq) ∧ W.cell? ⟨tb, 2, none⟩ = some (.slice da dn dc) ∧ W.cell? ⟨tb, 3, none⟩ = some (.slice ea en ec)) := Lib.hid (fun W h => T2.out W (hb3.trans (h.mono hb3.size)))
   have X3 : Hid (∀ W, Below w3.heap.size w3 W → W.cell? ⟨w.heap.size + 1, 0, none⟩ = some (.slice ra rn rc)) := Lib.hid (fun W h => (h.cell (p := ⟨w.heap.size + 1, 0, none⟩) (show w.heap.size + 1 < w3.heap.size by have := Z3.out; omega)).trans ((hb3.cell (p := ⟨w.heap.size + 1, 0, none⟩) (show w.heap.size + 1 < w2.heap.size by have := Z2.out; omega)).trans HX0.out))
   have D3 := Lib.hid (D2.out.below hb3 (Nat.le_refl _))
   have E3 := Lib.hid (E2.out.below hb3 (Nat.le_refl _))
   have KE : Hid (∀ U, Below w3.heap.size w3 U → Below w.heap.size w3 U ∧ (U.cell? ⟨tb, 0, none⟩ = some (.int .i64 x.node) ∧ U.cell? ⟨tb, 1, none⟩ = some (.int .i64 x.seq) ∧ U.cell? ⟨tb, 2, none⟩ = some (.slice da dn dc) ∧ U.cell? ⟨tb, 3, none⟩ = some (.slice ea en ec)) ∧ U.cell? ⟨w.heap.size + 1, 0, none⟩ = some (.slice ra rn rc)) := Lib.hid (fun U h => ⟨h.mono (by have := Z3.out; omega), T3.out U h, X3.out U h⟩)
   have KC := Lib.hid (bclone_any (w := w3.drew) ((HRS.out.below hb3).below (Below.refl _ _).drew) (by have h : rest.length ≤ 100000 := HBL.out; omega) r0)
   have HTB : Hid (tb ≠ w.heap.size) := Lib.hid (by have := Z1.out; omega)
   clear hb3 y0 y1 y2 y3 f0 f1 f2 f3 t0 t1 t2 t3 KF x1 T2 HRES T3 X3 r0
   go_upto_region 7 with fail
   refine wp_region_held_drew (S := fun u' => Below w.heap.size w3 u' ∧ (u'.cell? ⟨tb, 0, none⟩ = some (.int .i64 x.node) ∧ u'.cell? ⟨tb, 1, none⟩ = some (.int .i64 x.seq) ∧ u'.cell? ⟨tb, 2, none⟩ = some (.slice da dn dc) ∧ u'.cell? ⟨tb, 3, none⟩ = some (.slice ea en ec)) ∧ u'.cell? ⟨w.heap.size + 1, 0, none⟩ = some (.slice ra rn rc)) (by kernel_rfl) ?_ (fun hHeld => ?_)
   ·(exact KE.out _ (Below.refl _ _).drew)
   simp only [List.size_toArray, List.length_cons, List.length_nil, Nat.zero_add, Nat.reduceAdd]
   refine tkA (i := 0) (v := ?_) rfl (by kernel_rfl) (fun _ _ _ h => h) (Or.inl ⟨by rfl, ?_⟩) hHeld ?_
   rotate_left
   ·(intro w' hSw; (try dsimp only at hSw); go_simp; try with_reducible rfl)
   simp only [List.getElem_toArray, List.getElem_cons_zero, Act.put, List.setIfInBounds_toArray, List.set_cons_zero, List.set_cons_succ]
   refine tkA (i := 1) (v := ?_) rfl (by kernel_rfl) (fun _ _ _ h => h) (Or.inl ⟨by rfl, ?_⟩) hHeld ?_
   rotate_left
   ·(intro w' hSw; (try dsimp only at hSw); go_simp; try with_reducible rfl)
   simp only [List.getElem_toArray, List.getElem_cons_zero, List.getElem_cons_succ, Act.put, List.setIfInBounds_toArray, List.set_cons_zero, List.set_cons_succ]
   refine tkA (i := 2) (v := ?_) rfl (by kernel_rfl) (fun _ _ _ h => h) (Or.inl ⟨by rfl, ?_⟩) hHeld ?_
   rotate_left
   ·(intro w' hSw; (try dsimp only at hSw); go_simp; try with_reducible rfl)
   simp only [List.getElem_toArray, List.getElem_cons_zero, List.getElem_cons_succ, Act.put, List.setIfInBounds_toArray, List.set_cons_zero, List.set_cons_succ]
   refine wpAnyH_ready (rs := [3]) (by kernel_rfl) (by simp) ?_
   refine AllReadyH.cons rfl (fun K hK => ?_) AllReadyH.nil
   go_simp
   refine KC.out.mono ?_
   rintro e w4 ⟨v4, rfl, ho4, hb4⟩
   have B4 : Hid (Below w3.heap.size w3 w4) := Lib.hid (((Below.refl _ _).drew).trans hb4)
   obtain ⟨a4, c4, rfl, -, -, -, -⟩ := ho4.parts
   have O4 : Hid (By.Owns w3.heap.size w4 (.slice a4 rest.length c4) rest) := Lib.hid ho4
   refine hK.out _ _ (KE.out _ B4.out) (fun hHeld => ?_)
   clear hK K hb4 ho4 KC
   have RZ4 := Lib.hid ((B4.out.block w.heap.size (by have := Z3.out; omega)).trans RZ3.out)
   have G4 := Lib.hid (G3.out.trans (B4.out.mono (by have := G3.out.size; omega)))
   have Z4 : Hid (w.heap.size + 2 ≤ w4.heap.size) := Lib.hid (Nat.le_trans Z3.out B4.out.size)
   obtain ⟨⟨y0, y1, y2, y3⟩, f0, f1, f2, f3⟩ := st4_cells RZ4.out
   have FC := Lib.hid (st4_cells (st4_block (v0 := .int .i64 x.node) (v1 := .int .i64 x.seq) (v2 := .slice da dn dc) (v3 := .slice ea en ec) RZ4.out)).1
   have FB := Lib.hid (st4_below (v0 := .int .i64 x.node) (v1 := .int .i64 x.seq) (v2 := .slice da dn dc) (v3 := .slice ea en ec) G4.out (Nat.le_refl w.heap.size))
   have FT := Lib.hid (st4_bare w4 w.heap.size (.int .i64 x.node) (.int .i64 x.seq) (.slice da dn dc) (.slice ea en ec))
   have FD := Lib.hid ((D3.out.below B4.out (Nat.le_refl _)).but flat_int FT.out (by omega))
   have FE := Lib.hid ((E3.out.below B4.out (Nat.le_refl _)).but FT.out (by omega) (fun b hb e => by omega))
   have FV := Lib.hid (byOwns_but O4.out FT.out (by have := Z3.out; omega))
   have hcl : ∀ (p : Addr) (v : Value), p.block ≠ w.heap.size → w4.cell? p = some v → (st4 w4 w.heap.size (.int .i64 x.node) (.int .i64 x.seq) (.slice da dn dc) (.slice ea en ec)).cell? p = some v := fun p v hp h => (World.cell?_of_block (w := w4) (st4_other _ _ _ _ _ _ _ hp)).trans h
   have HS5 : Hid (Below w.heap.size w3 (st4 w4 w.heap.size (.int .i64 x.node) (.int .i64 x.seq) (.slice da dn dc) (.slice ea en ec)) ∧ ((st4 w4 w.heap.size (.int .i64 x.node) (.int .i64 x.seq) (.slice da dn dc) (.slice ea en ec)).cell? ⟨tb, 0, none⟩ = some (.int .i64 x.node) ∧ (st4 w4 w.heap.size (.int .i64 x.node) (.int .i64 x.seq) (.slice da dn dc) (.slice ea en ec)).cell? ⟨tb, 1, none⟩ = some (.int .i64 x.seq) ∧ (st4 w4 w.heap.size (.int .i64 x.node) (.int .i64 x.seq) (.slice da dn dc) (.slice ea en ec)).cell? ⟨tb, 2, none⟩ = some (.slice da dn dc) ∧ (st4 w4 w.heap.size (.int .i64 x.node) (.int .i64 x.seq) (.slice da dn dc) (.slice ea en ec)).cell? ⟨tb, 3, none⟩ = some (.slice ea en ec)) ∧ (st4 w4 w.heap.size (.int .i64 x.node) (.int .i64 x.seq) (.slice da dn dc) (.slice ea en ec)).cell? ⟨w.heap.size + 1, 0, none⟩ = some (.slice ra rn rc)) := Lib.hid ⟨st4_below hHeld.1 (Nat.le_refl _), ⟨hcl _ _ HTB.out hHeld.2.1.1, hcl _ _ HTB.out hHeld.2.1.2.1, hcl _ _ HTB.out hHeld.2.1.2.2.1, hcl _ _ HTB.out hHeld.2.1.2.2.2⟩, hcl _ _ (by show w.heap.size + 1 ≠ w.heap.size; omega) hHeld.2.2⟩
   clear FT hcl
   unfold st4 at FC FB FD FE FV HS5
   refine wpAnyH_ready (rs := [4]) (by kernel_rfl) (by simp) ?_
   refine AllReadyH.cons rfl (fun K hK => ?_) AllReadyH.nil
   go_simp
   refine hK.out _ _ HS5.out (fun hHeld => ?_)
   clear hK K
   refine tkA (i := 5) (v := ?_) rfl (by kernel_rfl) (fun _ _ _ h => h) (Or.inl ⟨by rfl, ?_⟩) hHeld ?_
   rotate_left
   ·(intro w' hSw; (try dsimp only at hSw); go_simp; try with_reducible rfl)
   simp only [List.getElem_toArray, List.getElem_cons_zero, List.getElem_cons_succ, Act.put, List.setIfInBounds_toArray, List.set_cons_zero, List.set_cons_succ]
   refine tkA (i := 6) (v := ?_) rfl (by kernel_rfl) (fun _ _ _ h => h) (Or.inl ⟨by rfl, ?_⟩) hHeld ?_
   rotate_left
   ·(intro w' hSw; (try dsimp only at hSw); go_simp; try with_reducible rfl)
   simp only [List.getElem_toArray, List.getElem_cons_zero, List.getElem_cons_succ, Act.put, List.setIfInBounds_toArray, List.set_cons_zero, List.set_cons_succ]
   refine wpAnyH_done (by kernel_rfl) ?_ _
   go_wp2_with fail
   obtain ⟨z0, z1, z2, z3⟩ := FC.out
   refine bodyPost_ret (v := .tuple #[.agg #[.int .i64 x.node, .int .i64 x.seq, .slice da dn dc, .slice ea en ec], .slice a4 rest.length c4, .int .i64 0]) (by simp [results, Tryz.results19, go_sem, z0, z1, z2, z3]) rfl ?_
   exact ⟨_, _, rfl, ⟨_, _, rfl, FD.out.seq, FE.out.own.seq⟩, FV.out.seq, FB.out⟩
end Go.Proofs.YtkanklppgioacaaGreat
namespace Go.Proofs.YtkanklppgioacaaGreat
open Go.RowKit Plain
set_option linter.unusedVariables false

set_option maxRecDepth 100000 in
set_option maxHeartbeats 1000000 in
/-- slices.Clone of vectors -/
theorem tclone_any {u : Value} {xs : List Int} {w : World} (hu : SeqE LInt w u xs) (hn : xs.length ≤ 1000000) : Calls Tryz.prog 35 #[u] w (MadeE LInt w xs) := by
 obtain ⟨a, cap, rfl, -, -, g0, h⟩ := hu.parts
 have q22 : ∀ (w : World) (a : Option Addr) (n c n' c' : Nat), (binOp .eql 23 (.slice a n c) (.slice none n' c')).run Tryz.prog w = .ok (.bool a.isNone) w := fun w a n c n' c' => Lib.run_eql_slice_nil w _ _ a n c n' c' Tryz.underlying23
 cases a with
 | none =>
  obtain rfl := g0 rfl
  obtain rfl : xs = [] := List.eq_nil_of_length_eq_zero (by have := h.dims; omega)
  go_enter Tryz.func35, Tryz.ntmps35
  go_wp2_with fail
  go_ret
  exact ⟨_, rfl, OwnE.nil _ _, Below.refl _ _⟩
 | some ad =>
  have HS := Lib.hid (h.below_alloc (.cells #[] 3))
  have HO := Lib.hid (OwnE.empty (L := LInt) w w.heap.size (Nat.le_refl _))
  have HB := Lib.hid ((Below.refl w.heap.size w).alloc (Nat.le_refl _) (.cells #[] 3))
  have hz : w.heap.size ≤ (w.alloc (.cells #[] 3)).heap.size := by simp
  have HZ := Lib.hid hz
  clear hu h g0 hz
  go_enter Tryz.func35, Tryz.ntmps35
  go_wp2_with (at_builtin; refine wpList_append_el LInt rfl (.tmp 5) (.tmp 6) rfl w.heap.size rfl HO.out rfl HS.out (fun _ _ h => h) (by simp; omega) HZ.out ?_)
  intro v' w2 ho' hgr _
  have O3 := Lib.hid ho'
  have B3 := Lib.hid (HB.out.grown hgr HZ.out (fun j hj => (HO.out.lt j hj).1))
  clear ho' hgr
  go_wp2_with fail
  go_ret
  exact ⟨_, rfl, by simpa using O3.out, B3.out⟩


set_option maxRecDepth 100000 in
set_option maxHeartbeats 8000000 in
/-- Only: what it answers lies in what the argument's slices lay in, or in blocks of the call's own (all of it does, in fact) -/
theorem txonlyP {Q : Nat → Prop} {v z : Value} {t : PTxn} {zs : List Txt} {w : World} (h : IsTxnIn Q w v t) (hQ : ∀ b, Q b → b < w.heap.size) (hz : SeqT w z zs) (hzl : zs.length ≤ 1000) (hzs : ∀ s ∈ zs, s.length ≤ 1000) (ht : FitTx t) :
  Calls Tryz.prog 13 #[v, z] w fun e w' => ∃ u, e = .returned u ∧ IsTxnIn (fun b => Q b ∨ (w.heap.size ≤ b ∧ b < w'.heap.size)) w' u (tonly t zs) ∧ Below w.heap.size w w' := by
 obtain ⟨dv, ev, rfl, k1, k2⟩ := h.is hQ
 obtain ⟨da, dc, rfl, -, -, -, k1⟩ := k1.parts
 obtain ⟨ea, ec, rfl, -, -, -, k2⟩ := k2.parts
 obtain ⟨za, zc, rfl, -⟩ := hz.parts
 generalize hdn : t.deps.length = dn at *
 generalize hen : t.effs.length = en at *
 have hbA := ((Below.refl w.heap.size w).alloc (Nat.le_refl _) (.cells #[.int .i64 t.node, .int .i64 t.seq, .slice da dn dc, .slice ea en ec] 26)).alloc (by simp) (.cells #[.int .i64 0, .int .i64 0, .slice none 0 0, .slice none 0 0] 26)
 have ZA : Hid (((w.alloc (.cells #[.int .i64 t.node, .int .i64 t.seq, .slice da dn dc, .slice ea en ec] 26)).alloc (.cells #[.int .i64 0, .int .i64 0, .slice none 0 0, .slice none 0 0] 26)).heap.size = w.heap.size + 2) := Lib.hid (by simp)
 have GA := Lib.hid hbA
 have TA : Hid (((w.alloc (.cells #[.int .i64 t.node, .int .i64 t.seq, .slice da dn dc, .slice ea en ec] 26)).alloc (.cells #[.int .i64 0, .int .i64 0, .slice none 0 0, .slice none 0 0] 26)).heap[w.heap.size]? = some (.cells #[.int .i64 t.node, .int .i64 t.seq, .slice da dn dc, .slice ea en ec] 26 (0, 0))) := Lib.hid (((((Below.refl (w.heap.size + 1) (w.alloc (.cells #[.int .i64 t.node, .int .i64 t.seq, .slice da dn dc, .slice ea en ec] 26))).alloc (by simp) (.cells #[.int .i64 0, .int .i64 0, .slice none 0 0, .slice none 0 0] 26)).block w.heap.size (by omega))).trans (heap_alloc_new w _))
 have RA : Hid (((w.alloc (.cells #[.int .i64 t.node, .int .i64 t.seq, .slice da dn dc, .slice ea en ec] 26)).alloc (.cells #[.int .i64 0, .int .i64 0, .slice none 0 0, .slice none 0 0] 26)).heap[w.heap.size + 1]? = some (.cells #[.int .i64 0, .int .i64 0, .slice none 0 0, .slice none 0 0] 26 (0, 0))) := Lib.hid (by
  have h := heap_alloc_new (w.alloc (.cells #[.int .i64 t.node, .int .i64 t.seq, .slice da dn dc, .slice ea en ec] 26)) (.cells #[.int .i64 0, .int .i64 0, .slice none 0 0, .slice none 0 0] 26)
  rw [show (w.alloc (.cells #[.int .i64 t.node, .int .i64 t.seq, .slice da dn dc, .slice ea en ec] 26)).heap.size = w.heap.size + 1 by simp] at h
  exact h)
 have KC := Lib.hid (tclone_any (k1.below hbA) (by rw [hdn]; have := ht.deps; omega))
 have KO := Lib.hid (fun W (hb : Below w.heap.size w W) => eonly_anyJ (k2.below hb) (hz.below hb) ht.effs ht.drops (by omega))
 have HR : Hid (tonly t zs = ⟨t.node, t.seq, t.deps, eonly t.effs zs⟩) := Lib.hid rfl
 have HDN := Lib.hid hdn
 clear h hQ hz hzl hzs ht k1 k2 hbA hdn hen
 generalize zs.length = zn at *
 go_enter Tryz.func13, Tryz.ntmps13
 go_upto_region 1 with fail
 generalize ((w.alloc (.cells #[.int .i64 t.node, .int .i64 t.seq, .slice da dn dc, .slice ea en ec] 26)).alloc (.cells #[.int .i64 0, .int .i64 0, .slice none 0 0, .slice none 0 0] 26)) = wa at *
 obtain ⟨⟨c0, c1, c2, c3⟩, f0, f1, f2, f3⟩ := st4_cells TA.out
 go_wp2_with fail
 refine KC.out.mono ?_
 rintro e w1 ⟨v1, rfl, ho1, hb1⟩
 have T1 := Lib.hid ((hb1.block w.heap.size (by rw [ZA.out]; omega)).trans TA.out)
 have R1 := Lib.hid ((hb1.block (w.heap.size + 1) (by rw [ZA.out]; omega)).trans RA.out)
 have Z1 : Hid (w.heap.size + 2 ≤ w1.heap.size) := Lib.hid (by have := hb1.size; rw [ZA.out] at this; exact this)
 have G1 := Lib.hid (GA.out.trans (hb1.mono GA.out.size))
 rw [ZA.out] at ho1
 obtain ⟨a1, e1, rfl, -, -, ho1', -⟩ := ho1.parts
 rw [HDN.out] at ho1'
 rw [HDN.out]
 have O1 := Lib.hid ho1'
 clear ho1 ho1' hb1 KC c0 c1 c2 c3 f0 f1 f2 f3
 obtain ⟨⟨c0, c1, c2, c3⟩, f0, f1, f2, f3⟩ := st4_cells T1.out
 have T2 : Hid ((w1.setCell ⟨w.heap.size, 2, none⟩ (.slice a1 dn e1)).heap[w.heap.size]? = some (.cells #[.int .i64 t.node, .int .i64 t.seq, .slice a1 dn e1, .slice ea en ec] 26 (0, 0))) := Lib.hid (heap_setCell_same _ _ 2 _ _ _ T1.out)
 have R2 : Hid ((w1.setCell ⟨w.heap.size, 2, none⟩ (.slice a1 dn e1)).heap[w.heap.size + 1]? = some (.cells #[.int .i64 0, .int .i64 0, .slice none 0 0, .slice none 0 0] 26 (0, 0))) := Lib.hid ((heap_setCell_other _ _ _ _ (show w.heap.size + 1 ≠ w.heap.size by omega)).trans R1.out)
 have Z2 : Hid (w.heap.size + 2 ≤ (w1.setCell ⟨w.heap.size, 2, none⟩ (.slice a1 dn e1)).heap.size) := Lib.hid (by have := Z1.out; simp [World.setCell]; omega)
 have G2 : Hid (Below w.heap.size w (w1.setCell ⟨w.heap.size, 2, none⟩ (.slice a1 dn e1))) := Lib.hid (G1.out.setCell (Nat.le_refl _) _)
 have O2 : Hid (OwnE LInt (w.heap.size + 2) (w1.setCell ⟨w.heap.size, 2, none⟩ (.slice a1 dn e1)) (.slice a1 dn e1) t.deps) := Lib.hid (O1.out.but flat_int (But.set _ _ _ _) (by omega))
 go_upto_region 2 with fail
 clear c0 c1 c2 c3 f0 f1 f2 f3 T1 R1 Z1 G1 O1
 generalize (w1.setCell ⟨w.heap.size, 2, none⟩ (.slice a1 dn e1)) = w2 at *
 obtain ⟨⟨c0, c1, c2, c3⟩, f0, f1, f2, f3⟩ := st4_cells T2.out
 have K2 := Lib.hid (KO.out w2 G2.out)
 go_wp2_with fail
 refine K2.out.mono ?_
 rintro e w3 ⟨v2, rfl, ho2, hb2⟩
 have T3 := Lib.hid ((hb2.block w.heap.size (by have := Z2.out; omega)).trans T2.out)
 have R3 := Lib.hid ((hb2.block (w.heap.size + 1) (by have := Z2.out; omega)).trans R2.out)
 have G3 := Lib.hid (G2.out.trans (hb2.mono G2.out.size))
 have Z3 : Hid (w.heap.size + 2 ≤ w3.heap.size) := Lib.hid (Nat.le_trans Z2.out hb2.size)
 have O3 := Lib.hid (O2.out.below hb2 (Nat.le_refl _))
 have E3 : Hid (OwnJ (fun b => w.heap.size + 2 ≤ b) LEff (w.heap.size + 2) w3 v2 (eonly t.effs zs)) := Lib.hid ((ho2.mono Z2.out).imp fun b hb => Nat.le_trans Z2.out hb)
 obtain ⟨a2, e2, rfl, -, -, -, -⟩ := ho2.own.parts
 clear ho2 hb2 K2 KO c0 c1 c2 c3 f0 f1 f2 f3
 generalize hql : (eonly t.effs zs).length = ql at *
 clear hql
 obtain ⟨⟨c0, c1, c2, c3⟩, f0, f1, f2, f3⟩ := st4_cells T3.out
 have T4 : Hid ((w3.setCell ⟨w.heap.size, 3, none⟩ (.slice a2 ql e2)).heap[w.heap.size]? = some (.cells #[.int .i64 t.node, .int .i64 t.seq, .slice a1 dn e1, .slice a2 ql e2] 26 (0, 0))) := Lib.hid (heap_setCell_same _ _ 3 _ _ _ T3.out)
 have R4 : Hid ((w3.setCell ⟨w.heap.size, 3, none⟩ (.slice a2 ql e2)).heap[w.heap.size + 1]? = some (.cells #[.int .i64 0, .int .i64 0, .slice none 0 0, .slice none 0 0] 26 (0, 0))) := Lib.hid ((heap_setCell_other _ _ _ _ (show w.heap.size + 1 ≠ w.heap.size by omega)).trans R3.out)
 have G4 : Hid (Below w.heap.size w (w3.setCell ⟨w.heap.size, 3, none⟩ (.slice a2 ql e2))) := Lib.hid (G3.out.setCell (Nat.le_refl _) _)
 have O4 : Hid (OwnE LInt (w.heap.size + 2) (w3.setCell ⟨w.heap.size, 3, none⟩ (.slice a2 ql e2)) (.slice a1 dn e1) t.deps) := Lib.hid (O3.out.but flat_int (But.set _ _ _ _) (by omega))
 have E4 : Hid (OwnJ (fun b => w.heap.size + 2 ≤ b) LEff (w.heap.size + 2) (w3.setCell ⟨w.heap.size, 3, none⟩ (.slice a2 ql e2)) (.slice a2 ql e2) (eonly t.effs zs)) := Lib.hid (E3.out.but (But.set _ _ _ _) (by omega) (fun b hb e => by omega))
 go_upto_region 3 with fail
 clear c0 c1 c2 c3 f0 f1 f2 f3 T3 R3 G3 O3 E3 Z3
 generalize (w3.setCell ⟨w.heap.size, 3, none⟩ (.slice a2 ql e2)) = w4 at *
 obtain ⟨⟨c0, c1, c2, c3⟩, -⟩ := st4_cells T4.out
 obtain ⟨⟨y0, y1, y2, y3⟩, f0, f1, f2, f3⟩ := st4_cells R4.out
 have FC := Lib.hid (st4_cells (st4_block (v0 := .int .i64 t.node) (v1 := .int .i64 t.seq) (v2 := .slice a1 dn e1) (v3 := .slice a2 ql e2) R4.out)).1
 have FB := Lib.hid (st4_below (v0 := .int .i64 t.node) (v1 := .int .i64 t.seq) (v2 := .slice a1 dn e1) (v3 := .slice a2 ql e2) G4.out (Nat.le_succ w.heap.size))
 have FT := Lib.hid (st4_bare w4 (w.heap.size + 1) (.int .i64 t.node) (.int .i64 t.seq) (.slice a1 dn e1) (.slice a2 ql e2))
 have FD := Lib.hid ((O4.out.but flat_int FT.out (by omega)).new flat_int)
 have FE := Lib.hid ((E4.out.but FT.out (by omega) (fun b hb e => by omega)).sq fun b hb _ => hb)
 clear FT
 unfold st4 at FC FB FD FE
 go_wp2_with fail
 obtain ⟨z0, z1, z2, z3⟩ := FC.out
 refine bodyPost_ret (v := .agg #[.int .i64 t.node, .int .i64 t.seq, .slice a1 dn e1, .slice a2 ql e2]) (by simp [results, Tryz.results13, go_sem, z0, z1, z2, z3]) rfl ?_
 rw [HR.out]
 exact ⟨_, rfl, ⟨_, _, rfl, FD.out.mono fun b hb => .inr ⟨by have := hb.1; omega, hb.2⟩, FE.out.mono fun b hb => .inr ⟨by have := hb.1; omega, hb.2⟩⟩, FB.out⟩
end Go.Proofs.YtkanklppgioacaaGreat
namespace Go.Proofs.YtkanklppgioacaaGreat
end Go.Proofs.YtkanklppgioacaaGreat
namespace Go.Proofs.YtkanklppgioacaaGreat
open Go.RowKit Plain
set_option linter.unusedVariables false

theorem one_txn {w : World} {dv ev : Value} {t : PTxn} (h1 : SeqE LInt w dv t.deps) (h2 : SeqE LEff w ev t.effs) : SeqE LTxn (w.alloc (.cells #[.int .i64 t.node, .int .i64 t.seq, dv, ev] 26)) (.slice (some ⟨w.heap.size, 0, none⟩) 1 1) [t] :=
 SeqE.one (L := LTxn) (w := w) (vs := cellsTx t dv ev) (x := t) ⟨dv, ev, rfl, h1, h2⟩ #[.int .i64 t.node, .int .i64 t.seq, dv, ev] rfl
/-- the variable that holds a transaction -/
structure TxBox (g : Nat) (t : PTxn) (da : Option Addr) (dn dc : Nat) (ea : Option Addr) (en ec : Nat) (u : World) : Prop where
 c : u.cell? ⟨g, 0, none⟩ = some (.int .i64 t.node) ∧ u.cell? ⟨g, 1, none⟩ = some (.int .i64 t.seq) ∧ u.cell? ⟨g, 2, none⟩ = some (.slice da dn dc) ∧ u.cell? ⟨g, 3, none⟩ = some (.slice ea en ec)
 d : SeqE LInt u (.slice da dn dc) t.deps
 e : SeqE LEff u (.slice ea en ec) t.effs
theorem TxBox.below {g : Nat} {t : PTxn} {da : Option Addr} {dn dc : Nat} {ea : Option Addr} {en ec : Nat} {u u' : World} (k : TxBox g t da dn dc ea en ec u) (hb : Below u.heap.size u u') : TxBox g t da dn dc ea en ec u' := by
 have c : ∀ {a : Addr} {v : Value}, u.cell? a = some v → u'.cell? a = some v := fun g => (hb.cell (World.block_lt_of_cell? u _ g)).trans g
 obtain ⟨h0, h1, h2, h3⟩ := k.c
 exact ⟨⟨c h0, c h1, c h2, c h3⟩, k.d.below hb, k.e.below hb⟩
theorem TxBox.is {g : Nat} {t : PTxn} {da : Option Addr} {dn dc : Nat} {ea : Option Addr} {en ec : Nat} {u : World} (k : TxBox g t da dn dc ea en ec u) : IsTxn u (.agg #[.int .i64 t.node, .int .i64 t.seq, .slice da dn dc, .slice ea en ec]) t := ⟨_, _, rfl, k.d, k.e⟩
theorem txbox_new {w : World} {t : PTxn} {da : Option Addr} {dn dc : Nat} {ea : Option Addr} {en ec : Nat} (h1 : SeqE LInt w (.slice da dn dc) t.deps) (h2 : SeqE LEff w (.slice ea en ec) t.effs) : TxBox w.heap.size t da dn dc ea en ec (w.alloc (.cells #[.int .i64 t.node, .int .i64 t.seq, .slice da dn dc, .slice ea en ec] 26)) :=
 have hb := (Below.refl w.heap.size w).alloc (Nat.le_refl _) (.cells #[.int .i64 t.node, .int .i64 t.seq, .slice da dn dc, .slice ea en ec] 26)
 ⟨⟨by simp, by simp, by simp, by simp⟩, h1.below hb, h2.below hb⟩
/-- a transaction's value, its two slices told -/
theorem IsTxn.parts {w : World} {v : Value} {t : PTxn} (h : IsTxn w v t) : ∃ da dn dc ea en ec, v = .agg #[.int .i64 t.node, .int .i64 t.seq, .slice da dn dc, .slice ea en ec] ∧ SeqE LInt w (.slice da dn dc) t.deps ∧ SeqE LEff w (.slice ea en ec) t.effs := by
 obtain ⟨dv, ev, rfl, h1, h2⟩ := h
 obtain ⟨a1, c1, rfl, -, -, -, k1⟩ := h1.parts
 obtain ⟨a2, c2, rfl, -, -, -, k2⟩ := h2.parts
 exact ⟨_, _, _, _, _, _, rfl, k1, k2⟩
theorem fitTx_of {t : PTxn} (h : shortTx [t] = true) (hok : txnOk t) : FitTx t := by
 unfold shortTx shortTx1 at h
 simp only [List.all_cons, List.all_nil, Bool.and_true, Bool.and_eq_true, decide_eq_true_iff] at h
 obtain ⟨-, h1, h2⟩ := h
 obtain ⟨g1, g2⟩ := shortE_iff.1 h2
 exact ⟨by omega, by omega, fun e he => by have := (shortE1_iff.1 (g2 e he)).2.2.2; omega, hok⟩
theorem fitTx_only {t : PTxn} (h : FitTx t) (z : List Txt) : FitTx (tonly t z) := by
 obtain ⟨h1, h2, h3, k1, k2, k3, k4⟩ := h
 have hl : (eonly t.effs z).length ≤ t.effs.length := List.length_filter_le _ _
 exact ⟨h1, by show (eonly t.effs z).length ≤ 1000; omega, fun e he => h3 e (mem_eonly.1 he).1, k1, k2, k3, fun e he => k4 e (mem_eonly.1 he).1⟩
theorem fits_effs {t : PTxn} (h : txnOk t) : ∀ e ∈ t.effs, Nm.Plain.fits e.n := fun e he => i64_in (h.2.2.2 e he).2.2.1
theorem rsameBy {u v : Value} {xs : Bytes} {w : World} (hu : By.Seq w u xs) (hv : By.Seq w v xs) : Calls Tryz.prog 16 #[u, v] w (GivesB w true) := (By.same_yes hu hv).mono fun _ _ ⟨h, hd⟩ => ⟨h, below_of_drawn hd⟩
theorem byParts {w : World} {v : Value} {xs : Bytes} (h : By.Seq w v xs) : ∃ a n c, v = .slice a n c ∧ n = xs.length ∧ n ≤ c ∧ c ≤ 9223372036854775807 ∧ By.Seq w (.slice a n c) xs := by
 have h' := h
 obtain ⟨a, c, rfl, h1, h2, -⟩ := h
 exact ⟨a, _, c, rfl, rfl, h1, h2, h'⟩
theorem fitTx_one : FitTx txOne := ⟨by simp [txOne], by simp [txOne], fun e he => absurd he (by simp [txOne]), by show intOk 1; unfold intOk; decide, by show intOk 1; unfold intOk; decide, fun n hn => absurd hn (by simp [txOne]), fun e he => absurd he (by simp [txOne])⟩

set_option maxRecDepth 100000 in
set_option maxHeartbeats 4000000 in
/-- awake -/
theorem tawake_any (w : World) : Calls Tryz.prog 5 #[] w (GivesB w true) := by
 have KP : Hid (Calls Tryz.prog 9 #[.slice none 0 0, .agg #[.int .i64 1, .int .i64 1, .slice none 0 0, .slice none 0 0]] w (GivesPut w [] txOne)) := Lib.hid (txputP (By.Seq.nil w) (by simp) ⟨_, _, rfl, SeqE.nil w, SeqE.nil w⟩ fitTx_one)
 go_enter Tryz.func5, Tryz.ntmps5
 go_wp2_with fail
 refine KP.out.mono ?_
 intro e w2 hg
 obtain ⟨v, rfl, ho⟩ := hg.1 txOne_formed
 have G2 := Lib.hid hg.2.2
 rw [List.nil_append, txOne_put] at ho
 have SO := Lib.hid ho.seq
 clear hg ho KP
 obtain ⟨a, n, c, rfl, hn, -, -, hs⟩ := byParts SO.out
 replace SO := Lib.hid hs
 obtain rfl : n = 4 := hn
 clear hs
 have hb := (Below.refl w2.heap.size w2).alloc (Nat.le_refl _) (.cells #[.int .u8 1, .int .u8 1, .int .u8 0, .int .u8 0, .int .u8 9] 5)
 have KR := txreadP (by_lit w2 [1#8, 1#8, 0#8, 0#8, 9#8] #[.int .u8 1, .int .u8 1, .int .u8 0, .int .u8 0, .int .u8 9] rfl (by simp)) (by simp) _ txOne_get
 replace SO := Lib.hid (SO.out.below hb)
 replace G2 := Lib.hid (G2.out.trans (hb.mono G2.out.size))
 clear hb
 go_wp2_with fail
 refine KR.mono ?_
 rintro e w3 ⟨u, v, rfl, hu, hv, hb⟩
 replace SO := Lib.hid (SO.out.below hb)
 replace G2 := Lib.hid (G2.out.trans (hb.mono G2.out.size))
 clear hb KR
 obtain ⟨da, dn, dc, ea, en, ec, rfl, h1, h2⟩ := hu.parts
 obtain ⟨ra, rn, rc, rfl, hrn, -, -, -⟩ := byParts hv
 obtain rfl : rn = 1 := hrn
 have hb := (Below.refl w3.heap.size w3).alloc (Nat.le_refl _) (.cells #[.int .i64 txOne.node, .int .i64 txOne.seq, .slice da dn dc, .slice ea en ec] 26)
 have TB := Lib.hid (txbox_new h1 h2)
 replace SO := Lib.hid (SO.out.below hb)
 replace G2 := Lib.hid (G2.out.trans (hb.mono G2.out.size))
 clear hb h1 h2 hu hv
 go_upto_region 3 with fail
 generalize (w3.alloc (.cells #[.int .i64 txOne.node, .int .i64 txOne.seq, .slice da dn dc, .slice ea en ec] 26)) = w4 at *
 have hb := (Below.refl w4.heap.size w4).alloc (Nat.le_refl _) (.cells #[.int .u8 1, .int .u8 1, .int .u8 0, .int .u8 0] 5)
 have KS := rsameBy (SO.out.below hb) (by_lit w4 [1#8, 1#8, 0#8, 0#8] #[.int .u8 1, .int .u8 1, .int .u8 0, .int .u8 0] rfl (by simp))
 replace G2 := Lib.hid (G2.out.trans (hb.mono G2.out.size))
 replace TB := Lib.hid (TB.out.below hb)
 clear hb
 go_wp2_with fail
 refine KS.mono ?_
 rintro e w5 ⟨rfl, hb⟩
 replace G2 := Lib.hid (G2.out.trans (hb.mono G2.out.size))
 replace TB := Lib.hid (TB.out.below hb)
 clear hb KS
 obtain ⟨x0, x1, x2, x3⟩ := TB.out.c
 have e1 : ((txOne.node : Int) == 1) = true := by decide
 go_wp2_with fail
 go_ret
 exact ⟨rfl, G2.out⟩
end Go.Proofs.YtkanklppgioacaaGreat
