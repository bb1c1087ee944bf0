/- What the document's own num, text and Bytes of transactions leave. (Written by gen-all.py.) -/
import Derived.Test.YtkanklppgioacaaGreatTxPuts
import Derived.Test.YtkanklppgioacaaGreatTxFrm
import Derived.Test.YtkanklppgioacaaGreatTxUses
import Derived.Deep.RegionHeld3
namespace Go.Proofs.YtkanklppgioacaaGreat
open Go.RowKit Plain
set_option linter.unusedVariables false
theorem pnum_one (n : Int) : pnums [n] = form n.toNat := by simp [pnums]
theorem pnums_three (a b c : Int) : pnums [a, b, c] = pnums [a] ++ (pnums [b] ++ pnums [c]) := by simp [pnums]
theorem ptext_one (s : Txt) : ptexts [s] = form s.length ++ tbs s := by simp [ptexts]

set_option maxRecDepth 100000 in
set_option maxHeartbeats 2000000 in
/-- num -/
theorem rtnum {B : Nat} {v : Value} {xs : Bytes} {w : World} {n : Int} (hv : By.Owns B w v xs) (hB : B ≤ w.heap.size) (hn : 0 ≤ n ∧ n < 72057594037927936) (hx : xs.length ≤ 900000) : Calls Tryz.prog 38 #[v, .int .i64 n] w (GivesO B w v (xs ++ pnums [n])) := by
 have K := Lib.hid (show Calls Tryz.prog 63 #[.int .i64 n] w (By.MadeT w (pnums [n])) from by rw [pnum_one]; obtain ⟨m, rfl⟩ : ∃ m : Nat, n = (m : Int) := ⟨n.toNat, by omega⟩; exact By.refNum_ok m (by omega) w)
 have FL : (pnums [n]).length ≤ 8 := by rw [pnum_one]; exact form_len8 _ (by omega)
 have O0 := Lib.hid hv
 obtain ⟨a, c, rfl, -, -, -, -⟩ := hv.parts
 clear hv
 generalize pnums [n] = fm at *
 generalize hxl : xs.length = xl at *
 have XL := Lib.hid hxl
 clear hxl
 go_enter Tryz.func38, Tryz.ntmps38
 go_wp2_with fail
 refine K.out.mono ?_
 rintro e w2 ⟨v2, rfl, ho2, hb2⟩
 have O2 := Lib.hid (O0.out.below hb2 (Nat.le_refl _))
 have G2 := Lib.hid ((Grow.refl B w (.slice a xl c)).keep hb2 hB)
 have S2 := Lib.hid ho2.seq
 obtain ⟨a2, c2, rfl, -, -, -, -⟩ := ho2.parts
 clear ho2 hb2 K
 generalize hfe : fm.length = fl at *
 have FE := Lib.hid hfe
 have FL2 := Lib.hid FL
 clear hfe FL
 go_wp2_with (at_builtin; refine By.wpList_append_seq rfl (.tmp 12) (.tmp 13) rfl B rfl O2.out rfl S2.out (by rw [XL.out, FE.out]; have := FL2.out; omega) (by have := G2.out.size; omega) ?_)
 intro v5 w5 ho5 hgr hat
 have O5 := Lib.hid ho5
 have G5 := Lib.hid (G2.out.app hgr hat (fun k hk => (O2.out.lt k hk).1) hB)
 clear ho5 hgr hat
 go_wp2_with fail
 go_ret
 exact ⟨_, rfl, O5.out, G5.out⟩

set_option maxRecDepth 100000 in
set_option maxHeartbeats 2000000 in
/-- text -/
theorem rttext {B : Nat} {v : Value} {xs : Bytes} {w : World} {s : Txt} (hv : By.Owns B w v xs) (hB : B ≤ w.heap.size) (hn : s.length ≤ 1000) (hx : xs.length ≤ 900000) : Calls Tryz.prog 39 #[v, .string (bt s)] w (GivesO B w v (xs ++ ptexts [s])) := by
 have K := Lib.hid (show Calls Tryz.prog 64 #[.string (bt s)] w (By.MadeT w (ptexts [s])) from by rw [ptext_one, ← tform_bt]; exact By.refText_ok (bt s) w (show (bt s).size ≤ 65536 by rw [bt_size]; omega))
 have FL : (ptexts [s]).length ≤ 1008 := by rw [ptext_one, List.length_append, tbs_len]; have := form_len8 s.length (by omega); omega
 have O0 := Lib.hid hv
 obtain ⟨a, c, rfl, -, -, -, -⟩ := hv.parts
 clear hv
 generalize ptexts [s] = fm at *
 generalize hxl : xs.length = xl at *
 have XL := Lib.hid hxl
 clear hxl
 go_enter Tryz.func39, Tryz.ntmps39
 go_wp2_with fail
 refine K.out.mono ?_
 rintro e w2 ⟨v2, rfl, ho2, hb2⟩
 have O2 := Lib.hid (O0.out.below hb2 (Nat.le_refl _))
 have G2 := Lib.hid ((Grow.refl B w (.slice a xl c)).keep hb2 hB)
 have S2 := Lib.hid ho2.seq
 obtain ⟨a2, c2, rfl, -, -, -, -⟩ := ho2.parts
 clear ho2 hb2 K
 generalize hfe : fm.length = fl at *
 have FE := Lib.hid hfe
 have FL2 := Lib.hid FL
 clear hfe FL
 go_wp2_with (at_builtin; refine By.wpList_append_seq rfl (.tmp 12) (.tmp 13) rfl B rfl O2.out rfl S2.out (by rw [XL.out, FE.out]; have := FL2.out; omega) (by have := G2.out.size; omega) ?_)
 intro v5 w5 ho5 hgr hat
 have O5 := Lib.hid ho5
 have G5 := Lib.hid (G2.out.app hgr hat (fun k hk => (O2.out.lt k hk).1) hB)
 clear ho5 hgr hat
 go_wp2_with fail
 go_ret
 exact ⟨_, rfl, O5.out, G5.out⟩

/-- append of bytes at a step of a region that draws its order -/
theorem step_append_by {w : World} {ops : Array Oper} {o : Oper} {act : Act} {K : Act → World → Prop} {Q : Exit → Act → World → Prop} {E : Prop} (hw : Region.wanted o (yielded ops act.tmps) = true) (s x : Operand)
  (ho : o.op = .call { callee := .builtin .append, args := #[s, x], argTypes := #[28, 28] }) (B : Nat) {v u : Value} {xs ys : Bytes}
  (hs : act.eval s = v) (hown : By.Owns B w v xs) (hx : act.eval x = u) (hseq : By.Seq w u ys) (hlen : xs.length + ys.length ≤ 1073741824) (hbase : B ≤ w.heap.size)
  (h : ∀ v' w', By.Owns B w' v' (xs ++ ys) → w.grownBy w' v.ownBlock → (v'.ownBlock = v.ownBlock ∨ v'.ownBlock = some w.heap.size) → K (act.put o.dst v') w') : if Region.wanted o (yielded ops act.tmps) = true then Oper.wp Tryz.prog o act w K Q else E := by
 rw [if_pos hw]
 obtain ⟨v', w', hr, h2, h3, h4⟩ := By.run_append_seq B o.type hown hseq hlen hbase
 unfold Oper.wp execOp
 simp only [ho, resolve, invoke, builtin, Sem.run_bind, Sem.run_pure, Result.andThen_ok, List.map_toArray, List.map_cons, List.map_nil, hs, hx, hr]
 exact h v' w' h2 h3 h4
set_option maxRecDepth 100000 in
set_option maxHeartbeats 32000000 in
/-- Bytes -/
theorem rtbytes {t : PTxn} {da ea : Option Addr} {dn dc en ec : Nat} {w : World} (hd : SeqE LInt w (.slice da dn dc) t.deps) (he : SeqE LEff w (.slice ea en ec) t.effs) (hf : tformedB t = true) (hn : ∀ e ∈ t.effs, Nm.Plain.fits e.n) :
  Calls Tryz.prog 18 #[.agg #[.int .i64 t.node, .int .i64 t.seq, .slice da dn dc, .slice ea en ec]] w (GivesO w.heap.size w (.slice none 0 0) (ptxn t)) := by
 obtain ⟨f1, f2, f3, f4, f5⟩ := tformed_parts.1 hf
 have hr : 0 ≤ t.node ∧ t.node ≤ 7 ∧ 1 ≤ t.seq ∧ t.seq ≤ 1073741824 := by
  unfold inRange at f1
  exact of_decide_eq_true f1
 obtain ⟨d1, d2⟩ := deps_parts f2
 have hq : ∀ e ∈ t.effs, PutE e := by
  unfold rightB at f4
  rw [Bool.and_eq_true, List.all_eq_true] at f4
  exact fun e h => putE_of (f4.1 e h) (hn e h)
 have hdn := hd.dims
 have hen := he.dims
 have RT := Lib.hid hr
 have R1 := Lib.hid d1
 have R2 := Lib.hid d2
 have R3 := Lib.hid f3
 have RQ := Lib.hid hq
 have hba := (Below.refl w.heap.size w).alloc (Nat.le_refl _) (.cells #[.int .i64 t.node, .int .i64 t.seq, .slice da dn dc, .slice ea en ec] 26)
 have ZB : Hid (w.heap.size ≤ (w.alloc (.cells #[.int .i64 t.node, .int .i64 t.seq, .slice da dn dc, .slice ea en ec] 26)).heap.size) := Lib.hid hba.size
 have GW : Hid (Grow w.heap.size w (.slice none 0 0) (w.alloc (.cells #[.int .i64 t.node, .int .i64 t.seq, .slice da dn dc, .slice ea en ec] 26)) (.slice none 0 0)) := Lib.hid ((Grow.refl _ w _).keep hba (Nat.le_refl _))
 have O0 : Hid (By.Owns w.heap.size (w.alloc (.cells #[.int .i64 t.node, .int .i64 t.seq, .slice da dn dc, .slice ea en ec] 26)) (.slice none 0 0) []) := Lib.hid (By.Owns.nil _ _)
 have G0 := Lib.hid (Grow.refl w.heap.size (w.alloc (.cells #[.int .i64 t.node, .int .i64 t.seq, .slice da dn dc, .slice ea en ec] 26)) (.slice none 0 0))
 have CT : Hid (∀ W u, Grow w.heap.size (w.alloc (.cells #[.int .i64 t.node, .int .i64 t.seq, .slice da dn dc, .slice ea en ec] 26)) (.slice none 0 0) W u → W.cell? ⟨w.heap.size, 0, none⟩ = some (.int .i64 t.node) ∧ W.cell? ⟨w.heap.size, 1, none⟩ = some (.int .i64 t.seq) ∧ W.cell? ⟨w.heap.size, 2, none⟩ = some (.slice da dn dc) ∧ W.cell? ⟨w.heap.size, 3, none⟩ = some (.slice ea en ec)) := Lib.hid (fun W u h => by
  have hb := h.kept w.heap.size (by simp) (by simp [Value.ownBlock])
  refine ⟨?_, ?_, ?_, ?_⟩
  ·exact (World.cell?_of_block (a := ⟨w.heap.size, 0, none⟩) hb).trans (by simp)
  ·exact (World.cell?_of_block (a := ⟨w.heap.size, 1, none⟩) hb).trans (by simp)
  ·exact (World.cell?_of_block (a := ⟨w.heap.size, 2, none⟩) hb).trans (by simp)
  ·exact (World.cell?_of_block (a := ⟨w.heap.size, 3, none⟩) hb).trans (by simp))
 have HBW : Hid (∀ W u, Grow w.heap.size (w.alloc (.cells #[.int .i64 t.node, .int .i64 t.seq, .slice da dn dc, .slice ea en ec] 26)) (.slice none 0 0) W u → Below w.heap.size w W) := Lib.hid (fun W u h => hba.trans h.below)
 have HD := Lib.hid hd
 have HE := Lib.hid he
 have HPE : Hid (ptxn t = pnums [t.node, t.seq, (t.deps.length : Int)] ++ pnums t.deps ++ pnums [(t.effs.length : Int)] ++ t.effs.flatMap peff) := Lib.hid rfl
 have PS0 := Lib.hid (fun k (hk : k < t.effs.length) => flatMap_take peff t.effs (k := k) hk)
 obtain ⟨P, hP⟩ : ∃ P : Nat → Bytes, P = fun k => (t.effs.take k).flatMap peff := ⟨_, rfl⟩
 have PS : Hid (∀ k, k < t.effs.length → P (k + 1) = P k ++ peff (t.effs.getD k default)) := Lib.hid (fun k hk => by rw [hP]; exact PS0.out k hk)
 have P0 : Hid (P 0 = []) := Lib.hid (by rw [hP]; rfl)
 have PN : Hid (P t.effs.length = t.effs.flatMap peff) := Lib.hid (by rw [hP]; show (t.effs.take t.effs.length).flatMap peff = _; rw [List.take_length])
 have PL : Hid (∀ k, (P k).length ≤ 48000) := Lib.hid (fun k => by
  rw [hP]
  have h1 := flatMap_len peff 6000 (t.effs.take k) (fun d hd => peff_len (hq d (List.mem_of_mem_take hd)))
  have h2 : (t.effs.take k).length ≤ 8 := by rw [List.length_take]; omega
  exact Nat.le_trans h1 (by omega))
 clear hP PS0 hd he hf hn f1 f2 f3 f4 f5 hr d1 d2 hq hba
 obtain ⟨hdn, hd1, hd2⟩ := hdn
 obtain ⟨hen, he1, he2⟩ := hen
 rw [hdn] at HPE R1
 rw [hen] at HPE PS PN R3
 have LD := Lib.hid hdn
 have LE := Lib.hid hen
 clear hdn hen
 have PF : Hid ((pnums t.deps).length ≤ 64) := Lib.hid (by
  have := pnums_len (ns := t.deps) (fun n h => by have := R2.out n h; omega)
  rw [LD.out] at this
  have := R1.out
  omega)
 have SQ : Hid (∀ W u, Grow w.heap.size (w.alloc (.cells #[.int .i64 t.node, .int .i64 t.seq, .slice da dn dc, .slice ea en ec] 26)) (.slice none 0 0) W u → SeqI W (.slice da dn dc) t.deps) := Lib.hid (fun W u h => seqI_of (HD.out.below (HBW.out W u h)))
 go_enter Tryz.func18, Tryz.ntmps18
 go_upto_region 1 with fail
 generalize (w.alloc (.cells #[.int .i64 t.node, .int .i64 t.seq, .slice da dn dc, .slice ea en ec] 26)) = u0 at *
 have KE : Hid (∀ U u, Grow w.heap.size u0 (.slice none 0 0) U u → Below w.heap.size u0 U ∧ U.cell? ⟨w.heap.size, 0, none⟩ = some (.int .i64 t.node) ∧ U.cell? ⟨w.heap.size, 1, none⟩ = some (.int .i64 t.seq) ∧ U.cell? ⟨w.heap.size, 2, none⟩ = some (.slice da dn dc) ∧ U.cell? ⟨w.heap.size, 3, none⟩ = some (.slice ea en ec)) := Lib.hid (fun U u h => ⟨h.below, CT.out U u h⟩)
 have GD : Hid (Grow w.heap.size u0 (.slice none 0 0) u0.drew (.slice none 0 0)) := Lib.hid (G0.out.keep (Below.refl _ _).drew ZB.out)
 have OD : Hid (By.Owns w.heap.size u0.drew (.slice none 0 0) []) := Lib.hid (By.Owns.nil _ _)
 have ZD : Hid (w.heap.size ≤ u0.drew.heap.size) := Lib.hid ZB.out
 refine wp_region_held_drew (S := fun u' => Below w.heap.size u0 u' ∧ u'.cell? ⟨w.heap.size, 0, none⟩ = some (.int .i64 t.node) ∧ u'.cell? ⟨w.heap.size, 1, none⟩ = some (.int .i64 t.seq) ∧ u'.cell? ⟨w.heap.size, 2, none⟩ = some (.slice da dn dc) ∧ u'.cell? ⟨w.heap.size, 3, none⟩ = some (.slice ea en ec)) (by kernel_rfl) ?_ (fun hHeld => ?_)
 ·(exact KE.out _ _ GD.out)
 simp only [List.size_toArray, List.length_cons, List.length_nil, Nat.zero_add, Nat.reduceAdd]
 refine tkA (i := 0) (v := ?_) rfl (by kernel_rfl) (fun _ _ _ h => h) (Or.inl ⟨by rfl, ?_⟩) hHeld ?_
 rotate_left
 ·(intro w' hSw; (try dsimp only at hSw); go_simp; try with_reducible rfl)
 simp only [List.getElem_toArray, List.getElem_cons_zero, Act.put, List.setIfInBounds_toArray, List.set_cons_zero, List.set_cons_succ]
 refine tkA (i := 1) (v := ?_) rfl (by kernel_rfl) (fun _ _ _ h => h) (Or.inl ⟨by rfl, ?_⟩) hHeld ?_
 rotate_left
 ·(intro w' hSw; (try dsimp only at hSw); go_simp; try with_reducible rfl)
 simp only [List.getElem_toArray, List.getElem_cons_zero, List.getElem_cons_succ, Act.put, List.setIfInBounds_toArray, List.set_cons_zero, List.set_cons_succ]
 refine tkA (i := 3) (v := ?_) rfl (by kernel_rfl) (fun _ _ _ h => h) (Or.inl ⟨by rfl, ?_⟩) hHeld ?_
 rotate_left
 ·(intro w' hSw; (try dsimp only at hSw); go_simp; try with_reducible rfl)
 simp only [List.getElem_toArray, List.getElem_cons_zero, List.getElem_cons_succ, Act.put, List.setIfInBounds_toArray, List.set_cons_zero, List.set_cons_succ]
 refine tkA (i := 4) (v := ?_) rfl (by kernel_rfl) (fun _ _ _ h => h) (Or.inl ⟨by rfl, ?_⟩) hHeld ?_
 rotate_left
 ·(intro w' hSw; (try dsimp only at hSw); go_simp; try with_reducible rfl)
 simp only [List.getElem_toArray, List.getElem_cons_zero, List.getElem_cons_succ, Act.put, List.setIfInBounds_toArray, List.set_cons_zero, List.set_cons_succ]
 refine tkA (i := 6) (v := ?_) rfl (by kernel_rfl) (fun _ _ _ h => h) (Or.inl ⟨by rfl, ?_⟩) hHeld ?_
 rotate_left
 ·(intro w' hSw; (try dsimp only at hSw); go_simp; try with_reducible rfl)
 simp only [List.getElem_toArray, List.getElem_cons_zero, List.getElem_cons_succ, Act.put, List.setIfInBounds_toArray, List.set_cons_zero, List.set_cons_succ]
 refine tkA (i := 7) (v := ?_) rfl (by kernel_rfl) (fun _ _ _ h => h) (Or.inl ⟨by rfl, ?_⟩) hHeld ?_
 rotate_left
 ·(intro w' hSw; (try dsimp only at hSw); go_simp; try with_reducible rfl)
 simp only [List.getElem_toArray, List.getElem_cons_zero, List.getElem_cons_succ, Act.put, List.setIfInBounds_toArray, List.set_cons_zero, List.set_cons_succ]
 refine tkA (i := 8) (v := ?_) rfl (by kernel_rfl) (fun _ _ _ h => h) (Or.inl ⟨by rfl, ?_⟩) hHeld ?_
 rotate_left
 ·(intro w' hSw; (try dsimp only at hSw); go_simp; try with_reducible rfl)
 simp only [List.getElem_toArray, List.getElem_cons_zero, List.getElem_cons_succ, Act.put, List.setIfInBounds_toArray, List.set_cons_zero, List.set_cons_succ]
 have KK1 := Lib.hid (rtnum (n := t.node) OD.out ZD.out (by have := RT.out; omega) (by simp))
 refine wpAnyH_ready (rs := [2]) (by kernel_rfl) (by simp) ?_
 refine AllReadyH.cons rfl (fun K hK => ?_) AllReadyH.nil
 go_simp
 refine KK1.out.mono ?_
 rintro e s1 ⟨v', rfl, ho, hg⟩
 rw [List.nil_append] at ho
 have G1 := Lib.hid (GD.out.trans hg)
 obtain ⟨a1, c1, rfl, -, -, -, -⟩ := ho.parts
 have O1 := Lib.hid ho
 have YL := pnums_len (ns := [t.node]) (by intro n hn; simp at hn; subst hn; have := RT.out; omega)
 simp only [List.length_cons, List.length_nil] at YL
 generalize hn : (pnums [t.node]).length = n1 at *
 generalize hY : pnums [t.node] = Y1 at *
 have E1 := Lib.hid hY.symm
 have N1 : Hid (Y1.length ≤ 8) := Lib.hid (by rw [hn]; exact YL)
 refine hK.out _ _ (KE.out _ _ G1.out) (fun hHeld => ?_)
 clear hK K ho hg hn hY YL KK1
 have KK2 := Lib.hid (rtnum (w := s1) O1.out (by have := G1.out.size; have := ZB.out; omega) (n := t.seq) (by have := RT.out; omega) (by have := N1.out; omega))
 refine wpAnyH_ready (rs := [5]) (by kernel_rfl) (by simp) ?_
 refine AllReadyH.cons rfl (fun K hK => ?_) AllReadyH.nil
 go_simp
 refine KK2.out.mono ?_
 rintro e s2 ⟨v', rfl, ho, hg⟩
 have G2 := Lib.hid (G1.out.trans hg)
 obtain ⟨a2, c2, rfl, -, -, -, -⟩ := ho.parts
 have O2 := Lib.hid ho
 have YL : (Y1 ++ pnums [t.seq]).length ≤ 16 := by have h1 := N1.out; rw [List.length_append]; have h2 := pnums_len (ns := [t.seq]) (by intro n hn; simp at hn; subst hn; have := RT.out; omega); simp only [List.length_cons, List.length_nil] at h2; omega
 generalize hn : (Y1 ++ pnums [t.seq]).length = n2 at *
 generalize hY : Y1 ++ pnums [t.seq] = Y2 at *
 have E2 := Lib.hid hY.symm
 have N2 : Hid (Y2.length ≤ 16) := Lib.hid (by rw [hn]; exact YL)
 refine hK.out _ _ (KE.out _ _ G2.out) (fun hHeld => ?_)
 clear hK K ho hg hn hY YL KK2
 have KK3 := Lib.hid (rtnum (w := s2) O2.out (by have := G2.out.size; have := ZB.out; omega) (n := (dn : Int)) (by have := R1.out; omega) (by have := N2.out; omega))
 refine wpAnyH_ready (rs := [9]) (by kernel_rfl) (by simp) ?_
 refine AllReadyH.cons rfl (fun K hK => ?_) AllReadyH.nil
 go_simp
 refine KK3.out.mono ?_
 rintro e s3 ⟨v', rfl, ho, hg⟩
 have G3 := Lib.hid (G2.out.trans hg)
 obtain ⟨a3, c3, rfl, -, -, -, -⟩ := ho.parts
 have O3 := Lib.hid ho
 have YL : (Y2 ++ pnums [(dn : Int)]).length ≤ 24 := by have h1 := N2.out; rw [List.length_append]; have h2 := pnums_len (ns := [(dn : Int)]) (by intro n hn; simp at hn; subst hn; have := R1.out; omega); simp only [List.length_cons, List.length_nil] at h2; omega
 generalize hn : (Y2 ++ pnums [(dn : Int)]).length = n3 at *
 generalize hY : Y2 ++ pnums [(dn : Int)] = Y3 at *
 have E3 := Lib.hid hY.symm
 have N3 : Hid (Y3.length ≤ 24) := Lib.hid (by rw [hn]; exact YL)
 refine hK.out _ _ (KE.out _ _ G3.out) (fun hHeld => ?_)
 clear hK K ho hg hn hY YL KK3
 refine tkA (i := 10) (v := ?_) rfl (by kernel_rfl) (fun _ _ _ h => h) (Or.inl ⟨by rfl, ?_⟩) hHeld ?_
 rotate_left
 ·(intro w' hSw; (try dsimp only at hSw); go_simp; try with_reducible rfl)
 simp only [List.getElem_toArray, List.getElem_cons_zero, List.getElem_cons_succ, Act.put, List.setIfInBounds_toArray, List.set_cons_zero, List.set_cons_succ]
 refine wpAnyH_done (by kernel_rfl) ?_ _
 clear hHeld
 have PD0 := Lib.hid (fun k (hk : k < t.deps.length) => flatMap_take (fun n : Int => form n.toNat) t.deps (k := k) hk)
 obtain ⟨D, hD⟩ : ∃ D : Nat → Bytes, D = fun k => pnums (t.deps.take k) := ⟨_, rfl⟩
 have DS : Hid (∀ k, k < t.deps.length → D (k + 1) = D k ++ pnums [t.deps.getD k default]) := Lib.hid (fun k hk => by rw [hD, pnum_one]; exact PD0.out k hk)
 have D0 : Hid (D 0 = []) := Lib.hid (by rw [hD]; rfl)
 have DN : Hid (D t.deps.length = pnums t.deps) := Lib.hid (by rw [hD]; show pnums (t.deps.take t.deps.length) = _; rw [List.take_length])
 have DL : Hid (∀ k, (D k).length ≤ 64) := Lib.hid (fun k => by
  rw [hD]
  have h1 := pnums_len (ns := t.deps.take k) (fun n h => by have := R2.out n (List.mem_of_mem_take h); omega)
  have h2 : (t.deps.take k).length ≤ 8 := by rw [List.length_take, LD.out]; have := R1.out; omega
  exact Nat.le_trans h1 (by omega))
 rw [LD.out] at DS DN
 clear hD PD0
 go_wp2_with fail
 go_loopw [3, 4] (fun z i wr => ∃ k : Nat, k ≤ dn ∧ i = .int .i64 k ∧ By.Owns w.heap.size wr z (Y3 ++ D k) ∧ Grow w.heap.size u0 (.slice none 0 0) wr z) (fun _ i _ => dn - (intOf i).toNat)
 case atStart => exact ⟨0, Nat.zero_le _, rfl, by rw [D0.out, List.append_nil]; exact O3.out, G3.out⟩
 case round =>
  obtain ⟨k, hk, rfl, ho, hg⟩ := hrel
  have HO := Lib.hid ho
  have HG := Lib.hid hg
  clear ho hg
  obtain ⟨t0, t1, t2, t3⟩ := CT.out _ _ HG.out
  by_cases hlt : k < dn
  ·have PK := Lib.hid (DS.out k hlt)
   have LK := Lib.hid (DL.out k)
   obtain ⟨b, o, c, hv, -, -, -, hc⟩ := (SQ.out _ _ HG.out).spot (by rw [LD.out]; omega)
   rw [LD.out] at hv
   simp only [Value.slice.injEq] at hv
   obtain ⟨rfl, -, rfl⟩ := hv
   have c0 := hc k (by rw [LD.out]; exact hlt)
   change _ = some (Value.int .i64 (t.deps.getD k default)) at c0
   have MR := Lib.hid (R2.out _ (tmem_getD (l := t.deps) (k := k) (by rw [LD.out]; exact hlt)))
   clear hc
   generalize t.deps.getD k default = m at *
   have KN := Lib.hid (rtnum HO.out (by have := HG.out.size; have := ZB.out; omega) (n := m) (by have := MR.out; omega) (by rw [List.length_append]; have := N3.out; have := LK.out; omega))
   obtain ⟨za, zc, rfl, -, -, -, -⟩ := HO.out.parts
   generalize hzl : (Y3 ++ D k).length = zl at *
   clear hzl
   go_wp2_with fail
   refine KN.out.mono ?_
   rintro e u7 ⟨v', rfl, ho, hg⟩
   have G7 := Lib.hid (HG.out.trans hg)
   have O7 := Lib.hid ho
   obtain ⟨a7, c7, rfl, -, -, -, -⟩ := ho.parts
   clear ho hg KN t0 t1 t2 t3 c0
   generalize hnn : (Y3 ++ D k ++ pnums [m]).length = n7 at *
   clear hnn
   go_wp2_with fail
   go_roundw
   case rel => exact ⟨k + 1, by omega, by go_num, by rw [PK.out, ← List.append_assoc]; exact O7.out, G7.out⟩
   case measure => simp [intOf] <;> omega
  ·obtain rfl : k = dn := by omega
   rw [DN.out] at HO
   obtain ⟨a4, c4, rfl, -, -, -, -⟩ := HO.out.parts
   have O4 := Lib.hid HO.out
   have G4 := Lib.hid HG.out
   clear HO HG
   have YL : (Y3 ++ pnums t.deps).length ≤ 88 := by rw [List.length_append]; have := N3.out; have := PF.out; omega
   generalize hn : (Y3 ++ pnums t.deps).length = n4 at *
   generalize hY : Y3 ++ pnums t.deps = Y4 at *
   have E4 := Lib.hid hY.symm
   have N4 : Hid (Y4.length ≤ 88) := Lib.hid (by rw [hn]; exact YL)
   clear hn hY YL
   rename World => w4
   have KN := Lib.hid (rtnum O4.out (by have := G4.out.size; have := ZB.out; omega) (n := (en : Int)) (by have := R3.out; omega) (by have := N4.out; omega))
   go_wp2_with fail
   refine KN.out.mono ?_
   rintro e w5 ⟨v', rfl, ho, hg⟩
   have G5 := Lib.hid (G4.out.trans hg)
   have O5 := Lib.hid ho
   obtain ⟨a5, c5, rfl, -, -, -, -⟩ := ho.parts
   have YL := pnums_len (ns := [(en : Int)]) (by intro n hn; simp at hn; subst hn; have := R3.out; omega)
   simp only [List.length_cons, List.length_nil] at YL
   have YL2 : (Y4 ++ pnums [(en : Int)]).length ≤ 96 := by rw [List.length_append]; have := N4.out; omega
   generalize hn : (Y4 ++ pnums [(en : Int)]).length = n5 at *
   generalize hY : Y4 ++ pnums [(en : Int)] = Y5 at *
   have E5 := Lib.hid hY.symm
   have N5 : Hid (Y5.length ≤ 96) := Lib.hid (by rw [hn]; exact YL2)
   clear ho hg KN t0 t1 t2 t3 hn hY YL YL2 DS DL D0
   go_wp2_with fail
   go_loopw [3, 5] (fun z i wq => ∃ j : Nat, j ≤ en ∧ i = .int .i64 j ∧ By.Owns w.heap.size wq z (Y5 ++ P j) ∧ Grow w.heap.size u0 (.slice none 0 0) wq z) (fun _ i _ => en - (intOf i).toNat)
   case atStart => exact ⟨0, Nat.zero_le _, rfl, by rw [P0.out, List.append_nil]; exact O5.out, G5.out⟩
   case round =>
    rename World => wq
    obtain ⟨j, hj, rfl, ho, hg⟩ := hrel
    have HO := Lib.hid ho
    have HG := Lib.hid hg
    clear ho hg
    obtain ⟨t0, t1, t2, t3⟩ := CT.out _ _ HG.out
    by_cases hjt : j < en
    ·have PK := Lib.hid (PS.out j hjt)
     have LK := Lib.hid (PL.out j)
     have BW := Lib.hid (HBW.out _ _ HG.out)
     obtain ⟨b, o, c, hv, -, -, -, hc⟩ := effs_spot HE.out (by rw [LE.out]; omega)
     rw [LE.out] at hv
     simp only [Value.slice.injEq] at hv
     obtain ⟨rfl, -, rfl⟩ := hv
     obtain ⟨dv, EX, hsd⟩ := hc j (by rw [LE.out]; exact hjt)
     have QX := Lib.hid (RQ.out _ (tmem_getD (l := t.effs) (k := j) (by rw [LE.out]; exact hjt)))
     clear hc
     generalize t.effs.getD j default = x at *
     obtain ⟨xa, xn, rfl⟩ : ∃ xa xn, dv = .slice xa x.drops.length xn := by
      obtain ⟨a, c, e, -⟩ := hsd.parts
      exact ⟨a, c, e⟩
     obtain ⟨e0, e1, e2, e3, e4, e5, e6⟩ := EX.below BW.out EX.lt
     clear EX
     obtain ⟨xm, hxm⟩ : ∃ m, x.drops.length = m := ⟨_, rfl⟩
     rw [hxm] at hsd e6
     have LX := Lib.hid hxm
     clear hxm
     have EB := Lib.hid (effAt_box wq x xa xm xn)
     have OB := Lib.hid (HO.out.alloc (.cells #[.int .i64 x.pos, .string (bt x.key), .string (bt x.field), .int .i64 x.kind, .string (bt x.elem), .int .i64 x.n, .slice xa xm xn] 64))
     have GB := Lib.hid (HG.out.keep ((Below.refl _ _).alloc (Nat.le_refl _) (.cells #[.int .i64 x.pos, .string (bt x.key), .string (bt x.field), .int .i64 x.kind, .string (bt x.elem), .int .i64 x.n, .slice xa xm xn] 64)) ZB.out)
     have HSD := Lib.hid hsd
     have ZE : Hid (wq.heap.size < (wq.alloc (.cells #[.int .i64 x.pos, .string (bt x.key), .string (bt x.field), .int .i64 x.kind, .string (bt x.elem), .int .i64 x.n, .slice xa xm xn] 64)).heap.size) := Lib.hid (by simp)
     have ZE2 : Hid (w.heap.size ≤ wq.heap.size) := Lib.hid BW.out.size
     have OLT := Lib.hid (fun k hk => (HO.out.lt k hk).2)
     obtain ⟨za, zc, rfl, -, -, -, -⟩ := HO.out.parts
     generalize hzl : (Y5 ++ P j).length = zl at *
     clear hzl
     go_upto_region 11 with fail
     clear e0 e1 e2 e3 e4 e5 e6 t0 t1 t2 t3 hsd
     have YLJ : Hid ((Y5 ++ P j).length ≤ 60000) := Lib.hid (by rw [List.length_append]; have := N5.out; have := LK.out; omega)
     clear HO HG
     generalize hX0 : Y5 ++ P j = X0 at *
     have EX0 := Lib.hid hX0.symm
     clear hX0
     generalize (wq.alloc (.cells #[.int .i64 x.pos, .string (bt x.key), .string (bt x.field), .int .i64 x.kind, .string (bt x.elem), .int .i64 x.n, .slice xa xm xn] 64)) = wd at *
     generalize wq.heap.size = eb at *
     have NE : Hid ((Value.slice za zl zc).ownBlock ≠ some eb) := Lib.hid (fun e => by have := OLT.out _ e; omega)
     have ZWD : Hid (w.heap.size ≤ wd.heap.size) := Lib.hid (by have := ZE.out; have := ZE2.out; omega)
     have KX : Hid (∀ U u, Grow w.heap.size wd (.slice za zl zc) U u → Below w.heap.size wd U ∧ U.cell? ⟨eb, 0, none⟩ = some (.int .i64 x.pos) ∧ U.cell? ⟨eb, 1, none⟩ = some (.string (bt x.key)) ∧ U.cell? ⟨eb, 2, none⟩ = some (.string (bt x.field)) ∧ U.cell? ⟨eb, 3, none⟩ = some (.int .i64 x.kind) ∧ U.cell? ⟨eb, 4, none⟩ = some (.string (bt x.elem)) ∧ U.cell? ⟨eb, 5, none⟩ = some (.int .i64 x.n) ∧ U.cell? ⟨eb, 6, none⟩ = some (.slice xa xm xn)) := Lib.hid (fun U u h => ⟨h.below, (EB.out.same (h.kept eb ZE.out NE.out)).zero⟩)
     have BWD := Lib.hid (HBW.out _ _ GB.out)
     obtain ⟨q1, q2, q3, q4, q5, q6, q7, q8⟩ := QX.out
     have Q1 := Lib.hid q1
     have Q2 := Lib.hid q2
     have Q3 := Lib.hid q3
     have Q4 := Lib.hid q4
     have Q5 := Lib.hid q5
     have Q6 := Lib.hid q6
     have Q8 := Lib.hid q8
     have Q7 : Hid (xm ≤ 64) := Lib.hid (by have := LX.out; omega)
     clear q1 q2 q3 q4 q5 q6 q7 q8
     have GX := Lib.hid (Grow.refl w.heap.size wd (.slice za zl zc))
     have G6 : Hid (Grow w.heap.size wd (.slice za zl zc) wd.drew (.slice za zl zc)) := Lib.hid (GX.out.keep (Below.refl _ _).drew ZWD.out)
     have O6 : Hid (By.Owns w.heap.size wd.drew (.slice za zl zc) X0) := Lib.hid (OB.out.below (Below.refl wd.heap.size wd).drew (Nat.le_refl _))
     have N6 : Hid (X0.length ≤ 60000) := YLJ
     refine wp_region_held_drew (S := fun u' => Below w.heap.size wd u' ∧ u'.cell? ⟨eb, 0, none⟩ = some (.int .i64 x.pos) ∧ u'.cell? ⟨eb, 1, none⟩ = some (.string (bt x.key)) ∧ u'.cell? ⟨eb, 2, none⟩ = some (.string (bt x.field)) ∧ u'.cell? ⟨eb, 3, none⟩ = some (.int .i64 x.kind) ∧ u'.cell? ⟨eb, 4, none⟩ = some (.string (bt x.elem)) ∧ u'.cell? ⟨eb, 5, none⟩ = some (.int .i64 x.n) ∧ u'.cell? ⟨eb, 6, none⟩ = some (.slice xa xm xn)) (by kernel_rfl) ?_ (fun hHeld => ?_)
     ·(exact KX.out _ _ G6.out)
     simp only [List.size_toArray, List.length_cons, List.length_nil, Nat.zero_add, Nat.reduceAdd]
     refine tkA (i := 0) (v := ?_) rfl (by kernel_rfl) (fun _ _ _ h => h) (Or.inl ⟨by rfl, ?_⟩) hHeld ?_
     rotate_left
     ·(intro w' hSw; (try dsimp only at hSw); go_simp; try with_reducible rfl)
     simp only [List.getElem_toArray, List.getElem_cons_zero, Act.put, List.setIfInBounds_toArray, List.set_cons_zero, List.set_cons_succ]
     refine tkA (i := 1) (v := ?_) rfl (by kernel_rfl) (fun _ _ _ h => h) (Or.inl ⟨by rfl, ?_⟩) hHeld ?_
     rotate_left
     ·(intro w' hSw; (try dsimp only at hSw); go_simp; try with_reducible rfl)
     simp only [List.getElem_toArray, List.getElem_cons_zero, List.getElem_cons_succ, Act.put, List.setIfInBounds_toArray, List.set_cons_zero, List.set_cons_succ]
     refine tkA (i := 2) (v := ?_) rfl (by kernel_rfl) (fun _ _ _ h => h) (Or.inl ⟨by rfl, ?_⟩) hHeld ?_
     rotate_left
     ·(intro w' hSw; (try dsimp only at hSw); go_simp; try with_reducible rfl)
     simp only [List.getElem_toArray, List.getElem_cons_zero, List.getElem_cons_succ, Act.put, List.setIfInBounds_toArray, List.set_cons_zero, List.set_cons_succ]
     refine tkA (i := 4) (v := ?_) rfl (by kernel_rfl) (fun _ _ _ h => h) (Or.inl ⟨by rfl, ?_⟩) hHeld ?_
     rotate_left
     ·(intro w' hSw; (try dsimp only at hSw); go_simp; try with_reducible rfl)
     simp only [List.getElem_toArray, List.getElem_cons_zero, List.getElem_cons_succ, Act.put, List.setIfInBounds_toArray, List.set_cons_zero, List.set_cons_succ]
     refine tkA (i := 5) (v := ?_) rfl (by kernel_rfl) (fun _ _ _ h => h) (Or.inl ⟨by rfl, ?_⟩) hHeld ?_
     rotate_left
     ·(intro w' hSw; (try dsimp only at hSw); go_simp; try with_reducible rfl)
     simp only [List.getElem_toArray, List.getElem_cons_zero, List.getElem_cons_succ, Act.put, List.setIfInBounds_toArray, List.set_cons_zero, List.set_cons_succ]
     refine tkA (i := 7) (v := ?_) rfl (by kernel_rfl) (fun _ _ _ h => h) (Or.inl ⟨by rfl, ?_⟩) hHeld ?_
     rotate_left
     ·(intro w' hSw; (try dsimp only at hSw); go_simp; try with_reducible rfl)
     simp only [List.getElem_toArray, List.getElem_cons_zero, List.getElem_cons_succ, Act.put, List.setIfInBounds_toArray, List.set_cons_zero, List.set_cons_succ]
     refine tkA (i := 8) (v := ?_) rfl (by kernel_rfl) (fun _ _ _ h => h) (Or.inl ⟨by rfl, ?_⟩) hHeld ?_
     rotate_left
     ·(intro w' hSw; (try dsimp only at hSw); go_simp; try with_reducible rfl)
     simp only [List.getElem_toArray, List.getElem_cons_zero, List.getElem_cons_succ, Act.put, List.setIfInBounds_toArray, List.set_cons_zero, List.set_cons_succ]
     refine tkA (i := 10) (v := ?_) rfl (by kernel_rfl) (fun _ _ _ h => h) (Or.inl ⟨by rfl, ?_⟩) hHeld ?_
     rotate_left
     ·(intro w' hSw; (try dsimp only at hSw); go_simp; try with_reducible rfl)
     simp only [List.getElem_toArray, List.getElem_cons_zero, List.getElem_cons_succ, Act.put, List.setIfInBounds_toArray, List.set_cons_zero, List.set_cons_succ]
     refine tkA (i := 11) (v := ?_) rfl (by kernel_rfl) (fun _ _ _ h => h) (Or.inl ⟨by rfl, ?_⟩) hHeld ?_
     rotate_left
     ·(intro w' hSw; (try dsimp only at hSw); go_simp; try with_reducible rfl)
     simp only [List.getElem_toArray, List.getElem_cons_zero, List.getElem_cons_succ, Act.put, List.setIfInBounds_toArray, List.set_cons_zero, List.set_cons_succ]
     refine tkA (i := 13) (v := ?_) rfl (by kernel_rfl) (fun _ _ _ h => h) (Or.inl ⟨by rfl, ?_⟩) hHeld ?_
     rotate_left
     ·(intro w' hSw; (try dsimp only at hSw); go_simp; try with_reducible rfl)
     simp only [List.getElem_toArray, List.getElem_cons_zero, List.getElem_cons_succ, Act.put, List.setIfInBounds_toArray, List.set_cons_zero, List.set_cons_succ]
     refine tkA (i := 14) (v := ?_) rfl (by kernel_rfl) (fun _ _ _ h => h) (Or.inl ⟨by rfl, ?_⟩) hHeld ?_
     rotate_left
     ·(intro w' hSw; (try dsimp only at hSw); go_simp; try with_reducible rfl)
     simp only [List.getElem_toArray, List.getElem_cons_zero, List.getElem_cons_succ, Act.put, List.setIfInBounds_toArray, List.set_cons_zero, List.set_cons_succ]
     have KK7 := Lib.hid (rtnum O6.out (by have := G6.out.size; have := ZWD.out; omega) (n := x.pos) (by have := Q1.out; omega) (by have := N6.out; omega))
     refine wpAnyH_ready (rs := [3]) (by kernel_rfl) (by simp) ?_
     refine AllReadyH.cons rfl (fun K hK => ?_) AllReadyH.nil
     go_simp
     refine KK7.out.mono ?_
     rintro e s7 ⟨v', rfl, ho, hg⟩
     have G7 := Lib.hid (G6.out.trans hg)
     obtain ⟨a7, c7, rfl, -, -, -, -⟩ := ho.parts
     have O7 := Lib.hid ho
     have YL : (X0 ++ pnums [x.pos]).length ≤ 60008 := by have h1 := N6.out; rw [List.length_append]; have h2 := pnums_len (ns := [x.pos]) (by intro n hn; simp at hn; subst hn; exact ⟨by have := Q1.out; omega, by have := Q1.out; omega⟩); simp only [List.length_cons, List.length_nil] at h2; omega
     generalize hn : (X0 ++ pnums [x.pos]).length = n7 at *
     generalize hY : X0 ++ pnums [x.pos] = X7 at *
     have F7 := Lib.hid hY.symm
     have N7 : Hid (X7.length ≤ 60008) := Lib.hid (by rw [hn]; exact YL)
     refine hK.out _ _ (KX.out _ _ G7.out) (fun hHeld => ?_)
     clear hK K ho hg hn hY YL KK7
     have KK8 := Lib.hid (rttext O7.out (by have := G7.out.size; have := ZWD.out; omega) (s := x.key) Q2.out (by have := N7.out; omega))
     refine wpAnyH_ready (rs := [6]) (by kernel_rfl) (by simp) ?_
     refine AllReadyH.cons rfl (fun K hK => ?_) AllReadyH.nil
     go_simp
     refine KK8.out.mono ?_
     rintro e s8 ⟨v', rfl, ho, hg⟩
     have G8 := Lib.hid (G7.out.trans hg)
     obtain ⟨a8, c8, rfl, -, -, -, -⟩ := ho.parts
     have O8 := Lib.hid ho
     have YL : (X7 ++ ptexts [x.key]).length ≤ 61016 := by have h1 := N7.out; rw [List.length_append]; have h2 := ptexts_len (ns := [x.key]) (by intro n hn; simp at hn; subst hn; exact Q2.out); simp only [List.length_cons, List.length_nil] at h2; omega
     generalize hn : (X7 ++ ptexts [x.key]).length = n8 at *
     generalize hY : X7 ++ ptexts [x.key] = X8 at *
     have F8 := Lib.hid hY.symm
     have N8 : Hid (X8.length ≤ 61016) := Lib.hid (by rw [hn]; exact YL)
     refine hK.out _ _ (KX.out _ _ G8.out) (fun hHeld => ?_)
     clear hK K ho hg hn hY YL KK8
     have KK9 := Lib.hid (rttext O8.out (by have := G8.out.size; have := ZWD.out; omega) (s := x.field) Q3.out (by have := N8.out; omega))
     refine wpAnyH_ready (rs := [9]) (by kernel_rfl) (by simp) ?_
     refine AllReadyH.cons rfl (fun K hK => ?_) AllReadyH.nil
     go_simp
     refine KK9.out.mono ?_
     rintro e s9 ⟨v', rfl, ho, hg⟩
     have G9 := Lib.hid (G8.out.trans hg)
     obtain ⟨a9, c9, rfl, -, -, -, -⟩ := ho.parts
     have O9 := Lib.hid ho
     have YL : (X8 ++ ptexts [x.field]).length ≤ 62024 := by have h1 := N8.out; rw [List.length_append]; have h2 := ptexts_len (ns := [x.field]) (by intro n hn; simp at hn; subst hn; exact Q3.out); simp only [List.length_cons, List.length_nil] at h2; omega
     generalize hn : (X8 ++ ptexts [x.field]).length = n9 at *
     generalize hY : X8 ++ ptexts [x.field] = X9 at *
     have F9 := Lib.hid hY.symm
     have N9 : Hid (X9.length ≤ 62024) := Lib.hid (by rw [hn]; exact YL)
     refine hK.out _ _ (KX.out _ _ G9.out) (fun hHeld => ?_)
     clear hK K ho hg hn hY YL KK9
     have KK10 := Lib.hid (rtnum O9.out (by have := G9.out.size; have := ZWD.out; omega) (n := x.kind) (by have := Q4.out; omega) (by have := N9.out; omega))
     refine wpAnyH_ready (rs := [12]) (by kernel_rfl) (by simp) ?_
     refine AllReadyH.cons rfl (fun K hK => ?_) AllReadyH.nil
     go_simp
     refine KK10.out.mono ?_
     rintro e s10 ⟨v', rfl, ho, hg⟩
     have G10 := Lib.hid (G9.out.trans hg)
     obtain ⟨a10, c10, rfl, -, -, -, -⟩ := ho.parts
     have O10 := Lib.hid ho
     have YL : (X9 ++ pnums [x.kind]).length ≤ 62032 := by have h1 := N9.out; rw [List.length_append]; have h2 := pnums_len (ns := [x.kind]) (by intro n hn; simp at hn; subst hn; exact ⟨by have := Q4.out; omega, by have := Q4.out; omega⟩); simp only [List.length_cons, List.length_nil] at h2; omega
     generalize hn : (X9 ++ pnums [x.kind]).length = n10 at *
     generalize hY : X9 ++ pnums [x.kind] = X10 at *
     have F10 := Lib.hid hY.symm
     have N10 : Hid (X10.length ≤ 62032) := Lib.hid (by rw [hn]; exact YL)
     refine hK.out _ _ (KX.out _ _ G10.out) (fun hHeld => ?_)
     clear hK K ho hg hn hY YL KK10
     have KK11 := Lib.hid (rttext O10.out (by have := G10.out.size; have := ZWD.out; omega) (s := x.elem) Q5.out (by have := N10.out; omega))
     refine wpAnyH_ready (rs := [15]) (by kernel_rfl) (by simp) ?_
     refine AllReadyH.cons rfl (fun K hK => ?_) AllReadyH.nil
     go_simp
     refine KK11.out.mono ?_
     rintro e s11 ⟨v', rfl, ho, hg⟩
     have G11 := Lib.hid (G10.out.trans hg)
     obtain ⟨a11, c11, rfl, -, -, -, -⟩ := ho.parts
     have O11 := Lib.hid ho
     have YL : (X10 ++ ptexts [x.elem]).length ≤ 63040 := by have h1 := N10.out; rw [List.length_append]; have h2 := ptexts_len (ns := [x.elem]) (by intro n hn; simp at hn; subst hn; exact Q5.out); simp only [List.length_cons, List.length_nil] at h2; omega
     generalize hn : (X10 ++ ptexts [x.elem]).length = n11 at *
     generalize hY : X10 ++ ptexts [x.elem] = X11 at *
     have F11 := Lib.hid hY.symm
     have N11 : Hid (X11.length ≤ 63040) := Lib.hid (by rw [hn]; exact YL)
     refine hK.out _ _ (KX.out _ _ G11.out) (fun hHeld => ?_)
     clear hK K ho hg hn hY YL KK11
     refine tkA (i := 16) (v := ?_) rfl (by kernel_rfl) (fun _ _ _ h => h) (Or.inl ⟨by rfl, ?_⟩) hHeld ?_
     rotate_left
     ·(intro w' hSw; (try dsimp only at hSw); go_simp; try with_reducible rfl)
     simp only [List.getElem_toArray, List.getElem_cons_zero, List.getElem_cons_succ, Act.put, List.setIfInBounds_toArray, List.set_cons_zero, List.set_cons_succ]
     refine wpAnyH_done (by kernel_rfl) ?_ _
     clear hHeld
     go_upto_region 12 with fail
     have KI := Lib.hid (By.refInt_any x.n Q6.out.1 Q6.out.2 s11.drew)
     have O12d : Hid (By.Owns w.heap.size s11.drew (.slice a11 n11 c11) X11) := Lib.hid (O11.out.below (Below.refl s11.heap.size s11).drew (Nat.le_refl _))
     have G12d : Hid (Grow w.heap.size wd (.slice za zl zc) s11.drew (.slice a11 n11 c11)) := Lib.hid (G11.out.keep (Below.refl _ _).drew ZWD.out)
     refine wp_region_held_drew (S := fun u' => Below w.heap.size wd u' ∧ u'.cell? ⟨eb, 0, none⟩ = some (.int .i64 x.pos) ∧ u'.cell? ⟨eb, 1, none⟩ = some (.string (bt x.key)) ∧ u'.cell? ⟨eb, 2, none⟩ = some (.string (bt x.field)) ∧ u'.cell? ⟨eb, 3, none⟩ = some (.int .i64 x.kind) ∧ u'.cell? ⟨eb, 4, none⟩ = some (.string (bt x.elem)) ∧ u'.cell? ⟨eb, 5, none⟩ = some (.int .i64 x.n) ∧ u'.cell? ⟨eb, 6, none⟩ = some (.slice xa xm xn)) (by kernel_rfl) ?_ (fun hHeld => ?_)
     ·(exact KX.out _ _ G12d.out)
     simp only [List.size_toArray, List.length_cons, List.length_nil, Nat.zero_add, Nat.reduceAdd]
     refine tkA (i := 0) (v := ?_) rfl (by kernel_rfl) (fun _ _ _ h => h) (Or.inl ⟨by rfl, ?_⟩) hHeld ?_
     rotate_left
     ·(intro w' hSw; (try dsimp only at hSw); go_simp; try with_reducible rfl)
     simp only [List.getElem_toArray, List.getElem_cons_zero, Act.put, List.setIfInBounds_toArray, List.set_cons_zero, List.set_cons_succ]
     refine tkA (i := 1) (v := ?_) rfl (by kernel_rfl) (fun _ _ _ h => h) (Or.inl ⟨by rfl, ?_⟩) hHeld ?_
     rotate_left
     ·(intro w' hSw; (try dsimp only at hSw); go_simp; try with_reducible rfl)
     simp only [List.getElem_toArray, List.getElem_cons_zero, List.getElem_cons_succ, Act.put, List.setIfInBounds_toArray, List.set_cons_zero, List.set_cons_succ]
     refine tkA (i := 2) (v := ?_) rfl (by kernel_rfl) (fun _ _ _ h => h) (Or.inl ⟨by rfl, ?_⟩) hHeld ?_
     rotate_left
     ·(intro w' hSw; (try dsimp only at hSw); go_simp; try with_reducible rfl)
     simp only [List.getElem_toArray, List.getElem_cons_zero, List.getElem_cons_succ, Act.put, List.setIfInBounds_toArray, List.set_cons_zero, List.set_cons_succ]
     refine tkA (i := 5) (v := ?_) rfl (by kernel_rfl) (fun _ _ _ h => h) (Or.inl ⟨by rfl, ?_⟩) hHeld ?_
     rotate_left
     ·(intro w' hSw; (try dsimp only at hSw); go_simp; try with_reducible rfl)
     simp only [List.getElem_toArray, List.getElem_cons_zero, List.getElem_cons_succ, Act.put, List.setIfInBounds_toArray, List.set_cons_zero, List.set_cons_succ]
     refine tkA (i := 6) (v := ?_) rfl (by kernel_rfl) (fun _ _ _ h => h) (Or.inl ⟨by rfl, ?_⟩) hHeld ?_
     rotate_left
     ·(intro w' hSw; (try dsimp only at hSw); go_simp; try with_reducible rfl)
     simp only [List.getElem_toArray, List.getElem_cons_zero, List.getElem_cons_succ, Act.put, List.setIfInBounds_toArray, List.set_cons_zero, List.set_cons_succ]
     refine tkA (i := 7) (v := ?_) rfl (by kernel_rfl) (fun _ _ _ h => h) (Or.inl ⟨by rfl, ?_⟩) hHeld ?_
     rotate_left
     ·(intro w' hSw; (try dsimp only at hSw); go_simp; try with_reducible rfl)
     simp only [List.getElem_toArray, List.getElem_cons_zero, List.getElem_cons_succ, Act.put, List.setIfInBounds_toArray, List.set_cons_zero, List.set_cons_succ]
     refine wpAnyH_ready (rs := [3]) (by kernel_rfl) (by simp) ?_
     refine AllReadyH.cons rfl (fun K hK => ?_) AllReadyH.nil
     go_simp
     refine KI.out.mono ?_
     rintro e s12 ⟨v2, rfl, ho2, hb2⟩
     have O12 := Lib.hid (O12d.out.below hb2 (Nat.le_refl _))
     have G12 := Lib.hid (G12d.out.keep hb2 ZWD.out)
     have S12 := Lib.hid ho2.seq
     have IL := Lib.hid (iform_len x.n)
     obtain ⟨ai, ci, rfl, -, -, -, -⟩ := ho2.parts
     refine hK.out _ _ (KX.out _ _ G12.out) (fun hHeld => ?_)
     clear hK K ho2 hb2 KI
     generalize hil : (iform x.n).length = il at *
     have ILF := Lib.hid hil
     clear hil
     refine wpAnyH_ready (rs := [4]) (by kernel_rfl) (by simp) ?_
     refine AllReadyH.cons rfl (fun K hK => ?_) AllReadyH.nil
     refine step_append_by (by rfl) (.tmp 65) (.tmp 68) rfl w.heap.size rfl O12.out rfl S12.out (by rw [ILF.out]; have := N11.out; have := IL.out; omega) (by have := G12.out.size; have := ZWD.out; omega) ?_
     intro v' s13 ho hgr hat
     have G13 := Lib.hid (G12.out.app hgr hat (fun k hk => (O12.out.lt k hk).1) ZWD.out)
     obtain ⟨a13, c13, rfl, -, -, -, -⟩ := ho.parts
     have O13 := Lib.hid ho
     have YL : (X11 ++ iform x.n).length ≤ 63048 := by rw [List.length_append, ILF.out]; have := N11.out; have := IL.out; omega
     generalize hn : (X11 ++ iform x.n).length = n13 at *
     generalize hY : X11 ++ iform x.n = X13 at *
     have F13 := Lib.hid hY.symm
     have N13 : Hid (X13.length ≤ 63048) := Lib.hid (by rw [hn]; exact YL)
     refine hK.out _ _ (KX.out _ _ G13.out) (fun hHeld => ?_)
     clear hK K ho hgr hat hn hY YL IL
     have KK14 := Lib.hid (rtnum O13.out (by have := G13.out.size; have := ZWD.out; omega) (n := (xm : Int)) (by have := Q7.out; omega) (by have := N13.out; omega))
     refine wpAnyH_ready (rs := [8]) (by kernel_rfl) (by simp) ?_
     refine AllReadyH.cons rfl (fun K hK => ?_) AllReadyH.nil
     go_simp
     refine KK14.out.mono ?_
     rintro e s14 ⟨v', rfl, ho, hg⟩
     have G14 := Lib.hid (G13.out.trans hg)
     obtain ⟨a14, c14, rfl, -, -, -, -⟩ := ho.parts
     have O14 := Lib.hid ho
     have YL : (X13 ++ pnums [(xm : Int)]).length ≤ 63056 := by have h1 := N13.out; rw [List.length_append]; have h2 := pnums_len (ns := [(xm : Int)]) (by intro n hn; simp at hn; subst hn; exact ⟨by omega, by have := Q7.out; omega⟩); simp only [List.length_cons, List.length_nil] at h2; omega
     generalize hn : (X13 ++ pnums [(xm : Int)]).length = n14 at *
     generalize hY : X13 ++ pnums [(xm : Int)] = X14 at *
     have F14 := Lib.hid hY.symm
     have N14 : Hid (X14.length ≤ 63056) := Lib.hid (by rw [hn]; exact YL)
     refine hK.out _ _ (KX.out _ _ G14.out) (fun hHeld => ?_)
     clear hK K ho hg hn hY YL KK14
     refine tkA (i := 9) (v := ?_) rfl (by kernel_rfl) (fun _ _ _ h => h) (Or.inl ⟨by rfl, ?_⟩) hHeld ?_
     rotate_left
     ·(intro w' hSw; (try dsimp only at hSw); go_simp; try with_reducible rfl)
     simp only [List.getElem_toArray, List.getElem_cons_zero, List.getElem_cons_succ, Act.put, List.setIfInBounds_toArray, List.set_cons_zero, List.set_cons_succ]
     refine wpAnyH_done (by kernel_rfl) ?_ _
     clear hHeld
     have PC0 := Lib.hid (fun k (hk : k < x.drops.length) => flatMap_take (fun d : PDot => pnums [d.node, d.seq, d.pos]) x.drops (k := k) hk)
     obtain ⟨C, hC⟩ : ∃ C : Nat → Bytes, C = fun k => pdrops (x.drops.take k) := ⟨_, rfl⟩
     have CS : Hid (∀ k, k < x.drops.length → C (k + 1) = C k ++ pnums [(x.drops.getD k default).node] ++ pnums [(x.drops.getD k default).seq] ++ pnums [(x.drops.getD k default).pos]) := Lib.hid (fun k hk => by rw [hC]; show pdrops (x.drops.take (k + 1)) = pdrops (x.drops.take k) ++ _ ++ _ ++ _; rw [show pdrops (x.drops.take (k + 1)) = pdrops (x.drops.take k) ++ pnums [(x.drops.getD k default).node, (x.drops.getD k default).seq, (x.drops.getD k default).pos] from PC0.out k hk, pnums_three, ← List.append_assoc, ← List.append_assoc])
     have C0 : Hid (C 0 = []) := Lib.hid (by rw [hC]; rfl)
     have CN : Hid (C x.drops.length = pdrops x.drops) := Lib.hid (by rw [hC]; show pdrops (x.drops.take x.drops.length) = _; rw [List.take_length])
     have CL : Hid (∀ k, (C k).length ≤ 1536) := Lib.hid (fun k => by
      rw [hC]
      have h1 := pdrops_len (ds := x.drops.take k) (fun d hd => Q8.out d (List.mem_of_mem_take hd))
      have h2 : (x.drops.take k).length ≤ 64 := by rw [List.length_take, LX.out]; have := Q7.out; omega
      exact Nat.le_trans h1 (by omega))
     rw [LX.out] at CS CN
     clear hC PC0
     go_wp2_with fail
     go_loopw [3, 7] (fun z i ws => ∃ k : Nat, k ≤ xm ∧ i = .int .i64 k ∧ By.Owns w.heap.size ws z (X14 ++ C k) ∧ Grow w.heap.size wd (.slice za zl zc) ws z) (fun _ i _ => xm - (intOf i).toNat)
     case atStart => exact ⟨0, Nat.zero_le _, rfl, by rw [C0.out, List.append_nil]; exact O14.out, G14.out⟩
     case round =>
      rename World => ws
      obtain ⟨k, hk, rfl, ho, hg⟩ := hrel
      have HO := Lib.hid ho
      have HG := Lib.hid hg
      clear ho hg
      obtain ⟨-, e0, e1, e2, e3, e4, e5, e6⟩ := KX.out _ _ HG.out
      by_cases hkt : k < xm
      ·have CK := Lib.hid (CS.out k hkt)
       have LKC := Lib.hid (CL.out k)
       obtain ⟨b, o, c, hv, hlc, hcap, -, hc⟩ := dots_spot HSD.out (by rw [LX.out]; omega)
       rw [LX.out] at hv hlc
       simp only [Value.slice.injEq] at hv
       obtain ⟨rfl, -, rfl⟩ := hv
       have DX := Lib.hid (hc k (by rw [LX.out]; exact hkt))
       have DR := Q8.out _ (tmem_getD (l := x.drops) (k := k) (by rw [LX.out]; exact hkt))
       clear hc
       generalize x.drops.getD k default = d at *
       unfold dotB at DR
       rw [decide_eq_true_iff] at DR
       have DRH := Lib.hid DR
       clear DR
       obtain ⟨z1, y1, rfl, -, -, -, -⟩ := HO.out.parts
       have KD : Hid (∀ U u, Grow w.heap.size wd (.slice za zl zc) U u → Below w.heap.size wd U ∧ U.cell? ⟨eb, 6, none⟩ = some (.slice (some ⟨b, o, none⟩) xm xn) ∧ U.cell? ⟨b, o + k * 3, none⟩ = some (.int .i64 d.node) ∧ U.cell? ⟨b, o + k * 3 + 1, none⟩ = some (.int .i64 d.seq) ∧ U.cell? ⟨b, o + k * 3 + 2, none⟩ = some (.int .i64 d.pos)) := Lib.hid (fun U u h => ⟨h.below, (KX.out U u h).2.2.2.2.2.2.2, by
        obtain ⟨d0, d1, d2⟩ := DX.out.below (BWD.out.trans h.below) DX.out.lt
        exact ⟨d0, d1, d2⟩⟩)
       have kn : (k : Int) < (xm : Int) := by omega
       have X14L : Hid ((X14 ++ C k).length ≤ 64592) := Lib.hid (by rw [List.length_append]; have := N14.out; have := LKC.out; omega)
       generalize hX : X14 ++ C k = X15 at *
       have F15 := Lib.hid hX.symm
       generalize hnx : X15.length = n15 at *
       have N15 : Hid (X15.length ≤ 64592) := Lib.hid (by rw [hnx]; exact X14L)
       clear hX hnx
       have G15 : Hid (Grow w.heap.size wd (.slice za zl zc) ws.drew (.slice z1 n15 y1)) := Lib.hid (HG.out.keep (Below.refl _ _).drew ZWD.out)
       have O15 : Hid (By.Owns w.heap.size ws.drew (.slice z1 n15 y1) X15) := Lib.hid (HO.out.below (Below.refl ws.heap.size ws).drew (Nat.le_refl _))
       go_upto_region 16 with fail
       refine wp_region_held_drew (S := fun u' => Below w.heap.size wd u' ∧ u'.cell? ⟨eb, 6, none⟩ = some (.slice (some ⟨b, o, none⟩) xm xn) ∧ u'.cell? ⟨b, o + k * 3, none⟩ = some (.int .i64 d.node) ∧ u'.cell? ⟨b, o + k * 3 + 1, none⟩ = some (.int .i64 d.seq) ∧ u'.cell? ⟨b, o + k * 3 + 2, none⟩ = some (.int .i64 d.pos)) (by kernel_rfl) ?_ (fun hHeld => ?_)
       ·(exact KD.out _ _ G15.out)
       simp only [List.size_toArray, List.length_cons, List.length_nil, Nat.zero_add, Nat.reduceAdd]
       refine tkA (i := 0) (v := ?_) rfl (by kernel_rfl) (fun _ _ _ h => h) (Or.inl ⟨by rfl, ?_⟩) hHeld ?_
       rotate_left
       ·(intro w' hSw; (try dsimp only at hSw); go_simp; try with_reducible rfl)
       simp only [List.getElem_toArray, List.getElem_cons_zero, Act.put, List.setIfInBounds_toArray, List.set_cons_zero, List.set_cons_succ]
       refine tkA (i := 1) (v := ?_) rfl (by kernel_rfl) (fun _ _ _ h => h) (Or.inl ⟨by rfl, ?_⟩) hHeld ?_
       rotate_left
       ·(intro w' hSw; (try dsimp only at hSw); go_simp; try with_reducible rfl)
       simp only [List.getElem_toArray, List.getElem_cons_zero, List.getElem_cons_succ, Act.put, List.setIfInBounds_toArray, List.set_cons_zero, List.set_cons_succ]
       refine tkA (i := 2) (v := ?_) rfl (by kernel_rfl) (fun _ _ _ h => h) (Or.inl ⟨by rfl, ?_⟩) hHeld ?_
       rotate_left
       ·(intro w' hSw; (try dsimp only at hSw); go_simp; try with_reducible rfl)
       simp only [List.getElem_toArray, List.getElem_cons_zero, List.getElem_cons_succ, Act.put, List.setIfInBounds_toArray, List.set_cons_zero, List.set_cons_succ]
       refine tkA (i := 3) (v := ?_) rfl (by kernel_rfl) (fun _ _ _ h => h) (Or.inl ⟨by rfl, ?_⟩) hHeld ?_
       rotate_left
       ·(intro w' hSw; (try dsimp only at hSw); go_simp; try with_reducible rfl)
       simp only [List.getElem_toArray, List.getElem_cons_zero, List.getElem_cons_succ, Act.put, List.setIfInBounds_toArray, List.set_cons_zero, List.set_cons_succ]
       refine tkA (i := 4) (v := ?_) rfl (by kernel_rfl) (fun _ _ _ h => h) (Or.inl ⟨by rfl, ?_⟩) hHeld ?_
       rotate_left
       ·(intro w' hSw; (try dsimp only at hSw); go_simp; try with_reducible rfl)
       simp only [List.getElem_toArray, List.getElem_cons_zero, List.getElem_cons_succ, Act.put, List.setIfInBounds_toArray, List.set_cons_zero, List.set_cons_succ]
       refine tkA (i := 5) (v := ?_) rfl (by kernel_rfl) (fun _ _ _ h => h) (Or.inl ⟨by rfl, ?_⟩) hHeld ?_
       rotate_left
       ·(intro w' hSw; (try dsimp only at hSw); go_simp; try with_reducible rfl)
       simp only [List.getElem_toArray, List.getElem_cons_zero, List.getElem_cons_succ, Act.put, List.setIfInBounds_toArray, List.set_cons_zero, List.set_cons_succ]
       refine tkA (i := 6) (v := ?_) rfl (by kernel_rfl) (fun _ _ _ h => h) (Or.inl ⟨by rfl, ?_⟩) hHeld ?_
       rotate_left
       ·(intro w' hSw; (try dsimp only at hSw); go_simp; try with_reducible rfl)
       simp only [List.getElem_toArray, List.getElem_cons_zero, List.getElem_cons_succ, Act.put, List.setIfInBounds_toArray, List.set_cons_zero, List.set_cons_succ]
       refine tkA (i := 8) (v := ?_) rfl (by kernel_rfl) (fun _ _ _ h => h) (Or.inl ⟨by rfl, ?_⟩) hHeld ?_
       rotate_left
       ·(intro w' hSw; (try dsimp only at hSw); go_simp; try with_reducible rfl)
       simp only [List.getElem_toArray, List.getElem_cons_zero, List.getElem_cons_succ, Act.put, List.setIfInBounds_toArray, List.set_cons_zero, List.set_cons_succ]
       refine tkA (i := 9) (v := ?_) rfl (by kernel_rfl) (fun _ _ _ h => h) (Or.inl ⟨by rfl, ?_⟩) hHeld ?_
       rotate_left
       ·(intro w' hSw; (try dsimp only at hSw); go_simp; try with_reducible rfl)
       simp only [List.getElem_toArray, List.getElem_cons_zero, List.getElem_cons_succ, Act.put, List.setIfInBounds_toArray, List.set_cons_zero, List.set_cons_succ]
       refine tkA (i := 10) (v := ?_) rfl (by kernel_rfl) (fun _ _ _ h => h) (Or.inl ⟨by rfl, ?_⟩) hHeld ?_
       rotate_left
       ·(intro w' hSw; (try dsimp only at hSw); go_simp; try with_reducible rfl)
       simp only [List.getElem_toArray, List.getElem_cons_zero, List.getElem_cons_succ, Act.put, List.setIfInBounds_toArray, List.set_cons_zero, List.set_cons_succ]
       refine tkA (i := 11) (v := ?_) rfl (by kernel_rfl) (fun _ _ _ h => h) (Or.inl ⟨by rfl, ?_⟩) hHeld ?_
       rotate_left
       ·(intro w' hSw; (try dsimp only at hSw); go_simp; try with_reducible rfl)
       simp only [List.getElem_toArray, List.getElem_cons_zero, List.getElem_cons_succ, Act.put, List.setIfInBounds_toArray, List.set_cons_zero, List.set_cons_succ]
       refine tkA (i := 12) (v := ?_) rfl (by kernel_rfl) (fun _ _ _ h => h) (Or.inl ⟨by rfl, ?_⟩) hHeld ?_
       rotate_left
       ·(intro w' hSw; (try dsimp only at hSw); go_simp; try with_reducible rfl)
       simp only [List.getElem_toArray, List.getElem_cons_zero, List.getElem_cons_succ, Act.put, List.setIfInBounds_toArray, List.set_cons_zero, List.set_cons_succ]
       refine tkA (i := 13) (v := ?_) rfl (by kernel_rfl) (fun _ _ _ h => h) (Or.inl ⟨by rfl, ?_⟩) hHeld ?_
       rotate_left
       ·(intro w' hSw; (try dsimp only at hSw); go_simp; try with_reducible rfl)
       simp only [List.getElem_toArray, List.getElem_cons_zero, List.getElem_cons_succ, Act.put, List.setIfInBounds_toArray, List.set_cons_zero, List.set_cons_succ]
       refine tkA (i := 15) (v := ?_) rfl (by kernel_rfl) (fun _ _ _ h => h) (Or.inl ⟨by rfl, ?_⟩) hHeld ?_
       rotate_left
       ·(intro w' hSw; (try dsimp only at hSw); go_simp; try with_reducible rfl)
       simp only [List.getElem_toArray, List.getElem_cons_zero, List.getElem_cons_succ, Act.put, List.setIfInBounds_toArray, List.set_cons_zero, List.set_cons_succ]
       refine tkA (i := 16) (v := ?_) rfl (by kernel_rfl) (fun _ _ _ h => h) (Or.inl ⟨by rfl, ?_⟩) hHeld ?_
       rotate_left
       ·(intro w' hSw; (try dsimp only at hSw); go_simp; try with_reducible rfl)
       simp only [List.getElem_toArray, List.getElem_cons_zero, List.getElem_cons_succ, Act.put, List.setIfInBounds_toArray, List.set_cons_zero, List.set_cons_succ]
       refine tkA (i := 17) (v := ?_) rfl (by kernel_rfl) (fun _ _ _ h => h) (Or.inl ⟨by rfl, ?_⟩) hHeld ?_
       rotate_left
       ·(intro w' hSw; (try dsimp only at hSw); go_simp; try with_reducible rfl)
       simp only [List.getElem_toArray, List.getElem_cons_zero, List.getElem_cons_succ, Act.put, List.setIfInBounds_toArray, List.set_cons_zero, List.set_cons_succ]
       refine tkA (i := 18) (v := ?_) rfl (by kernel_rfl) (fun _ _ _ h => h) (Or.inl ⟨by rfl, ?_⟩) hHeld ?_
       rotate_left
       ·(intro w' hSw; (try dsimp only at hSw); go_simp; try with_reducible rfl)
       simp only [List.getElem_toArray, List.getElem_cons_zero, List.getElem_cons_succ, Act.put, List.setIfInBounds_toArray, List.set_cons_zero, List.set_cons_succ]
       refine tkA (i := 19) (v := ?_) rfl (by kernel_rfl) (fun _ _ _ h => h) (Or.inl ⟨by rfl, ?_⟩) hHeld ?_
       rotate_left
       ·(intro w' hSw; (try dsimp only at hSw); go_simp; try with_reducible rfl)
       simp only [List.getElem_toArray, List.getElem_cons_zero, List.getElem_cons_succ, Act.put, List.setIfInBounds_toArray, List.set_cons_zero, List.set_cons_succ]
       refine tkA (i := 20) (v := ?_) rfl (by kernel_rfl) (fun _ _ _ h => h) (Or.inl ⟨by rfl, ?_⟩) hHeld ?_
       rotate_left
       ·(intro w' hSw; (try dsimp only at hSw); go_simp; try with_reducible rfl)
       simp only [List.getElem_toArray, List.getElem_cons_zero, List.getElem_cons_succ, Act.put, List.setIfInBounds_toArray, List.set_cons_zero, List.set_cons_succ]
       have KK16 := Lib.hid (rtnum O15.out (by have := G15.out.size; have := ZWD.out; omega) (n := d.node) (by have := DRH.out; omega) (by have := N15.out; omega))
       refine wpAnyH_ready (rs := [7]) (by kernel_rfl) (by simp) ?_
       refine AllReadyH.cons rfl (fun K hK => ?_) AllReadyH.nil
       go_simp
       refine KK16.out.mono ?_
       rintro e s16 ⟨v', rfl, ho, hg⟩
       have G16 := Lib.hid (G15.out.trans hg)
       obtain ⟨a16, c16, rfl, -, -, -, -⟩ := ho.parts
       have O16 := Lib.hid ho
       have YL : (X15 ++ pnums [d.node]).length ≤ 64600 := by have h1 := N15.out; rw [List.length_append]; have h2 := pnums_len (ns := [d.node]) (by intro n hn; simp at hn; subst hn; have := DRH.out; omega); simp only [List.length_cons, List.length_nil] at h2; omega
       generalize hn : (X15 ++ pnums [d.node]).length = n16 at *
       generalize hY : X15 ++ pnums [d.node] = X16 at *
       have F16 := Lib.hid hY.symm
       have N16 : Hid (X16.length ≤ 64600) := Lib.hid (by rw [hn]; exact YL)
       refine hK.out _ _ (KD.out _ _ G16.out) (fun hHeld => ?_)
       clear hK K ho hg hn hY YL KK16
       have KK17 := Lib.hid (rtnum O16.out (by have := G16.out.size; have := ZWD.out; omega) (n := d.seq) (by have := DRH.out; omega) (by have := N16.out; omega))
       refine wpAnyH_ready (rs := [14]) (by kernel_rfl) (by simp) ?_
       refine AllReadyH.cons rfl (fun K hK => ?_) AllReadyH.nil
       go_simp
       refine KK17.out.mono ?_
       rintro e s17 ⟨v', rfl, ho, hg⟩
       have G17 := Lib.hid (G16.out.trans hg)
       obtain ⟨a17, c17, rfl, -, -, -, -⟩ := ho.parts
       have O17 := Lib.hid ho
       have YL : (X16 ++ pnums [d.seq]).length ≤ 64608 := by have h1 := N16.out; rw [List.length_append]; have h2 := pnums_len (ns := [d.seq]) (by intro n hn; simp at hn; subst hn; have := DRH.out; omega); simp only [List.length_cons, List.length_nil] at h2; omega
       generalize hn : (X16 ++ pnums [d.seq]).length = n17 at *
       generalize hY : X16 ++ pnums [d.seq] = X17 at *
       have F17 := Lib.hid hY.symm
       have N17 : Hid (X17.length ≤ 64608) := Lib.hid (by rw [hn]; exact YL)
       refine hK.out _ _ (KD.out _ _ G17.out) (fun hHeld => ?_)
       clear hK K ho hg hn hY YL KK17
       have KK18 := Lib.hid (rtnum O17.out (by have := G17.out.size; have := ZWD.out; omega) (n := d.pos) (by have := DRH.out; omega) (by have := N17.out; omega))
       refine wpAnyH_ready (rs := [21]) (by kernel_rfl) (by simp) ?_
       refine AllReadyH.cons rfl (fun K hK => ?_) AllReadyH.nil
       go_simp
       refine KK18.out.mono ?_
       rintro e s18 ⟨v', rfl, ho, hg⟩
       have G18 := Lib.hid (G17.out.trans hg)
       obtain ⟨a18, c18, rfl, -, -, -, -⟩ := ho.parts
       have O18 := Lib.hid ho
       have YL : (X17 ++ pnums [d.pos]).length ≤ 64616 := by have h1 := N17.out; rw [List.length_append]; have h2 := pnums_len (ns := [d.pos]) (by intro n hn; simp at hn; subst hn; have := DRH.out; omega); simp only [List.length_cons, List.length_nil] at h2; omega
       generalize hn : (X17 ++ pnums [d.pos]).length = n18 at *
       generalize hY : X17 ++ pnums [d.pos] = X18 at *
       have F18 := Lib.hid hY.symm
       have N18 : Hid (X18.length ≤ 64616) := Lib.hid (by rw [hn]; exact YL)
       refine hK.out _ _ (KD.out _ _ G18.out) (fun hHeld => ?_)
       clear hK K ho hg hn hY YL KK18
       refine tkA (i := 22) (v := ?_) rfl (by kernel_rfl) (fun _ _ _ h => h) (Or.inl ⟨by rfl, ?_⟩) hHeld ?_
       rotate_left
       ·(intro w' hSw; (try dsimp only at hSw); go_simp; try with_reducible rfl)
       simp only [List.getElem_toArray, List.getElem_cons_zero, List.getElem_cons_succ, Act.put, List.setIfInBounds_toArray, List.set_cons_zero, List.set_cons_succ]
       refine wpAnyH_done (by kernel_rfl) ?_ _
       clear hHeld e0 e1 e2 e3 e4 e5 e6
       have OF : Hid (By.Owns w.heap.size s18 _ (X14 ++ C (k + 1))) := Lib.hid (by
        have h := O18.out
        rw [F18.out, F17.out, F16.out, F15.out] at h
        rw [CK.out]
        simpa only [List.append_assoc] using h)
       go_wp2_with fail
       go_roundw
       case rel => exact ⟨k + 1, by omega, by go_num, OF.out, G18.out⟩
       case measure => simp [intOf] <;> omega
      ·obtain rfl : k = xm := by omega
       have OE : Hid (By.Owns w.heap.size ws _ (X0 ++ peff x)) := Lib.hid (by
        have h := HO.out
        rw [F14.out, F13.out, F11.out, F10.out, F9.out, F8.out, F7.out, CN.out] at h
        unfold peff
        rw [LX.out]
        simpa [pnums, ptexts, List.append_assoc] using h)
       have GE : Hid (Grow w.heap.size u0 (.slice none 0 0) ws _) := Lib.hid (GB.out.trans HG.out)
       go_wp2_with fail
       clear e0 e1 e2 e3 e4 e5 e6
       go_roundw
       case rel => exact ⟨j + 1, by omega, by go_num, by rw [PK.out, ← List.append_assoc, ← EX0.out]; exact OE.out, GE.out⟩
       case measure => simp [intOf] <;> omega
    ·obtain rfl : j = en := by omega
     have OE : Hid (By.Owns w.heap.size wq _ (ptxn t)) := Lib.hid (by
      have h := HO.out
      rw [E5.out, E4.out, E3.out, E2.out, E1.out, PN.out] at h
      rw [HPE.out]
      simpa [pnums, List.append_assoc] using h)
     go_wp2_with fail
     go_ret
     exact ⟨_, rfl, OE.out, GW.out.trans HG.out⟩
end Go.Proofs.YtkanklppgioacaaGreat
