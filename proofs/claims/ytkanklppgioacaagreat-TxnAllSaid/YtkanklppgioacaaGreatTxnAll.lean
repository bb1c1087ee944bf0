/-
  For any transaction, any list of texts and any bytes the law TxnAll answers true: any transaction is formed, filtered and written as the document says; it stays as it is. No condition.
  (The frame was written by the guide's proof-skeleton.mjs, turned for slices of items and for fields; the walk is ours.)
-/
import Derived.Test.YtkanklppgioacaaGreatRows
import Derived.WalkKit
import Derived.ProofKit
import Derived.OpenShut
import Derived.ShutString
import Derived.ChangeOld
import Derived.Below
import Derived.Test.YtkanklppgioacaaGreatTxUses
import Derived.Test.YtkanklppgioacaaGreatRefTxOC
import Derived.Test.YtkanklppgioacaaGreatRefTxB
import Derived.Test.YtkanklppgioacaaGreatRefTxF2
import Derived.Deep.DeepCutAuto
import Derived.Test.YtkanklppgioacaaGreatOpenZ
import Derived.Test.YtkanklppgioacaaGreatRefSs
namespace Go.Proofs.YtkanklppgioacaaGreat.txnAll
open Go.ChangeShapes Go.WideShapes Go.ChangeAt Go.RowKit
open Go.ChangeMaps (open_string shut_string)
set_option linter.unusedVariables false

theorem own : ownKnob Tryz.prog.godebug = none := by kernel_rfl
theorem laidOut : laidOutB Tryz.prog = true := by kernel_rfl

open Plain

set_option maxRecDepth 100000 in
theorem open0 {H : Type} {enc : TypeId × Value → H} {W : World} {r : Reach} {b : Nat} {v : Value} {d : DataW H} {p : List MemPlace} (hv : Value.okWide Tryz.prog W r b 26 v) (h : DataW.Trod enc Tryz.prog W 0 (fun _ => true) true 26 v d p) : IsTxnA W v := txn_of_trod hv h
set_option maxRecDepth 100000 in
theorem open1 {H : Type} {enc : TypeId × Value → H} {W : World} {r : Reach} {b : Nat} {v : Value} {d : DataW H} {p : List MemPlace} (hv : Value.okWide Tryz.prog W r b 27 v) (h : DataW.Trod enc Tryz.prog W 0 (fun _ => true) true 27 v d p) : IsTexts W v := texts_of_trod hv h
set_option maxRecDepth 100000 in
theorem open2 {H : Type} {enc : TypeId × Value → H} {W : World} {r : Reach} {b : Nat} {v : Value} {d : DataW H} {p : List MemPlace} (hv : Value.okWide Tryz.prog W r b 28 v) (h : DataW.Trod enc Tryz.prog W 0 (fun _ => true) true 28 v d p) : IsBytesA W v := bytes_of_trod hv h
theorem holdTA {w u : World} {R : Prop} (h : Below w.heap.size w u ∧ R) (o : Obj) : Below w.heap.size w (u.alloc o) := h.1.alloc h.1.size o
theorem tonly_is {v z : Value} {t : PTxn} {zs : List Txt} {w : World} (h : IsTxn w v t) (hz : SeqT w z zs) (hzl : zs.length ≤ 1000) (hzs : ∀ s ∈ zs, s.length ≤ 1000) (ht : FitTx t) :
  Calls Tryz.prog 13 #[v, z] w fun e w' => ∃ u, e = .returned u ∧ IsTxn w' u (tonly t zs) ∧ Below w.heap.size w w' :=
 (txonlyP h.all (fun _ k => k) hz hzl hzs ht).mono fun _ _ ⟨u, he, hu, hb⟩ => ⟨u, he, hu.is (only_new (fun _ k => k) hb.size), hb⟩
theorem key_short {t : PTxn} (h : shortTx [t] = true) : ∀ e ∈ t.effs, e.key.length ≤ 300 ∧ e.field.length ≤ 300 := by
 unfold shortTx shortTx1 at h
 simp only [List.all_cons, List.all_nil, Bool.and_true, Bool.and_eq_true, decide_eq_true_iff] at h
 obtain ⟨-, h1, h2⟩ := h
 obtain ⟨g1, g2⟩ := shortE_iff.1 h2
 exact fun e he => ⟨(shortE1_iff.1 (g2 e he)).1, (shortE1_iff.1 (g2 e he)).2.1⟩

set_option maxRecDepth 100000 in
set_option maxHeartbeats 32000000 in
theorem walk (v0 : Value) (v1 : Value) (v2 : Value) (w : World) (w0 : IsTxnA w v0) (w1 : IsTexts w v1) (w2 : IsBytesA w v2) :
  Calls Tryz.prog 3 #[v0, v1, v2] w fun e w' => e = .returned (.bool true) ∧ Below w.heap.size w w' := by
 obtain ⟨zs, s1⟩ := w1
 obtain ⟨a1, c1, hv1, -, -, -, k1⟩ := s1.parts
 subst hv1
 have Szs := Lib.hid k1
 clear s1 k1
 obtain ⟨bs, h2⟩ := w2
 obtain ⟨a2, n2, c2, hv2, e2, g21, g22, k2⟩ := byParts h2
 subst hv2
 have Sbs := Lib.hid k2
 have Nbs := Lib.hid e2
 clear h2 k2 e2
 obtain ⟨t, ht, hok⟩ := w0
 have OK := Lib.hid hok
 obtain ⟨da, dn, dc, ea, en, ec, hvt, hd, he⟩ := ht.parts
 subst hvt
 have hb := (Below.refl w.heap.size w).alloc (Nat.le_refl _) (.cells #[.int .i64 t.node, .int .i64 t.seq, .slice da dn dc, .slice ea en ec] 26)
 have TB := Lib.hid (txbox_new hd he)
 have G0 := Lib.hid hb
 replace Szs := Lib.hid (Szs.out.below hb)
 replace Sbs := Lib.hid (Sbs.out.below hb)
 clear ht hok hd he hb
 show Calls Tryz.prog 3 #[.agg #[.int .i64 t.node, .int .i64 t.seq, .slice da dn dc, .slice ea en ec], _, _] w _
 generalize zs.length = zn at *
 go_enter Tryz.func3, Tryz.ntmps3
 go_upto_region 1 with fail
 generalize (w.alloc (.cells #[.int .i64 t.node, .int .i64 t.seq, .slice da dn dc, .slice ea en ec] 26)) = wB at *
 have G : Hid (Below wB.heap.size wB wB) := Lib.hid (Below.refl wB.heap.size wB)
 go_wp2_with fail
 refine (tawake_any _).mono ?_
 rintro e u2 ⟨rfl, hb⟩
 replace G := Lib.hid (G.out.trans (hb.mono G.out.size))
 clear hb
 have TBc := TB.out.below G.out
 obtain ⟨y0, y1, y2, y3⟩ := TBc.c
 have hb := (Below.refl u2.heap.size u2).alloc (Nat.le_refl _) (.cells #[.int .i64 t.node, .int .i64 t.seq, .slice da dn dc, .slice ea en ec] 26)
 have KS := Lib.hid (fun r hr => rshortTx_any (one_txn TBc.d TBc.e) r hr)
 replace G := Lib.hid (G.out.trans (hb.mono G.out.size))
 clear hb
 cases hA : shortTx [t] with
 | false =>
  go_wp2_with fail
  refine (KS.out _ hA).mono ?_
  rintro e u3 ⟨rfl, hb⟩
  replace G := Lib.hid (G.out.trans (hb.mono G.out.size))
  clear hb KS TBc
  clear y0 y1 y2 y3
  go_wp2_with fail
  go_ret
  exact ⟨rfl, G0.out.trans (G.out.mono G0.out.size)⟩
 | true =>
  go_wp2_with fail
  refine (KS.out _ hA).mono ?_
  rintro e u3 ⟨rfl, hb⟩
  replace G := Lib.hid (G.out.trans (hb.mono G.out.size))
  clear hb KS TBc
  clear y0 y1 y2 y3
  have FX := Lib.hid (fitTx_of hA OK.out)
  have KX := Lib.hid (key_short hA)
  clear hA
  cases hA : shortB zs with
  | false =>
   go_wp2_with fail
   refine (rshortTR (Szs.out.below G.out) hA).mono ?_
   rintro e u4 ⟨rfl, hb⟩
   replace G := Lib.hid (G.out.trans (hb.mono G.out.size))
   clear hb
   go_wp2_with fail
   go_ret
   exact ⟨rfl, G0.out.trans (G.out.mono G0.out.size)⟩
  | true =>
   have Mzs : Hid (zs.length ≤ 1000 ∧ ∀ s ∈ zs, s.length ≤ 1000) := Lib.hid ⟨by have := (short_iff.1 hA).1; omega, fun s hs => by have := (short_iff.1 hA).2 s hs; omega⟩
   by_cases hbl : (1000 : Int) < (n2 : Int)
   ·go_wp2_with fail
    refine (rshortTR (Szs.out.below G.out) hA).mono ?_
    rintro e u4 ⟨rfl, hb⟩
    replace G := Lib.hid (G.out.trans (hb.mono G.out.size))
    clear hb
    go_wp2_with fail
    go_ret
    exact ⟨rfl, G0.out.trans (G.out.mono G0.out.size)⟩
   go_wp2_with fail
   refine (rshortTR (Szs.out.below G.out) hA).mono ?_
   rintro e u4 ⟨rfl, hb⟩
   replace G := Lib.hid (G.out.trans (hb.mono G.out.size))
   clear hb hA
   have LB : Hid (bs.length ≤ 1000) := Lib.hid (by have := Nbs.out; omega)
   have TBc := TB.out.below G.out
   obtain ⟨y0, y1, y2, y3⟩ := TBc.c
   have hb := (Below.refl u4.heap.size u4).alloc (Nat.le_refl _) (.cells #[.int .i64 t.node, .int .i64 t.seq, .slice da dn dc, .slice ea en ec] 26)
   have KC := Lib.hid (rcopyTx_any (one_txn TBc.d TBc.e) (by simp) (fun x hx => by rw [List.mem_singleton.1 hx]; exact ⟨by have := FX.out.deps; omega, by have := FX.out.effs; omega, fun e he => by have := FX.out.drops e he; omega⟩))
   replace G := Lib.hid (G.out.trans (hb.mono G.out.size))
   clear hb
   go_wp2_with fail
   refine KC.out.mono ?_
   rintro e u5 ⟨vc, rfl, hoc, hb⟩
   replace G := Lib.hid (G.out.trans (hb.mono G.out.size))
   clear hb KC TBc y0 y1 y2 y3 hbl
   obtain ⟨cb, co, cc, hvc, gc1, gc2, -, hcc⟩ := txns_spot hoc.own.seq (by simp)
   have hvc2 : vc = .slice (some ⟨cb, co, none⟩) 1 cc := hvc
   subst hvc2
   obtain ⟨mdv, mev, MX, hmd, hme⟩ := hcc 0 (by simp)
   change TxnAt u5 cb (co + 0 * 4) t mdv mev at MX
   change SeqE LInt u5 mdv t.deps at hmd
   change SeqE LEff u5 mev t.effs at hme
   obtain ⟨ma, mc, rfl, -, -, -, hmd⟩ := hmd.parts
   obtain ⟨na, nc, rfl, -, -, -, hme⟩ := hme.parts
   generalize hmn : t.deps.length = mn at *
   generalize hnn : t.effs.length = nn at *
   obtain ⟨m0, m1, m2, m3⟩ := MX
   simp only [Nat.zero_mul, Nat.add_zero] at m0 m1 m2 m3
   clear hoc hvc hcc
   have gcc : (1 : Int) ≤ (cc : Int) := by simp at gc1; omega
   clear gc1
   have hb := (Below.refl u5.heap.size u5).alloc (Nat.le_refl _) (.cells #[.int .i64 t.node, .int .i64 t.seq, .slice ma mn mc, .slice na nn nc] 26)
   have MB := Lib.hid (txbox_new hmd hme)
   replace G := Lib.hid (G.out.trans (hb.mono G.out.size))
   clear hb hmd hme
   have HMN := Lib.hid hmn
   have HNN := Lib.hid hnn
   clear hmn hnn
   go_upto_region 6 with fail
   clear m0 m1 m2 m3
   generalize (u5.alloc (.cells #[.int .i64 t.node, .int .i64 t.seq, .slice ma mn mc, .slice na nn nc] 26)) = wM at *
   generalize u5.heap.size = mb at *
   have TM := Lib.hid (TB.out.below G.out)
   have SM := Lib.hid (Sbs.out.below G.out)
   have ZM := Lib.hid (Szs.out.below G.out)
   have GM : Hid (Below w.heap.size w wM) := Lib.hid (G0.out.trans (G.out.mono G0.out.size))
   clear G G0 TB Szs Sbs
   obtain ⟨y0, y1, y2, y3⟩ := MB.out.c
   have K := txputP SM.out (by have := LB.out; omega) MB.out.is FX.out
   go_wp2_with fail
   refine K.mono ?_
   intro e u6 hg
   have B6 := Lib.hid hg.2.2
   clear K y0 y1 y2 y3
   have TE := Lib.hid (TM.out.below B6.out)
   have ME := Lib.hid (MB.out.below B6.out)
   have ZE := Lib.hid (ZM.out.below B6.out)
   have SE := Lib.hid (SM.out.below B6.out)
   have GE : Hid (Below w.heap.size w u6) := Lib.hid (GM.out.trans (B6.out.mono GM.out.size))
   clear TM MB ZM SM GM
   have KF : Hid (∀ U, Below u6.heap.size u6 U → Calls Tryz.prog 10 #[.agg #[.int .i64 t.node, .int .i64 t.seq, .slice ma mn mc, .slice na nn nc]] U (GivesB U (tformedB t))) := Lib.hid (fun U hU => txformedP (ME.out.is.below hU) FX.out _ rfl)
   have KR : Hid (∀ U, Below u6.heap.size u6 U → Calls Tryz.prog 11 #[.agg #[.int .i64 t.node, .int .i64 t.seq, .slice da dn dc, .slice ea en ec]] U (GivesB U (tformedB t))) := Lib.hid (fun U hU => rtformedP (TE.out.is.below hU) (fun e he => by have := FX.out.drops e he; omega) (fun e he => by have := KX.out e he; omega) (by have := FX.out.deps; omega) _ rfl)
   have KO := Lib.hid (fun U (hU : Below u6.heap.size u6 U) => tonly_is (ME.out.is.below hU) (ZE.out.below hU) Mzs.out.1 Mzs.out.2 FX.out)
   have KP := Lib.hid (fun U (hU : Below u6.heap.size u6 U) => rtxonlyP (TE.out.is.below hU) (ZE.out.below hU) (fun s hs => by have := Mzs.out.2 s hs; omega) (by have := Mzs.out.1; omega) (fun e he => by have := KX.out e he; omega) (by have := FX.out.effs; omega))
   have KD := Lib.hid (fun (U : World) => txdotP (a := t.node) (b := t.seq) (da := ma) (ea := na) (dn := mn) (dc := mc) (en := nn) (ec := nc) (w := U))
   have KS := Lib.hid (fun U (hU : Below u6.heap.size u6 U) => rsameTx (ME.out.is.below hU) (TE.out.is.below hU) true (decide_eq_true rfl))
   have hq : ∀ U, (binOp .neq 41 (.agg #[.int .i64 t.node, .int .i64 t.seq, .int .i64 0]) (.agg #[.int .i64 t.node, .int .i64 t.seq, .int .i64 0])).run Tryz.prog U = .ok (.bool false) U := fun U => (neq_dot ⟨t.node, t.seq, 0⟩ ⟨t.node, t.seq, 0⟩ U).trans (by simp)
   have KE : Hid (∀ U, Below u6.heap.size u6 U → Below u6.heap.size u6 U ∧ (U.cell? ⟨w.heap.size, 0, none⟩ = some (.int .i64 t.node) ∧ U.cell? ⟨w.heap.size, 1, none⟩ = some (.int .i64 t.seq) ∧ U.cell? ⟨w.heap.size, 2, none⟩ = some (.slice da dn dc) ∧ U.cell? ⟨w.heap.size, 3, none⟩ = some (.slice ea en ec)) ∧ U.cell? ⟨mb, 0, none⟩ = some (.int .i64 t.node) ∧ U.cell? ⟨mb, 1, none⟩ = some (.int .i64 t.seq) ∧ U.cell? ⟨mb, 2, none⟩ = some (.slice ma mn mc) ∧ U.cell? ⟨mb, 3, none⟩ = some (.slice na nn nc)) := Lib.hid (fun U hU => ⟨hU, (TE.out.below hU).c, (ME.out.below hU).c⟩)
   have KB : Hid (tformedB t = true → ∀ U, Below u6.heap.size u6 U → Calls Tryz.prog 18 #[.agg #[.int .i64 t.node, .int .i64 t.seq, .slice da dn dc, .slice ea en ec]] U (GivesO U.heap.size U (.slice none 0 0) (ptxn t))) := Lib.hid (fun hf U hU => rtbytes (TE.out.d.below hU) (TE.out.e.below hU) hf (fits_effs OK.out))
   have KCP := Lib.hid (fun U (hU : Below u6.heap.size u6 U) => By.copy_any (SE.out.below hU) (by have := LB.out; omega))
   cases hT : tformedB t with
   | false =>
    rw [hT] at KF KR
    obtain ⟨pa, pc, rfl⟩ := hg.2.1 hT
    clear hg hT KB KCP KS
    go_upto_region 7 with fail
    refine wp_region_held_drew (S := fun u' => Below u6.heap.size u6 u' ∧ (u'.cell? ⟨w.heap.size, 0, none⟩ = some (.int .i64 t.node) ∧ u'.cell? ⟨w.heap.size, 1, none⟩ = some (.int .i64 t.seq) ∧ u'.cell? ⟨w.heap.size, 2, none⟩ = some (.slice da dn dc) ∧ u'.cell? ⟨w.heap.size, 3, none⟩ = some (.slice ea en ec)) ∧ u'.cell? ⟨mb, 0, none⟩ = some (.int .i64 t.node) ∧ u'.cell? ⟨mb, 1, none⟩ = some (.int .i64 t.seq) ∧ u'.cell? ⟨mb, 2, none⟩ = some (.slice ma mn mc) ∧ u'.cell? ⟨mb, 3, none⟩ = some (.slice na nn nc)) (by kernel_rfl) ?_ (fun hHeld => ?_)
    ·(exact KE.out _ (Below.refl _ _).drew)
    simp only [List.size_toArray, List.length_cons, List.length_nil, Nat.zero_add, Nat.reduceAdd]
    refine tkA (i := 0) (v := ?_) rfl (by kernel_rfl) (fun _ _ _ h => h) (Or.inl ⟨by rfl, ?_⟩) hHeld ?_
    rotate_left
    ·(intro w' hSw; (try dsimp only at hSw); go_simp; try with_reducible rfl)
    simp only [List.getElem_toArray, List.getElem_cons_zero, Act.put, List.setIfInBounds_toArray, List.set_cons_zero, List.set_cons_succ]
    refine tkA (i := 2) (v := ?_) rfl (by kernel_rfl) (fun _ _ _ h => h) (Or.inl ⟨by rfl, ?_⟩) hHeld ?_
    rotate_left
    ·(intro w' hSw; (try dsimp only at hSw); go_simp; try with_reducible rfl)
    simp only [List.getElem_toArray, List.getElem_cons_zero, List.getElem_cons_succ, Act.put, List.setIfInBounds_toArray, List.set_cons_zero, List.set_cons_succ]
    have KK := Lib.hid (KF.out _ hHeld.1)
    refine wpAnyH_ready (rs := [1]) (by kernel_rfl) (by simp) ?_
    refine AllReadyH.cons rfl (fun K hK => ?_) AllReadyH.nil
    go_simp
    refine KK.out.mono ?_
    rintro e s1 ⟨rfl, hb⟩
    refine hK.out _ _ (KE.out _ (holdC hHeld hb)) (fun hHeld => ?_)
    clear hK K hb KK
    have KK := Lib.hid (KR.out _ hHeld.1)
    refine wpAnyH_ready (rs := [3]) (by kernel_rfl) (by simp) ?_
    refine AllReadyH.cons rfl (fun K hK => ?_) AllReadyH.nil
    go_simp
    refine KK.out.mono ?_
    rintro e s2 ⟨rfl, hb⟩
    refine hK.out _ _ (KE.out _ (holdC hHeld hb)) (fun hHeld => ?_)
    clear hK K hb KK
    refine tkA (i := 4) (v := ?_) rfl (by kernel_rfl) (fun _ _ _ h => h) (Or.inl ⟨by rfl, ?_⟩) hHeld ?_
    rotate_left
    ·(intro w' hSw; (try dsimp only at hSw); go_simp; try with_reducible rfl)
    simp only [List.getElem_toArray, List.getElem_cons_zero, List.getElem_cons_succ, Act.put, List.setIfInBounds_toArray, List.set_cons_zero, List.set_cons_succ]
    refine tkA (i := 5) (v := ?_) rfl (by kernel_rfl) (fun _ _ _ h => h) (Or.inl ⟨by rfl, ?_⟩) hHeld ?_
    rotate_left
    ·(intro w' hSw; (try dsimp only at hSw); go_simp; try with_reducible rfl)
    simp only [List.getElem_toArray, List.getElem_cons_zero, List.getElem_cons_succ, Act.put, List.setIfInBounds_toArray, List.set_cons_zero, List.set_cons_succ]
    refine tkA (i := 6) (v := ?_) rfl (by kernel_rfl) (fun _ _ _ h => h) (Or.inl ⟨by rfl, ?_⟩) hHeld ?_
    rotate_left
    ·(intro w' hSw; (try dsimp only at hSw); go_simp; try with_reducible rfl)
    simp only [List.getElem_toArray, List.getElem_cons_zero, List.getElem_cons_succ, Act.put, List.setIfInBounds_toArray, List.set_cons_zero, List.set_cons_succ]
    refine tkA (i := 7) (v := ?_) rfl (by kernel_rfl) (fun _ _ _ h => h) (Or.inl ⟨by rfl, ?_⟩) hHeld ?_
    rotate_left
    ·(intro w' hSw; (try dsimp only at hSw); go_simp; try with_reducible rfl)
    simp only [List.getElem_toArray, List.getElem_cons_zero, List.getElem_cons_succ, Act.put, List.setIfInBounds_toArray, List.set_cons_zero, List.set_cons_succ]
    refine tkA (i := 9) (v := ?_) rfl (by kernel_rfl) (fun _ _ _ h => h) (Or.inl ⟨by rfl, ?_⟩) hHeld ?_
    rotate_left
    ·(intro w' hSw; (try dsimp only at hSw); go_simp; try with_reducible rfl)
    simp only [List.getElem_toArray, List.getElem_cons_zero, List.getElem_cons_succ, Act.put, List.setIfInBounds_toArray, List.set_cons_zero, List.set_cons_succ]
    refine tkA (i := 10) (v := ?_) rfl (by kernel_rfl) (fun _ _ _ h => h) (Or.inl ⟨by rfl, ?_⟩) hHeld ?_
    rotate_left
    ·(intro w' hSw; (try dsimp only at hSw); go_simp; try with_reducible rfl)
    simp only [List.getElem_toArray, List.getElem_cons_zero, List.getElem_cons_succ, Act.put, List.setIfInBounds_toArray, List.set_cons_zero, List.set_cons_succ]
    have KK := Lib.hid (KO.out _ hHeld.1)
    refine wpAnyH_ready (rs := [8]) (by kernel_rfl) (by simp) ?_
    refine AllReadyH.cons rfl (fun K hK => ?_) AllReadyH.nil
    go_simp
    refine KK.out.mono ?_
    rintro e s3 ⟨uo, rfl, ho, hb⟩
    obtain ⟨oa, on, oc, pa2, pn2, pc2, hvo, k1, k2⟩ := ho.parts
    subst hvo
    have OO : Hid (IsTxn s3 (.agg #[.int .i64 (tonly t zs).node, .int .i64 (tonly t zs).seq, .slice oa on oc, .slice pa2 pn2 pc2]) (tonly t zs)) := Lib.hid ⟨_, _, rfl, k1, k2⟩
    clear ho k1 k2
    refine hK.out _ _ (KE.out _ (holdC hHeld hb)) (fun hHeld => ?_)
    clear hK K hb KK
    have KK := Lib.hid (KP.out _ hHeld.1)
    refine wpAnyH_ready (rs := [11]) (by kernel_rfl) (by simp) ?_
    refine AllReadyH.cons rfl (fun K hK => ?_) AllReadyH.nil
    go_simp
    refine KK.out.mono ?_
    rintro e s4 ⟨up, rfl, ho, hb⟩
    obtain ⟨oa3, on3, oc3, pa3, pn3, pc3, hvo, k1, k2⟩ := ho.parts
    subst hvo
    have OP : Hid (IsTxn s4 (.agg #[.int .i64 (tonly t zs).node, .int .i64 (tonly t zs).seq, .slice oa3 on3 oc3, .slice pa3 pn3 pc3]) (tonly t zs)) := Lib.hid ⟨_, _, rfl, k1, k2⟩
    replace OO := Lib.hid (IsTxn.below OO.out hb)
    clear ho k1 k2
    refine hK.out _ _ (KE.out _ (holdC hHeld hb)) (fun hHeld => ?_)
    clear hK K hb KK
    have KK := Lib.hid (rsameTx OO.out OP.out true (decide_eq_true rfl))
    refine wpAnyH_ready (rs := [12]) (by kernel_rfl) (by simp) ?_
    refine AllReadyH.cons rfl (fun K hK => ?_) AllReadyH.nil
    go_simp
    refine KK.out.mono ?_
    rintro e s5 ⟨rfl, hb⟩
    refine hK.out _ _ (KE.out _ (holdC hHeld hb)) (fun hHeld => ?_)
    clear hK K hb KK OO OP
    refine tkA (i := 13) (v := ?_) rfl (by kernel_rfl) (fun _ _ _ h => h) (Or.inl ⟨by rfl, ?_⟩) hHeld ?_
    rotate_left
    ·(intro w' hSw; (try dsimp only at hSw); go_simp; try with_reducible rfl)
    simp only [List.getElem_toArray, List.getElem_cons_zero, List.getElem_cons_succ, Act.put, List.setIfInBounds_toArray, List.set_cons_zero, List.set_cons_succ]
    refine tkA (i := 14) (v := ?_) rfl (by kernel_rfl) (fun _ _ _ h => h) (Or.inl ⟨by rfl, ?_⟩) hHeld ?_
    rotate_left
    ·(intro w' hSw; (try dsimp only at hSw); go_simp; try with_reducible rfl)
    simp only [List.getElem_toArray, List.getElem_cons_zero, List.getElem_cons_succ, Act.put, List.setIfInBounds_toArray, List.set_cons_zero, List.set_cons_succ]
    refine tkA (i := 15) (v := ?_) rfl (by kernel_rfl) (fun _ _ _ h => h) (Or.inl ⟨by rfl, ?_⟩) hHeld ?_
    rotate_left
    ·(intro w' hSw; (try dsimp only at hSw); go_simp; try with_reducible rfl)
    simp only [List.getElem_toArray, List.getElem_cons_zero, List.getElem_cons_succ, Act.put, List.setIfInBounds_toArray, List.set_cons_zero, List.set_cons_succ]
    refine tkA (i := 16) (v := ?_) rfl (by kernel_rfl) (fun _ _ _ h => h) (Or.inl ⟨by rfl, ?_⟩) hHeld ?_
    rotate_left
    ·(intro w' hSw; (try dsimp only at hSw); go_simp; try with_reducible rfl)
    simp only [List.getElem_toArray, List.getElem_cons_zero, List.getElem_cons_succ, Act.put, List.setIfInBounds_toArray, List.set_cons_zero, List.set_cons_succ]
    refine tkA (i := 18) (v := ?_) rfl (by kernel_rfl) (fun _ _ _ h => h) (Or.inl ⟨by rfl, ?_⟩) hHeld ?_
    rotate_left
    ·(intro w' hSw; (try dsimp only at hSw); go_simp; try with_reducible rfl)
    simp only [List.getElem_toArray, List.getElem_cons_zero, List.getElem_cons_succ, Act.put, List.setIfInBounds_toArray, List.set_cons_zero, List.set_cons_succ]
    refine tkA (i := 19) (v := ?_) rfl (by kernel_rfl) (fun _ _ _ h => h) (Or.inl ⟨by rfl, ?_⟩) hHeld ?_
    rotate_left
    ·(intro w' hSw; (try dsimp only at hSw); go_simp; try with_reducible rfl)
    simp only [List.getElem_toArray, List.getElem_cons_zero, List.getElem_cons_succ, Act.put, List.setIfInBounds_toArray, List.set_cons_zero, List.set_cons_succ]
    refine tkA (i := 20) (v := ?_) rfl (by kernel_rfl) (fun _ _ _ h => h) (Or.inl ⟨by rfl, ?_⟩) hHeld ?_
    rotate_left
    ·(intro w' hSw; (try dsimp only at hSw); go_simp; try with_reducible rfl)
    simp only [List.getElem_toArray, List.getElem_cons_zero, List.getElem_cons_succ, Act.put, List.setIfInBounds_toArray, List.set_cons_zero, List.set_cons_succ]
    refine tkA (i := 21) (v := ?_) rfl (by kernel_rfl) (fun _ _ _ h => h) (Or.inl ⟨by rfl, ?_⟩) hHeld ?_
    rotate_left
    ·(intro w' hSw; (try dsimp only at hSw); go_simp; try with_reducible rfl)
    simp only [List.getElem_toArray, List.getElem_cons_zero, List.getElem_cons_succ, Act.put, List.setIfInBounds_toArray, List.set_cons_zero, List.set_cons_succ]
    refine tkA (i := 22) (v := ?_) rfl (by kernel_rfl) (fun _ _ _ h => h) (Or.inl ⟨by rfl, ?_⟩) hHeld ?_
    rotate_left
    ·(intro w' hSw; (try dsimp only at hSw); go_simp; try with_reducible rfl)
    simp only [List.getElem_toArray, List.getElem_cons_zero, List.getElem_cons_succ, Act.put, List.setIfInBounds_toArray, List.set_cons_zero, List.set_cons_succ]
    have KK := Lib.hid (KD.out s5)
    refine wpAnyH_ready (rs := [17]) (by kernel_rfl) (by simp) ?_
    refine AllReadyH.cons rfl (fun K hK => ?_) AllReadyH.nil
    go_simp
    refine KK.out.mono ?_
    rintro e s6 ⟨rfl, hb⟩
    refine hK.out _ _ (KE.out _ (holdC hHeld hb)) (fun hHeld => ?_)
    clear hK K hb KK
    refine tkA (i := 23) (v := ?_) rfl (by kernel_rfl) (fun _ _ _ h => h) (Or.inl ⟨by rfl, ?_⟩) hHeld ?_
    rotate_left
    ·(intro w' hSw; (try dsimp only at hSw); go_simp; try with_reducible rfl)
    simp only [List.getElem_toArray, List.getElem_cons_zero, List.getElem_cons_succ, Act.put, List.setIfInBounds_toArray, List.set_cons_zero, List.set_cons_succ]
    refine tkA (i := 24) (v := ?_) rfl (by kernel_rfl) (fun _ _ _ h => h) (Or.inl ⟨by rfl, ?_⟩) hHeld ?_
    rotate_left
    ·(intro w' hSw; (try dsimp only at hSw); go_simp; try with_reducible rfl)
    simp only [List.getElem_toArray, List.getElem_cons_zero, List.getElem_cons_succ, Act.put, List.setIfInBounds_toArray, List.set_cons_zero, List.set_cons_succ]
    refine wpAnyH_done (by kernel_rfl) ?_ _
    have G7 : Hid (Below u6.heap.size u6 _) := Lib.hid hHeld.1
    clear hHeld
    obtain ⟨-, ⟨y0, y1, y2, y3⟩, z0, z1, z2, z3⟩ := KE.out _ G7.out
    have KR2 := Lib.hid (KR.out _ G7.out)
    clear KF KR KO KP KD KE hq
    go_wp2_with fail
    refine KR2.out.mono ?_
    rintro e u9 ⟨rfl, hb⟩
    have G9 : Hid (Below w.heap.size w u9) := Lib.hid (GE.out.trans ((G7.out.trans (hb.mono G7.out.size)).mono GE.out.size))
    clear hb KR2 y0 y1 y2 y3 z0 z1 z2 z3
    go_wp2_with fail
    go_ret
    exact ⟨rfl, G9.out⟩
   | true =>
    rw [hT] at KF KR
    obtain ⟨vp, rfl, hop⟩ := hg.1 hT
    have KB2 := Lib.hid (KB.out hT)
    obtain ⟨pa, pm, pc, hvp, hpm, gp1, gp2, hs⟩ := byParts hop.seq
    subst hvp
    have SP := Lib.hid hs
    have HPT := Lib.hid (ptxn_put t)
    have HTL := Lib.hid (txnC_len hT)
    clear hg hT KB hop hs hpm
    go_upto_region 7 with fail
    refine wp_region_held_drew (S := fun u' => Below u6.heap.size u6 u' ∧ (u'.cell? ⟨w.heap.size, 0, none⟩ = some (.int .i64 t.node) ∧ u'.cell? ⟨w.heap.size, 1, none⟩ = some (.int .i64 t.seq) ∧ u'.cell? ⟨w.heap.size, 2, none⟩ = some (.slice da dn dc) ∧ u'.cell? ⟨w.heap.size, 3, none⟩ = some (.slice ea en ec)) ∧ u'.cell? ⟨mb, 0, none⟩ = some (.int .i64 t.node) ∧ u'.cell? ⟨mb, 1, none⟩ = some (.int .i64 t.seq) ∧ u'.cell? ⟨mb, 2, none⟩ = some (.slice ma mn mc) ∧ u'.cell? ⟨mb, 3, none⟩ = some (.slice na nn nc)) (by kernel_rfl) ?_ (fun hHeld => ?_)
    ·(exact KE.out _ (Below.refl _ _).drew)
    simp only [List.size_toArray, List.length_cons, List.length_nil, Nat.zero_add, Nat.reduceAdd]
    refine tkA (i := 0) (v := ?_) rfl (by kernel_rfl) (fun _ _ _ h => h) (Or.inl ⟨by rfl, ?_⟩) hHeld ?_
    rotate_left
    ·(intro w' hSw; (try dsimp only at hSw); go_simp; try with_reducible rfl)
    simp only [List.getElem_toArray, List.getElem_cons_zero, Act.put, List.setIfInBounds_toArray, List.set_cons_zero, List.set_cons_succ]
    refine tkA (i := 2) (v := ?_) rfl (by kernel_rfl) (fun _ _ _ h => h) (Or.inl ⟨by rfl, ?_⟩) hHeld ?_
    rotate_left
    ·(intro w' hSw; (try dsimp only at hSw); go_simp; try with_reducible rfl)
    simp only [List.getElem_toArray, List.getElem_cons_zero, List.getElem_cons_succ, Act.put, List.setIfInBounds_toArray, List.set_cons_zero, List.set_cons_succ]
    have KK := Lib.hid (KF.out _ hHeld.1)
    refine wpAnyH_ready (rs := [1]) (by kernel_rfl) (by simp) ?_
    refine AllReadyH.cons rfl (fun K hK => ?_) AllReadyH.nil
    go_simp
    refine KK.out.mono ?_
    rintro e s1 ⟨rfl, hb⟩
    refine hK.out _ _ (KE.out _ (holdC hHeld hb)) (fun hHeld => ?_)
    clear hK K hb KK
    have KK := Lib.hid (KR.out _ hHeld.1)
    refine wpAnyH_ready (rs := [3]) (by kernel_rfl) (by simp) ?_
    refine AllReadyH.cons rfl (fun K hK => ?_) AllReadyH.nil
    go_simp
    refine KK.out.mono ?_
    rintro e s2 ⟨rfl, hb⟩
    refine hK.out _ _ (KE.out _ (holdC hHeld hb)) (fun hHeld => ?_)
    clear hK K hb KK
    refine tkA (i := 4) (v := ?_) rfl (by kernel_rfl) (fun _ _ _ h => h) (Or.inl ⟨by rfl, ?_⟩) hHeld ?_
    rotate_left
    ·(intro w' hSw; (try dsimp only at hSw); go_simp; try with_reducible rfl)
    simp only [List.getElem_toArray, List.getElem_cons_zero, List.getElem_cons_succ, Act.put, List.setIfInBounds_toArray, List.set_cons_zero, List.set_cons_succ]
    refine tkA (i := 5) (v := ?_) rfl (by kernel_rfl) (fun _ _ _ h => h) (Or.inl ⟨by rfl, ?_⟩) hHeld ?_
    rotate_left
    ·(intro w' hSw; (try dsimp only at hSw); go_simp; try with_reducible rfl)
    simp only [List.getElem_toArray, List.getElem_cons_zero, List.getElem_cons_succ, Act.put, List.setIfInBounds_toArray, List.set_cons_zero, List.set_cons_succ]
    refine tkA (i := 6) (v := ?_) rfl (by kernel_rfl) (fun _ _ _ h => h) (Or.inl ⟨by rfl, ?_⟩) hHeld ?_
    rotate_left
    ·(intro w' hSw; (try dsimp only at hSw); go_simp; try with_reducible rfl)
    simp only [List.getElem_toArray, List.getElem_cons_zero, List.getElem_cons_succ, Act.put, List.setIfInBounds_toArray, List.set_cons_zero, List.set_cons_succ]
    refine tkA (i := 7) (v := ?_) rfl (by kernel_rfl) (fun _ _ _ h => h) (Or.inl ⟨by rfl, ?_⟩) hHeld ?_
    rotate_left
    ·(intro w' hSw; (try dsimp only at hSw); go_simp; try with_reducible rfl)
    simp only [List.getElem_toArray, List.getElem_cons_zero, List.getElem_cons_succ, Act.put, List.setIfInBounds_toArray, List.set_cons_zero, List.set_cons_succ]
    refine tkA (i := 9) (v := ?_) rfl (by kernel_rfl) (fun _ _ _ h => h) (Or.inl ⟨by rfl, ?_⟩) hHeld ?_
    rotate_left
    ·(intro w' hSw; (try dsimp only at hSw); go_simp; try with_reducible rfl)
    simp only [List.getElem_toArray, List.getElem_cons_zero, List.getElem_cons_succ, Act.put, List.setIfInBounds_toArray, List.set_cons_zero, List.set_cons_succ]
    refine tkA (i := 10) (v := ?_) rfl (by kernel_rfl) (fun _ _ _ h => h) (Or.inl ⟨by rfl, ?_⟩) hHeld ?_
    rotate_left
    ·(intro w' hSw; (try dsimp only at hSw); go_simp; try with_reducible rfl)
    simp only [List.getElem_toArray, List.getElem_cons_zero, List.getElem_cons_succ, Act.put, List.setIfInBounds_toArray, List.set_cons_zero, List.set_cons_succ]
    have KK := Lib.hid (KO.out _ hHeld.1)
    refine wpAnyH_ready (rs := [8]) (by kernel_rfl) (by simp) ?_
    refine AllReadyH.cons rfl (fun K hK => ?_) AllReadyH.nil
    go_simp
    refine KK.out.mono ?_
    rintro e s3 ⟨uo, rfl, ho, hb⟩
    obtain ⟨oa, on, oc, pa2, pn2, pc2, hvo, k1, k2⟩ := ho.parts
    subst hvo
    have OO : Hid (IsTxn s3 (.agg #[.int .i64 (tonly t zs).node, .int .i64 (tonly t zs).seq, .slice oa on oc, .slice pa2 pn2 pc2]) (tonly t zs)) := Lib.hid ⟨_, _, rfl, k1, k2⟩
    clear ho k1 k2
    refine hK.out _ _ (KE.out _ (holdC hHeld hb)) (fun hHeld => ?_)
    clear hK K hb KK
    have KK := Lib.hid (KP.out _ hHeld.1)
    refine wpAnyH_ready (rs := [11]) (by kernel_rfl) (by simp) ?_
    refine AllReadyH.cons rfl (fun K hK => ?_) AllReadyH.nil
    go_simp
    refine KK.out.mono ?_
    rintro e s4 ⟨up, rfl, ho, hb⟩
    obtain ⟨oa3, on3, oc3, pa3, pn3, pc3, hvo, k1, k2⟩ := ho.parts
    subst hvo
    have OP : Hid (IsTxn s4 (.agg #[.int .i64 (tonly t zs).node, .int .i64 (tonly t zs).seq, .slice oa3 on3 oc3, .slice pa3 pn3 pc3]) (tonly t zs)) := Lib.hid ⟨_, _, rfl, k1, k2⟩
    replace OO := Lib.hid (IsTxn.below OO.out hb)
    clear ho k1 k2
    refine hK.out _ _ (KE.out _ (holdC hHeld hb)) (fun hHeld => ?_)
    clear hK K hb KK
    have KK := Lib.hid (rsameTx OO.out OP.out true (decide_eq_true rfl))
    refine wpAnyH_ready (rs := [12]) (by kernel_rfl) (by simp) ?_
    refine AllReadyH.cons rfl (fun K hK => ?_) AllReadyH.nil
    go_simp
    refine KK.out.mono ?_
    rintro e s5 ⟨rfl, hb⟩
    refine hK.out _ _ (KE.out _ (holdC hHeld hb)) (fun hHeld => ?_)
    clear hK K hb KK OO OP
    refine tkA (i := 13) (v := ?_) rfl (by kernel_rfl) (fun _ _ _ h => h) (Or.inl ⟨by rfl, ?_⟩) hHeld ?_
    rotate_left
    ·(intro w' hSw; (try dsimp only at hSw); go_simp; try with_reducible rfl)
    simp only [List.getElem_toArray, List.getElem_cons_zero, List.getElem_cons_succ, Act.put, List.setIfInBounds_toArray, List.set_cons_zero, List.set_cons_succ]
    refine tkA (i := 14) (v := ?_) rfl (by kernel_rfl) (fun _ _ _ h => h) (Or.inl ⟨by rfl, ?_⟩) hHeld ?_
    rotate_left
    ·(intro w' hSw; (try dsimp only at hSw); go_simp; try with_reducible rfl)
    simp only [List.getElem_toArray, List.getElem_cons_zero, List.getElem_cons_succ, Act.put, List.setIfInBounds_toArray, List.set_cons_zero, List.set_cons_succ]
    refine tkA (i := 15) (v := ?_) rfl (by kernel_rfl) (fun _ _ _ h => h) (Or.inl ⟨by rfl, ?_⟩) hHeld ?_
    rotate_left
    ·(intro w' hSw; (try dsimp only at hSw); go_simp; try with_reducible rfl)
    simp only [List.getElem_toArray, List.getElem_cons_zero, List.getElem_cons_succ, Act.put, List.setIfInBounds_toArray, List.set_cons_zero, List.set_cons_succ]
    refine tkA (i := 16) (v := ?_) rfl (by kernel_rfl) (fun _ _ _ h => h) (Or.inl ⟨by rfl, ?_⟩) hHeld ?_
    rotate_left
    ·(intro w' hSw; (try dsimp only at hSw); go_simp; try with_reducible rfl)
    simp only [List.getElem_toArray, List.getElem_cons_zero, List.getElem_cons_succ, Act.put, List.setIfInBounds_toArray, List.set_cons_zero, List.set_cons_succ]
    refine tkA (i := 18) (v := ?_) rfl (by kernel_rfl) (fun _ _ _ h => h) (Or.inl ⟨by rfl, ?_⟩) hHeld ?_
    rotate_left
    ·(intro w' hSw; (try dsimp only at hSw); go_simp; try with_reducible rfl)
    simp only [List.getElem_toArray, List.getElem_cons_zero, List.getElem_cons_succ, Act.put, List.setIfInBounds_toArray, List.set_cons_zero, List.set_cons_succ]
    refine tkA (i := 19) (v := ?_) rfl (by kernel_rfl) (fun _ _ _ h => h) (Or.inl ⟨by rfl, ?_⟩) hHeld ?_
    rotate_left
    ·(intro w' hSw; (try dsimp only at hSw); go_simp; try with_reducible rfl)
    simp only [List.getElem_toArray, List.getElem_cons_zero, List.getElem_cons_succ, Act.put, List.setIfInBounds_toArray, List.set_cons_zero, List.set_cons_succ]
    refine tkA (i := 20) (v := ?_) rfl (by kernel_rfl) (fun _ _ _ h => h) (Or.inl ⟨by rfl, ?_⟩) hHeld ?_
    rotate_left
    ·(intro w' hSw; (try dsimp only at hSw); go_simp; try with_reducible rfl)
    simp only [List.getElem_toArray, List.getElem_cons_zero, List.getElem_cons_succ, Act.put, List.setIfInBounds_toArray, List.set_cons_zero, List.set_cons_succ]
    refine tkA (i := 21) (v := ?_) rfl (by kernel_rfl) (fun _ _ _ h => h) (Or.inl ⟨by rfl, ?_⟩) hHeld ?_
    rotate_left
    ·(intro w' hSw; (try dsimp only at hSw); go_simp; try with_reducible rfl)
    simp only [List.getElem_toArray, List.getElem_cons_zero, List.getElem_cons_succ, Act.put, List.setIfInBounds_toArray, List.set_cons_zero, List.set_cons_succ]
    refine tkA (i := 22) (v := ?_) rfl (by kernel_rfl) (fun _ _ _ h => h) (Or.inl ⟨by rfl, ?_⟩) hHeld ?_
    rotate_left
    ·(intro w' hSw; (try dsimp only at hSw); go_simp; try with_reducible rfl)
    simp only [List.getElem_toArray, List.getElem_cons_zero, List.getElem_cons_succ, Act.put, List.setIfInBounds_toArray, List.set_cons_zero, List.set_cons_succ]
    have KK := Lib.hid (KD.out s5)
    refine wpAnyH_ready (rs := [17]) (by kernel_rfl) (by simp) ?_
    refine AllReadyH.cons rfl (fun K hK => ?_) AllReadyH.nil
    go_simp
    refine KK.out.mono ?_
    rintro e s6 ⟨rfl, hb⟩
    refine hK.out _ _ (KE.out _ (holdC hHeld hb)) (fun hHeld => ?_)
    clear hK K hb KK
    refine tkA (i := 23) (v := ?_) rfl (by kernel_rfl) (fun _ _ _ h => h) (Or.inl ⟨by rfl, ?_⟩) hHeld ?_
    rotate_left
    ·(intro w' hSw; (try dsimp only at hSw); go_simp; try with_reducible rfl)
    simp only [List.getElem_toArray, List.getElem_cons_zero, List.getElem_cons_succ, Act.put, List.setIfInBounds_toArray, List.set_cons_zero, List.set_cons_succ]
    refine tkA (i := 24) (v := ?_) rfl (by kernel_rfl) (fun _ _ _ h => h) (Or.inl ⟨by rfl, ?_⟩) hHeld ?_
    rotate_left
    ·(intro w' hSw; (try dsimp only at hSw); go_simp; try with_reducible rfl)
    simp only [List.getElem_toArray, List.getElem_cons_zero, List.getElem_cons_succ, Act.put, List.setIfInBounds_toArray, List.set_cons_zero, List.set_cons_succ]
    refine wpAnyH_done (by kernel_rfl) ?_ _
    have G7 : Hid (Below u6.heap.size u6 _) := Lib.hid hHeld.1
    clear hHeld
    obtain ⟨-, ⟨y0, y1, y2, y3⟩, z0, z1, z2, z3⟩ := KE.out _ G7.out
    have KR2 := Lib.hid (KR.out _ G7.out)
    clear KF KR KO KP KD hq
    go_wp2_with fail
    refine KR2.out.mono ?_
    rintro e u9 ⟨rfl, hb⟩
    have G9 : Hid (Below u6.heap.size u6 u9) := Lib.hid (G7.out.trans (hb.mono G7.out.size))
    clear hb KR2 y0 y1 y2 y3 z0 z1 z2 z3
    go_upto_region 11 with fail
    have G9d : Hid (Below u6.heap.size u6 u9.drew) := Lib.hid G9.out.drew
    refine wp_region_held_drew (S := fun u' => Below u6.heap.size u6 u' ∧ (u'.cell? ⟨w.heap.size, 0, none⟩ = some (.int .i64 t.node) ∧ u'.cell? ⟨w.heap.size, 1, none⟩ = some (.int .i64 t.seq) ∧ u'.cell? ⟨w.heap.size, 2, none⟩ = some (.slice da dn dc) ∧ u'.cell? ⟨w.heap.size, 3, none⟩ = some (.slice ea en ec)) ∧ u'.cell? ⟨mb, 0, none⟩ = some (.int .i64 t.node) ∧ u'.cell? ⟨mb, 1, none⟩ = some (.int .i64 t.seq) ∧ u'.cell? ⟨mb, 2, none⟩ = some (.slice ma mn mc) ∧ u'.cell? ⟨mb, 3, none⟩ = some (.slice na nn nc)) (by kernel_rfl) ?_ (fun hHeld => ?_)
    ·(exact KE.out _ G9d.out)
    simp only [List.size_toArray, List.length_cons, List.length_nil, Nat.zero_add, Nat.reduceAdd]
    refine tkA (i := 0) (v := ?_) rfl (by kernel_rfl) (fun _ _ _ h => h) (Or.inl ⟨by rfl, ?_⟩) hHeld ?_
    rotate_left
    ·(intro w' hSw; (try dsimp only at hSw); go_simp; try with_reducible rfl)
    simp only [List.getElem_toArray, List.getElem_cons_zero, Act.put, List.setIfInBounds_toArray, List.set_cons_zero, List.set_cons_succ]
    refine tkA (i := 1) (v := ?_) rfl (by kernel_rfl) (fun _ _ _ h => h) (Or.inl ⟨by rfl, ?_⟩) hHeld ?_
    rotate_left
    ·(intro w' hSw; (try dsimp only at hSw); go_simp; try with_reducible rfl)
    simp only [List.getElem_toArray, List.getElem_cons_zero, List.getElem_cons_succ, Act.put, List.setIfInBounds_toArray, List.set_cons_zero, List.set_cons_succ]
    refine tkA (i := 2) (v := ?_) rfl (by kernel_rfl) (fun _ _ _ h => h) (Or.inl ⟨by rfl, ?_⟩) hHeld ?_
    rotate_left
    ·(intro w' hSw; (try dsimp only at hSw); go_simp; try with_reducible rfl)
    simp only [List.getElem_toArray, List.getElem_cons_zero, List.getElem_cons_succ, Act.put, List.setIfInBounds_toArray, List.set_cons_zero, List.set_cons_succ]
    refine tkA (i := 3) (v := ?_) rfl (by kernel_rfl) (fun _ _ _ h => h) (Or.inl ⟨by rfl, ?_⟩) hHeld ?_
    rotate_left
    ·(intro w' hSw; (try dsimp only at hSw); go_simp; try with_reducible rfl)
    simp only [List.getElem_toArray, List.getElem_cons_zero, List.getElem_cons_succ, Act.put, List.setIfInBounds_toArray, List.set_cons_zero, List.set_cons_succ]
    refine tkA (i := 4) (v := ?_) rfl (by kernel_rfl) (fun _ _ _ h => h) (Or.inl ⟨by rfl, ?_⟩) hHeld ?_
    rotate_left
    ·(intro w' hSw; (try dsimp only at hSw); go_simp; try with_reducible rfl)
    simp only [List.getElem_toArray, List.getElem_cons_zero, List.getElem_cons_succ, Act.put, List.setIfInBounds_toArray, List.set_cons_zero, List.set_cons_succ]
    refine tkA (i := 6) (v := ?_) rfl (by kernel_rfl) (fun _ _ _ h => h) (Or.inl ⟨by rfl, ?_⟩) hHeld ?_
    rotate_left
    ·(intro w' hSw; (try dsimp only at hSw); go_simp; try with_reducible rfl)
    simp only [List.getElem_toArray, List.getElem_cons_zero, List.getElem_cons_succ, Act.put, List.setIfInBounds_toArray, List.set_cons_zero, List.set_cons_succ]
    have KK := Lib.hid (KCP.out _ hHeld.1)
    refine wpAnyH_ready (rs := [5]) (by kernel_rfl) (by simp) ?_
    refine AllReadyH.cons rfl (fun K hK => ?_) AllReadyH.nil
    go_simp
    refine KK.out.mono ?_
    rintro e s7 ⟨v7, rfl, ho7, hb⟩
    obtain ⟨a7, c7, rfl, -, -, -, -⟩ := ho7.parts
    have O7 := Lib.hid ho7
    have Z7 := Lib.hid hb.size
    clear ho7
    refine hK.out _ _ (KE.out _ (holdC hHeld hb)) (fun hHeld => ?_)
    clear hK K hb KK
    have KK := Lib.hid (KB2.out _ hHeld.1)
    refine wpAnyH_ready (rs := [7]) (by kernel_rfl) (by simp) ?_
    refine AllReadyH.cons rfl (fun K hK => ?_) AllReadyH.nil
    go_simp
    refine KK.out.mono ?_
    rintro e s8 ⟨v8, rfl, ho8, hg8⟩
    have hb := hg8.below
    replace O7 := Lib.hid (O7.out.below hb (Nat.le_refl _))
    obtain ⟨a8, c8, rfl, -, -, -, -⟩ := ho8.parts
    have O8 := Lib.hid ho8.seq
    have Z8 := Lib.hid hb.size
    clear ho8 hg8
    refine hK.out _ _ (KE.out _ (holdC hHeld hb)) (fun hHeld => ?_)
    clear hK K hb KK
    refine wpAnyH_ready (rs := [8]) (by kernel_rfl) (by simp) ?_
    refine AllReadyH.cons rfl (fun K hK => ?_) AllReadyH.nil
    refine step_append_by (by rfl) (.tmp 77) (.tmp 79) rfl u9.drew.heap.size rfl O7.out rfl O8.out (by have := LB.out; have := HTL.out; rw [HPT.out]; omega) (by have := Z7.out; have := Z8.out; omega) ?_
    intro v9 s9 ho9 hgr hat
    have hb : Below u9.drew.heap.size s8 s9 := (Below.refl _ _).grown hgr (by have := Z7.out; have := Z8.out; omega) (fun k hk => (O7.out.lt k hk).1)
    obtain ⟨a9, c9, rfl, -, -, -, -⟩ := ho9.parts
    have O9 := Lib.hid ho9.seq
    clear ho9
    generalize (bs ++ ptxn t).length = n9 at *
    refine hK.out _ _ (KE.out _ (hHeld.1.trans (hb.mono (by have := G9d.out.size; omega)))) (fun hHeld => ?_)
    clear hK K hgr hat
    have SP9 : Hid (By.Seq s9 (.slice pa pm pc) (bs ++ ptxn t)) := Lib.hid (by rw [HPT.out]; exact SP.out.below hHeld.1)
    have KK := Lib.hid (rsameBy SP9.out O9.out)
    refine wpAnyH_ready (rs := [9]) (by kernel_rfl) (by simp) ?_
    refine AllReadyH.cons rfl (fun K hK => ?_) AllReadyH.nil
    go_simp
    refine KK.out.mono ?_
    rintro e s10 ⟨rfl, hb⟩
    refine hK.out _ _ (KE.out _ (holdC hHeld hb)) (fun hHeld => ?_)
    clear hK K hb KK SP9
    refine tkA (i := 10) (v := ?_) rfl (by kernel_rfl) (fun _ _ _ h => h) (Or.inl ⟨by rfl, ?_⟩) hHeld ?_
    rotate_left
    ·(intro w' hSw; (try dsimp only at hSw); go_simp; try with_reducible rfl)
    simp only [List.getElem_toArray, List.getElem_cons_zero, List.getElem_cons_succ, Act.put, List.setIfInBounds_toArray, List.set_cons_zero, List.set_cons_succ]
    refine tkA (i := 11) (v := ?_) rfl (by kernel_rfl) (fun _ _ _ h => h) (Or.inl ⟨by rfl, ?_⟩) hHeld ?_
    rotate_left
    ·(intro w' hSw; (try dsimp only at hSw); go_simp; try with_reducible rfl)
    simp only [List.getElem_toArray, List.getElem_cons_zero, List.getElem_cons_succ, Act.put, List.setIfInBounds_toArray, List.set_cons_zero, List.set_cons_succ]
    refine tkA (i := 12) (v := ?_) rfl (by kernel_rfl) (fun _ _ _ h => h) (Or.inl ⟨by rfl, ?_⟩) hHeld ?_
    rotate_left
    ·(intro w' hSw; (try dsimp only at hSw); go_simp; try with_reducible rfl)
    simp only [List.getElem_toArray, List.getElem_cons_zero, List.getElem_cons_succ, Act.put, List.setIfInBounds_toArray, List.set_cons_zero, List.set_cons_succ]
    refine tkA (i := 13) (v := ?_) rfl (by kernel_rfl) (fun _ _ _ h => h) (Or.inl ⟨by rfl, ?_⟩) hHeld ?_
    rotate_left
    ·(intro w' hSw; (try dsimp only at hSw); go_simp; try with_reducible rfl)
    simp only [List.getElem_toArray, List.getElem_cons_zero, List.getElem_cons_succ, Act.put, List.setIfInBounds_toArray, List.set_cons_zero, List.set_cons_succ]
    have KK := Lib.hid (KS.out _ hHeld.1)
    refine wpAnyH_ready (rs := [14]) (by kernel_rfl) (by simp) ?_
    refine AllReadyH.cons rfl (fun K hK => ?_) AllReadyH.nil
    go_simp
    refine KK.out.mono ?_
    rintro e s11 ⟨rfl, hb⟩
    refine hK.out _ _ (KE.out _ (holdC hHeld hb)) (fun hHeld => ?_)
    clear hK K hb KK
    refine tkA (i := 15) (v := ?_) rfl (by kernel_rfl) (fun _ _ _ h => h) (Or.inl ⟨by rfl, ?_⟩) hHeld ?_
    rotate_left
    ·(intro w' hSw; (try dsimp only at hSw); go_simp; try with_reducible rfl)
    simp only [List.getElem_toArray, List.getElem_cons_zero, List.getElem_cons_succ, Act.put, List.setIfInBounds_toArray, List.set_cons_zero, List.set_cons_succ]
    refine tkA (i := 16) (v := ?_) rfl (by kernel_rfl) (fun _ _ _ h => h) (Or.inl ⟨by rfl, ?_⟩) hHeld ?_
    rotate_left
    ·(intro w' hSw; (try dsimp only at hSw); go_simp; try with_reducible rfl)
    simp only [List.getElem_toArray, List.getElem_cons_zero, List.getElem_cons_succ, Act.put, List.setIfInBounds_toArray, List.set_cons_zero, List.set_cons_succ]
    refine wpAnyH_done (by kernel_rfl) ?_ _
    have GZ : Hid (Below u6.heap.size u6 _) := Lib.hid hHeld.1
    clear hHeld
    go_wp2_with fail
    go_ret
    exact ⟨rfl, GE.out.trans (GZ.out.mono GE.out.size)⟩

set_option maxRecDepth 100000 in
theorem lifted (os : Os) (started : os.Started) (H : Type) (enc : TypeId × Value → H) :
    ReturnsInHanded {} Tryz.checked os 3 .any (Rows.txnAllSpec.pre6 enc Tryz.prog Tryz.f3 Rows.txnAllRow.domain false) (Rows.txnAllSpec.post enc Tryz.prog Tryz.f3 false true false false) := by
  refine returnsInHanded_of_change (C := Tryz.checked) own started (by kernel_rfl) Tryz.func3
    (ChangeSpec.witness6 (enc := enc) (C := Tryz.checked) false ⟨#[], #[.agg #[.int .i64 0, .int .i64 0, .slice none 0 0, .slice none 0 0], .slice none 0 0, .slice none 0 0], []⟩ 8 (by kernel_rfl) (by kernel_rfl) (by kernel_rfl) (by kernel_rfl)) ?_
  intro W base args ds gs before hval0 hW hcnd _
  have hval : ∀ (j : Nat) t v, Tryz.f3.params[j]? = some t → args[j]? = some v → Value.okWide Tryz.prog W .any base t v := hval0
  have hW' := hW
  obtain ⟨p, q, hA0, hV, rfl, hfz, hnd⟩ := hW
  have hA : DataW.TrodAll enc Tryz.prog W 0 (fun _ => true) true Tryz.f3.params.toList args.toList ds p := hA0
  rw [Tryz.params3] at hA hval
  obtain ⟨v0, vs0, d0, ds0, p0, q0, hargs, rfl, rfl, h0, r0⟩ := trodAll_cons hA
  obtain ⟨v1, vs1, d1, ds1, p1, q1, rfl, rfl, rfl, h1, r1⟩ := trodAll_cons r0
  obtain ⟨v2, vs2, d2, ds2, p2, q2, rfl, rfl, rfl, h2, r2⟩ := trodAll_cons r1
  obtain ⟨rfl, rfl, rfl⟩ := trodAll_nil r2
  obtain rfl : args = #[v0, v1, v2] := by cases args; simp_all
  obtain ⟨rfl, rfl⟩ := trodVars_none hV
  have k0 := h0
  have lt0 : ∀ x ∈ p0, x.block < W.heap.size := by obtain ⟨m, hm⟩ := k0; exact DataW.trod_lt m _ _ _ hm
  have w0 := open0 (hval 0 26 v0 rfl rfl) h0
  have k1 := h1
  have lt1 : ∀ x ∈ p1, x.block < W.heap.size := by obtain ⟨m, hm⟩ := k1; exact DataW.trod_lt m _ _ _ hm
  have w1 := open1 (hval 1 27 v1 rfl rfl) h1
  have k2 := h2
  have lt2 : ∀ x ∈ p2, x.block < W.heap.size := by obtain ⟨m, hm⟩ := k2; exact DataW.trod_lt m _ _ _ hm
  have w2 := open2 (hval 2 28 v2 rfl rfl) h2
  clear hA0 hval0
  refine (walk v0 v1 v2 W w0 w1 w2).mono fun e W' ⟨he, bel⟩ => ?_
  subst he
  exact ⟨_, rfl, _, _, _, [], _, [], hW', trodAll_mk1 (shut_bool Tryz.underlying4 _), (trodAll_cons_mk (Below.trod laidOut (by kernel_rfl) (of_decide_eq_true (by kernel_rfl)) k0 bel lt0) (trodAll_cons_mk (Below.trod laidOut (by kernel_rfl) (of_decide_eq_true (by kernel_rfl)) k1 bel lt1) (trodAll_cons_mk (Below.trod laidOut (by kernel_rfl) (of_decide_eq_true (by kernel_rfl)) k2 bel lt2) trodAll_mk0))), rfl, bel.frame _, fun h => by cases h⟩

theorem over : Rows.txnAllRow.holds Tryz.pinned (OpenSpec.ofChange Rows.txnAllSpec) :=
  OpenClaim.holds_of_wide 3 Tryz.f3 rfl rfl rfl rfl rfl rfl rfl ⟨rfl, rfl, rfl, rfl, rfl⟩ rfl rfl rfl rfl rfl (by kernel_rfl) Tryz.func3 (by kernel_rfl)
    (of_decide_eq_true (by kernel_rfl)) (by unfold Func.isWrapper; first | (rw [if_pos (by decide +kernel)]; kernel_rfl) | (rw [if_neg (by decide +kernel)]; exact ⟨rfl, rfl⟩))
    (fun os started H enc _ => lifted os started H enc)

/-- the given statement -/
theorem proved : Rows.TxnAllSaid := over
#print axioms proved
end Go.Proofs.YtkanklppgioacaaGreat.txnAll
