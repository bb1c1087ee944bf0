/-
  For any transaction and any two lists of texts the law TxnOnly answers true: what of a formed transaction is under a zone is formed; under two zones one behind the other it is what both cover. No condition.
  (The frame was written by the guide's proof-skeleton.mjs, turned for slices of items and for fields; the walk is ours.)
-/
import Derived.Test.YtkanklppgioacaaGreatRows
import Derived.WalkKit
import Derived.ProofKit
import Derived.OpenShut
import Derived.ShutString
import Derived.ChangeOld
import Derived.Below
import Derived.Test.YtkanklppgioacaaGreatTxUses
import Derived.Deep.DeepCutAuto
import Derived.Test.YtkanklppgioacaaGreatOpenZ
import Derived.Test.YtkanklppgioacaaGreatRefSs
namespace Go.Proofs.YtkanklppgioacaaGreat.txnOnly
open Go.ChangeShapes Go.WideShapes Go.ChangeAt Go.RowKit
open Go.ChangeMaps (open_string shut_string)
set_option linter.unusedVariables false

theorem own : ownKnob Tryz.prog.godebug = none := by kernel_rfl
theorem laidOut : laidOutB Tryz.prog = true := by kernel_rfl

open Plain

set_option maxRecDepth 100000 in
theorem open0 {H : Type} {enc : TypeId × Value → H} {W : World} {r : Reach} {b : Nat} {v : Value} {d : DataW H} {p : List MemPlace} (hv : Value.okWide Tryz.prog W r b 26 v) (h : DataW.Trod enc Tryz.prog W 0 (fun _ => true) true 26 v d p) : IsTxnA W v := txn_of_trod hv h
set_option maxRecDepth 100000 in
theorem open1 {H : Type} {enc : TypeId × Value → H} {W : World} {r : Reach} {b : Nat} {v : Value} {d : DataW H} {p : List MemPlace} (hv : Value.okWide Tryz.prog W r b 27 v) (h : DataW.Trod enc Tryz.prog W 0 (fun _ => true) true 27 v d p) : IsTexts W v := texts_of_trod hv h
set_option maxRecDepth 100000 in
theorem open2 {H : Type} {enc : TypeId × Value → H} {W : World} {r : Reach} {b : Nat} {v : Value} {d : DataW H} {p : List MemPlace} (hv : Value.okWide Tryz.prog W r b 27 v) (h : DataW.Trod enc Tryz.prog W 0 (fun _ => true) true 27 v d p) : IsTexts W v := texts_of_trod hv h
theorem holdTA {w u : World} {R : Prop} (h : Below w.heap.size w u ∧ R) (o : Obj) : Below w.heap.size w (u.alloc o) := h.1.alloc h.1.size o
theorem tonly_is {v z : Value} {t : PTxn} {zs : List Txt} {w : World} (h : IsTxn w v t) (hz : SeqT w z zs) (hzl : zs.length ≤ 1000) (hzs : ∀ s ∈ zs, s.length ≤ 1000) (ht : FitTx t) :
  Calls Tryz.prog 13 #[v, z] w fun e w' => ∃ u, e = .returned u ∧ IsTxn w' u (tonly t zs) ∧ Below w.heap.size w w' :=
 (txonlyP h.all (fun _ k => k) hz hzl hzs ht).mono fun _ _ ⟨u, he, hu, hb⟩ => ⟨u, he, hu.is (only_new (fun _ k => k) hb.size), hb⟩

set_option maxRecDepth 100000 in
set_option maxHeartbeats 16000000 in
theorem walk (v0 : Value) (v1 : Value) (v2 : Value) (w : World) (w0 : IsTxnA w v0) (w1 : IsTexts w v1) (w2 : IsTexts w v2) :
  Calls Tryz.prog 4 #[v0, v1, v2] w fun e w' => e = .returned (.bool true) ∧ Below w.heap.size w w' := by
 obtain ⟨ys, s1⟩ := w1
 obtain ⟨a1, c1, hv1, -, -, -, k1⟩ := s1.parts
 subst hv1
 have Sys := Lib.hid k1
 clear s1 k1
 obtain ⟨zs, s2⟩ := w2
 obtain ⟨a2, c2, hv2, -, -, -, k2⟩ := s2.parts
 subst hv2
 have Szs := Lib.hid k2
 clear s2 k2
 obtain ⟨t, ht, hok⟩ := w0
 have OK := Lib.hid hok
 obtain ⟨da, dn, dc, ea, en, ec, hvt, hd, he⟩ := ht.parts
 subst hvt
 have hb := (Below.refl w.heap.size w).alloc (Nat.le_refl _) (.cells #[.int .i64 t.node, .int .i64 t.seq, .slice da dn dc, .slice ea en ec] 26)
 have TB := Lib.hid (txbox_new hd he)
 have G := Lib.hid hb
 replace Sys := Lib.hid (Sys.out.below hb)
 replace Szs := Lib.hid (Szs.out.below hb)
 clear ht hok hd he hb
 show Calls Tryz.prog 4 #[.agg #[.int .i64 t.node, .int .i64 t.seq, .slice da dn dc, .slice ea en ec], _, _] w _
 go_enter Tryz.func4, Tryz.ntmps4
 go_upto_region 1 with fail
 generalize (w.alloc (.cells #[.int .i64 t.node, .int .i64 t.seq, .slice da dn dc, .slice ea en ec] 26)) = wB at *
 have G0 := G
 replace G := Lib.hid (Below.refl wB.heap.size wB)
 go_wp2_with fail
 refine (tawake_any _).mono ?_
 rintro e u2 ⟨rfl, hb⟩
 replace G := Lib.hid (G.out.trans (hb.mono G.out.size))
 clear hb
 have TBc := TB.out.below G.out
 obtain ⟨y0, y1, y2, y3⟩ := TBc.c
 have hb := (Below.refl u2.heap.size u2).alloc (Nat.le_refl _) (.cells #[.int .i64 t.node, .int .i64 t.seq, .slice da dn dc, .slice ea en ec] 26)
 have KS := Lib.hid (fun r hr => rshortTx_any (one_txn TBc.d TBc.e) r hr)
 replace G := Lib.hid (G.out.trans (hb.mono G.out.size))
 clear hb
 cases hA : shortTx [t] with
 | false =>
  go_wp2_with fail
  refine (KS.out _ hA).mono ?_
  rintro e u3 ⟨rfl, hb⟩
  replace G := Lib.hid (G.out.trans (hb.mono G.out.size))
  clear hb KS TBc
  clear y0 y1 y2 y3
  go_wp2_with fail
  go_ret
  exact ⟨rfl, G0.out.trans (G.out.mono G0.out.size)⟩
 | true =>
  go_wp2_with fail
  refine (KS.out _ hA).mono ?_
  rintro e u3 ⟨rfl, hb⟩
  replace G := Lib.hid (G.out.trans (hb.mono G.out.size))
  clear hb KS TBc
  clear y0 y1 y2 y3
  have FX := Lib.hid (fitTx_of hA OK.out)
  clear hA
  cases hA : shortB ys with
  | false =>
   go_wp2_with fail
   refine (rshortTR (Sys.out.below G.out) hA).mono ?_
   rintro e u4 ⟨rfl, hb⟩
   replace G := Lib.hid (G.out.trans (hb.mono G.out.size))
   clear hb
   go_wp2_with fail
   go_ret
   exact ⟨rfl, G0.out.trans (G.out.mono G0.out.size)⟩
  | true =>
   go_wp2_with fail
   refine (rshortTR (Sys.out.below G.out) hA).mono ?_
   rintro e u4 ⟨rfl, hb⟩
   replace G := Lib.hid (G.out.trans (hb.mono G.out.size))
   clear hb
   have Mys : Hid (ys.length ≤ 1000 ∧ ∀ s ∈ ys, s.length ≤ 1000) := Lib.hid ⟨by have := (short_iff.1 hA).1; omega, fun s hs => by have := (short_iff.1 hA).2 s hs; omega⟩
   clear hA
   cases hA : shortB zs with
   | false =>
    go_wp2_with fail
    refine (rshortTR (Szs.out.below G.out) hA).mono ?_
    rintro e u5 ⟨rfl, hb⟩
    replace G := Lib.hid (G.out.trans (hb.mono G.out.size))
    clear hb
    go_wp2_with fail
    go_ret
    exact ⟨rfl, G0.out.trans (G.out.mono G0.out.size)⟩
   | true =>
    go_wp2_with fail
    refine (rshortTR (Szs.out.below G.out) hA).mono ?_
    rintro e u5 ⟨rfl, hb⟩
    replace G := Lib.hid (G.out.trans (hb.mono G.out.size))
    clear hb
    have Mzs : Hid (zs.length ≤ 1000 ∧ ∀ s ∈ zs, s.length ≤ 1000) := Lib.hid ⟨by have := (short_iff.1 hA).1; omega, fun s hs => by have := (short_iff.1 hA).2 s hs; omega⟩
    clear hA
    have TBc := TB.out.below G.out
    obtain ⟨y0, y1, y2, y3⟩ := TBc.c
    cases hT : tformedB t with
    | false =>
     go_wp2_with fail
     refine (txformedP TBc.is FX.out _ hT).mono ?_
     rintro e u6 ⟨rfl, hb⟩
     replace G := Lib.hid (G.out.trans (hb.mono G.out.size))
     clear hb TBc hT
     clear y0 y1 y2 y3
     go_wp2_with fail
     go_ret
     exact ⟨rfl, G0.out.trans (G.out.mono G0.out.size)⟩
    | true =>
     go_wp2_with fail
     refine (txformedP TBc.is FX.out _ hT).mono ?_
     rintro e u6 ⟨rfl, hb⟩
     replace G := Lib.hid (G.out.trans (hb.mono G.out.size))
     clear hb TBc
     clear y0 y1 y2 y3
     obtain ⟨p1, hp1⟩ : ∃ p, tonly t ys = p := ⟨_, rfl⟩
     obtain ⟨p2, hp2⟩ : ∃ p, tonly p1 zs = p := ⟨_, rfl⟩
     obtain ⟨p3, hp3⟩ : ∃ p, tonly t zs = p := ⟨_, rfl⟩
     have HP1 := Lib.hid hp1
     have HP2 := Lib.hid hp2
     have HP3 := Lib.hid hp3
     have HP4 : Hid (tonly p3 ys = p2) := Lib.hid (by rw [← hp3, ← hp2, ← hp1]; exact tonly_two t zs ys)
     have HP5 := Lib.hid (tonly_all t)
     have F1 : Hid (tformedB p1 = true) := Lib.hid (by rw [← hp1]; exact tonly_formed hT ys)
     have F2 : Hid (tformedB p2 = true) := Lib.hid (by rw [← hp2]; exact tonly_formed F1.out zs)
     have FP1 : Hid (FitTx p1) := Lib.hid (by rw [← hp1]; exact fitTx_only FX.out ys)
     have FP2 : Hid (FitTx p2) := Lib.hid (by rw [← hp2]; exact fitTx_only FP1.out zs)
     have FP3 : Hid (FitTx p3) := Lib.hid (by rw [← hp3]; exact fitTx_only FX.out zs)
     clear hp1 hp2 hp3 hT
     obtain ⟨B0, hB0⟩ : ∃ B, u6.heap.size = B := ⟨_, rfl⟩
     have HB0 := Lib.hid hB0
     clear hB0
     have GB : Hid (wB.heap.size ≤ B0) := Lib.hid (by rw [← HB0.out]; exact G.out.size)
     have LE : Hid (∀ W, Below B0 u6 W → B0 ≤ W.heap.size) := Lib.hid (fun W h => by rw [← HB0.out]; exact h.size)
     have KE : Hid (∀ U, Below B0 u6 U → Below B0 u6 U ∧ (U.cell? ⟨w.heap.size, 0, none⟩ = some (.int .i64 t.node) ∧ U.cell? ⟨w.heap.size, 1, none⟩ = some (.int .i64 t.seq) ∧ U.cell? ⟨w.heap.size, 2, none⟩ = some (.slice da dn dc) ∧ U.cell? ⟨w.heap.size, 3, none⟩ = some (.slice ea en ec))) := Lib.hid (fun U hU => ⟨hU, (TB.out.below (G.out.trans (hU.mono GB.out))).c⟩)
     have TBc := TB.out.below G.out
     obtain ⟨y0, y1, y2, y3⟩ := TBc.c
     have GU : Hid (wB.heap.size ≤ u6.heap.size) := Lib.hid G.out.size
     have T0 : Hid (IsTxnIn (· < wB.heap.size) u6 (.agg #[.int .i64 t.node, .int .i64 t.seq, .slice da dn dc, .slice ea en ec]) t) := Lib.hid ((IsTxn.all TB.out.is).below G.out (fun b h => h))
     obtain ⟨Q0, hQ0⟩ : ∃ Q : Nat → Prop, (fun b => b < wB.heap.size) = Q := ⟨_, rfl⟩
     have HQ0 : Hid (∀ b, Q0 b → b < wB.heap.size) := Lib.hid (fun b h => by rw [← hQ0] at h; exact h)
     rw [hQ0] at T0
     clear hQ0
     go_upto_region 5 with fail
     clear TBc y0 y1 y2 y3
     go_cut [7, 8] (fun s7 s8 wx => ∃ (g h : Nat) (fa : Option Addr) (fn fc : Nat) (ga : Option Addr) (gn gc : Nat) (ja : Option Addr) (jn jc : Nat) (la : Option Addr) (ln lc : Nat), s7 = .pointer (some ⟨g, 0, none⟩) ∧ s8 = .pointer (some ⟨h, 0, none⟩) ∧ TxBox g p1 fa fn fc ga gn gc wx ∧ TxBox h p2 ja jn jc la ln lc wx ∧ Below u6.heap.size u6 wx)
     case first =>
      refine wp_region_held_drew (S := fun U => Below B0 u6 U ∧ (U.cell? ⟨w.heap.size, 0, none⟩ = some (.int .i64 t.node) ∧ U.cell? ⟨w.heap.size, 1, none⟩ = some (.int .i64 t.seq) ∧ U.cell? ⟨w.heap.size, 2, none⟩ = some (.slice da dn dc) ∧ U.cell? ⟨w.heap.size, 3, none⟩ = some (.slice ea en ec))) (by kernel_rfl) ?_ (fun hHeld => ?_)
      ·(exact KE.out _ (Below.refl _ _).drew)
      simp only [List.size_toArray, List.length_cons, List.length_nil, Nat.zero_add, Nat.reduceAdd]
      refine tkA (i := 0) (v := ?_) rfl (by kernel_rfl) (fun _ _ _ h => h) (Or.inl ⟨by rfl, ?_⟩) hHeld ?_
      rotate_left
      ·(intro w' hSw; (try dsimp only at hSw); go_simp; try with_reducible rfl)
      simp only [List.getElem_toArray, List.getElem_cons_zero, Act.put, List.setIfInBounds_toArray, List.set_cons_zero, List.set_cons_succ]
      refine tkA (i := 1) (v := ?_) rfl (by kernel_rfl) (fun _ _ _ h => h) (Or.inl ⟨by rfl, ?_⟩) hHeld ?_
      rotate_left
      ·(intro w' hSw; (try dsimp only at hSw); go_simp; try with_reducible rfl)
      simp only [List.getElem_toArray, List.getElem_cons_zero, List.getElem_cons_succ, Act.put, List.setIfInBounds_toArray, List.set_cons_zero, List.set_cons_succ]
      refine tkA (i := 3) (v := ?_) rfl (by kernel_rfl) (fun _ _ _ h => h) (Or.inl ⟨by rfl, ?_⟩) hHeld ?_
      rotate_left
      ·(intro w' hSw; (try dsimp only at hSw); go_simp; try with_reducible rfl)
      simp only [List.getElem_toArray, List.getElem_cons_zero, List.getElem_cons_succ, Act.put, List.setIfInBounds_toArray, List.set_cons_zero, List.set_cons_succ]
      refine tkA (i := 4) (v := ?_) rfl (by kernel_rfl) (fun _ _ _ h => h) (Or.inl ⟨by rfl, ?_⟩) hHeld ?_
      rotate_left
      ·(intro w' hSw; (try dsimp only at hSw); go_simp; try with_reducible rfl)
      simp only [List.getElem_toArray, List.getElem_cons_zero, List.getElem_cons_succ, Act.put, List.setIfInBounds_toArray, List.set_cons_zero, List.set_cons_succ]
      refine tkA (i := 6) (v := ?_) rfl (by kernel_rfl) (fun _ _ _ h => h) (Or.inl ⟨by rfl, ?_⟩) hHeld ?_
      rotate_left
      ·(intro w' hSw; (try dsimp only at hSw); go_simp; try with_reducible rfl)
      simp only [List.getElem_toArray, List.getElem_cons_zero, List.getElem_cons_succ, Act.put, List.setIfInBounds_toArray, List.set_cons_zero, List.set_cons_succ]
      skip
      refine wpAnyH_ready (rs := [2, 8, 9]) (by kernel_rfl) (by simp) ?_
      refine AllReadyH.cons rfl (fun K hK => ?_) (AllReadyH.cons rfl (fun K hK => ?_) (AllReadyH.cons rfl (fun K hK => ?_) AllReadyH.nil))
      ·go_simp
       refine (txonlyP (T0.out.below (hHeld.1.mono (Nat.le_of_eq HB0.out)) (fun b h => Nat.lt_of_lt_of_le (HQ0.out b h) GU.out)) (fun b h => Nat.lt_of_lt_of_le (HQ0.out b h) (Nat.le_trans GU.out hHeld.1.size)) (Sys.out.below (G.out.trans (hHeld.1.mono GB.out))) Mys.out.1 Mys.out.2 FX.out).mono ?_
       rintro e W1 ⟨v1, rfl, hr, hb⟩
       refine hK.out _ _ (KE.out _ (hHeld.1.trans (hb.mono (LE.out _ hHeld.1)))) (fun hHeld2 => ?_)
       clear hK K
       rw [HP1.out] at hr
       obtain ⟨Q1, R1, HQ1⟩ : ∃ Q : Nat → Prop, IsTxnIn Q W1 v1 p1 ∧ (∀ b, Q b → b < W1.heap.size) := ⟨_, hr, only_new (fun b h => Nat.lt_of_lt_of_le (HQ0.out b h) (Nat.le_trans GU.out hHeld.1.size)) hb.size⟩
       obtain ⟨fa1, fn1, fc1, ga1, gn1, gc1, hv1, R1x⟩ := R1.parts
       subst hv1
       replace R1 := R1x
       clear R1x hr
       replace hHeld := hHeld2
       clear hHeld2 hb
       refine wpAnyH_ready (rs := [5, 8, 9]) (by kernel_rfl) (by simp) ?_
       refine AllReadyH.cons rfl (fun K hK => ?_) (AllReadyH.cons rfl (fun K hK => ?_) (AllReadyH.cons rfl (fun K hK => ?_) AllReadyH.nil))
       ·go_simp
        refine (txonlyP (T0.out.below (hHeld.1.mono (Nat.le_of_eq HB0.out)) (fun b h => Nat.lt_of_lt_of_le (HQ0.out b h) GU.out)) (fun b h => Nat.lt_of_lt_of_le (HQ0.out b h) (Nat.le_trans GU.out hHeld.1.size)) (Sys.out.below (G.out.trans (hHeld.1.mono GB.out))) Mys.out.1 Mys.out.2 FX.out).mono ?_
        rintro e W2 ⟨v2, rfl, hr, hb⟩
        refine hK.out _ _ (KE.out _ (hHeld.1.trans (hb.mono (LE.out _ hHeld.1)))) (fun hHeld2 => ?_)
        clear hK K
        rw [HP1.out] at hr
        obtain ⟨Q2, R2, HQ2⟩ : ∃ Q : Nat → Prop, IsTxnIn Q W2 v2 p1 ∧ (∀ b, Q b → b < W2.heap.size) := ⟨_, hr, only_new (fun b h => Nat.lt_of_lt_of_le (HQ0.out b h) (Nat.le_trans GU.out hHeld.1.size)) hb.size⟩
        obtain ⟨fa2, fn2, fc2, ga2, gn2, gc2, hv2, R2x⟩ := R2.parts
        subst hv2
        replace R2 := R2x
        clear R2x hr
        replace R1 := R1.below hb HQ1
        replace HQ1 : ∀ b, Q1 b → b < W2.heap.size := fun b h => Nat.lt_of_lt_of_le (HQ1 b h) hb.size
        replace hHeld := hHeld2
        clear hHeld2 hb
        refine wpAnyH_ready (rs := [7, 8, 9]) (by kernel_rfl) (by simp) ?_
        refine AllReadyH.cons rfl (fun K hK => ?_) (AllReadyH.cons rfl (fun K hK => ?_) (AllReadyH.cons rfl (fun K hK => ?_) AllReadyH.nil))
        ·go_simp
         refine (txonlyP R2 HQ2 (Szs.out.below (G.out.trans (hHeld.1.mono GB.out))) Mzs.out.1 Mzs.out.2 FP1.out).mono ?_
         rintro e W3 ⟨v3, rfl, hr, hb⟩
         refine hK.out _ _ (KE.out _ (hHeld.1.trans (hb.mono (LE.out _ hHeld.1)))) (fun hHeld2 => ?_)
         clear hK K
         rw [HP2.out] at hr
         obtain ⟨Q3, R3, HQ3⟩ : ∃ Q : Nat → Prop, IsTxnIn Q W3 v3 p2 ∧ (∀ b, Q b → b < W3.heap.size) := ⟨_, hr, only_new HQ2 hb.size⟩
         obtain ⟨fa3, fn3, fc3, ga3, gn3, gc3, hv3, R3x⟩ := R3.parts
         subst hv3
         replace R3 := R3x
         clear R3x hr
         replace R1 := R1.below hb HQ1
         replace HQ1 : ∀ b, Q1 b → b < W3.heap.size := fun b h => Nat.lt_of_lt_of_le (HQ1 b h) hb.size
         replace R2 := R2.below hb HQ2
         replace HQ2 : ∀ b, Q2 b → b < W3.heap.size := fun b h => Nat.lt_of_lt_of_le (HQ2 b h) hb.size
         replace hHeld := hHeld2
         clear hHeld2 hb
         refine wpAnyH_ready (rs := [8, 9]) (by kernel_rfl) (by simp) ?_
         refine AllReadyH.cons rfl (fun K hK => ?_) (AllReadyH.cons rfl (fun K hK => ?_) AllReadyH.nil)
         ·go_simp
          refine hK.out _ _ (KE.out _ (hHeld.1.alloc (LE.out _ hHeld.1) _)) (fun hHeld2 => ?_)
          clear hK K
          have BX7 : (W3.alloc (.cells #[.int .i64 0, .int .i64 0, .slice none 0 0, .slice none 0 0] 26)).heap[W3.heap.size]? = some (.cells #[.int .i64 0, .int .i64 0, .slice none 0 0, .slice none 0 0] 26 (0, 0)) := heap_alloc_new W3 _
          have HG7 : W3.heap.size < (W3.alloc (.cells #[.int .i64 0, .int .i64 0, .slice none 0 0, .slice none 0 0] 26)).heap.size := by simp
          have hb : Below W3.heap.size W3 (W3.alloc (.cells #[.int .i64 0, .int .i64 0, .slice none 0 0, .slice none 0 0] 26)) := ((Below.refl _ _).alloc (Nat.le_refl _) _)
          have hgb : wB.heap.size ≤ W3.heap.size := Nat.le_trans GU.out hHeld.1.size
          have HGU7 : B0 ≤ W3.heap.size := LE.out _ hHeld.1
          have N71 : ¬ Q1 W3.heap.size := fun h => absurd (HQ1 _ h) (by omega)
          have N72 : ¬ Q2 W3.heap.size := fun h => absurd (HQ2 _ h) (by omega)
          have N73 : ¬ Q3 W3.heap.size := fun h => absurd (HQ3 _ h) (by omega)
          replace R1 := R1.below hb HQ1
          replace HQ1 : ∀ b, Q1 b → b < (W3.alloc (.cells #[.int .i64 0, .int .i64 0, .slice none 0 0, .slice none 0 0] 26)).heap.size := fun b h => Nat.lt_of_lt_of_le (HQ1 b h) hb.size
          replace R2 := R2.below hb HQ2
          replace HQ2 : ∀ b, Q2 b → b < (W3.alloc (.cells #[.int .i64 0, .int .i64 0, .slice none 0 0, .slice none 0 0] 26)).heap.size := fun b h => Nat.lt_of_lt_of_le (HQ2 b h) hb.size
          replace R3 := R3.below hb HQ3
          replace HQ3 : ∀ b, Q3 b → b < (W3.alloc (.cells #[.int .i64 0, .int .i64 0, .slice none 0 0, .slice none 0 0] 26)).heap.size := fun b h => Nat.lt_of_lt_of_le (HQ3 b h) hb.size
          generalize (W3.alloc (.cells #[.int .i64 0, .int .i64 0, .slice none 0 0, .slice none 0 0] 26)) = W4 at *
          obtain ⟨g7, hg7⟩ : ∃ g, W3.heap.size = g := ⟨_, rfl⟩
          rw [hg7] at BX7 HG7 HGU7 hgb N71 N72 N73 ⊢
          have HGB7 := hgb
          clear hb hgb hg7
          replace hHeld := hHeld2
          clear hHeld2
          refine wpAnyH_ready (rs := [9]) (by kernel_rfl) (by simp) ?_
          refine AllReadyH.cons rfl (fun K hK => ?_) AllReadyH.nil
          ·go_simp
           refine hK.out _ _ (KE.out _ (hHeld.1.alloc (LE.out _ hHeld.1) _)) (fun hHeld2 => ?_)
           clear hK K
           have BX8 : (W4.alloc (.cells #[.int .i64 0, .int .i64 0, .slice none 0 0, .slice none 0 0] 26)).heap[W4.heap.size]? = some (.cells #[.int .i64 0, .int .i64 0, .slice none 0 0, .slice none 0 0] 26 (0, 0)) := heap_alloc_new W4 _
           have HG8 : W4.heap.size < (W4.alloc (.cells #[.int .i64 0, .int .i64 0, .slice none 0 0, .slice none 0 0] 26)).heap.size := by simp
           have hb : Below W4.heap.size W4 (W4.alloc (.cells #[.int .i64 0, .int .i64 0, .slice none 0 0, .slice none 0 0] 26)) := ((Below.refl _ _).alloc (Nat.le_refl _) _)
           have hgb : wB.heap.size ≤ W4.heap.size := Nat.le_trans GU.out hHeld.1.size
           have HGU8 : B0 ≤ W4.heap.size := LE.out _ hHeld.1
           have N81 : ¬ Q1 W4.heap.size := fun h => absurd (HQ1 _ h) (by omega)
           have N82 : ¬ Q2 W4.heap.size := fun h => absurd (HQ2 _ h) (by omega)
           have N83 : ¬ Q3 W4.heap.size := fun h => absurd (HQ3 _ h) (by omega)
           have HNE : g7 ≠ W4.heap.size := by omega
           replace R1 := R1.below hb HQ1
           replace HQ1 : ∀ b, Q1 b → b < (W4.alloc (.cells #[.int .i64 0, .int .i64 0, .slice none 0 0, .slice none 0 0] 26)).heap.size := fun b h => Nat.lt_of_lt_of_le (HQ1 b h) hb.size
           replace R2 := R2.below hb HQ2
           replace HQ2 : ∀ b, Q2 b → b < (W4.alloc (.cells #[.int .i64 0, .int .i64 0, .slice none 0 0, .slice none 0 0] 26)).heap.size := fun b h => Nat.lt_of_lt_of_le (HQ2 b h) hb.size
           replace R3 := R3.below hb HQ3
           replace HQ3 : ∀ b, Q3 b → b < (W4.alloc (.cells #[.int .i64 0, .int .i64 0, .slice none 0 0, .slice none 0 0] 26)).heap.size := fun b h => Nat.lt_of_lt_of_le (HQ3 b h) hb.size
           replace BX7 := (hb.block g7 HG7).trans BX7
           replace HG7 : g7 < (W4.alloc (.cells #[.int .i64 0, .int .i64 0, .slice none 0 0, .slice none 0 0] 26)).heap.size := Nat.lt_of_lt_of_le HG7 hb.size
           generalize (W4.alloc (.cells #[.int .i64 0, .int .i64 0, .slice none 0 0, .slice none 0 0] 26)) = W5 at *
           obtain ⟨g8, hg8⟩ : ∃ g, W4.heap.size = g := ⟨_, rfl⟩
           rw [hg8] at BX8 HG8 HGU8 hgb N81 N82 N83 HNE ⊢
           have HGB8 := hgb
           clear hb hgb hg8
           replace hHeld := hHeld2
           clear hHeld2
           have hne : g7 ≠ g8 := by first | exact HNE | exact fun h => HNE h.symm
           obtain ⟨⟨c0, c1, c2, c3⟩, f0, f1, f2, f3⟩ := st4_cells BX7
           refine wpAnyH_ready (rs := [10]) (by kernel_rfl) (by simp) ?_
           refine AllReadyH.cons rfl (fun K hK => ?_) AllReadyH.nil
           go_simp
           refine hK.out _ _ (KE.out _ (st4_below hHeld.1 HGU7)) (fun hHeld2 => ?_)
           clear hK K c0 c1 c2 c3 f0 f1 f2 f3
           have BY : ((((W5.setCell ⟨g7, 0, none⟩ (.int .i64 p1.node)).setCell ⟨g7, 1, none⟩ (.int .i64 p1.seq)).setCell ⟨g7, 2, none⟩ (.slice fa1 fn1 fc1)).setCell ⟨g7, 3, none⟩ (.slice ga1 gn1 gc1)).heap[g7]? = _ := st4_block (v0 := .int .i64 p1.node) (v1 := .int .i64 p1.seq) (v2 := .slice fa1 fn1 fc1) (v3 := .slice ga1 gn1 gc1) BX7
           have HO : ∀ b, b ≠ g7 → ((((W5.setCell ⟨g7, 0, none⟩ (.int .i64 p1.node)).setCell ⟨g7, 1, none⟩ (.int .i64 p1.seq)).setCell ⟨g7, 2, none⟩ (.slice fa1 fn1 fc1)).setCell ⟨g7, 3, none⟩ (.slice ga1 gn1 gc1)).heap[b]? = W5.heap[b]? := fun b h => st4_other W5 g7 _ _ _ _ b h
           have HZ : ((((W5.setCell ⟨g7, 0, none⟩ (.int .i64 p1.node)).setCell ⟨g7, 1, none⟩ (.int .i64 p1.seq)).setCell ⟨g7, 2, none⟩ (.slice fa1 fn1 fc1)).setCell ⟨g7, 3, none⟩ (.slice ga1 gn1 gc1)).heap.size = W5.heap.size := st4_size W5 g7 _ _ _ _
           generalize ((((W5.setCell ⟨g7, 0, none⟩ (.int .i64 p1.node)).setCell ⟨g7, 1, none⟩ (.int .i64 p1.seq)).setCell ⟨g7, 2, none⟩ (.slice fa1 fn1 fc1)).setCell ⟨g7, 3, none⟩ (.slice ga1 gn1 gc1)) = WX at *
           replace BX8 := (HO g8 (Ne.symm hne)).trans BX8
           replace BX7 := BY
           replace R1 := R1.agree fun b h => HO b (fun e => N71 (e ▸ h))
           replace HQ1 : ∀ b, Q1 b → b < WX.heap.size := fun b h => by rw [HZ]; exact HQ1 b h
           replace R3 := R3.agree fun b h => HO b (fun e => N73 (e ▸ h))
           replace HQ3 : ∀ b, Q3 b → b < WX.heap.size := fun b h => by rw [HZ]; exact HQ3 b h
           clear BY HO HZ
           replace hHeld := hHeld2
           clear hHeld2
           obtain ⟨⟨c0, c1, c2, c3⟩, f0, f1, f2, f3⟩ := st4_cells BX8
           refine wpAnyH_ready (rs := [11]) (by kernel_rfl) (by simp) ?_
           refine AllReadyH.cons rfl (fun K hK => ?_) AllReadyH.nil
           go_simp
           refine hK.out _ _ (KE.out _ (st4_below hHeld.1 HGU8)) (fun hHeld2 => ?_)
           clear hK K c0 c1 c2 c3 f0 f1 f2 f3
           have BY : ((((WX.setCell ⟨g8, 0, none⟩ (.int .i64 p2.node)).setCell ⟨g8, 1, none⟩ (.int .i64 p2.seq)).setCell ⟨g8, 2, none⟩ (.slice fa3 fn3 fc3)).setCell ⟨g8, 3, none⟩ (.slice ga3 gn3 gc3)).heap[g8]? = _ := st4_block (v0 := .int .i64 p2.node) (v1 := .int .i64 p2.seq) (v2 := .slice fa3 fn3 fc3) (v3 := .slice ga3 gn3 gc3) BX8
           have HO : ∀ b, b ≠ g8 → ((((WX.setCell ⟨g8, 0, none⟩ (.int .i64 p2.node)).setCell ⟨g8, 1, none⟩ (.int .i64 p2.seq)).setCell ⟨g8, 2, none⟩ (.slice fa3 fn3 fc3)).setCell ⟨g8, 3, none⟩ (.slice ga3 gn3 gc3)).heap[b]? = WX.heap[b]? := fun b h => st4_other WX g8 _ _ _ _ b h
           have HZ : ((((WX.setCell ⟨g8, 0, none⟩ (.int .i64 p2.node)).setCell ⟨g8, 1, none⟩ (.int .i64 p2.seq)).setCell ⟨g8, 2, none⟩ (.slice fa3 fn3 fc3)).setCell ⟨g8, 3, none⟩ (.slice ga3 gn3 gc3)).heap.size = WX.heap.size := st4_size WX g8 _ _ _ _
           generalize ((((WX.setCell ⟨g8, 0, none⟩ (.int .i64 p2.node)).setCell ⟨g8, 1, none⟩ (.int .i64 p2.seq)).setCell ⟨g8, 2, none⟩ (.slice fa3 fn3 fc3)).setCell ⟨g8, 3, none⟩ (.slice ga3 gn3 gc3)) = WY at *
           replace BX7 := (HO g7 hne).trans BX7
           replace BX8 := BY
           replace R1 := R1.agree fun b h => HO b (fun e => N81 (e ▸ h))
           replace HQ1 : ∀ b, Q1 b → b < WY.heap.size := fun b h => by rw [HZ]; exact HQ1 b h
           replace R3 := R3.agree fun b h => HO b (fun e => N83 (e ▸ h))
           replace HQ3 : ∀ b, Q3 b → b < WY.heap.size := fun b h => by rw [HZ]; exact HQ3 b h
           clear BY HO HZ
           replace hHeld := hHeld2
           clear hHeld2
           refine wpAnyH_done (by kernel_rfl) ?_ _
           go_wp2_with fail
           go_meet
           obtain ⟨A7, -⟩ := st4_cells BX7
           obtain ⟨A8, -⟩ := st4_cells BX8
           obtain ⟨d1, e1, hv1, i1, j1⟩ := R1.is HQ1
           obtain ⟨d3, e3, hv3, i3, j3⟩ := R3.is HQ3
           simp only [Value.agg.injEq, Array.mk.injEq, List.cons.injEq, and_true, true_and] at hv1 hv3
           obtain ⟨rfl, rfl⟩ := hv1
           obtain ⟨rfl, rfl⟩ := hv3
           exact ⟨g7, g8, _, _, _, _, _, _, _, _, _, _, _, _, rfl, rfl, ⟨A7, i1, j1⟩, ⟨A8, i3, j3⟩, hHeld.1.mono (Nat.le_of_eq HB0.out)⟩
         ·go_simp
          refine hK.out _ _ (KE.out _ (hHeld.1.alloc (LE.out _ hHeld.1) _)) (fun hHeld2 => ?_)
          clear hK K
          have BX8 : (W3.alloc (.cells #[.int .i64 0, .int .i64 0, .slice none 0 0, .slice none 0 0] 26)).heap[W3.heap.size]? = some (.cells #[.int .i64 0, .int .i64 0, .slice none 0 0, .slice none 0 0] 26 (0, 0)) := heap_alloc_new W3 _
          have HG8 : W3.heap.size < (W3.alloc (.cells #[.int .i64 0, .int .i64 0, .slice none 0 0, .slice none 0 0] 26)).heap.size := by simp
          have hb : Below W3.heap.size W3 (W3.alloc (.cells #[.int .i64 0, .int .i64 0, .slice none 0 0, .slice none 0 0] 26)) := ((Below.refl _ _).alloc (Nat.le_refl _) _)
          have hgb : wB.heap.size ≤ W3.heap.size := Nat.le_trans GU.out hHeld.1.size
          have HGU8 : B0 ≤ W3.heap.size := LE.out _ hHeld.1
          have N81 : ¬ Q1 W3.heap.size := fun h => absurd (HQ1 _ h) (by omega)
          have N82 : ¬ Q2 W3.heap.size := fun h => absurd (HQ2 _ h) (by omega)
          have N83 : ¬ Q3 W3.heap.size := fun h => absurd (HQ3 _ h) (by omega)
          replace R1 := R1.below hb HQ1
          replace HQ1 : ∀ b, Q1 b → b < (W3.alloc (.cells #[.int .i64 0, .int .i64 0, .slice none 0 0, .slice none 0 0] 26)).heap.size := fun b h => Nat.lt_of_lt_of_le (HQ1 b h) hb.size
          replace R2 := R2.below hb HQ2
          replace HQ2 : ∀ b, Q2 b → b < (W3.alloc (.cells #[.int .i64 0, .int .i64 0, .slice none 0 0, .slice none 0 0] 26)).heap.size := fun b h => Nat.lt_of_lt_of_le (HQ2 b h) hb.size
          replace R3 := R3.below hb HQ3
          replace HQ3 : ∀ b, Q3 b → b < (W3.alloc (.cells #[.int .i64 0, .int .i64 0, .slice none 0 0, .slice none 0 0] 26)).heap.size := fun b h => Nat.lt_of_lt_of_le (HQ3 b h) hb.size
          generalize (W3.alloc (.cells #[.int .i64 0, .int .i64 0, .slice none 0 0, .slice none 0 0] 26)) = W6 at *
          obtain ⟨g8, hg8⟩ : ∃ g, W3.heap.size = g := ⟨_, rfl⟩
          rw [hg8] at BX8 HG8 HGU8 hgb N81 N82 N83 ⊢
          have HGB8 := hgb
          clear hb hgb hg8
          replace hHeld := hHeld2
          clear hHeld2
          refine wpAnyH_ready (rs := [8]) (by kernel_rfl) (by simp) ?_
          refine AllReadyH.cons rfl (fun K hK => ?_) AllReadyH.nil
          ·go_simp
           refine hK.out _ _ (KE.out _ (hHeld.1.alloc (LE.out _ hHeld.1) _)) (fun hHeld2 => ?_)
           clear hK K
           have BX7 : (W6.alloc (.cells #[.int .i64 0, .int .i64 0, .slice none 0 0, .slice none 0 0] 26)).heap[W6.heap.size]? = some (.cells #[.int .i64 0, .int .i64 0, .slice none 0 0, .slice none 0 0] 26 (0, 0)) := heap_alloc_new W6 _
           have HG7 : W6.heap.size < (W6.alloc (.cells #[.int .i64 0, .int .i64 0, .slice none 0 0, .slice none 0 0] 26)).heap.size := by simp
           have hb : Below W6.heap.size W6 (W6.alloc (.cells #[.int .i64 0, .int .i64 0, .slice none 0 0, .slice none 0 0] 26)) := ((Below.refl _ _).alloc (Nat.le_refl _) _)
           have hgb : wB.heap.size ≤ W6.heap.size := Nat.le_trans GU.out hHeld.1.size
           have HGU7 : B0 ≤ W6.heap.size := LE.out _ hHeld.1
           have N71 : ¬ Q1 W6.heap.size := fun h => absurd (HQ1 _ h) (by omega)
           have N72 : ¬ Q2 W6.heap.size := fun h => absurd (HQ2 _ h) (by omega)
           have N73 : ¬ Q3 W6.heap.size := fun h => absurd (HQ3 _ h) (by omega)
           have HNE : g8 ≠ W6.heap.size := by omega
           replace R1 := R1.below hb HQ1
           replace HQ1 : ∀ b, Q1 b → b < (W6.alloc (.cells #[.int .i64 0, .int .i64 0, .slice none 0 0, .slice none 0 0] 26)).heap.size := fun b h => Nat.lt_of_lt_of_le (HQ1 b h) hb.size
           replace R2 := R2.below hb HQ2
           replace HQ2 : ∀ b, Q2 b → b < (W6.alloc (.cells #[.int .i64 0, .int .i64 0, .slice none 0 0, .slice none 0 0] 26)).heap.size := fun b h => Nat.lt_of_lt_of_le (HQ2 b h) hb.size
           replace R3 := R3.below hb HQ3
           replace HQ3 : ∀ b, Q3 b → b < (W6.alloc (.cells #[.int .i64 0, .int .i64 0, .slice none 0 0, .slice none 0 0] 26)).heap.size := fun b h => Nat.lt_of_lt_of_le (HQ3 b h) hb.size
           replace BX8 := (hb.block g8 HG8).trans BX8
           replace HG8 : g8 < (W6.alloc (.cells #[.int .i64 0, .int .i64 0, .slice none 0 0, .slice none 0 0] 26)).heap.size := Nat.lt_of_lt_of_le HG8 hb.size
           generalize (W6.alloc (.cells #[.int .i64 0, .int .i64 0, .slice none 0 0, .slice none 0 0] 26)) = W7 at *
           obtain ⟨g7, hg7⟩ : ∃ g, W6.heap.size = g := ⟨_, rfl⟩
           rw [hg7] at BX7 HG7 HGU7 hgb N71 N72 N73 HNE ⊢
           have HGB7 := hgb
           clear hb hgb hg7
           replace hHeld := hHeld2
           clear hHeld2
           have hne : g7 ≠ g8 := by first | exact HNE | exact fun h => HNE h.symm
           obtain ⟨⟨c0, c1, c2, c3⟩, f0, f1, f2, f3⟩ := st4_cells BX7
           refine wpAnyH_ready (rs := [10]) (by kernel_rfl) (by simp) ?_
           refine AllReadyH.cons rfl (fun K hK => ?_) AllReadyH.nil
           go_simp
           refine hK.out _ _ (KE.out _ (st4_below hHeld.1 HGU7)) (fun hHeld2 => ?_)
           clear hK K c0 c1 c2 c3 f0 f1 f2 f3
           have BY : ((((W7.setCell ⟨g7, 0, none⟩ (.int .i64 p1.node)).setCell ⟨g7, 1, none⟩ (.int .i64 p1.seq)).setCell ⟨g7, 2, none⟩ (.slice fa1 fn1 fc1)).setCell ⟨g7, 3, none⟩ (.slice ga1 gn1 gc1)).heap[g7]? = _ := st4_block (v0 := .int .i64 p1.node) (v1 := .int .i64 p1.seq) (v2 := .slice fa1 fn1 fc1) (v3 := .slice ga1 gn1 gc1) BX7
           have HO : ∀ b, b ≠ g7 → ((((W7.setCell ⟨g7, 0, none⟩ (.int .i64 p1.node)).setCell ⟨g7, 1, none⟩ (.int .i64 p1.seq)).setCell ⟨g7, 2, none⟩ (.slice fa1 fn1 fc1)).setCell ⟨g7, 3, none⟩ (.slice ga1 gn1 gc1)).heap[b]? = W7.heap[b]? := fun b h => st4_other W7 g7 _ _ _ _ b h
           have HZ : ((((W7.setCell ⟨g7, 0, none⟩ (.int .i64 p1.node)).setCell ⟨g7, 1, none⟩ (.int .i64 p1.seq)).setCell ⟨g7, 2, none⟩ (.slice fa1 fn1 fc1)).setCell ⟨g7, 3, none⟩ (.slice ga1 gn1 gc1)).heap.size = W7.heap.size := st4_size W7 g7 _ _ _ _
           generalize ((((W7.setCell ⟨g7, 0, none⟩ (.int .i64 p1.node)).setCell ⟨g7, 1, none⟩ (.int .i64 p1.seq)).setCell ⟨g7, 2, none⟩ (.slice fa1 fn1 fc1)).setCell ⟨g7, 3, none⟩ (.slice ga1 gn1 gc1)) = WX at *
           replace BX8 := (HO g8 (Ne.symm hne)).trans BX8
           replace BX7 := BY
           replace R1 := R1.agree fun b h => HO b (fun e => N71 (e ▸ h))
           replace HQ1 : ∀ b, Q1 b → b < WX.heap.size := fun b h => by rw [HZ]; exact HQ1 b h
           replace R3 := R3.agree fun b h => HO b (fun e => N73 (e ▸ h))
           replace HQ3 : ∀ b, Q3 b → b < WX.heap.size := fun b h => by rw [HZ]; exact HQ3 b h
           clear BY HO HZ
           replace hHeld := hHeld2
           clear hHeld2
           obtain ⟨⟨c0, c1, c2, c3⟩, f0, f1, f2, f3⟩ := st4_cells BX8
           refine wpAnyH_ready (rs := [11]) (by kernel_rfl) (by simp) ?_
           refine AllReadyH.cons rfl (fun K hK => ?_) AllReadyH.nil
           go_simp
           refine hK.out _ _ (KE.out _ (st4_below hHeld.1 HGU8)) (fun hHeld2 => ?_)
           clear hK K c0 c1 c2 c3 f0 f1 f2 f3
           have BY : ((((WX.setCell ⟨g8, 0, none⟩ (.int .i64 p2.node)).setCell ⟨g8, 1, none⟩ (.int .i64 p2.seq)).setCell ⟨g8, 2, none⟩ (.slice fa3 fn3 fc3)).setCell ⟨g8, 3, none⟩ (.slice ga3 gn3 gc3)).heap[g8]? = _ := st4_block (v0 := .int .i64 p2.node) (v1 := .int .i64 p2.seq) (v2 := .slice fa3 fn3 fc3) (v3 := .slice ga3 gn3 gc3) BX8
           have HO : ∀ b, b ≠ g8 → ((((WX.setCell ⟨g8, 0, none⟩ (.int .i64 p2.node)).setCell ⟨g8, 1, none⟩ (.int .i64 p2.seq)).setCell ⟨g8, 2, none⟩ (.slice fa3 fn3 fc3)).setCell ⟨g8, 3, none⟩ (.slice ga3 gn3 gc3)).heap[b]? = WX.heap[b]? := fun b h => st4_other WX g8 _ _ _ _ b h
           have HZ : ((((WX.setCell ⟨g8, 0, none⟩ (.int .i64 p2.node)).setCell ⟨g8, 1, none⟩ (.int .i64 p2.seq)).setCell ⟨g8, 2, none⟩ (.slice fa3 fn3 fc3)).setCell ⟨g8, 3, none⟩ (.slice ga3 gn3 gc3)).heap.size = WX.heap.size := st4_size WX g8 _ _ _ _
           generalize ((((WX.setCell ⟨g8, 0, none⟩ (.int .i64 p2.node)).setCell ⟨g8, 1, none⟩ (.int .i64 p2.seq)).setCell ⟨g8, 2, none⟩ (.slice fa3 fn3 fc3)).setCell ⟨g8, 3, none⟩ (.slice ga3 gn3 gc3)) = WY at *
           replace BX7 := (HO g7 hne).trans BX7
           replace BX8 := BY
           replace R1 := R1.agree fun b h => HO b (fun e => N81 (e ▸ h))
           replace HQ1 : ∀ b, Q1 b → b < WY.heap.size := fun b h => by rw [HZ]; exact HQ1 b h
           replace R3 := R3.agree fun b h => HO b (fun e => N83 (e ▸ h))
           replace HQ3 : ∀ b, Q3 b → b < WY.heap.size := fun b h => by rw [HZ]; exact HQ3 b h
           clear BY HO HZ
           replace hHeld := hHeld2
           clear hHeld2
           refine wpAnyH_done (by kernel_rfl) ?_ _
           go_wp2_with fail
           go_meet
           obtain ⟨A7, -⟩ := st4_cells BX7
           obtain ⟨A8, -⟩ := st4_cells BX8
           obtain ⟨d1, e1, hv1, i1, j1⟩ := R1.is HQ1
           obtain ⟨d3, e3, hv3, i3, j3⟩ := R3.is HQ3
           simp only [Value.agg.injEq, Array.mk.injEq, List.cons.injEq, and_true, true_and] at hv1 hv3
           obtain ⟨rfl, rfl⟩ := hv1
           obtain ⟨rfl, rfl⟩ := hv3
           exact ⟨g7, g8, _, _, _, _, _, _, _, _, _, _, _, _, rfl, rfl, ⟨A7, i1, j1⟩, ⟨A8, i3, j3⟩, hHeld.1.mono (Nat.le_of_eq HB0.out)⟩
        ·go_simp
         refine hK.out _ _ (KE.out _ (hHeld.1.alloc (LE.out _ hHeld.1) _)) (fun hHeld2 => ?_)
         clear hK K
         have BX7 : (W2.alloc (.cells #[.int .i64 0, .int .i64 0, .slice none 0 0, .slice none 0 0] 26)).heap[W2.heap.size]? = some (.cells #[.int .i64 0, .int .i64 0, .slice none 0 0, .slice none 0 0] 26 (0, 0)) := heap_alloc_new W2 _
         have HG7 : W2.heap.size < (W2.alloc (.cells #[.int .i64 0, .int .i64 0, .slice none 0 0, .slice none 0 0] 26)).heap.size := by simp
         have hb : Below W2.heap.size W2 (W2.alloc (.cells #[.int .i64 0, .int .i64 0, .slice none 0 0, .slice none 0 0] 26)) := ((Below.refl _ _).alloc (Nat.le_refl _) _)
         have hgb : wB.heap.size ≤ W2.heap.size := Nat.le_trans GU.out hHeld.1.size
         have HGU7 : B0 ≤ W2.heap.size := LE.out _ hHeld.1
         have N71 : ¬ Q1 W2.heap.size := fun h => absurd (HQ1 _ h) (by omega)
         have N72 : ¬ Q2 W2.heap.size := fun h => absurd (HQ2 _ h) (by omega)
         replace R1 := R1.below hb HQ1
         replace HQ1 : ∀ b, Q1 b → b < (W2.alloc (.cells #[.int .i64 0, .int .i64 0, .slice none 0 0, .slice none 0 0] 26)).heap.size := fun b h => Nat.lt_of_lt_of_le (HQ1 b h) hb.size
         replace R2 := R2.below hb HQ2
         replace HQ2 : ∀ b, Q2 b → b < (W2.alloc (.cells #[.int .i64 0, .int .i64 0, .slice none 0 0, .slice none 0 0] 26)).heap.size := fun b h => Nat.lt_of_lt_of_le (HQ2 b h) hb.size
         generalize (W2.alloc (.cells #[.int .i64 0, .int .i64 0, .slice none 0 0, .slice none 0 0] 26)) = W8 at *
         obtain ⟨g7, hg7⟩ : ∃ g, W2.heap.size = g := ⟨_, rfl⟩
         rw [hg7] at BX7 HG7 HGU7 hgb N71 N72 ⊢
         have HGB7 := hgb
         clear hb hgb hg7
         replace hHeld := hHeld2
         clear hHeld2
         refine wpAnyH_ready (rs := [7, 9]) (by kernel_rfl) (by simp) ?_
         refine AllReadyH.cons rfl (fun K hK => ?_) (AllReadyH.cons rfl (fun K hK => ?_) AllReadyH.nil)
         ·go_simp
          refine (txonlyP R2 HQ2 (Szs.out.below (G.out.trans (hHeld.1.mono GB.out))) Mzs.out.1 Mzs.out.2 FP1.out).mono ?_
          rintro e W9 ⟨v3, rfl, hr, hb⟩
          refine hK.out _ _ (KE.out _ (hHeld.1.trans (hb.mono (LE.out _ hHeld.1)))) (fun hHeld2 => ?_)
          clear hK K
          rw [HP2.out] at hr
          obtain ⟨Q3, R3, HQ3, N73⟩ : ∃ Q : Nat → Prop, IsTxnIn Q W9 v3 p2 ∧ (∀ b, Q b → b < W9.heap.size) ∧ ¬ Q g7 := ⟨_, hr, only_new HQ2 hb.size, only_not HG7 N72⟩
          obtain ⟨fa3, fn3, fc3, ga3, gn3, gc3, hv3, R3x⟩ := R3.parts
          subst hv3
          replace R3 := R3x
          clear R3x hr
          replace R1 := R1.below hb HQ1
          replace HQ1 : ∀ b, Q1 b → b < W9.heap.size := fun b h => Nat.lt_of_lt_of_le (HQ1 b h) hb.size
          replace R2 := R2.below hb HQ2
          replace HQ2 : ∀ b, Q2 b → b < W9.heap.size := fun b h => Nat.lt_of_lt_of_le (HQ2 b h) hb.size
          replace BX7 := (hb.block g7 HG7).trans BX7
          replace HG7 : g7 < W9.heap.size := Nat.lt_of_lt_of_le HG7 hb.size
          replace hHeld := hHeld2
          clear hHeld2 hb
          refine wpAnyH_ready (rs := [9]) (by kernel_rfl) (by simp) ?_
          refine AllReadyH.cons rfl (fun K hK => ?_) AllReadyH.nil
          ·go_simp
           refine hK.out _ _ (KE.out _ (hHeld.1.alloc (LE.out _ hHeld.1) _)) (fun hHeld2 => ?_)
           clear hK K
           have BX8 : (W9.alloc (.cells #[.int .i64 0, .int .i64 0, .slice none 0 0, .slice none 0 0] 26)).heap[W9.heap.size]? = some (.cells #[.int .i64 0, .int .i64 0, .slice none 0 0, .slice none 0 0] 26 (0, 0)) := heap_alloc_new W9 _
           have HG8 : W9.heap.size < (W9.alloc (.cells #[.int .i64 0, .int .i64 0, .slice none 0 0, .slice none 0 0] 26)).heap.size := by simp
           have hb : Below W9.heap.size W9 (W9.alloc (.cells #[.int .i64 0, .int .i64 0, .slice none 0 0, .slice none 0 0] 26)) := ((Below.refl _ _).alloc (Nat.le_refl _) _)
           have hgb : wB.heap.size ≤ W9.heap.size := Nat.le_trans GU.out hHeld.1.size
           have HGU8 : B0 ≤ W9.heap.size := LE.out _ hHeld.1
           have N81 : ¬ Q1 W9.heap.size := fun h => absurd (HQ1 _ h) (by omega)
           have N82 : ¬ Q2 W9.heap.size := fun h => absurd (HQ2 _ h) (by omega)
           have N83 : ¬ Q3 W9.heap.size := fun h => absurd (HQ3 _ h) (by omega)
           have HNE : g7 ≠ W9.heap.size := by omega
           replace R1 := R1.below hb HQ1
           replace HQ1 : ∀ b, Q1 b → b < (W9.alloc (.cells #[.int .i64 0, .int .i64 0, .slice none 0 0, .slice none 0 0] 26)).heap.size := fun b h => Nat.lt_of_lt_of_le (HQ1 b h) hb.size
           replace R2 := R2.below hb HQ2
           replace HQ2 : ∀ b, Q2 b → b < (W9.alloc (.cells #[.int .i64 0, .int .i64 0, .slice none 0 0, .slice none 0 0] 26)).heap.size := fun b h => Nat.lt_of_lt_of_le (HQ2 b h) hb.size
           replace R3 := R3.below hb HQ3
           replace HQ3 : ∀ b, Q3 b → b < (W9.alloc (.cells #[.int .i64 0, .int .i64 0, .slice none 0 0, .slice none 0 0] 26)).heap.size := fun b h => Nat.lt_of_lt_of_le (HQ3 b h) hb.size
           replace BX7 := (hb.block g7 HG7).trans BX7
           replace HG7 : g7 < (W9.alloc (.cells #[.int .i64 0, .int .i64 0, .slice none 0 0, .slice none 0 0] 26)).heap.size := Nat.lt_of_lt_of_le HG7 hb.size
           generalize (W9.alloc (.cells #[.int .i64 0, .int .i64 0, .slice none 0 0, .slice none 0 0] 26)) = W10 at *
           obtain ⟨g8, hg8⟩ : ∃ g, W9.heap.size = g := ⟨_, rfl⟩
           rw [hg8] at BX8 HG8 HGU8 hgb N81 N82 N83 HNE ⊢
           have HGB8 := hgb
           clear hb hgb hg8
           replace hHeld := hHeld2
           clear hHeld2
           have hne : g7 ≠ g8 := by first | exact HNE | exact fun h => HNE h.symm
           obtain ⟨⟨c0, c1, c2, c3⟩, f0, f1, f2, f3⟩ := st4_cells BX7
           refine wpAnyH_ready (rs := [10]) (by kernel_rfl) (by simp) ?_
           refine AllReadyH.cons rfl (fun K hK => ?_) AllReadyH.nil
           go_simp
           refine hK.out _ _ (KE.out _ (st4_below hHeld.1 HGU7)) (fun hHeld2 => ?_)
           clear hK K c0 c1 c2 c3 f0 f1 f2 f3
           have BY : ((((W10.setCell ⟨g7, 0, none⟩ (.int .i64 p1.node)).setCell ⟨g7, 1, none⟩ (.int .i64 p1.seq)).setCell ⟨g7, 2, none⟩ (.slice fa1 fn1 fc1)).setCell ⟨g7, 3, none⟩ (.slice ga1 gn1 gc1)).heap[g7]? = _ := st4_block (v0 := .int .i64 p1.node) (v1 := .int .i64 p1.seq) (v2 := .slice fa1 fn1 fc1) (v3 := .slice ga1 gn1 gc1) BX7
           have HO : ∀ b, b ≠ g7 → ((((W10.setCell ⟨g7, 0, none⟩ (.int .i64 p1.node)).setCell ⟨g7, 1, none⟩ (.int .i64 p1.seq)).setCell ⟨g7, 2, none⟩ (.slice fa1 fn1 fc1)).setCell ⟨g7, 3, none⟩ (.slice ga1 gn1 gc1)).heap[b]? = W10.heap[b]? := fun b h => st4_other W10 g7 _ _ _ _ b h
           have HZ : ((((W10.setCell ⟨g7, 0, none⟩ (.int .i64 p1.node)).setCell ⟨g7, 1, none⟩ (.int .i64 p1.seq)).setCell ⟨g7, 2, none⟩ (.slice fa1 fn1 fc1)).setCell ⟨g7, 3, none⟩ (.slice ga1 gn1 gc1)).heap.size = W10.heap.size := st4_size W10 g7 _ _ _ _
           generalize ((((W10.setCell ⟨g7, 0, none⟩ (.int .i64 p1.node)).setCell ⟨g7, 1, none⟩ (.int .i64 p1.seq)).setCell ⟨g7, 2, none⟩ (.slice fa1 fn1 fc1)).setCell ⟨g7, 3, none⟩ (.slice ga1 gn1 gc1)) = WX at *
           replace BX8 := (HO g8 (Ne.symm hne)).trans BX8
           replace BX7 := BY
           replace R1 := R1.agree fun b h => HO b (fun e => N71 (e ▸ h))
           replace HQ1 : ∀ b, Q1 b → b < WX.heap.size := fun b h => by rw [HZ]; exact HQ1 b h
           replace R3 := R3.agree fun b h => HO b (fun e => N73 (e ▸ h))
           replace HQ3 : ∀ b, Q3 b → b < WX.heap.size := fun b h => by rw [HZ]; exact HQ3 b h
           clear BY HO HZ
           replace hHeld := hHeld2
           clear hHeld2
           obtain ⟨⟨c0, c1, c2, c3⟩, f0, f1, f2, f3⟩ := st4_cells BX8
           refine wpAnyH_ready (rs := [11]) (by kernel_rfl) (by simp) ?_
           refine AllReadyH.cons rfl (fun K hK => ?_) AllReadyH.nil
           go_simp
           refine hK.out _ _ (KE.out _ (st4_below hHeld.1 HGU8)) (fun hHeld2 => ?_)
           clear hK K c0 c1 c2 c3 f0 f1 f2 f3
           have BY : ((((WX.setCell ⟨g8, 0, none⟩ (.int .i64 p2.node)).setCell ⟨g8, 1, none⟩ (.int .i64 p2.seq)).setCell ⟨g8, 2, none⟩ (.slice fa3 fn3 fc3)).setCell ⟨g8, 3, none⟩ (.slice ga3 gn3 gc3)).heap[g8]? = _ := st4_block (v0 := .int .i64 p2.node) (v1 := .int .i64 p2.seq) (v2 := .slice fa3 fn3 fc3) (v3 := .slice ga3 gn3 gc3) BX8
           have HO : ∀ b, b ≠ g8 → ((((WX.setCell ⟨g8, 0, none⟩ (.int .i64 p2.node)).setCell ⟨g8, 1, none⟩ (.int .i64 p2.seq)).setCell ⟨g8, 2, none⟩ (.slice fa3 fn3 fc3)).setCell ⟨g8, 3, none⟩ (.slice ga3 gn3 gc3)).heap[b]? = WX.heap[b]? := fun b h => st4_other WX g8 _ _ _ _ b h
           have HZ : ((((WX.setCell ⟨g8, 0, none⟩ (.int .i64 p2.node)).setCell ⟨g8, 1, none⟩ (.int .i64 p2.seq)).setCell ⟨g8, 2, none⟩ (.slice fa3 fn3 fc3)).setCell ⟨g8, 3, none⟩ (.slice ga3 gn3 gc3)).heap.size = WX.heap.size := st4_size WX g8 _ _ _ _
           generalize ((((WX.setCell ⟨g8, 0, none⟩ (.int .i64 p2.node)).setCell ⟨g8, 1, none⟩ (.int .i64 p2.seq)).setCell ⟨g8, 2, none⟩ (.slice fa3 fn3 fc3)).setCell ⟨g8, 3, none⟩ (.slice ga3 gn3 gc3)) = WY at *
           replace BX7 := (HO g7 hne).trans BX7
           replace BX8 := BY
           replace R1 := R1.agree fun b h => HO b (fun e => N81 (e ▸ h))
           replace HQ1 : ∀ b, Q1 b → b < WY.heap.size := fun b h => by rw [HZ]; exact HQ1 b h
           replace R3 := R3.agree fun b h => HO b (fun e => N83 (e ▸ h))
           replace HQ3 : ∀ b, Q3 b → b < WY.heap.size := fun b h => by rw [HZ]; exact HQ3 b h
           clear BY HO HZ
           replace hHeld := hHeld2
           clear hHeld2
           refine wpAnyH_done (by kernel_rfl) ?_ _
           go_wp2_with fail
           go_meet
           obtain ⟨A7, -⟩ := st4_cells BX7
           obtain ⟨A8, -⟩ := st4_cells BX8
           obtain ⟨d1, e1, hv1, i1, j1⟩ := R1.is HQ1
           obtain ⟨d3, e3, hv3, i3, j3⟩ := R3.is HQ3
           simp only [Value.agg.injEq, Array.mk.injEq, List.cons.injEq, and_true, true_and] at hv1 hv3
           obtain ⟨rfl, rfl⟩ := hv1
           obtain ⟨rfl, rfl⟩ := hv3
           exact ⟨g7, g8, _, _, _, _, _, _, _, _, _, _, _, _, rfl, rfl, ⟨A7, i1, j1⟩, ⟨A8, i3, j3⟩, hHeld.1.mono (Nat.le_of_eq HB0.out)⟩
         ·go_simp
          refine hK.out _ _ (KE.out _ (hHeld.1.alloc (LE.out _ hHeld.1) _)) (fun hHeld2 => ?_)
          clear hK K
          have BX8 : (W8.alloc (.cells #[.int .i64 0, .int .i64 0, .slice none 0 0, .slice none 0 0] 26)).heap[W8.heap.size]? = some (.cells #[.int .i64 0, .int .i64 0, .slice none 0 0, .slice none 0 0] 26 (0, 0)) := heap_alloc_new W8 _
          have HG8 : W8.heap.size < (W8.alloc (.cells #[.int .i64 0, .int .i64 0, .slice none 0 0, .slice none 0 0] 26)).heap.size := by simp
          have hb : Below W8.heap.size W8 (W8.alloc (.cells #[.int .i64 0, .int .i64 0, .slice none 0 0, .slice none 0 0] 26)) := ((Below.refl _ _).alloc (Nat.le_refl _) _)
          have hgb : wB.heap.size ≤ W8.heap.size := Nat.le_trans GU.out hHeld.1.size
          have HGU8 : B0 ≤ W8.heap.size := LE.out _ hHeld.1
          have N81 : ¬ Q1 W8.heap.size := fun h => absurd (HQ1 _ h) (by omega)
          have N82 : ¬ Q2 W8.heap.size := fun h => absurd (HQ2 _ h) (by omega)
          have HNE : g7 ≠ W8.heap.size := by omega
          replace R1 := R1.below hb HQ1
          replace HQ1 : ∀ b, Q1 b → b < (W8.alloc (.cells #[.int .i64 0, .int .i64 0, .slice none 0 0, .slice none 0 0] 26)).heap.size := fun b h => Nat.lt_of_lt_of_le (HQ1 b h) hb.size
          replace R2 := R2.below hb HQ2
          replace HQ2 : ∀ b, Q2 b → b < (W8.alloc (.cells #[.int .i64 0, .int .i64 0, .slice none 0 0, .slice none 0 0] 26)).heap.size := fun b h => Nat.lt_of_lt_of_le (HQ2 b h) hb.size
          replace BX7 := (hb.block g7 HG7).trans BX7
          replace HG7 : g7 < (W8.alloc (.cells #[.int .i64 0, .int .i64 0, .slice none 0 0, .slice none 0 0] 26)).heap.size := Nat.lt_of_lt_of_le HG7 hb.size
          generalize (W8.alloc (.cells #[.int .i64 0, .int .i64 0, .slice none 0 0, .slice none 0 0] 26)) = W11 at *
          obtain ⟨g8, hg8⟩ : ∃ g, W8.heap.size = g := ⟨_, rfl⟩
          rw [hg8] at BX8 HG8 HGU8 hgb N81 N82 HNE ⊢
          have HGB8 := hgb
          clear hb hgb hg8
          replace hHeld := hHeld2
          clear hHeld2
          refine wpAnyH_ready (rs := [7]) (by kernel_rfl) (by simp) ?_
          refine AllReadyH.cons rfl (fun K hK => ?_) AllReadyH.nil
          ·go_simp
           refine (txonlyP R2 HQ2 (Szs.out.below (G.out.trans (hHeld.1.mono GB.out))) Mzs.out.1 Mzs.out.2 FP1.out).mono ?_
           rintro e W12 ⟨v3, rfl, hr, hb⟩
           refine hK.out _ _ (KE.out _ (hHeld.1.trans (hb.mono (LE.out _ hHeld.1)))) (fun hHeld2 => ?_)
           clear hK K
           rw [HP2.out] at hr
           obtain ⟨Q3, R3, HQ3, N73, N83⟩ : ∃ Q : Nat → Prop, IsTxnIn Q W12 v3 p2 ∧ (∀ b, Q b → b < W12.heap.size) ∧ ¬ Q g7 ∧ ¬ Q g8 := ⟨_, hr, only_new HQ2 hb.size, only_not HG7 N72, only_not HG8 N82⟩
           obtain ⟨fa3, fn3, fc3, ga3, gn3, gc3, hv3, R3x⟩ := R3.parts
           subst hv3
           replace R3 := R3x
           clear R3x hr
           replace R1 := R1.below hb HQ1
           replace HQ1 : ∀ b, Q1 b → b < W12.heap.size := fun b h => Nat.lt_of_lt_of_le (HQ1 b h) hb.size
           replace R2 := R2.below hb HQ2
           replace HQ2 : ∀ b, Q2 b → b < W12.heap.size := fun b h => Nat.lt_of_lt_of_le (HQ2 b h) hb.size
           replace BX7 := (hb.block g7 HG7).trans BX7
           replace HG7 : g7 < W12.heap.size := Nat.lt_of_lt_of_le HG7 hb.size
           replace BX8 := (hb.block g8 HG8).trans BX8
           replace HG8 : g8 < W12.heap.size := Nat.lt_of_lt_of_le HG8 hb.size
           replace hHeld := hHeld2
           clear hHeld2 hb
           have hne : g7 ≠ g8 := by first | exact HNE | exact fun h => HNE h.symm
           obtain ⟨⟨c0, c1, c2, c3⟩, f0, f1, f2, f3⟩ := st4_cells BX7
           refine wpAnyH_ready (rs := [10]) (by kernel_rfl) (by simp) ?_
           refine AllReadyH.cons rfl (fun K hK => ?_) AllReadyH.nil
           go_simp
           refine hK.out _ _ (KE.out _ (st4_below hHeld.1 HGU7)) (fun hHeld2 => ?_)
           clear hK K c0 c1 c2 c3 f0 f1 f2 f3
           have BY : ((((W12.setCell ⟨g7, 0, none⟩ (.int .i64 p1.node)).setCell ⟨g7, 1, none⟩ (.int .i64 p1.seq)).setCell ⟨g7, 2, none⟩ (.slice fa1 fn1 fc1)).setCell ⟨g7, 3, none⟩ (.slice ga1 gn1 gc1)).heap[g7]? = _ := st4_block (v0 := .int .i64 p1.node) (v1 := .int .i64 p1.seq) (v2 := .slice fa1 fn1 fc1) (v3 := .slice ga1 gn1 gc1) BX7
           have HO : ∀ b, b ≠ g7 → ((((W12.setCell ⟨g7, 0, none⟩ (.int .i64 p1.node)).setCell ⟨g7, 1, none⟩ (.int .i64 p1.seq)).setCell ⟨g7, 2, none⟩ (.slice fa1 fn1 fc1)).setCell ⟨g7, 3, none⟩ (.slice ga1 gn1 gc1)).heap[b]? = W12.heap[b]? := fun b h => st4_other W12 g7 _ _ _ _ b h
           have HZ : ((((W12.setCell ⟨g7, 0, none⟩ (.int .i64 p1.node)).setCell ⟨g7, 1, none⟩ (.int .i64 p1.seq)).setCell ⟨g7, 2, none⟩ (.slice fa1 fn1 fc1)).setCell ⟨g7, 3, none⟩ (.slice ga1 gn1 gc1)).heap.size = W12.heap.size := st4_size W12 g7 _ _ _ _
           generalize ((((W12.setCell ⟨g7, 0, none⟩ (.int .i64 p1.node)).setCell ⟨g7, 1, none⟩ (.int .i64 p1.seq)).setCell ⟨g7, 2, none⟩ (.slice fa1 fn1 fc1)).setCell ⟨g7, 3, none⟩ (.slice ga1 gn1 gc1)) = WX at *
           replace BX8 := (HO g8 (Ne.symm hne)).trans BX8
           replace BX7 := BY
           replace R1 := R1.agree fun b h => HO b (fun e => N71 (e ▸ h))
           replace HQ1 : ∀ b, Q1 b → b < WX.heap.size := fun b h => by rw [HZ]; exact HQ1 b h
           replace R3 := R3.agree fun b h => HO b (fun e => N73 (e ▸ h))
           replace HQ3 : ∀ b, Q3 b → b < WX.heap.size := fun b h => by rw [HZ]; exact HQ3 b h
           clear BY HO HZ
           replace hHeld := hHeld2
           clear hHeld2
           obtain ⟨⟨c0, c1, c2, c3⟩, f0, f1, f2, f3⟩ := st4_cells BX8
           refine wpAnyH_ready (rs := [11]) (by kernel_rfl) (by simp) ?_
           refine AllReadyH.cons rfl (fun K hK => ?_) AllReadyH.nil
           go_simp
           refine hK.out _ _ (KE.out _ (st4_below hHeld.1 HGU8)) (fun hHeld2 => ?_)
           clear hK K c0 c1 c2 c3 f0 f1 f2 f3
           have BY : ((((WX.setCell ⟨g8, 0, none⟩ (.int .i64 p2.node)).setCell ⟨g8, 1, none⟩ (.int .i64 p2.seq)).setCell ⟨g8, 2, none⟩ (.slice fa3 fn3 fc3)).setCell ⟨g8, 3, none⟩ (.slice ga3 gn3 gc3)).heap[g8]? = _ := st4_block (v0 := .int .i64 p2.node) (v1 := .int .i64 p2.seq) (v2 := .slice fa3 fn3 fc3) (v3 := .slice ga3 gn3 gc3) BX8
           have HO : ∀ b, b ≠ g8 → ((((WX.setCell ⟨g8, 0, none⟩ (.int .i64 p2.node)).setCell ⟨g8, 1, none⟩ (.int .i64 p2.seq)).setCell ⟨g8, 2, none⟩ (.slice fa3 fn3 fc3)).setCell ⟨g8, 3, none⟩ (.slice ga3 gn3 gc3)).heap[b]? = WX.heap[b]? := fun b h => st4_other WX g8 _ _ _ _ b h
           have HZ : ((((WX.setCell ⟨g8, 0, none⟩ (.int .i64 p2.node)).setCell ⟨g8, 1, none⟩ (.int .i64 p2.seq)).setCell ⟨g8, 2, none⟩ (.slice fa3 fn3 fc3)).setCell ⟨g8, 3, none⟩ (.slice ga3 gn3 gc3)).heap.size = WX.heap.size := st4_size WX g8 _ _ _ _
           generalize ((((WX.setCell ⟨g8, 0, none⟩ (.int .i64 p2.node)).setCell ⟨g8, 1, none⟩ (.int .i64 p2.seq)).setCell ⟨g8, 2, none⟩ (.slice fa3 fn3 fc3)).setCell ⟨g8, 3, none⟩ (.slice ga3 gn3 gc3)) = WY at *
           replace BX7 := (HO g7 hne).trans BX7
           replace BX8 := BY
           replace R1 := R1.agree fun b h => HO b (fun e => N81 (e ▸ h))
           replace HQ1 : ∀ b, Q1 b → b < WY.heap.size := fun b h => by rw [HZ]; exact HQ1 b h
           replace R3 := R3.agree fun b h => HO b (fun e => N83 (e ▸ h))
           replace HQ3 : ∀ b, Q3 b → b < WY.heap.size := fun b h => by rw [HZ]; exact HQ3 b h
           clear BY HO HZ
           replace hHeld := hHeld2
           clear hHeld2
           refine wpAnyH_done (by kernel_rfl) ?_ _
           go_wp2_with fail
           go_meet
           obtain ⟨A7, -⟩ := st4_cells BX7
           obtain ⟨A8, -⟩ := st4_cells BX8
           obtain ⟨d1, e1, hv1, i1, j1⟩ := R1.is HQ1
           obtain ⟨d3, e3, hv3, i3, j3⟩ := R3.is HQ3
           simp only [Value.agg.injEq, Array.mk.injEq, List.cons.injEq, and_true, true_and] at hv1 hv3
           obtain ⟨rfl, rfl⟩ := hv1
           obtain ⟨rfl, rfl⟩ := hv3
           exact ⟨g7, g8, _, _, _, _, _, _, _, _, _, _, _, _, rfl, rfl, ⟨A7, i1, j1⟩, ⟨A8, i3, j3⟩, hHeld.1.mono (Nat.le_of_eq HB0.out)⟩
        ·go_simp
         refine hK.out _ _ (KE.out _ (hHeld.1.alloc (LE.out _ hHeld.1) _)) (fun hHeld2 => ?_)
         clear hK K
         have BX8 : (W2.alloc (.cells #[.int .i64 0, .int .i64 0, .slice none 0 0, .slice none 0 0] 26)).heap[W2.heap.size]? = some (.cells #[.int .i64 0, .int .i64 0, .slice none 0 0, .slice none 0 0] 26 (0, 0)) := heap_alloc_new W2 _
         have HG8 : W2.heap.size < (W2.alloc (.cells #[.int .i64 0, .int .i64 0, .slice none 0 0, .slice none 0 0] 26)).heap.size := by simp
         have hb : Below W2.heap.size W2 (W2.alloc (.cells #[.int .i64 0, .int .i64 0, .slice none 0 0, .slice none 0 0] 26)) := ((Below.refl _ _).alloc (Nat.le_refl _) _)
         have hgb : wB.heap.size ≤ W2.heap.size := Nat.le_trans GU.out hHeld.1.size
         have HGU8 : B0 ≤ W2.heap.size := LE.out _ hHeld.1
         have N81 : ¬ Q1 W2.heap.size := fun h => absurd (HQ1 _ h) (by omega)
         have N82 : ¬ Q2 W2.heap.size := fun h => absurd (HQ2 _ h) (by omega)
         replace R1 := R1.below hb HQ1
         replace HQ1 : ∀ b, Q1 b → b < (W2.alloc (.cells #[.int .i64 0, .int .i64 0, .slice none 0 0, .slice none 0 0] 26)).heap.size := fun b h => Nat.lt_of_lt_of_le (HQ1 b h) hb.size
         replace R2 := R2.below hb HQ2
         replace HQ2 : ∀ b, Q2 b → b < (W2.alloc (.cells #[.int .i64 0, .int .i64 0, .slice none 0 0, .slice none 0 0] 26)).heap.size := fun b h => Nat.lt_of_lt_of_le (HQ2 b h) hb.size
         generalize (W2.alloc (.cells #[.int .i64 0, .int .i64 0, .slice none 0 0, .slice none 0 0] 26)) = W13 at *
         obtain ⟨g8, hg8⟩ : ∃ g, W2.heap.size = g := ⟨_, rfl⟩
         rw [hg8] at BX8 HG8 HGU8 hgb N81 N82 ⊢
         have HGB8 := hgb
         clear hb hgb hg8
         replace hHeld := hHeld2
         clear hHeld2
         refine wpAnyH_ready (rs := [7, 8]) (by kernel_rfl) (by simp) ?_
         refine AllReadyH.cons rfl (fun K hK => ?_) (AllReadyH.cons rfl (fun K hK => ?_) AllReadyH.nil)
         ·go_simp
          refine (txonlyP R2 HQ2 (Szs.out.below (G.out.trans (hHeld.1.mono GB.out))) Mzs.out.1 Mzs.out.2 FP1.out).mono ?_
          rintro e W14 ⟨v3, rfl, hr, hb⟩
          refine hK.out _ _ (KE.out _ (hHeld.1.trans (hb.mono (LE.out _ hHeld.1)))) (fun hHeld2 => ?_)
          clear hK K
          rw [HP2.out] at hr
          obtain ⟨Q3, R3, HQ3, N83⟩ : ∃ Q : Nat → Prop, IsTxnIn Q W14 v3 p2 ∧ (∀ b, Q b → b < W14.heap.size) ∧ ¬ Q g8 := ⟨_, hr, only_new HQ2 hb.size, only_not HG8 N82⟩
          obtain ⟨fa3, fn3, fc3, ga3, gn3, gc3, hv3, R3x⟩ := R3.parts
          subst hv3
          replace R3 := R3x
          clear R3x hr
          replace R1 := R1.below hb HQ1
          replace HQ1 : ∀ b, Q1 b → b < W14.heap.size := fun b h => Nat.lt_of_lt_of_le (HQ1 b h) hb.size
          replace R2 := R2.below hb HQ2
          replace HQ2 : ∀ b, Q2 b → b < W14.heap.size := fun b h => Nat.lt_of_lt_of_le (HQ2 b h) hb.size
          replace BX8 := (hb.block g8 HG8).trans BX8
          replace HG8 : g8 < W14.heap.size := Nat.lt_of_lt_of_le HG8 hb.size
          replace hHeld := hHeld2
          clear hHeld2 hb
          refine wpAnyH_ready (rs := [8]) (by kernel_rfl) (by simp) ?_
          refine AllReadyH.cons rfl (fun K hK => ?_) AllReadyH.nil
          ·go_simp
           refine hK.out _ _ (KE.out _ (hHeld.1.alloc (LE.out _ hHeld.1) _)) (fun hHeld2 => ?_)
           clear hK K
           have BX7 : (W14.alloc (.cells #[.int .i64 0, .int .i64 0, .slice none 0 0, .slice none 0 0] 26)).heap[W14.heap.size]? = some (.cells #[.int .i64 0, .int .i64 0, .slice none 0 0, .slice none 0 0] 26 (0, 0)) := heap_alloc_new W14 _
           have HG7 : W14.heap.size < (W14.alloc (.cells #[.int .i64 0, .int .i64 0, .slice none 0 0, .slice none 0 0] 26)).heap.size := by simp
           have hb : Below W14.heap.size W14 (W14.alloc (.cells #[.int .i64 0, .int .i64 0, .slice none 0 0, .slice none 0 0] 26)) := ((Below.refl _ _).alloc (Nat.le_refl _) _)
           have hgb : wB.heap.size ≤ W14.heap.size := Nat.le_trans GU.out hHeld.1.size
           have HGU7 : B0 ≤ W14.heap.size := LE.out _ hHeld.1
           have N71 : ¬ Q1 W14.heap.size := fun h => absurd (HQ1 _ h) (by omega)
           have N72 : ¬ Q2 W14.heap.size := fun h => absurd (HQ2 _ h) (by omega)
           have N73 : ¬ Q3 W14.heap.size := fun h => absurd (HQ3 _ h) (by omega)
           have HNE : g8 ≠ W14.heap.size := by omega
           replace R1 := R1.below hb HQ1
           replace HQ1 : ∀ b, Q1 b → b < (W14.alloc (.cells #[.int .i64 0, .int .i64 0, .slice none 0 0, .slice none 0 0] 26)).heap.size := fun b h => Nat.lt_of_lt_of_le (HQ1 b h) hb.size
           replace R2 := R2.below hb HQ2
           replace HQ2 : ∀ b, Q2 b → b < (W14.alloc (.cells #[.int .i64 0, .int .i64 0, .slice none 0 0, .slice none 0 0] 26)).heap.size := fun b h => Nat.lt_of_lt_of_le (HQ2 b h) hb.size
           replace R3 := R3.below hb HQ3
           replace HQ3 : ∀ b, Q3 b → b < (W14.alloc (.cells #[.int .i64 0, .int .i64 0, .slice none 0 0, .slice none 0 0] 26)).heap.size := fun b h => Nat.lt_of_lt_of_le (HQ3 b h) hb.size
           replace BX8 := (hb.block g8 HG8).trans BX8
           replace HG8 : g8 < (W14.alloc (.cells #[.int .i64 0, .int .i64 0, .slice none 0 0, .slice none 0 0] 26)).heap.size := Nat.lt_of_lt_of_le HG8 hb.size
           generalize (W14.alloc (.cells #[.int .i64 0, .int .i64 0, .slice none 0 0, .slice none 0 0] 26)) = W15 at *
           obtain ⟨g7, hg7⟩ : ∃ g, W14.heap.size = g := ⟨_, rfl⟩
           rw [hg7] at BX7 HG7 HGU7 hgb N71 N72 N73 HNE ⊢
           have HGB7 := hgb
           clear hb hgb hg7
           replace hHeld := hHeld2
           clear hHeld2
           have hne : g7 ≠ g8 := by first | exact HNE | exact fun h => HNE h.symm
           obtain ⟨⟨c0, c1, c2, c3⟩, f0, f1, f2, f3⟩ := st4_cells BX7
           refine wpAnyH_ready (rs := [10]) (by kernel_rfl) (by simp) ?_
           refine AllReadyH.cons rfl (fun K hK => ?_) AllReadyH.nil
           go_simp
           refine hK.out _ _ (KE.out _ (st4_below hHeld.1 HGU7)) (fun hHeld2 => ?_)
           clear hK K c0 c1 c2 c3 f0 f1 f2 f3
           have BY : ((((W15.setCell ⟨g7, 0, none⟩ (.int .i64 p1.node)).setCell ⟨g7, 1, none⟩ (.int .i64 p1.seq)).setCell ⟨g7, 2, none⟩ (.slice fa1 fn1 fc1)).setCell ⟨g7, 3, none⟩ (.slice ga1 gn1 gc1)).heap[g7]? = _ := st4_block (v0 := .int .i64 p1.node) (v1 := .int .i64 p1.seq) (v2 := .slice fa1 fn1 fc1) (v3 := .slice ga1 gn1 gc1) BX7
           have HO : ∀ b, b ≠ g7 → ((((W15.setCell ⟨g7, 0, none⟩ (.int .i64 p1.node)).setCell ⟨g7, 1, none⟩ (.int .i64 p1.seq)).setCell ⟨g7, 2, none⟩ (.slice fa1 fn1 fc1)).setCell ⟨g7, 3, none⟩ (.slice ga1 gn1 gc1)).heap[b]? = W15.heap[b]? := fun b h => st4_other W15 g7 _ _ _ _ b h
           have HZ : ((((W15.setCell ⟨g7, 0, none⟩ (.int .i64 p1.node)).setCell ⟨g7, 1, none⟩ (.int .i64 p1.seq)).setCell ⟨g7, 2, none⟩ (.slice fa1 fn1 fc1)).setCell ⟨g7, 3, none⟩ (.slice ga1 gn1 gc1)).heap.size = W15.heap.size := st4_size W15 g7 _ _ _ _
           generalize ((((W15.setCell ⟨g7, 0, none⟩ (.int .i64 p1.node)).setCell ⟨g7, 1, none⟩ (.int .i64 p1.seq)).setCell ⟨g7, 2, none⟩ (.slice fa1 fn1 fc1)).setCell ⟨g7, 3, none⟩ (.slice ga1 gn1 gc1)) = WX at *
           replace BX8 := (HO g8 (Ne.symm hne)).trans BX8
           replace BX7 := BY
           replace R1 := R1.agree fun b h => HO b (fun e => N71 (e ▸ h))
           replace HQ1 : ∀ b, Q1 b → b < WX.heap.size := fun b h => by rw [HZ]; exact HQ1 b h
           replace R3 := R3.agree fun b h => HO b (fun e => N73 (e ▸ h))
           replace HQ3 : ∀ b, Q3 b → b < WX.heap.size := fun b h => by rw [HZ]; exact HQ3 b h
           clear BY HO HZ
           replace hHeld := hHeld2
           clear hHeld2
           obtain ⟨⟨c0, c1, c2, c3⟩, f0, f1, f2, f3⟩ := st4_cells BX8
           refine wpAnyH_ready (rs := [11]) (by kernel_rfl) (by simp) ?_
           refine AllReadyH.cons rfl (fun K hK => ?_) AllReadyH.nil
           go_simp
           refine hK.out _ _ (KE.out _ (st4_below hHeld.1 HGU8)) (fun hHeld2 => ?_)
           clear hK K c0 c1 c2 c3 f0 f1 f2 f3
           have BY : ((((WX.setCell ⟨g8, 0, none⟩ (.int .i64 p2.node)).setCell ⟨g8, 1, none⟩ (.int .i64 p2.seq)).setCell ⟨g8, 2, none⟩ (.slice fa3 fn3 fc3)).setCell ⟨g8, 3, none⟩ (.slice ga3 gn3 gc3)).heap[g8]? = _ := st4_block (v0 := .int .i64 p2.node) (v1 := .int .i64 p2.seq) (v2 := .slice fa3 fn3 fc3) (v3 := .slice ga3 gn3 gc3) BX8
           have HO : ∀ b, b ≠ g8 → ((((WX.setCell ⟨g8, 0, none⟩ (.int .i64 p2.node)).setCell ⟨g8, 1, none⟩ (.int .i64 p2.seq)).setCell ⟨g8, 2, none⟩ (.slice fa3 fn3 fc3)).setCell ⟨g8, 3, none⟩ (.slice ga3 gn3 gc3)).heap[b]? = WX.heap[b]? := fun b h => st4_other WX g8 _ _ _ _ b h
           have HZ : ((((WX.setCell ⟨g8, 0, none⟩ (.int .i64 p2.node)).setCell ⟨g8, 1, none⟩ (.int .i64 p2.seq)).setCell ⟨g8, 2, none⟩ (.slice fa3 fn3 fc3)).setCell ⟨g8, 3, none⟩ (.slice ga3 gn3 gc3)).heap.size = WX.heap.size := st4_size WX g8 _ _ _ _
           generalize ((((WX.setCell ⟨g8, 0, none⟩ (.int .i64 p2.node)).setCell ⟨g8, 1, none⟩ (.int .i64 p2.seq)).setCell ⟨g8, 2, none⟩ (.slice fa3 fn3 fc3)).setCell ⟨g8, 3, none⟩ (.slice ga3 gn3 gc3)) = WY at *
           replace BX7 := (HO g7 hne).trans BX7
           replace BX8 := BY
           replace R1 := R1.agree fun b h => HO b (fun e => N81 (e ▸ h))
           replace HQ1 : ∀ b, Q1 b → b < WY.heap.size := fun b h => by rw [HZ]; exact HQ1 b h
           replace R3 := R3.agree fun b h => HO b (fun e => N83 (e ▸ h))
           replace HQ3 : ∀ b, Q3 b → b < WY.heap.size := fun b h => by rw [HZ]; exact HQ3 b h
           clear BY HO HZ
           replace hHeld := hHeld2
           clear hHeld2
           refine wpAnyH_done (by kernel_rfl) ?_ _
           go_wp2_with fail
           go_meet
           obtain ⟨A7, -⟩ := st4_cells BX7
           obtain ⟨A8, -⟩ := st4_cells BX8
           obtain ⟨d1, e1, hv1, i1, j1⟩ := R1.is HQ1
           obtain ⟨d3, e3, hv3, i3, j3⟩ := R3.is HQ3
           simp only [Value.agg.injEq, Array.mk.injEq, List.cons.injEq, and_true, true_and] at hv1 hv3
           obtain ⟨rfl, rfl⟩ := hv1
           obtain ⟨rfl, rfl⟩ := hv3
           exact ⟨g7, g8, _, _, _, _, _, _, _, _, _, _, _, _, rfl, rfl, ⟨A7, i1, j1⟩, ⟨A8, i3, j3⟩, hHeld.1.mono (Nat.le_of_eq HB0.out)⟩
         ·go_simp
          refine hK.out _ _ (KE.out _ (hHeld.1.alloc (LE.out _ hHeld.1) _)) (fun hHeld2 => ?_)
          clear hK K
          have BX7 : (W13.alloc (.cells #[.int .i64 0, .int .i64 0, .slice none 0 0, .slice none 0 0] 26)).heap[W13.heap.size]? = some (.cells #[.int .i64 0, .int .i64 0, .slice none 0 0, .slice none 0 0] 26 (0, 0)) := heap_alloc_new W13 _
          have HG7 : W13.heap.size < (W13.alloc (.cells #[.int .i64 0, .int .i64 0, .slice none 0 0, .slice none 0 0] 26)).heap.size := by simp
          have hb : Below W13.heap.size W13 (W13.alloc (.cells #[.int .i64 0, .int .i64 0, .slice none 0 0, .slice none 0 0] 26)) := ((Below.refl _ _).alloc (Nat.le_refl _) _)
          have hgb : wB.heap.size ≤ W13.heap.size := Nat.le_trans GU.out hHeld.1.size
          have HGU7 : B0 ≤ W13.heap.size := LE.out _ hHeld.1
          have N71 : ¬ Q1 W13.heap.size := fun h => absurd (HQ1 _ h) (by omega)
          have N72 : ¬ Q2 W13.heap.size := fun h => absurd (HQ2 _ h) (by omega)
          have HNE : g8 ≠ W13.heap.size := by omega
          replace R1 := R1.below hb HQ1
          replace HQ1 : ∀ b, Q1 b → b < (W13.alloc (.cells #[.int .i64 0, .int .i64 0, .slice none 0 0, .slice none 0 0] 26)).heap.size := fun b h => Nat.lt_of_lt_of_le (HQ1 b h) hb.size
          replace R2 := R2.below hb HQ2
          replace HQ2 : ∀ b, Q2 b → b < (W13.alloc (.cells #[.int .i64 0, .int .i64 0, .slice none 0 0, .slice none 0 0] 26)).heap.size := fun b h => Nat.lt_of_lt_of_le (HQ2 b h) hb.size
          replace BX8 := (hb.block g8 HG8).trans BX8
          replace HG8 : g8 < (W13.alloc (.cells #[.int .i64 0, .int .i64 0, .slice none 0 0, .slice none 0 0] 26)).heap.size := Nat.lt_of_lt_of_le HG8 hb.size
          generalize (W13.alloc (.cells #[.int .i64 0, .int .i64 0, .slice none 0 0, .slice none 0 0] 26)) = W16 at *
          obtain ⟨g7, hg7⟩ : ∃ g, W13.heap.size = g := ⟨_, rfl⟩
          rw [hg7] at BX7 HG7 HGU7 hgb N71 N72 HNE ⊢
          have HGB7 := hgb
          clear hb hgb hg7
          replace hHeld := hHeld2
          clear hHeld2
          refine wpAnyH_ready (rs := [7]) (by kernel_rfl) (by simp) ?_
          refine AllReadyH.cons rfl (fun K hK => ?_) AllReadyH.nil
          ·go_simp
           refine (txonlyP R2 HQ2 (Szs.out.below (G.out.trans (hHeld.1.mono GB.out))) Mzs.out.1 Mzs.out.2 FP1.out).mono ?_
           rintro e W17 ⟨v3, rfl, hr, hb⟩
           refine hK.out _ _ (KE.out _ (hHeld.1.trans (hb.mono (LE.out _ hHeld.1)))) (fun hHeld2 => ?_)
           clear hK K
           rw [HP2.out] at hr
           obtain ⟨Q3, R3, HQ3, N73, N83⟩ : ∃ Q : Nat → Prop, IsTxnIn Q W17 v3 p2 ∧ (∀ b, Q b → b < W17.heap.size) ∧ ¬ Q g7 ∧ ¬ Q g8 := ⟨_, hr, only_new HQ2 hb.size, only_not HG7 N72, only_not HG8 N82⟩
           obtain ⟨fa3, fn3, fc3, ga3, gn3, gc3, hv3, R3x⟩ := R3.parts
           subst hv3
           replace R3 := R3x
           clear R3x hr
           replace R1 := R1.below hb HQ1
           replace HQ1 : ∀ b, Q1 b → b < W17.heap.size := fun b h => Nat.lt_of_lt_of_le (HQ1 b h) hb.size
           replace R2 := R2.below hb HQ2
           replace HQ2 : ∀ b, Q2 b → b < W17.heap.size := fun b h => Nat.lt_of_lt_of_le (HQ2 b h) hb.size
           replace BX7 := (hb.block g7 HG7).trans BX7
           replace HG7 : g7 < W17.heap.size := Nat.lt_of_lt_of_le HG7 hb.size
           replace BX8 := (hb.block g8 HG8).trans BX8
           replace HG8 : g8 < W17.heap.size := Nat.lt_of_lt_of_le HG8 hb.size
           replace hHeld := hHeld2
           clear hHeld2 hb
           have hne : g7 ≠ g8 := by first | exact HNE | exact fun h => HNE h.symm
           obtain ⟨⟨c0, c1, c2, c3⟩, f0, f1, f2, f3⟩ := st4_cells BX7
           refine wpAnyH_ready (rs := [10]) (by kernel_rfl) (by simp) ?_
           refine AllReadyH.cons rfl (fun K hK => ?_) AllReadyH.nil
           go_simp
           refine hK.out _ _ (KE.out _ (st4_below hHeld.1 HGU7)) (fun hHeld2 => ?_)
           clear hK K c0 c1 c2 c3 f0 f1 f2 f3
           have BY : ((((W17.setCell ⟨g7, 0, none⟩ (.int .i64 p1.node)).setCell ⟨g7, 1, none⟩ (.int .i64 p1.seq)).setCell ⟨g7, 2, none⟩ (.slice fa1 fn1 fc1)).setCell ⟨g7, 3, none⟩ (.slice ga1 gn1 gc1)).heap[g7]? = _ := st4_block (v0 := .int .i64 p1.node) (v1 := .int .i64 p1.seq) (v2 := .slice fa1 fn1 fc1) (v3 := .slice ga1 gn1 gc1) BX7
           have HO : ∀ b, b ≠ g7 → ((((W17.setCell ⟨g7, 0, none⟩ (.int .i64 p1.node)).setCell ⟨g7, 1, none⟩ (.int .i64 p1.seq)).setCell ⟨g7, 2, none⟩ (.slice fa1 fn1 fc1)).setCell ⟨g7, 3, none⟩ (.slice ga1 gn1 gc1)).heap[b]? = W17.heap[b]? := fun b h => st4_other W17 g7 _ _ _ _ b h
           have HZ : ((((W17.setCell ⟨g7, 0, none⟩ (.int .i64 p1.node)).setCell ⟨g7, 1, none⟩ (.int .i64 p1.seq)).setCell ⟨g7, 2, none⟩ (.slice fa1 fn1 fc1)).setCell ⟨g7, 3, none⟩ (.slice ga1 gn1 gc1)).heap.size = W17.heap.size := st4_size W17 g7 _ _ _ _
           generalize ((((W17.setCell ⟨g7, 0, none⟩ (.int .i64 p1.node)).setCell ⟨g7, 1, none⟩ (.int .i64 p1.seq)).setCell ⟨g7, 2, none⟩ (.slice fa1 fn1 fc1)).setCell ⟨g7, 3, none⟩ (.slice ga1 gn1 gc1)) = WX at *
           replace BX8 := (HO g8 (Ne.symm hne)).trans BX8
           replace BX7 := BY
           replace R1 := R1.agree fun b h => HO b (fun e => N71 (e ▸ h))
           replace HQ1 : ∀ b, Q1 b → b < WX.heap.size := fun b h => by rw [HZ]; exact HQ1 b h
           replace R3 := R3.agree fun b h => HO b (fun e => N73 (e ▸ h))
           replace HQ3 : ∀ b, Q3 b → b < WX.heap.size := fun b h => by rw [HZ]; exact HQ3 b h
           clear BY HO HZ
           replace hHeld := hHeld2
           clear hHeld2
           obtain ⟨⟨c0, c1, c2, c3⟩, f0, f1, f2, f3⟩ := st4_cells BX8
           refine wpAnyH_ready (rs := [11]) (by kernel_rfl) (by simp) ?_
           refine AllReadyH.cons rfl (fun K hK => ?_) AllReadyH.nil
           go_simp
           refine hK.out _ _ (KE.out _ (st4_below hHeld.1 HGU8)) (fun hHeld2 => ?_)
           clear hK K c0 c1 c2 c3 f0 f1 f2 f3
           have BY : ((((WX.setCell ⟨g8, 0, none⟩ (.int .i64 p2.node)).setCell ⟨g8, 1, none⟩ (.int .i64 p2.seq)).setCell ⟨g8, 2, none⟩ (.slice fa3 fn3 fc3)).setCell ⟨g8, 3, none⟩ (.slice ga3 gn3 gc3)).heap[g8]? = _ := st4_block (v0 := .int .i64 p2.node) (v1 := .int .i64 p2.seq) (v2 := .slice fa3 fn3 fc3) (v3 := .slice ga3 gn3 gc3) BX8
           have HO : ∀ b, b ≠ g8 → ((((WX.setCell ⟨g8, 0, none⟩ (.int .i64 p2.node)).setCell ⟨g8, 1, none⟩ (.int .i64 p2.seq)).setCell ⟨g8, 2, none⟩ (.slice fa3 fn3 fc3)).setCell ⟨g8, 3, none⟩ (.slice ga3 gn3 gc3)).heap[b]? = WX.heap[b]? := fun b h => st4_other WX g8 _ _ _ _ b h
           have HZ : ((((WX.setCell ⟨g8, 0, none⟩ (.int .i64 p2.node)).setCell ⟨g8, 1, none⟩ (.int .i64 p2.seq)).setCell ⟨g8, 2, none⟩ (.slice fa3 fn3 fc3)).setCell ⟨g8, 3, none⟩ (.slice ga3 gn3 gc3)).heap.size = WX.heap.size := st4_size WX g8 _ _ _ _
           generalize ((((WX.setCell ⟨g8, 0, none⟩ (.int .i64 p2.node)).setCell ⟨g8, 1, none⟩ (.int .i64 p2.seq)).setCell ⟨g8, 2, none⟩ (.slice fa3 fn3 fc3)).setCell ⟨g8, 3, none⟩ (.slice ga3 gn3 gc3)) = WY at *
           replace BX7 := (HO g7 hne).trans BX7
           replace BX8 := BY
           replace R1 := R1.agree fun b h => HO b (fun e => N81 (e ▸ h))
           replace HQ1 : ∀ b, Q1 b → b < WY.heap.size := fun b h => by rw [HZ]; exact HQ1 b h
           replace R3 := R3.agree fun b h => HO b (fun e => N83 (e ▸ h))
           replace HQ3 : ∀ b, Q3 b → b < WY.heap.size := fun b h => by rw [HZ]; exact HQ3 b h
           clear BY HO HZ
           replace hHeld := hHeld2
           clear hHeld2
           refine wpAnyH_done (by kernel_rfl) ?_ _
           go_wp2_with fail
           go_meet
           obtain ⟨A7, -⟩ := st4_cells BX7
           obtain ⟨A8, -⟩ := st4_cells BX8
           obtain ⟨d1, e1, hv1, i1, j1⟩ := R1.is HQ1
           obtain ⟨d3, e3, hv3, i3, j3⟩ := R3.is HQ3
           simp only [Value.agg.injEq, Array.mk.injEq, List.cons.injEq, and_true, true_and] at hv1 hv3
           obtain ⟨rfl, rfl⟩ := hv1
           obtain ⟨rfl, rfl⟩ := hv3
           exact ⟨g7, g8, _, _, _, _, _, _, _, _, _, _, _, _, rfl, rfl, ⟨A7, i1, j1⟩, ⟨A8, i3, j3⟩, hHeld.1.mono (Nat.le_of_eq HB0.out)⟩
       ·go_simp
        refine hK.out _ _ (KE.out _ (hHeld.1.alloc (LE.out _ hHeld.1) _)) (fun hHeld2 => ?_)
        clear hK K
        have BX7 : (W1.alloc (.cells #[.int .i64 0, .int .i64 0, .slice none 0 0, .slice none 0 0] 26)).heap[W1.heap.size]? = some (.cells #[.int .i64 0, .int .i64 0, .slice none 0 0, .slice none 0 0] 26 (0, 0)) := heap_alloc_new W1 _
        have HG7 : W1.heap.size < (W1.alloc (.cells #[.int .i64 0, .int .i64 0, .slice none 0 0, .slice none 0 0] 26)).heap.size := by simp
        have hb : Below W1.heap.size W1 (W1.alloc (.cells #[.int .i64 0, .int .i64 0, .slice none 0 0, .slice none 0 0] 26)) := ((Below.refl _ _).alloc (Nat.le_refl _) _)
        have hgb : wB.heap.size ≤ W1.heap.size := Nat.le_trans GU.out hHeld.1.size
        have HGU7 : B0 ≤ W1.heap.size := LE.out _ hHeld.1
        have N71 : ¬ Q1 W1.heap.size := fun h => absurd (HQ1 _ h) (by omega)
        replace R1 := R1.below hb HQ1
        replace HQ1 : ∀ b, Q1 b → b < (W1.alloc (.cells #[.int .i64 0, .int .i64 0, .slice none 0 0, .slice none 0 0] 26)).heap.size := fun b h => Nat.lt_of_lt_of_le (HQ1 b h) hb.size
        generalize (W1.alloc (.cells #[.int .i64 0, .int .i64 0, .slice none 0 0, .slice none 0 0] 26)) = W18 at *
        obtain ⟨g7, hg7⟩ : ∃ g, W1.heap.size = g := ⟨_, rfl⟩
        rw [hg7] at BX7 HG7 HGU7 hgb N71 ⊢
        have HGB7 := hgb
        clear hb hgb hg7
        replace hHeld := hHeld2
        clear hHeld2
        refine wpAnyH_ready (rs := [5, 9]) (by kernel_rfl) (by simp) ?_
        refine AllReadyH.cons rfl (fun K hK => ?_) (AllReadyH.cons rfl (fun K hK => ?_) AllReadyH.nil)
        ·go_simp
         refine (txonlyP (T0.out.below (hHeld.1.mono (Nat.le_of_eq HB0.out)) (fun b h => Nat.lt_of_lt_of_le (HQ0.out b h) GU.out)) (fun b h => Nat.lt_of_lt_of_le (HQ0.out b h) (Nat.le_trans GU.out hHeld.1.size)) (Sys.out.below (G.out.trans (hHeld.1.mono GB.out))) Mys.out.1 Mys.out.2 FX.out).mono ?_
         rintro e W19 ⟨v2, rfl, hr, hb⟩
         refine hK.out _ _ (KE.out _ (hHeld.1.trans (hb.mono (LE.out _ hHeld.1)))) (fun hHeld2 => ?_)
         clear hK K
         rw [HP1.out] at hr
         obtain ⟨Q2, R2, HQ2, N72⟩ : ∃ Q : Nat → Prop, IsTxnIn Q W19 v2 p1 ∧ (∀ b, Q b → b < W19.heap.size) ∧ ¬ Q g7 := ⟨_, hr, only_new (fun b h => Nat.lt_of_lt_of_le (HQ0.out b h) (Nat.le_trans GU.out hHeld.1.size)) hb.size, only_not HG7 (fun h => absurd (HQ0.out _ h) (by omega))⟩
         obtain ⟨fa2, fn2, fc2, ga2, gn2, gc2, hv2, R2x⟩ := R2.parts
         subst hv2
         replace R2 := R2x
         clear R2x hr
         replace R1 := R1.below hb HQ1
         replace HQ1 : ∀ b, Q1 b → b < W19.heap.size := fun b h => Nat.lt_of_lt_of_le (HQ1 b h) hb.size
         replace BX7 := (hb.block g7 HG7).trans BX7
         replace HG7 : g7 < W19.heap.size := Nat.lt_of_lt_of_le HG7 hb.size
         replace hHeld := hHeld2
         clear hHeld2 hb
         refine wpAnyH_ready (rs := [7, 9]) (by kernel_rfl) (by simp) ?_
         refine AllReadyH.cons rfl (fun K hK => ?_) (AllReadyH.cons rfl (fun K hK => ?_) AllReadyH.nil)
         ·go_simp
          refine (txonlyP R2 HQ2 (Szs.out.below (G.out.trans (hHeld.1.mono GB.out))) Mzs.out.1 Mzs.out.2 FP1.out).mono ?_
          rintro e W20 ⟨v3, rfl, hr, hb⟩
          refine hK.out _ _ (KE.out _ (hHeld.1.trans (hb.mono (LE.out _ hHeld.1)))) (fun hHeld2 => ?_)
          clear hK K
          rw [HP2.out] at hr
          obtain ⟨Q3, R3, HQ3, N73⟩ : ∃ Q : Nat → Prop, IsTxnIn Q W20 v3 p2 ∧ (∀ b, Q b → b < W20.heap.size) ∧ ¬ Q g7 := ⟨_, hr, only_new HQ2 hb.size, only_not HG7 N72⟩
          obtain ⟨fa3, fn3, fc3, ga3, gn3, gc3, hv3, R3x⟩ := R3.parts
          subst hv3
          replace R3 := R3x
          clear R3x hr
          replace R1 := R1.below hb HQ1
          replace HQ1 : ∀ b, Q1 b → b < W20.heap.size := fun b h => Nat.lt_of_lt_of_le (HQ1 b h) hb.size
          replace R2 := R2.below hb HQ2
          replace HQ2 : ∀ b, Q2 b → b < W20.heap.size := fun b h => Nat.lt_of_lt_of_le (HQ2 b h) hb.size
          replace BX7 := (hb.block g7 HG7).trans BX7
          replace HG7 : g7 < W20.heap.size := Nat.lt_of_lt_of_le HG7 hb.size
          replace hHeld := hHeld2
          clear hHeld2 hb
          refine wpAnyH_ready (rs := [9]) (by kernel_rfl) (by simp) ?_
          refine AllReadyH.cons rfl (fun K hK => ?_) AllReadyH.nil
          ·go_simp
           refine hK.out _ _ (KE.out _ (hHeld.1.alloc (LE.out _ hHeld.1) _)) (fun hHeld2 => ?_)
           clear hK K
           have BX8 : (W20.alloc (.cells #[.int .i64 0, .int .i64 0, .slice none 0 0, .slice none 0 0] 26)).heap[W20.heap.size]? = some (.cells #[.int .i64 0, .int .i64 0, .slice none 0 0, .slice none 0 0] 26 (0, 0)) := heap_alloc_new W20 _
           have HG8 : W20.heap.size < (W20.alloc (.cells #[.int .i64 0, .int .i64 0, .slice none 0 0, .slice none 0 0] 26)).heap.size := by simp
           have hb : Below W20.heap.size W20 (W20.alloc (.cells #[.int .i64 0, .int .i64 0, .slice none 0 0, .slice none 0 0] 26)) := ((Below.refl _ _).alloc (Nat.le_refl _) _)
           have hgb : wB.heap.size ≤ W20.heap.size := Nat.le_trans GU.out hHeld.1.size
           have HGU8 : B0 ≤ W20.heap.size := LE.out _ hHeld.1
           have N81 : ¬ Q1 W20.heap.size := fun h => absurd (HQ1 _ h) (by omega)
           have N82 : ¬ Q2 W20.heap.size := fun h => absurd (HQ2 _ h) (by omega)
           have N83 : ¬ Q3 W20.heap.size := fun h => absurd (HQ3 _ h) (by omega)
           have HNE : g7 ≠ W20.heap.size := by omega
           replace R1 := R1.below hb HQ1
           replace HQ1 : ∀ b, Q1 b → b < (W20.alloc (.cells #[.int .i64 0, .int .i64 0, .slice none 0 0, .slice none 0 0] 26)).heap.size := fun b h => Nat.lt_of_lt_of_le (HQ1 b h) hb.size
           replace R2 := R2.below hb HQ2
           replace HQ2 : ∀ b, Q2 b → b < (W20.alloc (.cells #[.int .i64 0, .int .i64 0, .slice none 0 0, .slice none 0 0] 26)).heap.size := fun b h => Nat.lt_of_lt_of_le (HQ2 b h) hb.size
           replace R3 := R3.below hb HQ3
           replace HQ3 : ∀ b, Q3 b → b < (W20.alloc (.cells #[.int .i64 0, .int .i64 0, .slice none 0 0, .slice none 0 0] 26)).heap.size := fun b h => Nat.lt_of_lt_of_le (HQ3 b h) hb.size
           replace BX7 := (hb.block g7 HG7).trans BX7
           replace HG7 : g7 < (W20.alloc (.cells #[.int .i64 0, .int .i64 0, .slice none 0 0, .slice none 0 0] 26)).heap.size := Nat.lt_of_lt_of_le HG7 hb.size
           generalize (W20.alloc (.cells #[.int .i64 0, .int .i64 0, .slice none 0 0, .slice none 0 0] 26)) = W21 at *
           obtain ⟨g8, hg8⟩ : ∃ g, W20.heap.size = g := ⟨_, rfl⟩
           rw [hg8] at BX8 HG8 HGU8 hgb N81 N82 N83 HNE ⊢
           have HGB8 := hgb
           clear hb hgb hg8
           replace hHeld := hHeld2
           clear hHeld2
           have hne : g7 ≠ g8 := by first | exact HNE | exact fun h => HNE h.symm
           obtain ⟨⟨c0, c1, c2, c3⟩, f0, f1, f2, f3⟩ := st4_cells BX7
           refine wpAnyH_ready (rs := [10]) (by kernel_rfl) (by simp) ?_
           refine AllReadyH.cons rfl (fun K hK => ?_) AllReadyH.nil
           go_simp
           refine hK.out _ _ (KE.out _ (st4_below hHeld.1 HGU7)) (fun hHeld2 => ?_)
           clear hK K c0 c1 c2 c3 f0 f1 f2 f3
           have BY : ((((W21.setCell ⟨g7, 0, none⟩ (.int .i64 p1.node)).setCell ⟨g7, 1, none⟩ (.int .i64 p1.seq)).setCell ⟨g7, 2, none⟩ (.slice fa1 fn1 fc1)).setCell ⟨g7, 3, none⟩ (.slice ga1 gn1 gc1)).heap[g7]? = _ := st4_block (v0 := .int .i64 p1.node) (v1 := .int .i64 p1.seq) (v2 := .slice fa1 fn1 fc1) (v3 := .slice ga1 gn1 gc1) BX7
           have HO : ∀ b, b ≠ g7 → ((((W21.setCell ⟨g7, 0, none⟩ (.int .i64 p1.node)).setCell ⟨g7, 1, none⟩ (.int .i64 p1.seq)).setCell ⟨g7, 2, none⟩ (.slice fa1 fn1 fc1)).setCell ⟨g7, 3, none⟩ (.slice ga1 gn1 gc1)).heap[b]? = W21.heap[b]? := fun b h => st4_other W21 g7 _ _ _ _ b h
           have HZ : ((((W21.setCell ⟨g7, 0, none⟩ (.int .i64 p1.node)).setCell ⟨g7, 1, none⟩ (.int .i64 p1.seq)).setCell ⟨g7, 2, none⟩ (.slice fa1 fn1 fc1)).setCell ⟨g7, 3, none⟩ (.slice ga1 gn1 gc1)).heap.size = W21.heap.size := st4_size W21 g7 _ _ _ _
           generalize ((((W21.setCell ⟨g7, 0, none⟩ (.int .i64 p1.node)).setCell ⟨g7, 1, none⟩ (.int .i64 p1.seq)).setCell ⟨g7, 2, none⟩ (.slice fa1 fn1 fc1)).setCell ⟨g7, 3, none⟩ (.slice ga1 gn1 gc1)) = WX at *
           replace BX8 := (HO g8 (Ne.symm hne)).trans BX8
           replace BX7 := BY
           replace R1 := R1.agree fun b h => HO b (fun e => N71 (e ▸ h))
           replace HQ1 : ∀ b, Q1 b → b < WX.heap.size := fun b h => by rw [HZ]; exact HQ1 b h
           replace R3 := R3.agree fun b h => HO b (fun e => N73 (e ▸ h))
           replace HQ3 : ∀ b, Q3 b → b < WX.heap.size := fun b h => by rw [HZ]; exact HQ3 b h
           clear BY HO HZ
           replace hHeld := hHeld2
           clear hHeld2
           obtain ⟨⟨c0, c1, c2, c3⟩, f0, f1, f2, f3⟩ := st4_cells BX8
           refine wpAnyH_ready (rs := [11]) (by kernel_rfl) (by simp) ?_
           refine AllReadyH.cons rfl (fun K hK => ?_) AllReadyH.nil
           go_simp
           refine hK.out _ _ (KE.out _ (st4_below hHeld.1 HGU8)) (fun hHeld2 => ?_)
           clear hK K c0 c1 c2 c3 f0 f1 f2 f3
           have BY : ((((WX.setCell ⟨g8, 0, none⟩ (.int .i64 p2.node)).setCell ⟨g8, 1, none⟩ (.int .i64 p2.seq)).setCell ⟨g8, 2, none⟩ (.slice fa3 fn3 fc3)).setCell ⟨g8, 3, none⟩ (.slice ga3 gn3 gc3)).heap[g8]? = _ := st4_block (v0 := .int .i64 p2.node) (v1 := .int .i64 p2.seq) (v2 := .slice fa3 fn3 fc3) (v3 := .slice ga3 gn3 gc3) BX8
           have HO : ∀ b, b ≠ g8 → ((((WX.setCell ⟨g8, 0, none⟩ (.int .i64 p2.node)).setCell ⟨g8, 1, none⟩ (.int .i64 p2.seq)).setCell ⟨g8, 2, none⟩ (.slice fa3 fn3 fc3)).setCell ⟨g8, 3, none⟩ (.slice ga3 gn3 gc3)).heap[b]? = WX.heap[b]? := fun b h => st4_other WX g8 _ _ _ _ b h
           have HZ : ((((WX.setCell ⟨g8, 0, none⟩ (.int .i64 p2.node)).setCell ⟨g8, 1, none⟩ (.int .i64 p2.seq)).setCell ⟨g8, 2, none⟩ (.slice fa3 fn3 fc3)).setCell ⟨g8, 3, none⟩ (.slice ga3 gn3 gc3)).heap.size = WX.heap.size := st4_size WX g8 _ _ _ _
           generalize ((((WX.setCell ⟨g8, 0, none⟩ (.int .i64 p2.node)).setCell ⟨g8, 1, none⟩ (.int .i64 p2.seq)).setCell ⟨g8, 2, none⟩ (.slice fa3 fn3 fc3)).setCell ⟨g8, 3, none⟩ (.slice ga3 gn3 gc3)) = WY at *
           replace BX7 := (HO g7 hne).trans BX7
           replace BX8 := BY
           replace R1 := R1.agree fun b h => HO b (fun e => N81 (e ▸ h))
           replace HQ1 : ∀ b, Q1 b → b < WY.heap.size := fun b h => by rw [HZ]; exact HQ1 b h
           replace R3 := R3.agree fun b h => HO b (fun e => N83 (e ▸ h))
           replace HQ3 : ∀ b, Q3 b → b < WY.heap.size := fun b h => by rw [HZ]; exact HQ3 b h
           clear BY HO HZ
           replace hHeld := hHeld2
           clear hHeld2
           refine wpAnyH_done (by kernel_rfl) ?_ _
           go_wp2_with fail
           go_meet
           obtain ⟨A7, -⟩ := st4_cells BX7
           obtain ⟨A8, -⟩ := st4_cells BX8
           obtain ⟨d1, e1, hv1, i1, j1⟩ := R1.is HQ1
           obtain ⟨d3, e3, hv3, i3, j3⟩ := R3.is HQ3
           simp only [Value.agg.injEq, Array.mk.injEq, List.cons.injEq, and_true, true_and] at hv1 hv3
           obtain ⟨rfl, rfl⟩ := hv1
           obtain ⟨rfl, rfl⟩ := hv3
           exact ⟨g7, g8, _, _, _, _, _, _, _, _, _, _, _, _, rfl, rfl, ⟨A7, i1, j1⟩, ⟨A8, i3, j3⟩, hHeld.1.mono (Nat.le_of_eq HB0.out)⟩
         ·go_simp
          refine hK.out _ _ (KE.out _ (hHeld.1.alloc (LE.out _ hHeld.1) _)) (fun hHeld2 => ?_)
          clear hK K
          have BX8 : (W19.alloc (.cells #[.int .i64 0, .int .i64 0, .slice none 0 0, .slice none 0 0] 26)).heap[W19.heap.size]? = some (.cells #[.int .i64 0, .int .i64 0, .slice none 0 0, .slice none 0 0] 26 (0, 0)) := heap_alloc_new W19 _
          have HG8 : W19.heap.size < (W19.alloc (.cells #[.int .i64 0, .int .i64 0, .slice none 0 0, .slice none 0 0] 26)).heap.size := by simp
          have hb : Below W19.heap.size W19 (W19.alloc (.cells #[.int .i64 0, .int .i64 0, .slice none 0 0, .slice none 0 0] 26)) := ((Below.refl _ _).alloc (Nat.le_refl _) _)
          have hgb : wB.heap.size ≤ W19.heap.size := Nat.le_trans GU.out hHeld.1.size
          have HGU8 : B0 ≤ W19.heap.size := LE.out _ hHeld.1
          have N81 : ¬ Q1 W19.heap.size := fun h => absurd (HQ1 _ h) (by omega)
          have N82 : ¬ Q2 W19.heap.size := fun h => absurd (HQ2 _ h) (by omega)
          have HNE : g7 ≠ W19.heap.size := by omega
          replace R1 := R1.below hb HQ1
          replace HQ1 : ∀ b, Q1 b → b < (W19.alloc (.cells #[.int .i64 0, .int .i64 0, .slice none 0 0, .slice none 0 0] 26)).heap.size := fun b h => Nat.lt_of_lt_of_le (HQ1 b h) hb.size
          replace R2 := R2.below hb HQ2
          replace HQ2 : ∀ b, Q2 b → b < (W19.alloc (.cells #[.int .i64 0, .int .i64 0, .slice none 0 0, .slice none 0 0] 26)).heap.size := fun b h => Nat.lt_of_lt_of_le (HQ2 b h) hb.size
          replace BX7 := (hb.block g7 HG7).trans BX7
          replace HG7 : g7 < (W19.alloc (.cells #[.int .i64 0, .int .i64 0, .slice none 0 0, .slice none 0 0] 26)).heap.size := Nat.lt_of_lt_of_le HG7 hb.size
          generalize (W19.alloc (.cells #[.int .i64 0, .int .i64 0, .slice none 0 0, .slice none 0 0] 26)) = W22 at *
          obtain ⟨g8, hg8⟩ : ∃ g, W19.heap.size = g := ⟨_, rfl⟩
          rw [hg8] at BX8 HG8 HGU8 hgb N81 N82 HNE ⊢
          have HGB8 := hgb
          clear hb hgb hg8
          replace hHeld := hHeld2
          clear hHeld2
          refine wpAnyH_ready (rs := [7]) (by kernel_rfl) (by simp) ?_
          refine AllReadyH.cons rfl (fun K hK => ?_) AllReadyH.nil
          ·go_simp
           refine (txonlyP R2 HQ2 (Szs.out.below (G.out.trans (hHeld.1.mono GB.out))) Mzs.out.1 Mzs.out.2 FP1.out).mono ?_
           rintro e W23 ⟨v3, rfl, hr, hb⟩
           refine hK.out _ _ (KE.out _ (hHeld.1.trans (hb.mono (LE.out _ hHeld.1)))) (fun hHeld2 => ?_)
           clear hK K
           rw [HP2.out] at hr
           obtain ⟨Q3, R3, HQ3, N73, N83⟩ : ∃ Q : Nat → Prop, IsTxnIn Q W23 v3 p2 ∧ (∀ b, Q b → b < W23.heap.size) ∧ ¬ Q g7 ∧ ¬ Q g8 := ⟨_, hr, only_new HQ2 hb.size, only_not HG7 N72, only_not HG8 N82⟩
           obtain ⟨fa3, fn3, fc3, ga3, gn3, gc3, hv3, R3x⟩ := R3.parts
           subst hv3
           replace R3 := R3x
           clear R3x hr
           replace R1 := R1.below hb HQ1
           replace HQ1 : ∀ b, Q1 b → b < W23.heap.size := fun b h => Nat.lt_of_lt_of_le (HQ1 b h) hb.size
           replace R2 := R2.below hb HQ2
           replace HQ2 : ∀ b, Q2 b → b < W23.heap.size := fun b h => Nat.lt_of_lt_of_le (HQ2 b h) hb.size
           replace BX7 := (hb.block g7 HG7).trans BX7
           replace HG7 : g7 < W23.heap.size := Nat.lt_of_lt_of_le HG7 hb.size
           replace BX8 := (hb.block g8 HG8).trans BX8
           replace HG8 : g8 < W23.heap.size := Nat.lt_of_lt_of_le HG8 hb.size
           replace hHeld := hHeld2
           clear hHeld2 hb
           have hne : g7 ≠ g8 := by first | exact HNE | exact fun h => HNE h.symm
           obtain ⟨⟨c0, c1, c2, c3⟩, f0, f1, f2, f3⟩ := st4_cells BX7
           refine wpAnyH_ready (rs := [10]) (by kernel_rfl) (by simp) ?_
           refine AllReadyH.cons rfl (fun K hK => ?_) AllReadyH.nil
           go_simp
           refine hK.out _ _ (KE.out _ (st4_below hHeld.1 HGU7)) (fun hHeld2 => ?_)
           clear hK K c0 c1 c2 c3 f0 f1 f2 f3
           have BY : ((((W23.setCell ⟨g7, 0, none⟩ (.int .i64 p1.node)).setCell ⟨g7, 1, none⟩ (.int .i64 p1.seq)).setCell ⟨g7, 2, none⟩ (.slice fa1 fn1 fc1)).setCell ⟨g7, 3, none⟩ (.slice ga1 gn1 gc1)).heap[g7]? = _ := st4_block (v0 := .int .i64 p1.node) (v1 := .int .i64 p1.seq) (v2 := .slice fa1 fn1 fc1) (v3 := .slice ga1 gn1 gc1) BX7
           have HO : ∀ b, b ≠ g7 → ((((W23.setCell ⟨g7, 0, none⟩ (.int .i64 p1.node)).setCell ⟨g7, 1, none⟩ (.int .i64 p1.seq)).setCell ⟨g7, 2, none⟩ (.slice fa1 fn1 fc1)).setCell ⟨g7, 3, none⟩ (.slice ga1 gn1 gc1)).heap[b]? = W23.heap[b]? := fun b h => st4_other W23 g7 _ _ _ _ b h
           have HZ : ((((W23.setCell ⟨g7, 0, none⟩ (.int .i64 p1.node)).setCell ⟨g7, 1, none⟩ (.int .i64 p1.seq)).setCell ⟨g7, 2, none⟩ (.slice fa1 fn1 fc1)).setCell ⟨g7, 3, none⟩ (.slice ga1 gn1 gc1)).heap.size = W23.heap.size := st4_size W23 g7 _ _ _ _
           generalize ((((W23.setCell ⟨g7, 0, none⟩ (.int .i64 p1.node)).setCell ⟨g7, 1, none⟩ (.int .i64 p1.seq)).setCell ⟨g7, 2, none⟩ (.slice fa1 fn1 fc1)).setCell ⟨g7, 3, none⟩ (.slice ga1 gn1 gc1)) = WX at *
           replace BX8 := (HO g8 (Ne.symm hne)).trans BX8
           replace BX7 := BY
           replace R1 := R1.agree fun b h => HO b (fun e => N71 (e ▸ h))
           replace HQ1 : ∀ b, Q1 b → b < WX.heap.size := fun b h => by rw [HZ]; exact HQ1 b h
           replace R3 := R3.agree fun b h => HO b (fun e => N73 (e ▸ h))
           replace HQ3 : ∀ b, Q3 b → b < WX.heap.size := fun b h => by rw [HZ]; exact HQ3 b h
           clear BY HO HZ
           replace hHeld := hHeld2
           clear hHeld2
           obtain ⟨⟨c0, c1, c2, c3⟩, f0, f1, f2, f3⟩ := st4_cells BX8
           refine wpAnyH_ready (rs := [11]) (by kernel_rfl) (by simp) ?_
           refine AllReadyH.cons rfl (fun K hK => ?_) AllReadyH.nil
           go_simp
           refine hK.out _ _ (KE.out _ (st4_below hHeld.1 HGU8)) (fun hHeld2 => ?_)
           clear hK K c0 c1 c2 c3 f0 f1 f2 f3
           have BY : ((((WX.setCell ⟨g8, 0, none⟩ (.int .i64 p2.node)).setCell ⟨g8, 1, none⟩ (.int .i64 p2.seq)).setCell ⟨g8, 2, none⟩ (.slice fa3 fn3 fc3)).setCell ⟨g8, 3, none⟩ (.slice ga3 gn3 gc3)).heap[g8]? = _ := st4_block (v0 := .int .i64 p2.node) (v1 := .int .i64 p2.seq) (v2 := .slice fa3 fn3 fc3) (v3 := .slice ga3 gn3 gc3) BX8
           have HO : ∀ b, b ≠ g8 → ((((WX.setCell ⟨g8, 0, none⟩ (.int .i64 p2.node)).setCell ⟨g8, 1, none⟩ (.int .i64 p2.seq)).setCell ⟨g8, 2, none⟩ (.slice fa3 fn3 fc3)).setCell ⟨g8, 3, none⟩ (.slice ga3 gn3 gc3)).heap[b]? = WX.heap[b]? := fun b h => st4_other WX g8 _ _ _ _ b h
           have HZ : ((((WX.setCell ⟨g8, 0, none⟩ (.int .i64 p2.node)).setCell ⟨g8, 1, none⟩ (.int .i64 p2.seq)).setCell ⟨g8, 2, none⟩ (.slice fa3 fn3 fc3)).setCell ⟨g8, 3, none⟩ (.slice ga3 gn3 gc3)).heap.size = WX.heap.size := st4_size WX g8 _ _ _ _
           generalize ((((WX.setCell ⟨g8, 0, none⟩ (.int .i64 p2.node)).setCell ⟨g8, 1, none⟩ (.int .i64 p2.seq)).setCell ⟨g8, 2, none⟩ (.slice fa3 fn3 fc3)).setCell ⟨g8, 3, none⟩ (.slice ga3 gn3 gc3)) = WY at *
           replace BX7 := (HO g7 hne).trans BX7
           replace BX8 := BY
           replace R1 := R1.agree fun b h => HO b (fun e => N81 (e ▸ h))
           replace HQ1 : ∀ b, Q1 b → b < WY.heap.size := fun b h => by rw [HZ]; exact HQ1 b h
           replace R3 := R3.agree fun b h => HO b (fun e => N83 (e ▸ h))
           replace HQ3 : ∀ b, Q3 b → b < WY.heap.size := fun b h => by rw [HZ]; exact HQ3 b h
           clear BY HO HZ
           replace hHeld := hHeld2
           clear hHeld2
           refine wpAnyH_done (by kernel_rfl) ?_ _
           go_wp2_with fail
           go_meet
           obtain ⟨A7, -⟩ := st4_cells BX7
           obtain ⟨A8, -⟩ := st4_cells BX8
           obtain ⟨d1, e1, hv1, i1, j1⟩ := R1.is HQ1
           obtain ⟨d3, e3, hv3, i3, j3⟩ := R3.is HQ3
           simp only [Value.agg.injEq, Array.mk.injEq, List.cons.injEq, and_true, true_and] at hv1 hv3
           obtain ⟨rfl, rfl⟩ := hv1
           obtain ⟨rfl, rfl⟩ := hv3
           exact ⟨g7, g8, _, _, _, _, _, _, _, _, _, _, _, _, rfl, rfl, ⟨A7, i1, j1⟩, ⟨A8, i3, j3⟩, hHeld.1.mono (Nat.le_of_eq HB0.out)⟩
        ·go_simp
         refine hK.out _ _ (KE.out _ (hHeld.1.alloc (LE.out _ hHeld.1) _)) (fun hHeld2 => ?_)
         clear hK K
         have BX8 : (W18.alloc (.cells #[.int .i64 0, .int .i64 0, .slice none 0 0, .slice none 0 0] 26)).heap[W18.heap.size]? = some (.cells #[.int .i64 0, .int .i64 0, .slice none 0 0, .slice none 0 0] 26 (0, 0)) := heap_alloc_new W18 _
         have HG8 : W18.heap.size < (W18.alloc (.cells #[.int .i64 0, .int .i64 0, .slice none 0 0, .slice none 0 0] 26)).heap.size := by simp
         have hb : Below W18.heap.size W18 (W18.alloc (.cells #[.int .i64 0, .int .i64 0, .slice none 0 0, .slice none 0 0] 26)) := ((Below.refl _ _).alloc (Nat.le_refl _) _)
         have hgb : wB.heap.size ≤ W18.heap.size := Nat.le_trans GU.out hHeld.1.size
         have HGU8 : B0 ≤ W18.heap.size := LE.out _ hHeld.1
         have N81 : ¬ Q1 W18.heap.size := fun h => absurd (HQ1 _ h) (by omega)
         have HNE : g7 ≠ W18.heap.size := by omega
         replace R1 := R1.below hb HQ1
         replace HQ1 : ∀ b, Q1 b → b < (W18.alloc (.cells #[.int .i64 0, .int .i64 0, .slice none 0 0, .slice none 0 0] 26)).heap.size := fun b h => Nat.lt_of_lt_of_le (HQ1 b h) hb.size
         replace BX7 := (hb.block g7 HG7).trans BX7
         replace HG7 : g7 < (W18.alloc (.cells #[.int .i64 0, .int .i64 0, .slice none 0 0, .slice none 0 0] 26)).heap.size := Nat.lt_of_lt_of_le HG7 hb.size
         generalize (W18.alloc (.cells #[.int .i64 0, .int .i64 0, .slice none 0 0, .slice none 0 0] 26)) = W24 at *
         obtain ⟨g8, hg8⟩ : ∃ g, W18.heap.size = g := ⟨_, rfl⟩
         rw [hg8] at BX8 HG8 HGU8 hgb N81 HNE ⊢
         have HGB8 := hgb
         clear hb hgb hg8
         replace hHeld := hHeld2
         clear hHeld2
         refine wpAnyH_ready (rs := [5]) (by kernel_rfl) (by simp) ?_
         refine AllReadyH.cons rfl (fun K hK => ?_) AllReadyH.nil
         ·go_simp
          refine (txonlyP (T0.out.below (hHeld.1.mono (Nat.le_of_eq HB0.out)) (fun b h => Nat.lt_of_lt_of_le (HQ0.out b h) GU.out)) (fun b h => Nat.lt_of_lt_of_le (HQ0.out b h) (Nat.le_trans GU.out hHeld.1.size)) (Sys.out.below (G.out.trans (hHeld.1.mono GB.out))) Mys.out.1 Mys.out.2 FX.out).mono ?_
          rintro e W25 ⟨v2, rfl, hr, hb⟩
          refine hK.out _ _ (KE.out _ (hHeld.1.trans (hb.mono (LE.out _ hHeld.1)))) (fun hHeld2 => ?_)
          clear hK K
          rw [HP1.out] at hr
          obtain ⟨Q2, R2, HQ2, N72, N82⟩ : ∃ Q : Nat → Prop, IsTxnIn Q W25 v2 p1 ∧ (∀ b, Q b → b < W25.heap.size) ∧ ¬ Q g7 ∧ ¬ Q g8 := ⟨_, hr, only_new (fun b h => Nat.lt_of_lt_of_le (HQ0.out b h) (Nat.le_trans GU.out hHeld.1.size)) hb.size, only_not HG7 (fun h => absurd (HQ0.out _ h) (by omega)), only_not HG8 (fun h => absurd (HQ0.out _ h) (by omega))⟩
          obtain ⟨fa2, fn2, fc2, ga2, gn2, gc2, hv2, R2x⟩ := R2.parts
          subst hv2
          replace R2 := R2x
          clear R2x hr
          replace R1 := R1.below hb HQ1
          replace HQ1 : ∀ b, Q1 b → b < W25.heap.size := fun b h => Nat.lt_of_lt_of_le (HQ1 b h) hb.size
          replace BX7 := (hb.block g7 HG7).trans BX7
          replace HG7 : g7 < W25.heap.size := Nat.lt_of_lt_of_le HG7 hb.size
          replace BX8 := (hb.block g8 HG8).trans BX8
          replace HG8 : g8 < W25.heap.size := Nat.lt_of_lt_of_le HG8 hb.size
          replace hHeld := hHeld2
          clear hHeld2 hb
          refine wpAnyH_ready (rs := [7]) (by kernel_rfl) (by simp) ?_
          refine AllReadyH.cons rfl (fun K hK => ?_) AllReadyH.nil
          ·go_simp
           refine (txonlyP R2 HQ2 (Szs.out.below (G.out.trans (hHeld.1.mono GB.out))) Mzs.out.1 Mzs.out.2 FP1.out).mono ?_
           rintro e W26 ⟨v3, rfl, hr, hb⟩
           refine hK.out _ _ (KE.out _ (hHeld.1.trans (hb.mono (LE.out _ hHeld.1)))) (fun hHeld2 => ?_)
           clear hK K
           rw [HP2.out] at hr
           obtain ⟨Q3, R3, HQ3, N73, N83⟩ : ∃ Q : Nat → Prop, IsTxnIn Q W26 v3 p2 ∧ (∀ b, Q b → b < W26.heap.size) ∧ ¬ Q g7 ∧ ¬ Q g8 := ⟨_, hr, only_new HQ2 hb.size, only_not HG7 N72, only_not HG8 N82⟩
           obtain ⟨fa3, fn3, fc3, ga3, gn3, gc3, hv3, R3x⟩ := R3.parts
           subst hv3
           replace R3 := R3x
           clear R3x hr
           replace R1 := R1.below hb HQ1
           replace HQ1 : ∀ b, Q1 b → b < W26.heap.size := fun b h => Nat.lt_of_lt_of_le (HQ1 b h) hb.size
           replace R2 := R2.below hb HQ2
           replace HQ2 : ∀ b, Q2 b → b < W26.heap.size := fun b h => Nat.lt_of_lt_of_le (HQ2 b h) hb.size
           replace BX7 := (hb.block g7 HG7).trans BX7
           replace HG7 : g7 < W26.heap.size := Nat.lt_of_lt_of_le HG7 hb.size
           replace BX8 := (hb.block g8 HG8).trans BX8
           replace HG8 : g8 < W26.heap.size := Nat.lt_of_lt_of_le HG8 hb.size
           replace hHeld := hHeld2
           clear hHeld2 hb
           have hne : g7 ≠ g8 := by first | exact HNE | exact fun h => HNE h.symm
           obtain ⟨⟨c0, c1, c2, c3⟩, f0, f1, f2, f3⟩ := st4_cells BX7
           refine wpAnyH_ready (rs := [10]) (by kernel_rfl) (by simp) ?_
           refine AllReadyH.cons rfl (fun K hK => ?_) AllReadyH.nil
           go_simp
           refine hK.out _ _ (KE.out _ (st4_below hHeld.1 HGU7)) (fun hHeld2 => ?_)
           clear hK K c0 c1 c2 c3 f0 f1 f2 f3
           have BY : ((((W26.setCell ⟨g7, 0, none⟩ (.int .i64 p1.node)).setCell ⟨g7, 1, none⟩ (.int .i64 p1.seq)).setCell ⟨g7, 2, none⟩ (.slice fa1 fn1 fc1)).setCell ⟨g7, 3, none⟩ (.slice ga1 gn1 gc1)).heap[g7]? = _ := st4_block (v0 := .int .i64 p1.node) (v1 := .int .i64 p1.seq) (v2 := .slice fa1 fn1 fc1) (v3 := .slice ga1 gn1 gc1) BX7
           have HO : ∀ b, b ≠ g7 → ((((W26.setCell ⟨g7, 0, none⟩ (.int .i64 p1.node)).setCell ⟨g7, 1, none⟩ (.int .i64 p1.seq)).setCell ⟨g7, 2, none⟩ (.slice fa1 fn1 fc1)).setCell ⟨g7, 3, none⟩ (.slice ga1 gn1 gc1)).heap[b]? = W26.heap[b]? := fun b h => st4_other W26 g7 _ _ _ _ b h
           have HZ : ((((W26.setCell ⟨g7, 0, none⟩ (.int .i64 p1.node)).setCell ⟨g7, 1, none⟩ (.int .i64 p1.seq)).setCell ⟨g7, 2, none⟩ (.slice fa1 fn1 fc1)).setCell ⟨g7, 3, none⟩ (.slice ga1 gn1 gc1)).heap.size = W26.heap.size := st4_size W26 g7 _ _ _ _
           generalize ((((W26.setCell ⟨g7, 0, none⟩ (.int .i64 p1.node)).setCell ⟨g7, 1, none⟩ (.int .i64 p1.seq)).setCell ⟨g7, 2, none⟩ (.slice fa1 fn1 fc1)).setCell ⟨g7, 3, none⟩ (.slice ga1 gn1 gc1)) = WX at *
           replace BX8 := (HO g8 (Ne.symm hne)).trans BX8
           replace BX7 := BY
           replace R1 := R1.agree fun b h => HO b (fun e => N71 (e ▸ h))
           replace HQ1 : ∀ b, Q1 b → b < WX.heap.size := fun b h => by rw [HZ]; exact HQ1 b h
           replace R3 := R3.agree fun b h => HO b (fun e => N73 (e ▸ h))
           replace HQ3 : ∀ b, Q3 b → b < WX.heap.size := fun b h => by rw [HZ]; exact HQ3 b h
           clear BY HO HZ
           replace hHeld := hHeld2
           clear hHeld2
           obtain ⟨⟨c0, c1, c2, c3⟩, f0, f1, f2, f3⟩ := st4_cells BX8
           refine wpAnyH_ready (rs := [11]) (by kernel_rfl) (by simp) ?_
           refine AllReadyH.cons rfl (fun K hK => ?_) AllReadyH.nil
           go_simp
           refine hK.out _ _ (KE.out _ (st4_below hHeld.1 HGU8)) (fun hHeld2 => ?_)
           clear hK K c0 c1 c2 c3 f0 f1 f2 f3
           have BY : ((((WX.setCell ⟨g8, 0, none⟩ (.int .i64 p2.node)).setCell ⟨g8, 1, none⟩ (.int .i64 p2.seq)).setCell ⟨g8, 2, none⟩ (.slice fa3 fn3 fc3)).setCell ⟨g8, 3, none⟩ (.slice ga3 gn3 gc3)).heap[g8]? = _ := st4_block (v0 := .int .i64 p2.node) (v1 := .int .i64 p2.seq) (v2 := .slice fa3 fn3 fc3) (v3 := .slice ga3 gn3 gc3) BX8
           have HO : ∀ b, b ≠ g8 → ((((WX.setCell ⟨g8, 0, none⟩ (.int .i64 p2.node)).setCell ⟨g8, 1, none⟩ (.int .i64 p2.seq)).setCell ⟨g8, 2, none⟩ (.slice fa3 fn3 fc3)).setCell ⟨g8, 3, none⟩ (.slice ga3 gn3 gc3)).heap[b]? = WX.heap[b]? := fun b h => st4_other WX g8 _ _ _ _ b h
           have HZ : ((((WX.setCell ⟨g8, 0, none⟩ (.int .i64 p2.node)).setCell ⟨g8, 1, none⟩ (.int .i64 p2.seq)).setCell ⟨g8, 2, none⟩ (.slice fa3 fn3 fc3)).setCell ⟨g8, 3, none⟩ (.slice ga3 gn3 gc3)).heap.size = WX.heap.size := st4_size WX g8 _ _ _ _
           generalize ((((WX.setCell ⟨g8, 0, none⟩ (.int .i64 p2.node)).setCell ⟨g8, 1, none⟩ (.int .i64 p2.seq)).setCell ⟨g8, 2, none⟩ (.slice fa3 fn3 fc3)).setCell ⟨g8, 3, none⟩ (.slice ga3 gn3 gc3)) = WY at *
           replace BX7 := (HO g7 hne).trans BX7
           replace BX8 := BY
           replace R1 := R1.agree fun b h => HO b (fun e => N81 (e ▸ h))
           replace HQ1 : ∀ b, Q1 b → b < WY.heap.size := fun b h => by rw [HZ]; exact HQ1 b h
           replace R3 := R3.agree fun b h => HO b (fun e => N83 (e ▸ h))
           replace HQ3 : ∀ b, Q3 b → b < WY.heap.size := fun b h => by rw [HZ]; exact HQ3 b h
           clear BY HO HZ
           replace hHeld := hHeld2
           clear hHeld2
           refine wpAnyH_done (by kernel_rfl) ?_ _
           go_wp2_with fail
           go_meet
           obtain ⟨A7, -⟩ := st4_cells BX7
           obtain ⟨A8, -⟩ := st4_cells BX8
           obtain ⟨d1, e1, hv1, i1, j1⟩ := R1.is HQ1
           obtain ⟨d3, e3, hv3, i3, j3⟩ := R3.is HQ3
           simp only [Value.agg.injEq, Array.mk.injEq, List.cons.injEq, and_true, true_and] at hv1 hv3
           obtain ⟨rfl, rfl⟩ := hv1
           obtain ⟨rfl, rfl⟩ := hv3
           exact ⟨g7, g8, _, _, _, _, _, _, _, _, _, _, _, _, rfl, rfl, ⟨A7, i1, j1⟩, ⟨A8, i3, j3⟩, hHeld.1.mono (Nat.le_of_eq HB0.out)⟩
       ·go_simp
        refine hK.out _ _ (KE.out _ (hHeld.1.alloc (LE.out _ hHeld.1) _)) (fun hHeld2 => ?_)
        clear hK K
        have BX8 : (W1.alloc (.cells #[.int .i64 0, .int .i64 0, .slice none 0 0, .slice none 0 0] 26)).heap[W1.heap.size]? = some (.cells #[.int .i64 0, .int .i64 0, .slice none 0 0, .slice none 0 0] 26 (0, 0)) := heap_alloc_new W1 _
        have HG8 : W1.heap.size < (W1.alloc (.cells #[.int .i64 0, .int .i64 0, .slice none 0 0, .slice none 0 0] 26)).heap.size := by simp
        have hb : Below W1.heap.size W1 (W1.alloc (.cells #[.int .i64 0, .int .i64 0, .slice none 0 0, .slice none 0 0] 26)) := ((Below.refl _ _).alloc (Nat.le_refl _) _)
        have hgb : wB.heap.size ≤ W1.heap.size := Nat.le_trans GU.out hHeld.1.size
        have HGU8 : B0 ≤ W1.heap.size := LE.out _ hHeld.1
        have N81 : ¬ Q1 W1.heap.size := fun h => absurd (HQ1 _ h) (by omega)
        replace R1 := R1.below hb HQ1
        replace HQ1 : ∀ b, Q1 b → b < (W1.alloc (.cells #[.int .i64 0, .int .i64 0, .slice none 0 0, .slice none 0 0] 26)).heap.size := fun b h => Nat.lt_of_lt_of_le (HQ1 b h) hb.size
        generalize (W1.alloc (.cells #[.int .i64 0, .int .i64 0, .slice none 0 0, .slice none 0 0] 26)) = W27 at *
        obtain ⟨g8, hg8⟩ : ∃ g, W1.heap.size = g := ⟨_, rfl⟩
        rw [hg8] at BX8 HG8 HGU8 hgb N81 ⊢
        have HGB8 := hgb
        clear hb hgb hg8
        replace hHeld := hHeld2
        clear hHeld2
        refine wpAnyH_ready (rs := [5, 8]) (by kernel_rfl) (by simp) ?_
        refine AllReadyH.cons rfl (fun K hK => ?_) (AllReadyH.cons rfl (fun K hK => ?_) AllReadyH.nil)
        ·go_simp
         refine (txonlyP (T0.out.below (hHeld.1.mono (Nat.le_of_eq HB0.out)) (fun b h => Nat.lt_of_lt_of_le (HQ0.out b h) GU.out)) (fun b h => Nat.lt_of_lt_of_le (HQ0.out b h) (Nat.le_trans GU.out hHeld.1.size)) (Sys.out.below (G.out.trans (hHeld.1.mono GB.out))) Mys.out.1 Mys.out.2 FX.out).mono ?_
         rintro e W28 ⟨v2, rfl, hr, hb⟩
         refine hK.out _ _ (KE.out _ (hHeld.1.trans (hb.mono (LE.out _ hHeld.1)))) (fun hHeld2 => ?_)
         clear hK K
         rw [HP1.out] at hr
         obtain ⟨Q2, R2, HQ2, N82⟩ : ∃ Q : Nat → Prop, IsTxnIn Q W28 v2 p1 ∧ (∀ b, Q b → b < W28.heap.size) ∧ ¬ Q g8 := ⟨_, hr, only_new (fun b h => Nat.lt_of_lt_of_le (HQ0.out b h) (Nat.le_trans GU.out hHeld.1.size)) hb.size, only_not HG8 (fun h => absurd (HQ0.out _ h) (by omega))⟩
         obtain ⟨fa2, fn2, fc2, ga2, gn2, gc2, hv2, R2x⟩ := R2.parts
         subst hv2
         replace R2 := R2x
         clear R2x hr
         replace R1 := R1.below hb HQ1
         replace HQ1 : ∀ b, Q1 b → b < W28.heap.size := fun b h => Nat.lt_of_lt_of_le (HQ1 b h) hb.size
         replace BX8 := (hb.block g8 HG8).trans BX8
         replace HG8 : g8 < W28.heap.size := Nat.lt_of_lt_of_le HG8 hb.size
         replace hHeld := hHeld2
         clear hHeld2 hb
         refine wpAnyH_ready (rs := [7, 8]) (by kernel_rfl) (by simp) ?_
         refine AllReadyH.cons rfl (fun K hK => ?_) (AllReadyH.cons rfl (fun K hK => ?_) AllReadyH.nil)
         ·go_simp
          refine (txonlyP R2 HQ2 (Szs.out.below (G.out.trans (hHeld.1.mono GB.out))) Mzs.out.1 Mzs.out.2 FP1.out).mono ?_
          rintro e W29 ⟨v3, rfl, hr, hb⟩
          refine hK.out _ _ (KE.out _ (hHeld.1.trans (hb.mono (LE.out _ hHeld.1)))) (fun hHeld2 => ?_)
          clear hK K
          rw [HP2.out] at hr
          obtain ⟨Q3, R3, HQ3, N83⟩ : ∃ Q : Nat → Prop, IsTxnIn Q W29 v3 p2 ∧ (∀ b, Q b → b < W29.heap.size) ∧ ¬ Q g8 := ⟨_, hr, only_new HQ2 hb.size, only_not HG8 N82⟩
          obtain ⟨fa3, fn3, fc3, ga3, gn3, gc3, hv3, R3x⟩ := R3.parts
          subst hv3
          replace R3 := R3x
          clear R3x hr
          replace R1 := R1.below hb HQ1
          replace HQ1 : ∀ b, Q1 b → b < W29.heap.size := fun b h => Nat.lt_of_lt_of_le (HQ1 b h) hb.size
          replace R2 := R2.below hb HQ2
          replace HQ2 : ∀ b, Q2 b → b < W29.heap.size := fun b h => Nat.lt_of_lt_of_le (HQ2 b h) hb.size
          replace BX8 := (hb.block g8 HG8).trans BX8
          replace HG8 : g8 < W29.heap.size := Nat.lt_of_lt_of_le HG8 hb.size
          replace hHeld := hHeld2
          clear hHeld2 hb
          refine wpAnyH_ready (rs := [8]) (by kernel_rfl) (by simp) ?_
          refine AllReadyH.cons rfl (fun K hK => ?_) AllReadyH.nil
          ·go_simp
           refine hK.out _ _ (KE.out _ (hHeld.1.alloc (LE.out _ hHeld.1) _)) (fun hHeld2 => ?_)
           clear hK K
           have BX7 : (W29.alloc (.cells #[.int .i64 0, .int .i64 0, .slice none 0 0, .slice none 0 0] 26)).heap[W29.heap.size]? = some (.cells #[.int .i64 0, .int .i64 0, .slice none 0 0, .slice none 0 0] 26 (0, 0)) := heap_alloc_new W29 _
           have HG7 : W29.heap.size < (W29.alloc (.cells #[.int .i64 0, .int .i64 0, .slice none 0 0, .slice none 0 0] 26)).heap.size := by simp
           have hb : Below W29.heap.size W29 (W29.alloc (.cells #[.int .i64 0, .int .i64 0, .slice none 0 0, .slice none 0 0] 26)) := ((Below.refl _ _).alloc (Nat.le_refl _) _)
           have hgb : wB.heap.size ≤ W29.heap.size := Nat.le_trans GU.out hHeld.1.size
           have HGU7 : B0 ≤ W29.heap.size := LE.out _ hHeld.1
           have N71 : ¬ Q1 W29.heap.size := fun h => absurd (HQ1 _ h) (by omega)
           have N72 : ¬ Q2 W29.heap.size := fun h => absurd (HQ2 _ h) (by omega)
           have N73 : ¬ Q3 W29.heap.size := fun h => absurd (HQ3 _ h) (by omega)
           have HNE : g8 ≠ W29.heap.size := by omega
           replace R1 := R1.below hb HQ1
           replace HQ1 : ∀ b, Q1 b → b < (W29.alloc (.cells #[.int .i64 0, .int .i64 0, .slice none 0 0, .slice none 0 0] 26)).heap.size := fun b h => Nat.lt_of_lt_of_le (HQ1 b h) hb.size
           replace R2 := R2.below hb HQ2
           replace HQ2 : ∀ b, Q2 b → b < (W29.alloc (.cells #[.int .i64 0, .int .i64 0, .slice none 0 0, .slice none 0 0] 26)).heap.size := fun b h => Nat.lt_of_lt_of_le (HQ2 b h) hb.size
           replace R3 := R3.below hb HQ3
           replace HQ3 : ∀ b, Q3 b → b < (W29.alloc (.cells #[.int .i64 0, .int .i64 0, .slice none 0 0, .slice none 0 0] 26)).heap.size := fun b h => Nat.lt_of_lt_of_le (HQ3 b h) hb.size
           replace BX8 := (hb.block g8 HG8).trans BX8
           replace HG8 : g8 < (W29.alloc (.cells #[.int .i64 0, .int .i64 0, .slice none 0 0, .slice none 0 0] 26)).heap.size := Nat.lt_of_lt_of_le HG8 hb.size
           generalize (W29.alloc (.cells #[.int .i64 0, .int .i64 0, .slice none 0 0, .slice none 0 0] 26)) = W30 at *
           obtain ⟨g7, hg7⟩ : ∃ g, W29.heap.size = g := ⟨_, rfl⟩
           rw [hg7] at BX7 HG7 HGU7 hgb N71 N72 N73 HNE ⊢
           have HGB7 := hgb
           clear hb hgb hg7
           replace hHeld := hHeld2
           clear hHeld2
           have hne : g7 ≠ g8 := by first | exact HNE | exact fun h => HNE h.symm
           obtain ⟨⟨c0, c1, c2, c3⟩, f0, f1, f2, f3⟩ := st4_cells BX7
           refine wpAnyH_ready (rs := [10]) (by kernel_rfl) (by simp) ?_
           refine AllReadyH.cons rfl (fun K hK => ?_) AllReadyH.nil
           go_simp
           refine hK.out _ _ (KE.out _ (st4_below hHeld.1 HGU7)) (fun hHeld2 => ?_)
           clear hK K c0 c1 c2 c3 f0 f1 f2 f3
           have BY : ((((W30.setCell ⟨g7, 0, none⟩ (.int .i64 p1.node)).setCell ⟨g7, 1, none⟩ (.int .i64 p1.seq)).setCell ⟨g7, 2, none⟩ (.slice fa1 fn1 fc1)).setCell ⟨g7, 3, none⟩ (.slice ga1 gn1 gc1)).heap[g7]? = _ := st4_block (v0 := .int .i64 p1.node) (v1 := .int .i64 p1.seq) (v2 := .slice fa1 fn1 fc1) (v3 := .slice ga1 gn1 gc1) BX7
           have HO : ∀ b, b ≠ g7 → ((((W30.setCell ⟨g7, 0, none⟩ (.int .i64 p1.node)).setCell ⟨g7, 1, none⟩ (.int .i64 p1.seq)).setCell ⟨g7, 2, none⟩ (.slice fa1 fn1 fc1)).setCell ⟨g7, 3, none⟩ (.slice ga1 gn1 gc1)).heap[b]? = W30.heap[b]? := fun b h => st4_other W30 g7 _ _ _ _ b h
           have HZ : ((((W30.setCell ⟨g7, 0, none⟩ (.int .i64 p1.node)).setCell ⟨g7, 1, none⟩ (.int .i64 p1.seq)).setCell ⟨g7, 2, none⟩ (.slice fa1 fn1 fc1)).setCell ⟨g7, 3, none⟩ (.slice ga1 gn1 gc1)).heap.size = W30.heap.size := st4_size W30 g7 _ _ _ _
           generalize ((((W30.setCell ⟨g7, 0, none⟩ (.int .i64 p1.node)).setCell ⟨g7, 1, none⟩ (.int .i64 p1.seq)).setCell ⟨g7, 2, none⟩ (.slice fa1 fn1 fc1)).setCell ⟨g7, 3, none⟩ (.slice ga1 gn1 gc1)) = WX at *
           replace BX8 := (HO g8 (Ne.symm hne)).trans BX8
           replace BX7 := BY
           replace R1 := R1.agree fun b h => HO b (fun e => N71 (e ▸ h))
           replace HQ1 : ∀ b, Q1 b → b < WX.heap.size := fun b h => by rw [HZ]; exact HQ1 b h
           replace R3 := R3.agree fun b h => HO b (fun e => N73 (e ▸ h))
           replace HQ3 : ∀ b, Q3 b → b < WX.heap.size := fun b h => by rw [HZ]; exact HQ3 b h
           clear BY HO HZ
           replace hHeld := hHeld2
           clear hHeld2
           obtain ⟨⟨c0, c1, c2, c3⟩, f0, f1, f2, f3⟩ := st4_cells BX8
           refine wpAnyH_ready (rs := [11]) (by kernel_rfl) (by simp) ?_
           refine AllReadyH.cons rfl (fun K hK => ?_) AllReadyH.nil
           go_simp
           refine hK.out _ _ (KE.out _ (st4_below hHeld.1 HGU8)) (fun hHeld2 => ?_)
           clear hK K c0 c1 c2 c3 f0 f1 f2 f3
           have BY : ((((WX.setCell ⟨g8, 0, none⟩ (.int .i64 p2.node)).setCell ⟨g8, 1, none⟩ (.int .i64 p2.seq)).setCell ⟨g8, 2, none⟩ (.slice fa3 fn3 fc3)).setCell ⟨g8, 3, none⟩ (.slice ga3 gn3 gc3)).heap[g8]? = _ := st4_block (v0 := .int .i64 p2.node) (v1 := .int .i64 p2.seq) (v2 := .slice fa3 fn3 fc3) (v3 := .slice ga3 gn3 gc3) BX8
           have HO : ∀ b, b ≠ g8 → ((((WX.setCell ⟨g8, 0, none⟩ (.int .i64 p2.node)).setCell ⟨g8, 1, none⟩ (.int .i64 p2.seq)).setCell ⟨g8, 2, none⟩ (.slice fa3 fn3 fc3)).setCell ⟨g8, 3, none⟩ (.slice ga3 gn3 gc3)).heap[b]? = WX.heap[b]? := fun b h => st4_other WX g8 _ _ _ _ b h
           have HZ : ((((WX.setCell ⟨g8, 0, none⟩ (.int .i64 p2.node)).setCell ⟨g8, 1, none⟩ (.int .i64 p2.seq)).setCell ⟨g8, 2, none⟩ (.slice fa3 fn3 fc3)).setCell ⟨g8, 3, none⟩ (.slice ga3 gn3 gc3)).heap.size = WX.heap.size := st4_size WX g8 _ _ _ _
           generalize ((((WX.setCell ⟨g8, 0, none⟩ (.int .i64 p2.node)).setCell ⟨g8, 1, none⟩ (.int .i64 p2.seq)).setCell ⟨g8, 2, none⟩ (.slice fa3 fn3 fc3)).setCell ⟨g8, 3, none⟩ (.slice ga3 gn3 gc3)) = WY at *
           replace BX7 := (HO g7 hne).trans BX7
           replace BX8 := BY
           replace R1 := R1.agree fun b h => HO b (fun e => N81 (e ▸ h))
           replace HQ1 : ∀ b, Q1 b → b < WY.heap.size := fun b h => by rw [HZ]; exact HQ1 b h
           replace R3 := R3.agree fun b h => HO b (fun e => N83 (e ▸ h))
           replace HQ3 : ∀ b, Q3 b → b < WY.heap.size := fun b h => by rw [HZ]; exact HQ3 b h
           clear BY HO HZ
           replace hHeld := hHeld2
           clear hHeld2
           refine wpAnyH_done (by kernel_rfl) ?_ _
           go_wp2_with fail
           go_meet
           obtain ⟨A7, -⟩ := st4_cells BX7
           obtain ⟨A8, -⟩ := st4_cells BX8
           obtain ⟨d1, e1, hv1, i1, j1⟩ := R1.is HQ1
           obtain ⟨d3, e3, hv3, i3, j3⟩ := R3.is HQ3
           simp only [Value.agg.injEq, Array.mk.injEq, List.cons.injEq, and_true, true_and] at hv1 hv3
           obtain ⟨rfl, rfl⟩ := hv1
           obtain ⟨rfl, rfl⟩ := hv3
           exact ⟨g7, g8, _, _, _, _, _, _, _, _, _, _, _, _, rfl, rfl, ⟨A7, i1, j1⟩, ⟨A8, i3, j3⟩, hHeld.1.mono (Nat.le_of_eq HB0.out)⟩
         ·go_simp
          refine hK.out _ _ (KE.out _ (hHeld.1.alloc (LE.out _ hHeld.1) _)) (fun hHeld2 => ?_)
          clear hK K
          have BX7 : (W28.alloc (.cells #[.int .i64 0, .int .i64 0, .slice none 0 0, .slice none 0 0] 26)).heap[W28.heap.size]? = some (.cells #[.int .i64 0, .int .i64 0, .slice none 0 0, .slice none 0 0] 26 (0, 0)) := heap_alloc_new W28 _
          have HG7 : W28.heap.size < (W28.alloc (.cells #[.int .i64 0, .int .i64 0, .slice none 0 0, .slice none 0 0] 26)).heap.size := by simp
          have hb : Below W28.heap.size W28 (W28.alloc (.cells #[.int .i64 0, .int .i64 0, .slice none 0 0, .slice none 0 0] 26)) := ((Below.refl _ _).alloc (Nat.le_refl _) _)
          have hgb : wB.heap.size ≤ W28.heap.size := Nat.le_trans GU.out hHeld.1.size
          have HGU7 : B0 ≤ W28.heap.size := LE.out _ hHeld.1
          have N71 : ¬ Q1 W28.heap.size := fun h => absurd (HQ1 _ h) (by omega)
          have N72 : ¬ Q2 W28.heap.size := fun h => absurd (HQ2 _ h) (by omega)
          have HNE : g8 ≠ W28.heap.size := by omega
          replace R1 := R1.below hb HQ1
          replace HQ1 : ∀ b, Q1 b → b < (W28.alloc (.cells #[.int .i64 0, .int .i64 0, .slice none 0 0, .slice none 0 0] 26)).heap.size := fun b h => Nat.lt_of_lt_of_le (HQ1 b h) hb.size
          replace R2 := R2.below hb HQ2
          replace HQ2 : ∀ b, Q2 b → b < (W28.alloc (.cells #[.int .i64 0, .int .i64 0, .slice none 0 0, .slice none 0 0] 26)).heap.size := fun b h => Nat.lt_of_lt_of_le (HQ2 b h) hb.size
          replace BX8 := (hb.block g8 HG8).trans BX8
          replace HG8 : g8 < (W28.alloc (.cells #[.int .i64 0, .int .i64 0, .slice none 0 0, .slice none 0 0] 26)).heap.size := Nat.lt_of_lt_of_le HG8 hb.size
          generalize (W28.alloc (.cells #[.int .i64 0, .int .i64 0, .slice none 0 0, .slice none 0 0] 26)) = W31 at *
          obtain ⟨g7, hg7⟩ : ∃ g, W28.heap.size = g := ⟨_, rfl⟩
          rw [hg7] at BX7 HG7 HGU7 hgb N71 N72 HNE ⊢
          have HGB7 := hgb
          clear hb hgb hg7
          replace hHeld := hHeld2
          clear hHeld2
          refine wpAnyH_ready (rs := [7]) (by kernel_rfl) (by simp) ?_
          refine AllReadyH.cons rfl (fun K hK => ?_) AllReadyH.nil
          ·go_simp
           refine (txonlyP R2 HQ2 (Szs.out.below (G.out.trans (hHeld.1.mono GB.out))) Mzs.out.1 Mzs.out.2 FP1.out).mono ?_
           rintro e W32 ⟨v3, rfl, hr, hb⟩
           refine hK.out _ _ (KE.out _ (hHeld.1.trans (hb.mono (LE.out _ hHeld.1)))) (fun hHeld2 => ?_)
           clear hK K
           rw [HP2.out] at hr
           obtain ⟨Q3, R3, HQ3, N73, N83⟩ : ∃ Q : Nat → Prop, IsTxnIn Q W32 v3 p2 ∧ (∀ b, Q b → b < W32.heap.size) ∧ ¬ Q g7 ∧ ¬ Q g8 := ⟨_, hr, only_new HQ2 hb.size, only_not HG7 N72, only_not HG8 N82⟩
           obtain ⟨fa3, fn3, fc3, ga3, gn3, gc3, hv3, R3x⟩ := R3.parts
           subst hv3
           replace R3 := R3x
           clear R3x hr
           replace R1 := R1.below hb HQ1
           replace HQ1 : ∀ b, Q1 b → b < W32.heap.size := fun b h => Nat.lt_of_lt_of_le (HQ1 b h) hb.size
           replace R2 := R2.below hb HQ2
           replace HQ2 : ∀ b, Q2 b → b < W32.heap.size := fun b h => Nat.lt_of_lt_of_le (HQ2 b h) hb.size
           replace BX7 := (hb.block g7 HG7).trans BX7
           replace HG7 : g7 < W32.heap.size := Nat.lt_of_lt_of_le HG7 hb.size
           replace BX8 := (hb.block g8 HG8).trans BX8
           replace HG8 : g8 < W32.heap.size := Nat.lt_of_lt_of_le HG8 hb.size
           replace hHeld := hHeld2
           clear hHeld2 hb
           have hne : g7 ≠ g8 := by first | exact HNE | exact fun h => HNE h.symm
           obtain ⟨⟨c0, c1, c2, c3⟩, f0, f1, f2, f3⟩ := st4_cells BX7
           refine wpAnyH_ready (rs := [10]) (by kernel_rfl) (by simp) ?_
           refine AllReadyH.cons rfl (fun K hK => ?_) AllReadyH.nil
           go_simp
           refine hK.out _ _ (KE.out _ (st4_below hHeld.1 HGU7)) (fun hHeld2 => ?_)
           clear hK K c0 c1 c2 c3 f0 f1 f2 f3
           have BY : ((((W32.setCell ⟨g7, 0, none⟩ (.int .i64 p1.node)).setCell ⟨g7, 1, none⟩ (.int .i64 p1.seq)).setCell ⟨g7, 2, none⟩ (.slice fa1 fn1 fc1)).setCell ⟨g7, 3, none⟩ (.slice ga1 gn1 gc1)).heap[g7]? = _ := st4_block (v0 := .int .i64 p1.node) (v1 := .int .i64 p1.seq) (v2 := .slice fa1 fn1 fc1) (v3 := .slice ga1 gn1 gc1) BX7
           have HO : ∀ b, b ≠ g7 → ((((W32.setCell ⟨g7, 0, none⟩ (.int .i64 p1.node)).setCell ⟨g7, 1, none⟩ (.int .i64 p1.seq)).setCell ⟨g7, 2, none⟩ (.slice fa1 fn1 fc1)).setCell ⟨g7, 3, none⟩ (.slice ga1 gn1 gc1)).heap[b]? = W32.heap[b]? := fun b h => st4_other W32 g7 _ _ _ _ b h
           have HZ : ((((W32.setCell ⟨g7, 0, none⟩ (.int .i64 p1.node)).setCell ⟨g7, 1, none⟩ (.int .i64 p1.seq)).setCell ⟨g7, 2, none⟩ (.slice fa1 fn1 fc1)).setCell ⟨g7, 3, none⟩ (.slice ga1 gn1 gc1)).heap.size = W32.heap.size := st4_size W32 g7 _ _ _ _
           generalize ((((W32.setCell ⟨g7, 0, none⟩ (.int .i64 p1.node)).setCell ⟨g7, 1, none⟩ (.int .i64 p1.seq)).setCell ⟨g7, 2, none⟩ (.slice fa1 fn1 fc1)).setCell ⟨g7, 3, none⟩ (.slice ga1 gn1 gc1)) = WX at *
           replace BX8 := (HO g8 (Ne.symm hne)).trans BX8
           replace BX7 := BY
           replace R1 := R1.agree fun b h => HO b (fun e => N71 (e ▸ h))
           replace HQ1 : ∀ b, Q1 b → b < WX.heap.size := fun b h => by rw [HZ]; exact HQ1 b h
           replace R3 := R3.agree fun b h => HO b (fun e => N73 (e ▸ h))
           replace HQ3 : ∀ b, Q3 b → b < WX.heap.size := fun b h => by rw [HZ]; exact HQ3 b h
           clear BY HO HZ
           replace hHeld := hHeld2
           clear hHeld2
           obtain ⟨⟨c0, c1, c2, c3⟩, f0, f1, f2, f3⟩ := st4_cells BX8
           refine wpAnyH_ready (rs := [11]) (by kernel_rfl) (by simp) ?_
           refine AllReadyH.cons rfl (fun K hK => ?_) AllReadyH.nil
           go_simp
           refine hK.out _ _ (KE.out _ (st4_below hHeld.1 HGU8)) (fun hHeld2 => ?_)
           clear hK K c0 c1 c2 c3 f0 f1 f2 f3
           have BY : ((((WX.setCell ⟨g8, 0, none⟩ (.int .i64 p2.node)).setCell ⟨g8, 1, none⟩ (.int .i64 p2.seq)).setCell ⟨g8, 2, none⟩ (.slice fa3 fn3 fc3)).setCell ⟨g8, 3, none⟩ (.slice ga3 gn3 gc3)).heap[g8]? = _ := st4_block (v0 := .int .i64 p2.node) (v1 := .int .i64 p2.seq) (v2 := .slice fa3 fn3 fc3) (v3 := .slice ga3 gn3 gc3) BX8
           have HO : ∀ b, b ≠ g8 → ((((WX.setCell ⟨g8, 0, none⟩ (.int .i64 p2.node)).setCell ⟨g8, 1, none⟩ (.int .i64 p2.seq)).setCell ⟨g8, 2, none⟩ (.slice fa3 fn3 fc3)).setCell ⟨g8, 3, none⟩ (.slice ga3 gn3 gc3)).heap[b]? = WX.heap[b]? := fun b h => st4_other WX g8 _ _ _ _ b h
           have HZ : ((((WX.setCell ⟨g8, 0, none⟩ (.int .i64 p2.node)).setCell ⟨g8, 1, none⟩ (.int .i64 p2.seq)).setCell ⟨g8, 2, none⟩ (.slice fa3 fn3 fc3)).setCell ⟨g8, 3, none⟩ (.slice ga3 gn3 gc3)).heap.size = WX.heap.size := st4_size WX g8 _ _ _ _
           generalize ((((WX.setCell ⟨g8, 0, none⟩ (.int .i64 p2.node)).setCell ⟨g8, 1, none⟩ (.int .i64 p2.seq)).setCell ⟨g8, 2, none⟩ (.slice fa3 fn3 fc3)).setCell ⟨g8, 3, none⟩ (.slice ga3 gn3 gc3)) = WY at *
           replace BX7 := (HO g7 hne).trans BX7
           replace BX8 := BY
           replace R1 := R1.agree fun b h => HO b (fun e => N81 (e ▸ h))
           replace HQ1 : ∀ b, Q1 b → b < WY.heap.size := fun b h => by rw [HZ]; exact HQ1 b h
           replace R3 := R3.agree fun b h => HO b (fun e => N83 (e ▸ h))
           replace HQ3 : ∀ b, Q3 b → b < WY.heap.size := fun b h => by rw [HZ]; exact HQ3 b h
           clear BY HO HZ
           replace hHeld := hHeld2
           clear hHeld2
           refine wpAnyH_done (by kernel_rfl) ?_ _
           go_wp2_with fail
           go_meet
           obtain ⟨A7, -⟩ := st4_cells BX7
           obtain ⟨A8, -⟩ := st4_cells BX8
           obtain ⟨d1, e1, hv1, i1, j1⟩ := R1.is HQ1
           obtain ⟨d3, e3, hv3, i3, j3⟩ := R3.is HQ3
           simp only [Value.agg.injEq, Array.mk.injEq, List.cons.injEq, and_true, true_and] at hv1 hv3
           obtain ⟨rfl, rfl⟩ := hv1
           obtain ⟨rfl, rfl⟩ := hv3
           exact ⟨g7, g8, _, _, _, _, _, _, _, _, _, _, _, _, rfl, rfl, ⟨A7, i1, j1⟩, ⟨A8, i3, j3⟩, hHeld.1.mono (Nat.le_of_eq HB0.out)⟩
        ·go_simp
         refine hK.out _ _ (KE.out _ (hHeld.1.alloc (LE.out _ hHeld.1) _)) (fun hHeld2 => ?_)
         clear hK K
         have BX7 : (W27.alloc (.cells #[.int .i64 0, .int .i64 0, .slice none 0 0, .slice none 0 0] 26)).heap[W27.heap.size]? = some (.cells #[.int .i64 0, .int .i64 0, .slice none 0 0, .slice none 0 0] 26 (0, 0)) := heap_alloc_new W27 _
         have HG7 : W27.heap.size < (W27.alloc (.cells #[.int .i64 0, .int .i64 0, .slice none 0 0, .slice none 0 0] 26)).heap.size := by simp
         have hb : Below W27.heap.size W27 (W27.alloc (.cells #[.int .i64 0, .int .i64 0, .slice none 0 0, .slice none 0 0] 26)) := ((Below.refl _ _).alloc (Nat.le_refl _) _)
         have hgb : wB.heap.size ≤ W27.heap.size := Nat.le_trans GU.out hHeld.1.size
         have HGU7 : B0 ≤ W27.heap.size := LE.out _ hHeld.1
         have N71 : ¬ Q1 W27.heap.size := fun h => absurd (HQ1 _ h) (by omega)
         have HNE : g8 ≠ W27.heap.size := by omega
         replace R1 := R1.below hb HQ1
         replace HQ1 : ∀ b, Q1 b → b < (W27.alloc (.cells #[.int .i64 0, .int .i64 0, .slice none 0 0, .slice none 0 0] 26)).heap.size := fun b h => Nat.lt_of_lt_of_le (HQ1 b h) hb.size
         replace BX8 := (hb.block g8 HG8).trans BX8
         replace HG8 : g8 < (W27.alloc (.cells #[.int .i64 0, .int .i64 0, .slice none 0 0, .slice none 0 0] 26)).heap.size := Nat.lt_of_lt_of_le HG8 hb.size
         generalize (W27.alloc (.cells #[.int .i64 0, .int .i64 0, .slice none 0 0, .slice none 0 0] 26)) = W33 at *
         obtain ⟨g7, hg7⟩ : ∃ g, W27.heap.size = g := ⟨_, rfl⟩
         rw [hg7] at BX7 HG7 HGU7 hgb N71 HNE ⊢
         have HGB7 := hgb
         clear hb hgb hg7
         replace hHeld := hHeld2
         clear hHeld2
         refine wpAnyH_ready (rs := [5]) (by kernel_rfl) (by simp) ?_
         refine AllReadyH.cons rfl (fun K hK => ?_) AllReadyH.nil
         ·go_simp
          refine (txonlyP (T0.out.below (hHeld.1.mono (Nat.le_of_eq HB0.out)) (fun b h => Nat.lt_of_lt_of_le (HQ0.out b h) GU.out)) (fun b h => Nat.lt_of_lt_of_le (HQ0.out b h) (Nat.le_trans GU.out hHeld.1.size)) (Sys.out.below (G.out.trans (hHeld.1.mono GB.out))) Mys.out.1 Mys.out.2 FX.out).mono ?_
          rintro e W34 ⟨v2, rfl, hr, hb⟩
          refine hK.out _ _ (KE.out _ (hHeld.1.trans (hb.mono (LE.out _ hHeld.1)))) (fun hHeld2 => ?_)
          clear hK K
          rw [HP1.out] at hr
          obtain ⟨Q2, R2, HQ2, N72, N82⟩ : ∃ Q : Nat → Prop, IsTxnIn Q W34 v2 p1 ∧ (∀ b, Q b → b < W34.heap.size) ∧ ¬ Q g7 ∧ ¬ Q g8 := ⟨_, hr, only_new (fun b h => Nat.lt_of_lt_of_le (HQ0.out b h) (Nat.le_trans GU.out hHeld.1.size)) hb.size, only_not HG7 (fun h => absurd (HQ0.out _ h) (by omega)), only_not HG8 (fun h => absurd (HQ0.out _ h) (by omega))⟩
          obtain ⟨fa2, fn2, fc2, ga2, gn2, gc2, hv2, R2x⟩ := R2.parts
          subst hv2
          replace R2 := R2x
          clear R2x hr
          replace R1 := R1.below hb HQ1
          replace HQ1 : ∀ b, Q1 b → b < W34.heap.size := fun b h => Nat.lt_of_lt_of_le (HQ1 b h) hb.size
          replace BX7 := (hb.block g7 HG7).trans BX7
          replace HG7 : g7 < W34.heap.size := Nat.lt_of_lt_of_le HG7 hb.size
          replace BX8 := (hb.block g8 HG8).trans BX8
          replace HG8 : g8 < W34.heap.size := Nat.lt_of_lt_of_le HG8 hb.size
          replace hHeld := hHeld2
          clear hHeld2 hb
          refine wpAnyH_ready (rs := [7]) (by kernel_rfl) (by simp) ?_
          refine AllReadyH.cons rfl (fun K hK => ?_) AllReadyH.nil
          ·go_simp
           refine (txonlyP R2 HQ2 (Szs.out.below (G.out.trans (hHeld.1.mono GB.out))) Mzs.out.1 Mzs.out.2 FP1.out).mono ?_
           rintro e W35 ⟨v3, rfl, hr, hb⟩
           refine hK.out _ _ (KE.out _ (hHeld.1.trans (hb.mono (LE.out _ hHeld.1)))) (fun hHeld2 => ?_)
           clear hK K
           rw [HP2.out] at hr
           obtain ⟨Q3, R3, HQ3, N73, N83⟩ : ∃ Q : Nat → Prop, IsTxnIn Q W35 v3 p2 ∧ (∀ b, Q b → b < W35.heap.size) ∧ ¬ Q g7 ∧ ¬ Q g8 := ⟨_, hr, only_new HQ2 hb.size, only_not HG7 N72, only_not HG8 N82⟩
           obtain ⟨fa3, fn3, fc3, ga3, gn3, gc3, hv3, R3x⟩ := R3.parts
           subst hv3
           replace R3 := R3x
           clear R3x hr
           replace R1 := R1.below hb HQ1
           replace HQ1 : ∀ b, Q1 b → b < W35.heap.size := fun b h => Nat.lt_of_lt_of_le (HQ1 b h) hb.size
           replace R2 := R2.below hb HQ2
           replace HQ2 : ∀ b, Q2 b → b < W35.heap.size := fun b h => Nat.lt_of_lt_of_le (HQ2 b h) hb.size
           replace BX7 := (hb.block g7 HG7).trans BX7
           replace HG7 : g7 < W35.heap.size := Nat.lt_of_lt_of_le HG7 hb.size
           replace BX8 := (hb.block g8 HG8).trans BX8
           replace HG8 : g8 < W35.heap.size := Nat.lt_of_lt_of_le HG8 hb.size
           replace hHeld := hHeld2
           clear hHeld2 hb
           have hne : g7 ≠ g8 := by first | exact HNE | exact fun h => HNE h.symm
           obtain ⟨⟨c0, c1, c2, c3⟩, f0, f1, f2, f3⟩ := st4_cells BX7
           refine wpAnyH_ready (rs := [10]) (by kernel_rfl) (by simp) ?_
           refine AllReadyH.cons rfl (fun K hK => ?_) AllReadyH.nil
           go_simp
           refine hK.out _ _ (KE.out _ (st4_below hHeld.1 HGU7)) (fun hHeld2 => ?_)
           clear hK K c0 c1 c2 c3 f0 f1 f2 f3
           have BY : ((((W35.setCell ⟨g7, 0, none⟩ (.int .i64 p1.node)).setCell ⟨g7, 1, none⟩ (.int .i64 p1.seq)).setCell ⟨g7, 2, none⟩ (.slice fa1 fn1 fc1)).setCell ⟨g7, 3, none⟩ (.slice ga1 gn1 gc1)).heap[g7]? = _ := st4_block (v0 := .int .i64 p1.node) (v1 := .int .i64 p1.seq) (v2 := .slice fa1 fn1 fc1) (v3 := .slice ga1 gn1 gc1) BX7
           have HO : ∀ b, b ≠ g7 → ((((W35.setCell ⟨g7, 0, none⟩ (.int .i64 p1.node)).setCell ⟨g7, 1, none⟩ (.int .i64 p1.seq)).setCell ⟨g7, 2, none⟩ (.slice fa1 fn1 fc1)).setCell ⟨g7, 3, none⟩ (.slice ga1 gn1 gc1)).heap[b]? = W35.heap[b]? := fun b h => st4_other W35 g7 _ _ _ _ b h
           have HZ : ((((W35.setCell ⟨g7, 0, none⟩ (.int .i64 p1.node)).setCell ⟨g7, 1, none⟩ (.int .i64 p1.seq)).setCell ⟨g7, 2, none⟩ (.slice fa1 fn1 fc1)).setCell ⟨g7, 3, none⟩ (.slice ga1 gn1 gc1)).heap.size = W35.heap.size := st4_size W35 g7 _ _ _ _
           generalize ((((W35.setCell ⟨g7, 0, none⟩ (.int .i64 p1.node)).setCell ⟨g7, 1, none⟩ (.int .i64 p1.seq)).setCell ⟨g7, 2, none⟩ (.slice fa1 fn1 fc1)).setCell ⟨g7, 3, none⟩ (.slice ga1 gn1 gc1)) = WX at *
           replace BX8 := (HO g8 (Ne.symm hne)).trans BX8
           replace BX7 := BY
           replace R1 := R1.agree fun b h => HO b (fun e => N71 (e ▸ h))
           replace HQ1 : ∀ b, Q1 b → b < WX.heap.size := fun b h => by rw [HZ]; exact HQ1 b h
           replace R3 := R3.agree fun b h => HO b (fun e => N73 (e ▸ h))
           replace HQ3 : ∀ b, Q3 b → b < WX.heap.size := fun b h => by rw [HZ]; exact HQ3 b h
           clear BY HO HZ
           replace hHeld := hHeld2
           clear hHeld2
           obtain ⟨⟨c0, c1, c2, c3⟩, f0, f1, f2, f3⟩ := st4_cells BX8
           refine wpAnyH_ready (rs := [11]) (by kernel_rfl) (by simp) ?_
           refine AllReadyH.cons rfl (fun K hK => ?_) AllReadyH.nil
           go_simp
           refine hK.out _ _ (KE.out _ (st4_below hHeld.1 HGU8)) (fun hHeld2 => ?_)
           clear hK K c0 c1 c2 c3 f0 f1 f2 f3
           have BY : ((((WX.setCell ⟨g8, 0, none⟩ (.int .i64 p2.node)).setCell ⟨g8, 1, none⟩ (.int .i64 p2.seq)).setCell ⟨g8, 2, none⟩ (.slice fa3 fn3 fc3)).setCell ⟨g8, 3, none⟩ (.slice ga3 gn3 gc3)).heap[g8]? = _ := st4_block (v0 := .int .i64 p2.node) (v1 := .int .i64 p2.seq) (v2 := .slice fa3 fn3 fc3) (v3 := .slice ga3 gn3 gc3) BX8
           have HO : ∀ b, b ≠ g8 → ((((WX.setCell ⟨g8, 0, none⟩ (.int .i64 p2.node)).setCell ⟨g8, 1, none⟩ (.int .i64 p2.seq)).setCell ⟨g8, 2, none⟩ (.slice fa3 fn3 fc3)).setCell ⟨g8, 3, none⟩ (.slice ga3 gn3 gc3)).heap[b]? = WX.heap[b]? := fun b h => st4_other WX g8 _ _ _ _ b h
           have HZ : ((((WX.setCell ⟨g8, 0, none⟩ (.int .i64 p2.node)).setCell ⟨g8, 1, none⟩ (.int .i64 p2.seq)).setCell ⟨g8, 2, none⟩ (.slice fa3 fn3 fc3)).setCell ⟨g8, 3, none⟩ (.slice ga3 gn3 gc3)).heap.size = WX.heap.size := st4_size WX g8 _ _ _ _
           generalize ((((WX.setCell ⟨g8, 0, none⟩ (.int .i64 p2.node)).setCell ⟨g8, 1, none⟩ (.int .i64 p2.seq)).setCell ⟨g8, 2, none⟩ (.slice fa3 fn3 fc3)).setCell ⟨g8, 3, none⟩ (.slice ga3 gn3 gc3)) = WY at *
           replace BX7 := (HO g7 hne).trans BX7
           replace BX8 := BY
           replace R1 := R1.agree fun b h => HO b (fun e => N81 (e ▸ h))
           replace HQ1 : ∀ b, Q1 b → b < WY.heap.size := fun b h => by rw [HZ]; exact HQ1 b h
           replace R3 := R3.agree fun b h => HO b (fun e => N83 (e ▸ h))
           replace HQ3 : ∀ b, Q3 b → b < WY.heap.size := fun b h => by rw [HZ]; exact HQ3 b h
           clear BY HO HZ
           replace hHeld := hHeld2
           clear hHeld2
           refine wpAnyH_done (by kernel_rfl) ?_ _
           go_wp2_with fail
           go_meet
           obtain ⟨A7, -⟩ := st4_cells BX7
           obtain ⟨A8, -⟩ := st4_cells BX8
           obtain ⟨d1, e1, hv1, i1, j1⟩ := R1.is HQ1
           obtain ⟨d3, e3, hv3, i3, j3⟩ := R3.is HQ3
           simp only [Value.agg.injEq, Array.mk.injEq, List.cons.injEq, and_true, true_and] at hv1 hv3
           obtain ⟨rfl, rfl⟩ := hv1
           obtain ⟨rfl, rfl⟩ := hv3
           exact ⟨g7, g8, _, _, _, _, _, _, _, _, _, _, _, _, rfl, rfl, ⟨A7, i1, j1⟩, ⟨A8, i3, j3⟩, hHeld.1.mono (Nat.le_of_eq HB0.out)⟩
      ·go_simp
       refine hK.out _ _ (KE.out _ (hHeld.1.alloc (LE.out _ hHeld.1) _)) (fun hHeld2 => ?_)
       clear hK K
       have BX7 : (u6.alloc (.cells #[.int .i64 0, .int .i64 0, .slice none 0 0, .slice none 0 0] 26)).drew.heap[u6.heap.size]? = some (.cells #[.int .i64 0, .int .i64 0, .slice none 0 0, .slice none 0 0] 26 (0, 0)) := heap_alloc_new u6 _
       have HG7 : u6.heap.size < (u6.alloc (.cells #[.int .i64 0, .int .i64 0, .slice none 0 0, .slice none 0 0] 26)).drew.heap.size := by simp
       have hb : Below u6.heap.size u6 (u6.alloc (.cells #[.int .i64 0, .int .i64 0, .slice none 0 0, .slice none 0 0] 26)).drew := ((Below.refl _ _).alloc (Nat.le_refl _) _).drew
       have hgb : wB.heap.size ≤ u6.heap.size := Nat.le_trans GU.out hHeld.1.size
       have HGU7 : B0 ≤ u6.heap.size := Nat.le_of_eq HB0.out.symm
       generalize (u6.alloc (.cells #[.int .i64 0, .int .i64 0, .slice none 0 0, .slice none 0 0] 26)).drew = W36 at *
       obtain ⟨g7, hg7⟩ : ∃ g, u6.heap.size = g := ⟨_, rfl⟩
       rw [hg7] at BX7 HG7 HGU7 hgb ⊢
       have HGB7 := hgb
       clear hb hgb hg7
       replace hHeld := hHeld2
       clear hHeld2
       refine wpAnyH_ready (rs := [2, 9]) (by kernel_rfl) (by simp) ?_
       refine AllReadyH.cons rfl (fun K hK => ?_) (AllReadyH.cons rfl (fun K hK => ?_) AllReadyH.nil)
       ·go_simp
        refine (txonlyP (T0.out.below (hHeld.1.mono (Nat.le_of_eq HB0.out)) (fun b h => Nat.lt_of_lt_of_le (HQ0.out b h) GU.out)) (fun b h => Nat.lt_of_lt_of_le (HQ0.out b h) (Nat.le_trans GU.out hHeld.1.size)) (Sys.out.below (G.out.trans (hHeld.1.mono GB.out))) Mys.out.1 Mys.out.2 FX.out).mono ?_
        rintro e W37 ⟨v1, rfl, hr, hb⟩
        refine hK.out _ _ (KE.out _ (hHeld.1.trans (hb.mono (LE.out _ hHeld.1)))) (fun hHeld2 => ?_)
        clear hK K
        rw [HP1.out] at hr
        obtain ⟨Q1, R1, HQ1, N71⟩ : ∃ Q : Nat → Prop, IsTxnIn Q W37 v1 p1 ∧ (∀ b, Q b → b < W37.heap.size) ∧ ¬ Q g7 := ⟨_, hr, only_new (fun b h => Nat.lt_of_lt_of_le (HQ0.out b h) (Nat.le_trans GU.out hHeld.1.size)) hb.size, only_not HG7 (fun h => absurd (HQ0.out _ h) (by omega))⟩
        obtain ⟨fa1, fn1, fc1, ga1, gn1, gc1, hv1, R1x⟩ := R1.parts
        subst hv1
        replace R1 := R1x
        clear R1x hr
        replace BX7 := (hb.block g7 HG7).trans BX7
        replace HG7 : g7 < W37.heap.size := Nat.lt_of_lt_of_le HG7 hb.size
        replace hHeld := hHeld2
        clear hHeld2 hb
        refine wpAnyH_ready (rs := [5, 9]) (by kernel_rfl) (by simp) ?_
        refine AllReadyH.cons rfl (fun K hK => ?_) (AllReadyH.cons rfl (fun K hK => ?_) AllReadyH.nil)
        ·go_simp
         refine (txonlyP (T0.out.below (hHeld.1.mono (Nat.le_of_eq HB0.out)) (fun b h => Nat.lt_of_lt_of_le (HQ0.out b h) GU.out)) (fun b h => Nat.lt_of_lt_of_le (HQ0.out b h) (Nat.le_trans GU.out hHeld.1.size)) (Sys.out.below (G.out.trans (hHeld.1.mono GB.out))) Mys.out.1 Mys.out.2 FX.out).mono ?_
         rintro e W38 ⟨v2, rfl, hr, hb⟩
         refine hK.out _ _ (KE.out _ (hHeld.1.trans (hb.mono (LE.out _ hHeld.1)))) (fun hHeld2 => ?_)
         clear hK K
         rw [HP1.out] at hr
         obtain ⟨Q2, R2, HQ2, N72⟩ : ∃ Q : Nat → Prop, IsTxnIn Q W38 v2 p1 ∧ (∀ b, Q b → b < W38.heap.size) ∧ ¬ Q g7 := ⟨_, hr, only_new (fun b h => Nat.lt_of_lt_of_le (HQ0.out b h) (Nat.le_trans GU.out hHeld.1.size)) hb.size, only_not HG7 (fun h => absurd (HQ0.out _ h) (by omega))⟩
         obtain ⟨fa2, fn2, fc2, ga2, gn2, gc2, hv2, R2x⟩ := R2.parts
         subst hv2
         replace R2 := R2x
         clear R2x hr
         replace R1 := R1.below hb HQ1
         replace HQ1 : ∀ b, Q1 b → b < W38.heap.size := fun b h => Nat.lt_of_lt_of_le (HQ1 b h) hb.size
         replace BX7 := (hb.block g7 HG7).trans BX7
         replace HG7 : g7 < W38.heap.size := Nat.lt_of_lt_of_le HG7 hb.size
         replace hHeld := hHeld2
         clear hHeld2 hb
         refine wpAnyH_ready (rs := [7, 9]) (by kernel_rfl) (by simp) ?_
         refine AllReadyH.cons rfl (fun K hK => ?_) (AllReadyH.cons rfl (fun K hK => ?_) AllReadyH.nil)
         ·go_simp
          refine (txonlyP R2 HQ2 (Szs.out.below (G.out.trans (hHeld.1.mono GB.out))) Mzs.out.1 Mzs.out.2 FP1.out).mono ?_
          rintro e W39 ⟨v3, rfl, hr, hb⟩
          refine hK.out _ _ (KE.out _ (hHeld.1.trans (hb.mono (LE.out _ hHeld.1)))) (fun hHeld2 => ?_)
          clear hK K
          rw [HP2.out] at hr
          obtain ⟨Q3, R3, HQ3, N73⟩ : ∃ Q : Nat → Prop, IsTxnIn Q W39 v3 p2 ∧ (∀ b, Q b → b < W39.heap.size) ∧ ¬ Q g7 := ⟨_, hr, only_new HQ2 hb.size, only_not HG7 N72⟩
          obtain ⟨fa3, fn3, fc3, ga3, gn3, gc3, hv3, R3x⟩ := R3.parts
          subst hv3
          replace R3 := R3x
          clear R3x hr
          replace R1 := R1.below hb HQ1
          replace HQ1 : ∀ b, Q1 b → b < W39.heap.size := fun b h => Nat.lt_of_lt_of_le (HQ1 b h) hb.size
          replace R2 := R2.below hb HQ2
          replace HQ2 : ∀ b, Q2 b → b < W39.heap.size := fun b h => Nat.lt_of_lt_of_le (HQ2 b h) hb.size
          replace BX7 := (hb.block g7 HG7).trans BX7
          replace HG7 : g7 < W39.heap.size := Nat.lt_of_lt_of_le HG7 hb.size
          replace hHeld := hHeld2
          clear hHeld2 hb
          refine wpAnyH_ready (rs := [9]) (by kernel_rfl) (by simp) ?_
          refine AllReadyH.cons rfl (fun K hK => ?_) AllReadyH.nil
          ·go_simp
           refine hK.out _ _ (KE.out _ (hHeld.1.alloc (LE.out _ hHeld.1) _)) (fun hHeld2 => ?_)
           clear hK K
           have BX8 : (W39.alloc (.cells #[.int .i64 0, .int .i64 0, .slice none 0 0, .slice none 0 0] 26)).heap[W39.heap.size]? = some (.cells #[.int .i64 0, .int .i64 0, .slice none 0 0, .slice none 0 0] 26 (0, 0)) := heap_alloc_new W39 _
           have HG8 : W39.heap.size < (W39.alloc (.cells #[.int .i64 0, .int .i64 0, .slice none 0 0, .slice none 0 0] 26)).heap.size := by simp
           have hb : Below W39.heap.size W39 (W39.alloc (.cells #[.int .i64 0, .int .i64 0, .slice none 0 0, .slice none 0 0] 26)) := ((Below.refl _ _).alloc (Nat.le_refl _) _)
           have hgb : wB.heap.size ≤ W39.heap.size := Nat.le_trans GU.out hHeld.1.size
           have HGU8 : B0 ≤ W39.heap.size := LE.out _ hHeld.1
           have N81 : ¬ Q1 W39.heap.size := fun h => absurd (HQ1 _ h) (by omega)
           have N82 : ¬ Q2 W39.heap.size := fun h => absurd (HQ2 _ h) (by omega)
           have N83 : ¬ Q3 W39.heap.size := fun h => absurd (HQ3 _ h) (by omega)
           have HNE : g7 ≠ W39.heap.size := by omega
           replace R1 := R1.below hb HQ1
           replace HQ1 : ∀ b, Q1 b → b < (W39.alloc (.cells #[.int .i64 0, .int .i64 0, .slice none 0 0, .slice none 0 0] 26)).heap.size := fun b h => Nat.lt_of_lt_of_le (HQ1 b h) hb.size
           replace R2 := R2.below hb HQ2
           replace HQ2 : ∀ b, Q2 b → b < (W39.alloc (.cells #[.int .i64 0, .int .i64 0, .slice none 0 0, .slice none 0 0] 26)).heap.size := fun b h => Nat.lt_of_lt_of_le (HQ2 b h) hb.size
           replace R3 := R3.below hb HQ3
           replace HQ3 : ∀ b, Q3 b → b < (W39.alloc (.cells #[.int .i64 0, .int .i64 0, .slice none 0 0, .slice none 0 0] 26)).heap.size := fun b h => Nat.lt_of_lt_of_le (HQ3 b h) hb.size
           replace BX7 := (hb.block g7 HG7).trans BX7
           replace HG7 : g7 < (W39.alloc (.cells #[.int .i64 0, .int .i64 0, .slice none 0 0, .slice none 0 0] 26)).heap.size := Nat.lt_of_lt_of_le HG7 hb.size
           generalize (W39.alloc (.cells #[.int .i64 0, .int .i64 0, .slice none 0 0, .slice none 0 0] 26)) = W40 at *
           obtain ⟨g8, hg8⟩ : ∃ g, W39.heap.size = g := ⟨_, rfl⟩
           rw [hg8] at BX8 HG8 HGU8 hgb N81 N82 N83 HNE ⊢
           have HGB8 := hgb
           clear hb hgb hg8
           replace hHeld := hHeld2
           clear hHeld2
           have hne : g7 ≠ g8 := by first | exact HNE | exact fun h => HNE h.symm
           obtain ⟨⟨c0, c1, c2, c3⟩, f0, f1, f2, f3⟩ := st4_cells BX7
           refine wpAnyH_ready (rs := [10]) (by kernel_rfl) (by simp) ?_
           refine AllReadyH.cons rfl (fun K hK => ?_) AllReadyH.nil
           go_simp
           refine hK.out _ _ (KE.out _ (st4_below hHeld.1 HGU7)) (fun hHeld2 => ?_)
           clear hK K c0 c1 c2 c3 f0 f1 f2 f3
           have BY : ((((W40.setCell ⟨g7, 0, none⟩ (.int .i64 p1.node)).setCell ⟨g7, 1, none⟩ (.int .i64 p1.seq)).setCell ⟨g7, 2, none⟩ (.slice fa1 fn1 fc1)).setCell ⟨g7, 3, none⟩ (.slice ga1 gn1 gc1)).heap[g7]? = _ := st4_block (v0 := .int .i64 p1.node) (v1 := .int .i64 p1.seq) (v2 := .slice fa1 fn1 fc1) (v3 := .slice ga1 gn1 gc1) BX7
           have HO : ∀ b, b ≠ g7 → ((((W40.setCell ⟨g7, 0, none⟩ (.int .i64 p1.node)).setCell ⟨g7, 1, none⟩ (.int .i64 p1.seq)).setCell ⟨g7, 2, none⟩ (.slice fa1 fn1 fc1)).setCell ⟨g7, 3, none⟩ (.slice ga1 gn1 gc1)).heap[b]? = W40.heap[b]? := fun b h => st4_other W40 g7 _ _ _ _ b h
           have HZ : ((((W40.setCell ⟨g7, 0, none⟩ (.int .i64 p1.node)).setCell ⟨g7, 1, none⟩ (.int .i64 p1.seq)).setCell ⟨g7, 2, none⟩ (.slice fa1 fn1 fc1)).setCell ⟨g7, 3, none⟩ (.slice ga1 gn1 gc1)).heap.size = W40.heap.size := st4_size W40 g7 _ _ _ _
           generalize ((((W40.setCell ⟨g7, 0, none⟩ (.int .i64 p1.node)).setCell ⟨g7, 1, none⟩ (.int .i64 p1.seq)).setCell ⟨g7, 2, none⟩ (.slice fa1 fn1 fc1)).setCell ⟨g7, 3, none⟩ (.slice ga1 gn1 gc1)) = WX at *
           replace BX8 := (HO g8 (Ne.symm hne)).trans BX8
           replace BX7 := BY
           replace R1 := R1.agree fun b h => HO b (fun e => N71 (e ▸ h))
           replace HQ1 : ∀ b, Q1 b → b < WX.heap.size := fun b h => by rw [HZ]; exact HQ1 b h
           replace R3 := R3.agree fun b h => HO b (fun e => N73 (e ▸ h))
           replace HQ3 : ∀ b, Q3 b → b < WX.heap.size := fun b h => by rw [HZ]; exact HQ3 b h
           clear BY HO HZ
           replace hHeld := hHeld2
           clear hHeld2
           obtain ⟨⟨c0, c1, c2, c3⟩, f0, f1, f2, f3⟩ := st4_cells BX8
           refine wpAnyH_ready (rs := [11]) (by kernel_rfl) (by simp) ?_
           refine AllReadyH.cons rfl (fun K hK => ?_) AllReadyH.nil
           go_simp
           refine hK.out _ _ (KE.out _ (st4_below hHeld.1 HGU8)) (fun hHeld2 => ?_)
           clear hK K c0 c1 c2 c3 f0 f1 f2 f3
           have BY : ((((WX.setCell ⟨g8, 0, none⟩ (.int .i64 p2.node)).setCell ⟨g8, 1, none⟩ (.int .i64 p2.seq)).setCell ⟨g8, 2, none⟩ (.slice fa3 fn3 fc3)).setCell ⟨g8, 3, none⟩ (.slice ga3 gn3 gc3)).heap[g8]? = _ := st4_block (v0 := .int .i64 p2.node) (v1 := .int .i64 p2.seq) (v2 := .slice fa3 fn3 fc3) (v3 := .slice ga3 gn3 gc3) BX8
           have HO : ∀ b, b ≠ g8 → ((((WX.setCell ⟨g8, 0, none⟩ (.int .i64 p2.node)).setCell ⟨g8, 1, none⟩ (.int .i64 p2.seq)).setCell ⟨g8, 2, none⟩ (.slice fa3 fn3 fc3)).setCell ⟨g8, 3, none⟩ (.slice ga3 gn3 gc3)).heap[b]? = WX.heap[b]? := fun b h => st4_other WX g8 _ _ _ _ b h
           have HZ : ((((WX.setCell ⟨g8, 0, none⟩ (.int .i64 p2.node)).setCell ⟨g8, 1, none⟩ (.int .i64 p2.seq)).setCell ⟨g8, 2, none⟩ (.slice fa3 fn3 fc3)).setCell ⟨g8, 3, none⟩ (.slice ga3 gn3 gc3)).heap.size = WX.heap.size := st4_size WX g8 _ _ _ _
           generalize ((((WX.setCell ⟨g8, 0, none⟩ (.int .i64 p2.node)).setCell ⟨g8, 1, none⟩ (.int .i64 p2.seq)).setCell ⟨g8, 2, none⟩ (.slice fa3 fn3 fc3)).setCell ⟨g8, 3, none⟩ (.slice ga3 gn3 gc3)) = WY at *
           replace BX7 := (HO g7 hne).trans BX7
           replace BX8 := BY
           replace R1 := R1.agree fun b h => HO b (fun e => N81 (e ▸ h))
           replace HQ1 : ∀ b, Q1 b → b < WY.heap.size := fun b h => by rw [HZ]; exact HQ1 b h
           replace R3 := R3.agree fun b h => HO b (fun e => N83 (e ▸ h))
           replace HQ3 : ∀ b, Q3 b → b < WY.heap.size := fun b h => by rw [HZ]; exact HQ3 b h
           clear BY HO HZ
           replace hHeld := hHeld2
           clear hHeld2
           refine wpAnyH_done (by kernel_rfl) ?_ _
           go_wp2_with fail
           go_meet
           obtain ⟨A7, -⟩ := st4_cells BX7
           obtain ⟨A8, -⟩ := st4_cells BX8
           obtain ⟨d1, e1, hv1, i1, j1⟩ := R1.is HQ1
           obtain ⟨d3, e3, hv3, i3, j3⟩ := R3.is HQ3
           simp only [Value.agg.injEq, Array.mk.injEq, List.cons.injEq, and_true, true_and] at hv1 hv3
           obtain ⟨rfl, rfl⟩ := hv1
           obtain ⟨rfl, rfl⟩ := hv3
           exact ⟨g7, g8, _, _, _, _, _, _, _, _, _, _, _, _, rfl, rfl, ⟨A7, i1, j1⟩, ⟨A8, i3, j3⟩, hHeld.1.mono (Nat.le_of_eq HB0.out)⟩
         ·go_simp
          refine hK.out _ _ (KE.out _ (hHeld.1.alloc (LE.out _ hHeld.1) _)) (fun hHeld2 => ?_)
          clear hK K
          have BX8 : (W38.alloc (.cells #[.int .i64 0, .int .i64 0, .slice none 0 0, .slice none 0 0] 26)).heap[W38.heap.size]? = some (.cells #[.int .i64 0, .int .i64 0, .slice none 0 0, .slice none 0 0] 26 (0, 0)) := heap_alloc_new W38 _
          have HG8 : W38.heap.size < (W38.alloc (.cells #[.int .i64 0, .int .i64 0, .slice none 0 0, .slice none 0 0] 26)).heap.size := by simp
          have hb : Below W38.heap.size W38 (W38.alloc (.cells #[.int .i64 0, .int .i64 0, .slice none 0 0, .slice none 0 0] 26)) := ((Below.refl _ _).alloc (Nat.le_refl _) _)
          have hgb : wB.heap.size ≤ W38.heap.size := Nat.le_trans GU.out hHeld.1.size
          have HGU8 : B0 ≤ W38.heap.size := LE.out _ hHeld.1
          have N81 : ¬ Q1 W38.heap.size := fun h => absurd (HQ1 _ h) (by omega)
          have N82 : ¬ Q2 W38.heap.size := fun h => absurd (HQ2 _ h) (by omega)
          have HNE : g7 ≠ W38.heap.size := by omega
          replace R1 := R1.below hb HQ1
          replace HQ1 : ∀ b, Q1 b → b < (W38.alloc (.cells #[.int .i64 0, .int .i64 0, .slice none 0 0, .slice none 0 0] 26)).heap.size := fun b h => Nat.lt_of_lt_of_le (HQ1 b h) hb.size
          replace R2 := R2.below hb HQ2
          replace HQ2 : ∀ b, Q2 b → b < (W38.alloc (.cells #[.int .i64 0, .int .i64 0, .slice none 0 0, .slice none 0 0] 26)).heap.size := fun b h => Nat.lt_of_lt_of_le (HQ2 b h) hb.size
          replace BX7 := (hb.block g7 HG7).trans BX7
          replace HG7 : g7 < (W38.alloc (.cells #[.int .i64 0, .int .i64 0, .slice none 0 0, .slice none 0 0] 26)).heap.size := Nat.lt_of_lt_of_le HG7 hb.size
          generalize (W38.alloc (.cells #[.int .i64 0, .int .i64 0, .slice none 0 0, .slice none 0 0] 26)) = W41 at *
          obtain ⟨g8, hg8⟩ : ∃ g, W38.heap.size = g := ⟨_, rfl⟩
          rw [hg8] at BX8 HG8 HGU8 hgb N81 N82 HNE ⊢
          have HGB8 := hgb
          clear hb hgb hg8
          replace hHeld := hHeld2
          clear hHeld2
          refine wpAnyH_ready (rs := [7]) (by kernel_rfl) (by simp) ?_
          refine AllReadyH.cons rfl (fun K hK => ?_) AllReadyH.nil
          ·go_simp
           refine (txonlyP R2 HQ2 (Szs.out.below (G.out.trans (hHeld.1.mono GB.out))) Mzs.out.1 Mzs.out.2 FP1.out).mono ?_
           rintro e W42 ⟨v3, rfl, hr, hb⟩
           refine hK.out _ _ (KE.out _ (hHeld.1.trans (hb.mono (LE.out _ hHeld.1)))) (fun hHeld2 => ?_)
           clear hK K
           rw [HP2.out] at hr
           obtain ⟨Q3, R3, HQ3, N73, N83⟩ : ∃ Q : Nat → Prop, IsTxnIn Q W42 v3 p2 ∧ (∀ b, Q b → b < W42.heap.size) ∧ ¬ Q g7 ∧ ¬ Q g8 := ⟨_, hr, only_new HQ2 hb.size, only_not HG7 N72, only_not HG8 N82⟩
           obtain ⟨fa3, fn3, fc3, ga3, gn3, gc3, hv3, R3x⟩ := R3.parts
           subst hv3
           replace R3 := R3x
           clear R3x hr
           replace R1 := R1.below hb HQ1
           replace HQ1 : ∀ b, Q1 b → b < W42.heap.size := fun b h => Nat.lt_of_lt_of_le (HQ1 b h) hb.size
           replace R2 := R2.below hb HQ2
           replace HQ2 : ∀ b, Q2 b → b < W42.heap.size := fun b h => Nat.lt_of_lt_of_le (HQ2 b h) hb.size
           replace BX7 := (hb.block g7 HG7).trans BX7
           replace HG7 : g7 < W42.heap.size := Nat.lt_of_lt_of_le HG7 hb.size
           replace BX8 := (hb.block g8 HG8).trans BX8
           replace HG8 : g8 < W42.heap.size := Nat.lt_of_lt_of_le HG8 hb.size
           replace hHeld := hHeld2
           clear hHeld2 hb
           have hne : g7 ≠ g8 := by first | exact HNE | exact fun h => HNE h.symm
           obtain ⟨⟨c0, c1, c2, c3⟩, f0, f1, f2, f3⟩ := st4_cells BX7
           refine wpAnyH_ready (rs := [10]) (by kernel_rfl) (by simp) ?_
           refine AllReadyH.cons rfl (fun K hK => ?_) AllReadyH.nil
           go_simp
           refine hK.out _ _ (KE.out _ (st4_below hHeld.1 HGU7)) (fun hHeld2 => ?_)
           clear hK K c0 c1 c2 c3 f0 f1 f2 f3
           have BY : ((((W42.setCell ⟨g7, 0, none⟩ (.int .i64 p1.node)).setCell ⟨g7, 1, none⟩ (.int .i64 p1.seq)).setCell ⟨g7, 2, none⟩ (.slice fa1 fn1 fc1)).setCell ⟨g7, 3, none⟩ (.slice ga1 gn1 gc1)).heap[g7]? = _ := st4_block (v0 := .int .i64 p1.node) (v1 := .int .i64 p1.seq) (v2 := .slice fa1 fn1 fc1) (v3 := .slice ga1 gn1 gc1) BX7
           have HO : ∀ b, b ≠ g7 → ((((W42.setCell ⟨g7, 0, none⟩ (.int .i64 p1.node)).setCell ⟨g7, 1, none⟩ (.int .i64 p1.seq)).setCell ⟨g7, 2, none⟩ (.slice fa1 fn1 fc1)).setCell ⟨g7, 3, none⟩ (.slice ga1 gn1 gc1)).heap[b]? = W42.heap[b]? := fun b h => st4_other W42 g7 _ _ _ _ b h
           have HZ : ((((W42.setCell ⟨g7, 0, none⟩ (.int .i64 p1.node)).setCell ⟨g7, 1, none⟩ (.int .i64 p1.seq)).setCell ⟨g7, 2, none⟩ (.slice fa1 fn1 fc1)).setCell ⟨g7, 3, none⟩ (.slice ga1 gn1 gc1)).heap.size = W42.heap.size := st4_size W42 g7 _ _ _ _
           generalize ((((W42.setCell ⟨g7, 0, none⟩ (.int .i64 p1.node)).setCell ⟨g7, 1, none⟩ (.int .i64 p1.seq)).setCell ⟨g7, 2, none⟩ (.slice fa1 fn1 fc1)).setCell ⟨g7, 3, none⟩ (.slice ga1 gn1 gc1)) = WX at *
           replace BX8 := (HO g8 (Ne.symm hne)).trans BX8
           replace BX7 := BY
           replace R1 := R1.agree fun b h => HO b (fun e => N71 (e ▸ h))
           replace HQ1 : ∀ b, Q1 b → b < WX.heap.size := fun b h => by rw [HZ]; exact HQ1 b h
           replace R3 := R3.agree fun b h => HO b (fun e => N73 (e ▸ h))
           replace HQ3 : ∀ b, Q3 b → b < WX.heap.size := fun b h => by rw [HZ]; exact HQ3 b h
           clear BY HO HZ
           replace hHeld := hHeld2
           clear hHeld2
           obtain ⟨⟨c0, c1, c2, c3⟩, f0, f1, f2, f3⟩ := st4_cells BX8
           refine wpAnyH_ready (rs := [11]) (by kernel_rfl) (by simp) ?_
           refine AllReadyH.cons rfl (fun K hK => ?_) AllReadyH.nil
           go_simp
           refine hK.out _ _ (KE.out _ (st4_below hHeld.1 HGU8)) (fun hHeld2 => ?_)
           clear hK K c0 c1 c2 c3 f0 f1 f2 f3
           have BY : ((((WX.setCell ⟨g8, 0, none⟩ (.int .i64 p2.node)).setCell ⟨g8, 1, none⟩ (.int .i64 p2.seq)).setCell ⟨g8, 2, none⟩ (.slice fa3 fn3 fc3)).setCell ⟨g8, 3, none⟩ (.slice ga3 gn3 gc3)).heap[g8]? = _ := st4_block (v0 := .int .i64 p2.node) (v1 := .int .i64 p2.seq) (v2 := .slice fa3 fn3 fc3) (v3 := .slice ga3 gn3 gc3) BX8
           have HO : ∀ b, b ≠ g8 → ((((WX.setCell ⟨g8, 0, none⟩ (.int .i64 p2.node)).setCell ⟨g8, 1, none⟩ (.int .i64 p2.seq)).setCell ⟨g8, 2, none⟩ (.slice fa3 fn3 fc3)).setCell ⟨g8, 3, none⟩ (.slice ga3 gn3 gc3)).heap[b]? = WX.heap[b]? := fun b h => st4_other WX g8 _ _ _ _ b h
           have HZ : ((((WX.setCell ⟨g8, 0, none⟩ (.int .i64 p2.node)).setCell ⟨g8, 1, none⟩ (.int .i64 p2.seq)).setCell ⟨g8, 2, none⟩ (.slice fa3 fn3 fc3)).setCell ⟨g8, 3, none⟩ (.slice ga3 gn3 gc3)).heap.size = WX.heap.size := st4_size WX g8 _ _ _ _
           generalize ((((WX.setCell ⟨g8, 0, none⟩ (.int .i64 p2.node)).setCell ⟨g8, 1, none⟩ (.int .i64 p2.seq)).setCell ⟨g8, 2, none⟩ (.slice fa3 fn3 fc3)).setCell ⟨g8, 3, none⟩ (.slice ga3 gn3 gc3)) = WY at *
           replace BX7 := (HO g7 hne).trans BX7
           replace BX8 := BY
           replace R1 := R1.agree fun b h => HO b (fun e => N81 (e ▸ h))
           replace HQ1 : ∀ b, Q1 b → b < WY.heap.size := fun b h => by rw [HZ]; exact HQ1 b h
           replace R3 := R3.agree fun b h => HO b (fun e => N83 (e ▸ h))
           replace HQ3 : ∀ b, Q3 b → b < WY.heap.size := fun b h => by rw [HZ]; exact HQ3 b h
           clear BY HO HZ
           replace hHeld := hHeld2
           clear hHeld2
           refine wpAnyH_done (by kernel_rfl) ?_ _
           go_wp2_with fail
           go_meet
           obtain ⟨A7, -⟩ := st4_cells BX7
           obtain ⟨A8, -⟩ := st4_cells BX8
           obtain ⟨d1, e1, hv1, i1, j1⟩ := R1.is HQ1
           obtain ⟨d3, e3, hv3, i3, j3⟩ := R3.is HQ3
           simp only [Value.agg.injEq, Array.mk.injEq, List.cons.injEq, and_true, true_and] at hv1 hv3
           obtain ⟨rfl, rfl⟩ := hv1
           obtain ⟨rfl, rfl⟩ := hv3
           exact ⟨g7, g8, _, _, _, _, _, _, _, _, _, _, _, _, rfl, rfl, ⟨A7, i1, j1⟩, ⟨A8, i3, j3⟩, hHeld.1.mono (Nat.le_of_eq HB0.out)⟩
        ·go_simp
         refine hK.out _ _ (KE.out _ (hHeld.1.alloc (LE.out _ hHeld.1) _)) (fun hHeld2 => ?_)
         clear hK K
         have BX8 : (W37.alloc (.cells #[.int .i64 0, .int .i64 0, .slice none 0 0, .slice none 0 0] 26)).heap[W37.heap.size]? = some (.cells #[.int .i64 0, .int .i64 0, .slice none 0 0, .slice none 0 0] 26 (0, 0)) := heap_alloc_new W37 _
         have HG8 : W37.heap.size < (W37.alloc (.cells #[.int .i64 0, .int .i64 0, .slice none 0 0, .slice none 0 0] 26)).heap.size := by simp
         have hb : Below W37.heap.size W37 (W37.alloc (.cells #[.int .i64 0, .int .i64 0, .slice none 0 0, .slice none 0 0] 26)) := ((Below.refl _ _).alloc (Nat.le_refl _) _)
         have hgb : wB.heap.size ≤ W37.heap.size := Nat.le_trans GU.out hHeld.1.size
         have HGU8 : B0 ≤ W37.heap.size := LE.out _ hHeld.1
         have N81 : ¬ Q1 W37.heap.size := fun h => absurd (HQ1 _ h) (by omega)
         have HNE : g7 ≠ W37.heap.size := by omega
         replace R1 := R1.below hb HQ1
         replace HQ1 : ∀ b, Q1 b → b < (W37.alloc (.cells #[.int .i64 0, .int .i64 0, .slice none 0 0, .slice none 0 0] 26)).heap.size := fun b h => Nat.lt_of_lt_of_le (HQ1 b h) hb.size
         replace BX7 := (hb.block g7 HG7).trans BX7
         replace HG7 : g7 < (W37.alloc (.cells #[.int .i64 0, .int .i64 0, .slice none 0 0, .slice none 0 0] 26)).heap.size := Nat.lt_of_lt_of_le HG7 hb.size
         generalize (W37.alloc (.cells #[.int .i64 0, .int .i64 0, .slice none 0 0, .slice none 0 0] 26)) = W43 at *
         obtain ⟨g8, hg8⟩ : ∃ g, W37.heap.size = g := ⟨_, rfl⟩
         rw [hg8] at BX8 HG8 HGU8 hgb N81 HNE ⊢
         have HGB8 := hgb
         clear hb hgb hg8
         replace hHeld := hHeld2
         clear hHeld2
         refine wpAnyH_ready (rs := [5]) (by kernel_rfl) (by simp) ?_
         refine AllReadyH.cons rfl (fun K hK => ?_) AllReadyH.nil
         ·go_simp
          refine (txonlyP (T0.out.below (hHeld.1.mono (Nat.le_of_eq HB0.out)) (fun b h => Nat.lt_of_lt_of_le (HQ0.out b h) GU.out)) (fun b h => Nat.lt_of_lt_of_le (HQ0.out b h) (Nat.le_trans GU.out hHeld.1.size)) (Sys.out.below (G.out.trans (hHeld.1.mono GB.out))) Mys.out.1 Mys.out.2 FX.out).mono ?_
          rintro e W44 ⟨v2, rfl, hr, hb⟩
          refine hK.out _ _ (KE.out _ (hHeld.1.trans (hb.mono (LE.out _ hHeld.1)))) (fun hHeld2 => ?_)
          clear hK K
          rw [HP1.out] at hr
          obtain ⟨Q2, R2, HQ2, N72, N82⟩ : ∃ Q : Nat → Prop, IsTxnIn Q W44 v2 p1 ∧ (∀ b, Q b → b < W44.heap.size) ∧ ¬ Q g7 ∧ ¬ Q g8 := ⟨_, hr, only_new (fun b h => Nat.lt_of_lt_of_le (HQ0.out b h) (Nat.le_trans GU.out hHeld.1.size)) hb.size, only_not HG7 (fun h => absurd (HQ0.out _ h) (by omega)), only_not HG8 (fun h => absurd (HQ0.out _ h) (by omega))⟩
          obtain ⟨fa2, fn2, fc2, ga2, gn2, gc2, hv2, R2x⟩ := R2.parts
          subst hv2
          replace R2 := R2x
          clear R2x hr
          replace R1 := R1.below hb HQ1
          replace HQ1 : ∀ b, Q1 b → b < W44.heap.size := fun b h => Nat.lt_of_lt_of_le (HQ1 b h) hb.size
          replace BX7 := (hb.block g7 HG7).trans BX7
          replace HG7 : g7 < W44.heap.size := Nat.lt_of_lt_of_le HG7 hb.size
          replace BX8 := (hb.block g8 HG8).trans BX8
          replace HG8 : g8 < W44.heap.size := Nat.lt_of_lt_of_le HG8 hb.size
          replace hHeld := hHeld2
          clear hHeld2 hb
          refine wpAnyH_ready (rs := [7]) (by kernel_rfl) (by simp) ?_
          refine AllReadyH.cons rfl (fun K hK => ?_) AllReadyH.nil
          ·go_simp
           refine (txonlyP R2 HQ2 (Szs.out.below (G.out.trans (hHeld.1.mono GB.out))) Mzs.out.1 Mzs.out.2 FP1.out).mono ?_
           rintro e W45 ⟨v3, rfl, hr, hb⟩
           refine hK.out _ _ (KE.out _ (hHeld.1.trans (hb.mono (LE.out _ hHeld.1)))) (fun hHeld2 => ?_)
           clear hK K
           rw [HP2.out] at hr
           obtain ⟨Q3, R3, HQ3, N73, N83⟩ : ∃ Q : Nat → Prop, IsTxnIn Q W45 v3 p2 ∧ (∀ b, Q b → b < W45.heap.size) ∧ ¬ Q g7 ∧ ¬ Q g8 := ⟨_, hr, only_new HQ2 hb.size, only_not HG7 N72, only_not HG8 N82⟩
           obtain ⟨fa3, fn3, fc3, ga3, gn3, gc3, hv3, R3x⟩ := R3.parts
           subst hv3
           replace R3 := R3x
           clear R3x hr
           replace R1 := R1.below hb HQ1
           replace HQ1 : ∀ b, Q1 b → b < W45.heap.size := fun b h => Nat.lt_of_lt_of_le (HQ1 b h) hb.size
           replace R2 := R2.below hb HQ2
           replace HQ2 : ∀ b, Q2 b → b < W45.heap.size := fun b h => Nat.lt_of_lt_of_le (HQ2 b h) hb.size
           replace BX7 := (hb.block g7 HG7).trans BX7
           replace HG7 : g7 < W45.heap.size := Nat.lt_of_lt_of_le HG7 hb.size
           replace BX8 := (hb.block g8 HG8).trans BX8
           replace HG8 : g8 < W45.heap.size := Nat.lt_of_lt_of_le HG8 hb.size
           replace hHeld := hHeld2
           clear hHeld2 hb
           have hne : g7 ≠ g8 := by first | exact HNE | exact fun h => HNE h.symm
           obtain ⟨⟨c0, c1, c2, c3⟩, f0, f1, f2, f3⟩ := st4_cells BX7
           refine wpAnyH_ready (rs := [10]) (by kernel_rfl) (by simp) ?_
           refine AllReadyH.cons rfl (fun K hK => ?_) AllReadyH.nil
           go_simp
           refine hK.out _ _ (KE.out _ (st4_below hHeld.1 HGU7)) (fun hHeld2 => ?_)
           clear hK K c0 c1 c2 c3 f0 f1 f2 f3
           have BY : ((((W45.setCell ⟨g7, 0, none⟩ (.int .i64 p1.node)).setCell ⟨g7, 1, none⟩ (.int .i64 p1.seq)).setCell ⟨g7, 2, none⟩ (.slice fa1 fn1 fc1)).setCell ⟨g7, 3, none⟩ (.slice ga1 gn1 gc1)).heap[g7]? = _ := st4_block (v0 := .int .i64 p1.node) (v1 := .int .i64 p1.seq) (v2 := .slice fa1 fn1 fc1) (v3 := .slice ga1 gn1 gc1) BX7
           have HO : ∀ b, b ≠ g7 → ((((W45.setCell ⟨g7, 0, none⟩ (.int .i64 p1.node)).setCell ⟨g7, 1, none⟩ (.int .i64 p1.seq)).setCell ⟨g7, 2, none⟩ (.slice fa1 fn1 fc1)).setCell ⟨g7, 3, none⟩ (.slice ga1 gn1 gc1)).heap[b]? = W45.heap[b]? := fun b h => st4_other W45 g7 _ _ _ _ b h
           have HZ : ((((W45.setCell ⟨g7, 0, none⟩ (.int .i64 p1.node)).setCell ⟨g7, 1, none⟩ (.int .i64 p1.seq)).setCell ⟨g7, 2, none⟩ (.slice fa1 fn1 fc1)).setCell ⟨g7, 3, none⟩ (.slice ga1 gn1 gc1)).heap.size = W45.heap.size := st4_size W45 g7 _ _ _ _
           generalize ((((W45.setCell ⟨g7, 0, none⟩ (.int .i64 p1.node)).setCell ⟨g7, 1, none⟩ (.int .i64 p1.seq)).setCell ⟨g7, 2, none⟩ (.slice fa1 fn1 fc1)).setCell ⟨g7, 3, none⟩ (.slice ga1 gn1 gc1)) = WX at *
           replace BX8 := (HO g8 (Ne.symm hne)).trans BX8
           replace BX7 := BY
           replace R1 := R1.agree fun b h => HO b (fun e => N71 (e ▸ h))
           replace HQ1 : ∀ b, Q1 b → b < WX.heap.size := fun b h => by rw [HZ]; exact HQ1 b h
           replace R3 := R3.agree fun b h => HO b (fun e => N73 (e ▸ h))
           replace HQ3 : ∀ b, Q3 b → b < WX.heap.size := fun b h => by rw [HZ]; exact HQ3 b h
           clear BY HO HZ
           replace hHeld := hHeld2
           clear hHeld2
           obtain ⟨⟨c0, c1, c2, c3⟩, f0, f1, f2, f3⟩ := st4_cells BX8
           refine wpAnyH_ready (rs := [11]) (by kernel_rfl) (by simp) ?_
           refine AllReadyH.cons rfl (fun K hK => ?_) AllReadyH.nil
           go_simp
           refine hK.out _ _ (KE.out _ (st4_below hHeld.1 HGU8)) (fun hHeld2 => ?_)
           clear hK K c0 c1 c2 c3 f0 f1 f2 f3
           have BY : ((((WX.setCell ⟨g8, 0, none⟩ (.int .i64 p2.node)).setCell ⟨g8, 1, none⟩ (.int .i64 p2.seq)).setCell ⟨g8, 2, none⟩ (.slice fa3 fn3 fc3)).setCell ⟨g8, 3, none⟩ (.slice ga3 gn3 gc3)).heap[g8]? = _ := st4_block (v0 := .int .i64 p2.node) (v1 := .int .i64 p2.seq) (v2 := .slice fa3 fn3 fc3) (v3 := .slice ga3 gn3 gc3) BX8
           have HO : ∀ b, b ≠ g8 → ((((WX.setCell ⟨g8, 0, none⟩ (.int .i64 p2.node)).setCell ⟨g8, 1, none⟩ (.int .i64 p2.seq)).setCell ⟨g8, 2, none⟩ (.slice fa3 fn3 fc3)).setCell ⟨g8, 3, none⟩ (.slice ga3 gn3 gc3)).heap[b]? = WX.heap[b]? := fun b h => st4_other WX g8 _ _ _ _ b h
           have HZ : ((((WX.setCell ⟨g8, 0, none⟩ (.int .i64 p2.node)).setCell ⟨g8, 1, none⟩ (.int .i64 p2.seq)).setCell ⟨g8, 2, none⟩ (.slice fa3 fn3 fc3)).setCell ⟨g8, 3, none⟩ (.slice ga3 gn3 gc3)).heap.size = WX.heap.size := st4_size WX g8 _ _ _ _
           generalize ((((WX.setCell ⟨g8, 0, none⟩ (.int .i64 p2.node)).setCell ⟨g8, 1, none⟩ (.int .i64 p2.seq)).setCell ⟨g8, 2, none⟩ (.slice fa3 fn3 fc3)).setCell ⟨g8, 3, none⟩ (.slice ga3 gn3 gc3)) = WY at *
           replace BX7 := (HO g7 hne).trans BX7
           replace BX8 := BY
           replace R1 := R1.agree fun b h => HO b (fun e => N81 (e ▸ h))
           replace HQ1 : ∀ b, Q1 b → b < WY.heap.size := fun b h => by rw [HZ]; exact HQ1 b h
           replace R3 := R3.agree fun b h => HO b (fun e => N83 (e ▸ h))
           replace HQ3 : ∀ b, Q3 b → b < WY.heap.size := fun b h => by rw [HZ]; exact HQ3 b h
           clear BY HO HZ
           replace hHeld := hHeld2
           clear hHeld2
           refine wpAnyH_done (by kernel_rfl) ?_ _
           go_wp2_with fail
           go_meet
           obtain ⟨A7, -⟩ := st4_cells BX7
           obtain ⟨A8, -⟩ := st4_cells BX8
           obtain ⟨d1, e1, hv1, i1, j1⟩ := R1.is HQ1
           obtain ⟨d3, e3, hv3, i3, j3⟩ := R3.is HQ3
           simp only [Value.agg.injEq, Array.mk.injEq, List.cons.injEq, and_true, true_and] at hv1 hv3
           obtain ⟨rfl, rfl⟩ := hv1
           obtain ⟨rfl, rfl⟩ := hv3
           exact ⟨g7, g8, _, _, _, _, _, _, _, _, _, _, _, _, rfl, rfl, ⟨A7, i1, j1⟩, ⟨A8, i3, j3⟩, hHeld.1.mono (Nat.le_of_eq HB0.out)⟩
       ·go_simp
        refine hK.out _ _ (KE.out _ (hHeld.1.alloc (LE.out _ hHeld.1) _)) (fun hHeld2 => ?_)
        clear hK K
        have BX8 : (W36.alloc (.cells #[.int .i64 0, .int .i64 0, .slice none 0 0, .slice none 0 0] 26)).heap[W36.heap.size]? = some (.cells #[.int .i64 0, .int .i64 0, .slice none 0 0, .slice none 0 0] 26 (0, 0)) := heap_alloc_new W36 _
        have HG8 : W36.heap.size < (W36.alloc (.cells #[.int .i64 0, .int .i64 0, .slice none 0 0, .slice none 0 0] 26)).heap.size := by simp
        have hb : Below W36.heap.size W36 (W36.alloc (.cells #[.int .i64 0, .int .i64 0, .slice none 0 0, .slice none 0 0] 26)) := ((Below.refl _ _).alloc (Nat.le_refl _) _)
        have hgb : wB.heap.size ≤ W36.heap.size := Nat.le_trans GU.out hHeld.1.size
        have HGU8 : B0 ≤ W36.heap.size := LE.out _ hHeld.1
        have HNE : g7 ≠ W36.heap.size := by omega
        replace BX7 := (hb.block g7 HG7).trans BX7
        replace HG7 : g7 < (W36.alloc (.cells #[.int .i64 0, .int .i64 0, .slice none 0 0, .slice none 0 0] 26)).heap.size := Nat.lt_of_lt_of_le HG7 hb.size
        generalize (W36.alloc (.cells #[.int .i64 0, .int .i64 0, .slice none 0 0, .slice none 0 0] 26)) = W46 at *
        obtain ⟨g8, hg8⟩ : ∃ g, W36.heap.size = g := ⟨_, rfl⟩
        rw [hg8] at BX8 HG8 HGU8 hgb HNE ⊢
        have HGB8 := hgb
        clear hb hgb hg8
        replace hHeld := hHeld2
        clear hHeld2
        refine wpAnyH_ready (rs := [2]) (by kernel_rfl) (by simp) ?_
        refine AllReadyH.cons rfl (fun K hK => ?_) AllReadyH.nil
        ·go_simp
         refine (txonlyP (T0.out.below (hHeld.1.mono (Nat.le_of_eq HB0.out)) (fun b h => Nat.lt_of_lt_of_le (HQ0.out b h) GU.out)) (fun b h => Nat.lt_of_lt_of_le (HQ0.out b h) (Nat.le_trans GU.out hHeld.1.size)) (Sys.out.below (G.out.trans (hHeld.1.mono GB.out))) Mys.out.1 Mys.out.2 FX.out).mono ?_
         rintro e W47 ⟨v1, rfl, hr, hb⟩
         refine hK.out _ _ (KE.out _ (hHeld.1.trans (hb.mono (LE.out _ hHeld.1)))) (fun hHeld2 => ?_)
         clear hK K
         rw [HP1.out] at hr
         obtain ⟨Q1, R1, HQ1, N71, N81⟩ : ∃ Q : Nat → Prop, IsTxnIn Q W47 v1 p1 ∧ (∀ b, Q b → b < W47.heap.size) ∧ ¬ Q g7 ∧ ¬ Q g8 := ⟨_, hr, only_new (fun b h => Nat.lt_of_lt_of_le (HQ0.out b h) (Nat.le_trans GU.out hHeld.1.size)) hb.size, only_not HG7 (fun h => absurd (HQ0.out _ h) (by omega)), only_not HG8 (fun h => absurd (HQ0.out _ h) (by omega))⟩
         obtain ⟨fa1, fn1, fc1, ga1, gn1, gc1, hv1, R1x⟩ := R1.parts
         subst hv1
         replace R1 := R1x
         clear R1x hr
         replace BX7 := (hb.block g7 HG7).trans BX7
         replace HG7 : g7 < W47.heap.size := Nat.lt_of_lt_of_le HG7 hb.size
         replace BX8 := (hb.block g8 HG8).trans BX8
         replace HG8 : g8 < W47.heap.size := Nat.lt_of_lt_of_le HG8 hb.size
         replace hHeld := hHeld2
         clear hHeld2 hb
         refine wpAnyH_ready (rs := [5]) (by kernel_rfl) (by simp) ?_
         refine AllReadyH.cons rfl (fun K hK => ?_) AllReadyH.nil
         ·go_simp
          refine (txonlyP (T0.out.below (hHeld.1.mono (Nat.le_of_eq HB0.out)) (fun b h => Nat.lt_of_lt_of_le (HQ0.out b h) GU.out)) (fun b h => Nat.lt_of_lt_of_le (HQ0.out b h) (Nat.le_trans GU.out hHeld.1.size)) (Sys.out.below (G.out.trans (hHeld.1.mono GB.out))) Mys.out.1 Mys.out.2 FX.out).mono ?_
          rintro e W48 ⟨v2, rfl, hr, hb⟩
          refine hK.out _ _ (KE.out _ (hHeld.1.trans (hb.mono (LE.out _ hHeld.1)))) (fun hHeld2 => ?_)
          clear hK K
          rw [HP1.out] at hr
          obtain ⟨Q2, R2, HQ2, N72, N82⟩ : ∃ Q : Nat → Prop, IsTxnIn Q W48 v2 p1 ∧ (∀ b, Q b → b < W48.heap.size) ∧ ¬ Q g7 ∧ ¬ Q g8 := ⟨_, hr, only_new (fun b h => Nat.lt_of_lt_of_le (HQ0.out b h) (Nat.le_trans GU.out hHeld.1.size)) hb.size, only_not HG7 (fun h => absurd (HQ0.out _ h) (by omega)), only_not HG8 (fun h => absurd (HQ0.out _ h) (by omega))⟩
          obtain ⟨fa2, fn2, fc2, ga2, gn2, gc2, hv2, R2x⟩ := R2.parts
          subst hv2
          replace R2 := R2x
          clear R2x hr
          replace R1 := R1.below hb HQ1
          replace HQ1 : ∀ b, Q1 b → b < W48.heap.size := fun b h => Nat.lt_of_lt_of_le (HQ1 b h) hb.size
          replace BX7 := (hb.block g7 HG7).trans BX7
          replace HG7 : g7 < W48.heap.size := Nat.lt_of_lt_of_le HG7 hb.size
          replace BX8 := (hb.block g8 HG8).trans BX8
          replace HG8 : g8 < W48.heap.size := Nat.lt_of_lt_of_le HG8 hb.size
          replace hHeld := hHeld2
          clear hHeld2 hb
          refine wpAnyH_ready (rs := [7]) (by kernel_rfl) (by simp) ?_
          refine AllReadyH.cons rfl (fun K hK => ?_) AllReadyH.nil
          ·go_simp
           refine (txonlyP R2 HQ2 (Szs.out.below (G.out.trans (hHeld.1.mono GB.out))) Mzs.out.1 Mzs.out.2 FP1.out).mono ?_
           rintro e W49 ⟨v3, rfl, hr, hb⟩
           refine hK.out _ _ (KE.out _ (hHeld.1.trans (hb.mono (LE.out _ hHeld.1)))) (fun hHeld2 => ?_)
           clear hK K
           rw [HP2.out] at hr
           obtain ⟨Q3, R3, HQ3, N73, N83⟩ : ∃ Q : Nat → Prop, IsTxnIn Q W49 v3 p2 ∧ (∀ b, Q b → b < W49.heap.size) ∧ ¬ Q g7 ∧ ¬ Q g8 := ⟨_, hr, only_new HQ2 hb.size, only_not HG7 N72, only_not HG8 N82⟩
           obtain ⟨fa3, fn3, fc3, ga3, gn3, gc3, hv3, R3x⟩ := R3.parts
           subst hv3
           replace R3 := R3x
           clear R3x hr
           replace R1 := R1.below hb HQ1
           replace HQ1 : ∀ b, Q1 b → b < W49.heap.size := fun b h => Nat.lt_of_lt_of_le (HQ1 b h) hb.size
           replace R2 := R2.below hb HQ2
           replace HQ2 : ∀ b, Q2 b → b < W49.heap.size := fun b h => Nat.lt_of_lt_of_le (HQ2 b h) hb.size
           replace BX7 := (hb.block g7 HG7).trans BX7
           replace HG7 : g7 < W49.heap.size := Nat.lt_of_lt_of_le HG7 hb.size
           replace BX8 := (hb.block g8 HG8).trans BX8
           replace HG8 : g8 < W49.heap.size := Nat.lt_of_lt_of_le HG8 hb.size
           replace hHeld := hHeld2
           clear hHeld2 hb
           have hne : g7 ≠ g8 := by first | exact HNE | exact fun h => HNE h.symm
           obtain ⟨⟨c0, c1, c2, c3⟩, f0, f1, f2, f3⟩ := st4_cells BX7
           refine wpAnyH_ready (rs := [10]) (by kernel_rfl) (by simp) ?_
           refine AllReadyH.cons rfl (fun K hK => ?_) AllReadyH.nil
           go_simp
           refine hK.out _ _ (KE.out _ (st4_below hHeld.1 HGU7)) (fun hHeld2 => ?_)
           clear hK K c0 c1 c2 c3 f0 f1 f2 f3
           have BY : ((((W49.setCell ⟨g7, 0, none⟩ (.int .i64 p1.node)).setCell ⟨g7, 1, none⟩ (.int .i64 p1.seq)).setCell ⟨g7, 2, none⟩ (.slice fa1 fn1 fc1)).setCell ⟨g7, 3, none⟩ (.slice ga1 gn1 gc1)).heap[g7]? = _ := st4_block (v0 := .int .i64 p1.node) (v1 := .int .i64 p1.seq) (v2 := .slice fa1 fn1 fc1) (v3 := .slice ga1 gn1 gc1) BX7
           have HO : ∀ b, b ≠ g7 → ((((W49.setCell ⟨g7, 0, none⟩ (.int .i64 p1.node)).setCell ⟨g7, 1, none⟩ (.int .i64 p1.seq)).setCell ⟨g7, 2, none⟩ (.slice fa1 fn1 fc1)).setCell ⟨g7, 3, none⟩ (.slice ga1 gn1 gc1)).heap[b]? = W49.heap[b]? := fun b h => st4_other W49 g7 _ _ _ _ b h
           have HZ : ((((W49.setCell ⟨g7, 0, none⟩ (.int .i64 p1.node)).setCell ⟨g7, 1, none⟩ (.int .i64 p1.seq)).setCell ⟨g7, 2, none⟩ (.slice fa1 fn1 fc1)).setCell ⟨g7, 3, none⟩ (.slice ga1 gn1 gc1)).heap.size = W49.heap.size := st4_size W49 g7 _ _ _ _
           generalize ((((W49.setCell ⟨g7, 0, none⟩ (.int .i64 p1.node)).setCell ⟨g7, 1, none⟩ (.int .i64 p1.seq)).setCell ⟨g7, 2, none⟩ (.slice fa1 fn1 fc1)).setCell ⟨g7, 3, none⟩ (.slice ga1 gn1 gc1)) = WX at *
           replace BX8 := (HO g8 (Ne.symm hne)).trans BX8
           replace BX7 := BY
           replace R1 := R1.agree fun b h => HO b (fun e => N71 (e ▸ h))
           replace HQ1 : ∀ b, Q1 b → b < WX.heap.size := fun b h => by rw [HZ]; exact HQ1 b h
           replace R3 := R3.agree fun b h => HO b (fun e => N73 (e ▸ h))
           replace HQ3 : ∀ b, Q3 b → b < WX.heap.size := fun b h => by rw [HZ]; exact HQ3 b h
           clear BY HO HZ
           replace hHeld := hHeld2
           clear hHeld2
           obtain ⟨⟨c0, c1, c2, c3⟩, f0, f1, f2, f3⟩ := st4_cells BX8
           refine wpAnyH_ready (rs := [11]) (by kernel_rfl) (by simp) ?_
           refine AllReadyH.cons rfl (fun K hK => ?_) AllReadyH.nil
           go_simp
           refine hK.out _ _ (KE.out _ (st4_below hHeld.1 HGU8)) (fun hHeld2 => ?_)
           clear hK K c0 c1 c2 c3 f0 f1 f2 f3
           have BY : ((((WX.setCell ⟨g8, 0, none⟩ (.int .i64 p2.node)).setCell ⟨g8, 1, none⟩ (.int .i64 p2.seq)).setCell ⟨g8, 2, none⟩ (.slice fa3 fn3 fc3)).setCell ⟨g8, 3, none⟩ (.slice ga3 gn3 gc3)).heap[g8]? = _ := st4_block (v0 := .int .i64 p2.node) (v1 := .int .i64 p2.seq) (v2 := .slice fa3 fn3 fc3) (v3 := .slice ga3 gn3 gc3) BX8
           have HO : ∀ b, b ≠ g8 → ((((WX.setCell ⟨g8, 0, none⟩ (.int .i64 p2.node)).setCell ⟨g8, 1, none⟩ (.int .i64 p2.seq)).setCell ⟨g8, 2, none⟩ (.slice fa3 fn3 fc3)).setCell ⟨g8, 3, none⟩ (.slice ga3 gn3 gc3)).heap[b]? = WX.heap[b]? := fun b h => st4_other WX g8 _ _ _ _ b h
           have HZ : ((((WX.setCell ⟨g8, 0, none⟩ (.int .i64 p2.node)).setCell ⟨g8, 1, none⟩ (.int .i64 p2.seq)).setCell ⟨g8, 2, none⟩ (.slice fa3 fn3 fc3)).setCell ⟨g8, 3, none⟩ (.slice ga3 gn3 gc3)).heap.size = WX.heap.size := st4_size WX g8 _ _ _ _
           generalize ((((WX.setCell ⟨g8, 0, none⟩ (.int .i64 p2.node)).setCell ⟨g8, 1, none⟩ (.int .i64 p2.seq)).setCell ⟨g8, 2, none⟩ (.slice fa3 fn3 fc3)).setCell ⟨g8, 3, none⟩ (.slice ga3 gn3 gc3)) = WY at *
           replace BX7 := (HO g7 hne).trans BX7
           replace BX8 := BY
           replace R1 := R1.agree fun b h => HO b (fun e => N81 (e ▸ h))
           replace HQ1 : ∀ b, Q1 b → b < WY.heap.size := fun b h => by rw [HZ]; exact HQ1 b h
           replace R3 := R3.agree fun b h => HO b (fun e => N83 (e ▸ h))
           replace HQ3 : ∀ b, Q3 b → b < WY.heap.size := fun b h => by rw [HZ]; exact HQ3 b h
           clear BY HO HZ
           replace hHeld := hHeld2
           clear hHeld2
           refine wpAnyH_done (by kernel_rfl) ?_ _
           go_wp2_with fail
           go_meet
           obtain ⟨A7, -⟩ := st4_cells BX7
           obtain ⟨A8, -⟩ := st4_cells BX8
           obtain ⟨d1, e1, hv1, i1, j1⟩ := R1.is HQ1
           obtain ⟨d3, e3, hv3, i3, j3⟩ := R3.is HQ3
           simp only [Value.agg.injEq, Array.mk.injEq, List.cons.injEq, and_true, true_and] at hv1 hv3
           obtain ⟨rfl, rfl⟩ := hv1
           obtain ⟨rfl, rfl⟩ := hv3
           exact ⟨g7, g8, _, _, _, _, _, _, _, _, _, _, _, _, rfl, rfl, ⟨A7, i1, j1⟩, ⟨A8, i3, j3⟩, hHeld.1.mono (Nat.le_of_eq HB0.out)⟩
      ·go_simp
       refine hK.out _ _ (KE.out _ (hHeld.1.alloc (LE.out _ hHeld.1) _)) (fun hHeld2 => ?_)
       clear hK K
       have BX8 : (u6.alloc (.cells #[.int .i64 0, .int .i64 0, .slice none 0 0, .slice none 0 0] 26)).drew.heap[u6.heap.size]? = some (.cells #[.int .i64 0, .int .i64 0, .slice none 0 0, .slice none 0 0] 26 (0, 0)) := heap_alloc_new u6 _
       have HG8 : u6.heap.size < (u6.alloc (.cells #[.int .i64 0, .int .i64 0, .slice none 0 0, .slice none 0 0] 26)).drew.heap.size := by simp
       have hb : Below u6.heap.size u6 (u6.alloc (.cells #[.int .i64 0, .int .i64 0, .slice none 0 0, .slice none 0 0] 26)).drew := ((Below.refl _ _).alloc (Nat.le_refl _) _).drew
       have hgb : wB.heap.size ≤ u6.heap.size := Nat.le_trans GU.out hHeld.1.size
       have HGU8 : B0 ≤ u6.heap.size := Nat.le_of_eq HB0.out.symm
       generalize (u6.alloc (.cells #[.int .i64 0, .int .i64 0, .slice none 0 0, .slice none 0 0] 26)).drew = W50 at *
       obtain ⟨g8, hg8⟩ : ∃ g, u6.heap.size = g := ⟨_, rfl⟩
       rw [hg8] at BX8 HG8 HGU8 hgb ⊢
       have HGB8 := hgb
       clear hb hgb hg8
       replace hHeld := hHeld2
       clear hHeld2
       refine wpAnyH_ready (rs := [2, 8]) (by kernel_rfl) (by simp) ?_
       refine AllReadyH.cons rfl (fun K hK => ?_) (AllReadyH.cons rfl (fun K hK => ?_) AllReadyH.nil)
       ·go_simp
        refine (txonlyP (T0.out.below (hHeld.1.mono (Nat.le_of_eq HB0.out)) (fun b h => Nat.lt_of_lt_of_le (HQ0.out b h) GU.out)) (fun b h => Nat.lt_of_lt_of_le (HQ0.out b h) (Nat.le_trans GU.out hHeld.1.size)) (Sys.out.below (G.out.trans (hHeld.1.mono GB.out))) Mys.out.1 Mys.out.2 FX.out).mono ?_
        rintro e W51 ⟨v1, rfl, hr, hb⟩
        refine hK.out _ _ (KE.out _ (hHeld.1.trans (hb.mono (LE.out _ hHeld.1)))) (fun hHeld2 => ?_)
        clear hK K
        rw [HP1.out] at hr
        obtain ⟨Q1, R1, HQ1, N81⟩ : ∃ Q : Nat → Prop, IsTxnIn Q W51 v1 p1 ∧ (∀ b, Q b → b < W51.heap.size) ∧ ¬ Q g8 := ⟨_, hr, only_new (fun b h => Nat.lt_of_lt_of_le (HQ0.out b h) (Nat.le_trans GU.out hHeld.1.size)) hb.size, only_not HG8 (fun h => absurd (HQ0.out _ h) (by omega))⟩
        obtain ⟨fa1, fn1, fc1, ga1, gn1, gc1, hv1, R1x⟩ := R1.parts
        subst hv1
        replace R1 := R1x
        clear R1x hr
        replace BX8 := (hb.block g8 HG8).trans BX8
        replace HG8 : g8 < W51.heap.size := Nat.lt_of_lt_of_le HG8 hb.size
        replace hHeld := hHeld2
        clear hHeld2 hb
        refine wpAnyH_ready (rs := [5, 8]) (by kernel_rfl) (by simp) ?_
        refine AllReadyH.cons rfl (fun K hK => ?_) (AllReadyH.cons rfl (fun K hK => ?_) AllReadyH.nil)
        ·go_simp
         refine (txonlyP (T0.out.below (hHeld.1.mono (Nat.le_of_eq HB0.out)) (fun b h => Nat.lt_of_lt_of_le (HQ0.out b h) GU.out)) (fun b h => Nat.lt_of_lt_of_le (HQ0.out b h) (Nat.le_trans GU.out hHeld.1.size)) (Sys.out.below (G.out.trans (hHeld.1.mono GB.out))) Mys.out.1 Mys.out.2 FX.out).mono ?_
         rintro e W52 ⟨v2, rfl, hr, hb⟩
         refine hK.out _ _ (KE.out _ (hHeld.1.trans (hb.mono (LE.out _ hHeld.1)))) (fun hHeld2 => ?_)
         clear hK K
         rw [HP1.out] at hr
         obtain ⟨Q2, R2, HQ2, N82⟩ : ∃ Q : Nat → Prop, IsTxnIn Q W52 v2 p1 ∧ (∀ b, Q b → b < W52.heap.size) ∧ ¬ Q g8 := ⟨_, hr, only_new (fun b h => Nat.lt_of_lt_of_le (HQ0.out b h) (Nat.le_trans GU.out hHeld.1.size)) hb.size, only_not HG8 (fun h => absurd (HQ0.out _ h) (by omega))⟩
         obtain ⟨fa2, fn2, fc2, ga2, gn2, gc2, hv2, R2x⟩ := R2.parts
         subst hv2
         replace R2 := R2x
         clear R2x hr
         replace R1 := R1.below hb HQ1
         replace HQ1 : ∀ b, Q1 b → b < W52.heap.size := fun b h => Nat.lt_of_lt_of_le (HQ1 b h) hb.size
         replace BX8 := (hb.block g8 HG8).trans BX8
         replace HG8 : g8 < W52.heap.size := Nat.lt_of_lt_of_le HG8 hb.size
         replace hHeld := hHeld2
         clear hHeld2 hb
         refine wpAnyH_ready (rs := [7, 8]) (by kernel_rfl) (by simp) ?_
         refine AllReadyH.cons rfl (fun K hK => ?_) (AllReadyH.cons rfl (fun K hK => ?_) AllReadyH.nil)
         ·go_simp
          refine (txonlyP R2 HQ2 (Szs.out.below (G.out.trans (hHeld.1.mono GB.out))) Mzs.out.1 Mzs.out.2 FP1.out).mono ?_
          rintro e W53 ⟨v3, rfl, hr, hb⟩
          refine hK.out _ _ (KE.out _ (hHeld.1.trans (hb.mono (LE.out _ hHeld.1)))) (fun hHeld2 => ?_)
          clear hK K
          rw [HP2.out] at hr
          obtain ⟨Q3, R3, HQ3, N83⟩ : ∃ Q : Nat → Prop, IsTxnIn Q W53 v3 p2 ∧ (∀ b, Q b → b < W53.heap.size) ∧ ¬ Q g8 := ⟨_, hr, only_new HQ2 hb.size, only_not HG8 N82⟩
          obtain ⟨fa3, fn3, fc3, ga3, gn3, gc3, hv3, R3x⟩ := R3.parts
          subst hv3
          replace R3 := R3x
          clear R3x hr
          replace R1 := R1.below hb HQ1
          replace HQ1 : ∀ b, Q1 b → b < W53.heap.size := fun b h => Nat.lt_of_lt_of_le (HQ1 b h) hb.size
          replace R2 := R2.below hb HQ2
          replace HQ2 : ∀ b, Q2 b → b < W53.heap.size := fun b h => Nat.lt_of_lt_of_le (HQ2 b h) hb.size
          replace BX8 := (hb.block g8 HG8).trans BX8
          replace HG8 : g8 < W53.heap.size := Nat.lt_of_lt_of_le HG8 hb.size
          replace hHeld := hHeld2
          clear hHeld2 hb
          refine wpAnyH_ready (rs := [8]) (by kernel_rfl) (by simp) ?_
          refine AllReadyH.cons rfl (fun K hK => ?_) AllReadyH.nil
          ·go_simp
           refine hK.out _ _ (KE.out _ (hHeld.1.alloc (LE.out _ hHeld.1) _)) (fun hHeld2 => ?_)
           clear hK K
           have BX7 : (W53.alloc (.cells #[.int .i64 0, .int .i64 0, .slice none 0 0, .slice none 0 0] 26)).heap[W53.heap.size]? = some (.cells #[.int .i64 0, .int .i64 0, .slice none 0 0, .slice none 0 0] 26 (0, 0)) := heap_alloc_new W53 _
           have HG7 : W53.heap.size < (W53.alloc (.cells #[.int .i64 0, .int .i64 0, .slice none 0 0, .slice none 0 0] 26)).heap.size := by simp
           have hb : Below W53.heap.size W53 (W53.alloc (.cells #[.int .i64 0, .int .i64 0, .slice none 0 0, .slice none 0 0] 26)) := ((Below.refl _ _).alloc (Nat.le_refl _) _)
           have hgb : wB.heap.size ≤ W53.heap.size := Nat.le_trans GU.out hHeld.1.size
           have HGU7 : B0 ≤ W53.heap.size := LE.out _ hHeld.1
           have N71 : ¬ Q1 W53.heap.size := fun h => absurd (HQ1 _ h) (by omega)
           have N72 : ¬ Q2 W53.heap.size := fun h => absurd (HQ2 _ h) (by omega)
           have N73 : ¬ Q3 W53.heap.size := fun h => absurd (HQ3 _ h) (by omega)
           have HNE : g8 ≠ W53.heap.size := by omega
           replace R1 := R1.below hb HQ1
           replace HQ1 : ∀ b, Q1 b → b < (W53.alloc (.cells #[.int .i64 0, .int .i64 0, .slice none 0 0, .slice none 0 0] 26)).heap.size := fun b h => Nat.lt_of_lt_of_le (HQ1 b h) hb.size
           replace R2 := R2.below hb HQ2
           replace HQ2 : ∀ b, Q2 b → b < (W53.alloc (.cells #[.int .i64 0, .int .i64 0, .slice none 0 0, .slice none 0 0] 26)).heap.size := fun b h => Nat.lt_of_lt_of_le (HQ2 b h) hb.size
           replace R3 := R3.below hb HQ3
           replace HQ3 : ∀ b, Q3 b → b < (W53.alloc (.cells #[.int .i64 0, .int .i64 0, .slice none 0 0, .slice none 0 0] 26)).heap.size := fun b h => Nat.lt_of_lt_of_le (HQ3 b h) hb.size
           replace BX8 := (hb.block g8 HG8).trans BX8
           replace HG8 : g8 < (W53.alloc (.cells #[.int .i64 0, .int .i64 0, .slice none 0 0, .slice none 0 0] 26)).heap.size := Nat.lt_of_lt_of_le HG8 hb.size
           generalize (W53.alloc (.cells #[.int .i64 0, .int .i64 0, .slice none 0 0, .slice none 0 0] 26)) = W54 at *
           obtain ⟨g7, hg7⟩ : ∃ g, W53.heap.size = g := ⟨_, rfl⟩
           rw [hg7] at BX7 HG7 HGU7 hgb N71 N72 N73 HNE ⊢
           have HGB7 := hgb
           clear hb hgb hg7
           replace hHeld := hHeld2
           clear hHeld2
           have hne : g7 ≠ g8 := by first | exact HNE | exact fun h => HNE h.symm
           obtain ⟨⟨c0, c1, c2, c3⟩, f0, f1, f2, f3⟩ := st4_cells BX7
           refine wpAnyH_ready (rs := [10]) (by kernel_rfl) (by simp) ?_
           refine AllReadyH.cons rfl (fun K hK => ?_) AllReadyH.nil
           go_simp
           refine hK.out _ _ (KE.out _ (st4_below hHeld.1 HGU7)) (fun hHeld2 => ?_)
           clear hK K c0 c1 c2 c3 f0 f1 f2 f3
           have BY : ((((W54.setCell ⟨g7, 0, none⟩ (.int .i64 p1.node)).setCell ⟨g7, 1, none⟩ (.int .i64 p1.seq)).setCell ⟨g7, 2, none⟩ (.slice fa1 fn1 fc1)).setCell ⟨g7, 3, none⟩ (.slice ga1 gn1 gc1)).heap[g7]? = _ := st4_block (v0 := .int .i64 p1.node) (v1 := .int .i64 p1.seq) (v2 := .slice fa1 fn1 fc1) (v3 := .slice ga1 gn1 gc1) BX7
           have HO : ∀ b, b ≠ g7 → ((((W54.setCell ⟨g7, 0, none⟩ (.int .i64 p1.node)).setCell ⟨g7, 1, none⟩ (.int .i64 p1.seq)).setCell ⟨g7, 2, none⟩ (.slice fa1 fn1 fc1)).setCell ⟨g7, 3, none⟩ (.slice ga1 gn1 gc1)).heap[b]? = W54.heap[b]? := fun b h => st4_other W54 g7 _ _ _ _ b h
           have HZ : ((((W54.setCell ⟨g7, 0, none⟩ (.int .i64 p1.node)).setCell ⟨g7, 1, none⟩ (.int .i64 p1.seq)).setCell ⟨g7, 2, none⟩ (.slice fa1 fn1 fc1)).setCell ⟨g7, 3, none⟩ (.slice ga1 gn1 gc1)).heap.size = W54.heap.size := st4_size W54 g7 _ _ _ _
           generalize ((((W54.setCell ⟨g7, 0, none⟩ (.int .i64 p1.node)).setCell ⟨g7, 1, none⟩ (.int .i64 p1.seq)).setCell ⟨g7, 2, none⟩ (.slice fa1 fn1 fc1)).setCell ⟨g7, 3, none⟩ (.slice ga1 gn1 gc1)) = WX at *
           replace BX8 := (HO g8 (Ne.symm hne)).trans BX8
           replace BX7 := BY
           replace R1 := R1.agree fun b h => HO b (fun e => N71 (e ▸ h))
           replace HQ1 : ∀ b, Q1 b → b < WX.heap.size := fun b h => by rw [HZ]; exact HQ1 b h
           replace R3 := R3.agree fun b h => HO b (fun e => N73 (e ▸ h))
           replace HQ3 : ∀ b, Q3 b → b < WX.heap.size := fun b h => by rw [HZ]; exact HQ3 b h
           clear BY HO HZ
           replace hHeld := hHeld2
           clear hHeld2
           obtain ⟨⟨c0, c1, c2, c3⟩, f0, f1, f2, f3⟩ := st4_cells BX8
           refine wpAnyH_ready (rs := [11]) (by kernel_rfl) (by simp) ?_
           refine AllReadyH.cons rfl (fun K hK => ?_) AllReadyH.nil
           go_simp
           refine hK.out _ _ (KE.out _ (st4_below hHeld.1 HGU8)) (fun hHeld2 => ?_)
           clear hK K c0 c1 c2 c3 f0 f1 f2 f3
           have BY : ((((WX.setCell ⟨g8, 0, none⟩ (.int .i64 p2.node)).setCell ⟨g8, 1, none⟩ (.int .i64 p2.seq)).setCell ⟨g8, 2, none⟩ (.slice fa3 fn3 fc3)).setCell ⟨g8, 3, none⟩ (.slice ga3 gn3 gc3)).heap[g8]? = _ := st4_block (v0 := .int .i64 p2.node) (v1 := .int .i64 p2.seq) (v2 := .slice fa3 fn3 fc3) (v3 := .slice ga3 gn3 gc3) BX8
           have HO : ∀ b, b ≠ g8 → ((((WX.setCell ⟨g8, 0, none⟩ (.int .i64 p2.node)).setCell ⟨g8, 1, none⟩ (.int .i64 p2.seq)).setCell ⟨g8, 2, none⟩ (.slice fa3 fn3 fc3)).setCell ⟨g8, 3, none⟩ (.slice ga3 gn3 gc3)).heap[b]? = WX.heap[b]? := fun b h => st4_other WX g8 _ _ _ _ b h
           have HZ : ((((WX.setCell ⟨g8, 0, none⟩ (.int .i64 p2.node)).setCell ⟨g8, 1, none⟩ (.int .i64 p2.seq)).setCell ⟨g8, 2, none⟩ (.slice fa3 fn3 fc3)).setCell ⟨g8, 3, none⟩ (.slice ga3 gn3 gc3)).heap.size = WX.heap.size := st4_size WX g8 _ _ _ _
           generalize ((((WX.setCell ⟨g8, 0, none⟩ (.int .i64 p2.node)).setCell ⟨g8, 1, none⟩ (.int .i64 p2.seq)).setCell ⟨g8, 2, none⟩ (.slice fa3 fn3 fc3)).setCell ⟨g8, 3, none⟩ (.slice ga3 gn3 gc3)) = WY at *
           replace BX7 := (HO g7 hne).trans BX7
           replace BX8 := BY
           replace R1 := R1.agree fun b h => HO b (fun e => N81 (e ▸ h))
           replace HQ1 : ∀ b, Q1 b → b < WY.heap.size := fun b h => by rw [HZ]; exact HQ1 b h
           replace R3 := R3.agree fun b h => HO b (fun e => N83 (e ▸ h))
           replace HQ3 : ∀ b, Q3 b → b < WY.heap.size := fun b h => by rw [HZ]; exact HQ3 b h
           clear BY HO HZ
           replace hHeld := hHeld2
           clear hHeld2
           refine wpAnyH_done (by kernel_rfl) ?_ _
           go_wp2_with fail
           go_meet
           obtain ⟨A7, -⟩ := st4_cells BX7
           obtain ⟨A8, -⟩ := st4_cells BX8
           obtain ⟨d1, e1, hv1, i1, j1⟩ := R1.is HQ1
           obtain ⟨d3, e3, hv3, i3, j3⟩ := R3.is HQ3
           simp only [Value.agg.injEq, Array.mk.injEq, List.cons.injEq, and_true, true_and] at hv1 hv3
           obtain ⟨rfl, rfl⟩ := hv1
           obtain ⟨rfl, rfl⟩ := hv3
           exact ⟨g7, g8, _, _, _, _, _, _, _, _, _, _, _, _, rfl, rfl, ⟨A7, i1, j1⟩, ⟨A8, i3, j3⟩, hHeld.1.mono (Nat.le_of_eq HB0.out)⟩
         ·go_simp
          refine hK.out _ _ (KE.out _ (hHeld.1.alloc (LE.out _ hHeld.1) _)) (fun hHeld2 => ?_)
          clear hK K
          have BX7 : (W52.alloc (.cells #[.int .i64 0, .int .i64 0, .slice none 0 0, .slice none 0 0] 26)).heap[W52.heap.size]? = some (.cells #[.int .i64 0, .int .i64 0, .slice none 0 0, .slice none 0 0] 26 (0, 0)) := heap_alloc_new W52 _
          have HG7 : W52.heap.size < (W52.alloc (.cells #[.int .i64 0, .int .i64 0, .slice none 0 0, .slice none 0 0] 26)).heap.size := by simp
          have hb : Below W52.heap.size W52 (W52.alloc (.cells #[.int .i64 0, .int .i64 0, .slice none 0 0, .slice none 0 0] 26)) := ((Below.refl _ _).alloc (Nat.le_refl _) _)
          have hgb : wB.heap.size ≤ W52.heap.size := Nat.le_trans GU.out hHeld.1.size
          have HGU7 : B0 ≤ W52.heap.size := LE.out _ hHeld.1
          have N71 : ¬ Q1 W52.heap.size := fun h => absurd (HQ1 _ h) (by omega)
          have N72 : ¬ Q2 W52.heap.size := fun h => absurd (HQ2 _ h) (by omega)
          have HNE : g8 ≠ W52.heap.size := by omega
          replace R1 := R1.below hb HQ1
          replace HQ1 : ∀ b, Q1 b → b < (W52.alloc (.cells #[.int .i64 0, .int .i64 0, .slice none 0 0, .slice none 0 0] 26)).heap.size := fun b h => Nat.lt_of_lt_of_le (HQ1 b h) hb.size
          replace R2 := R2.below hb HQ2
          replace HQ2 : ∀ b, Q2 b → b < (W52.alloc (.cells #[.int .i64 0, .int .i64 0, .slice none 0 0, .slice none 0 0] 26)).heap.size := fun b h => Nat.lt_of_lt_of_le (HQ2 b h) hb.size
          replace BX8 := (hb.block g8 HG8).trans BX8
          replace HG8 : g8 < (W52.alloc (.cells #[.int .i64 0, .int .i64 0, .slice none 0 0, .slice none 0 0] 26)).heap.size := Nat.lt_of_lt_of_le HG8 hb.size
          generalize (W52.alloc (.cells #[.int .i64 0, .int .i64 0, .slice none 0 0, .slice none 0 0] 26)) = W55 at *
          obtain ⟨g7, hg7⟩ : ∃ g, W52.heap.size = g := ⟨_, rfl⟩
          rw [hg7] at BX7 HG7 HGU7 hgb N71 N72 HNE ⊢
          have HGB7 := hgb
          clear hb hgb hg7
          replace hHeld := hHeld2
          clear hHeld2
          refine wpAnyH_ready (rs := [7]) (by kernel_rfl) (by simp) ?_
          refine AllReadyH.cons rfl (fun K hK => ?_) AllReadyH.nil
          ·go_simp
           refine (txonlyP R2 HQ2 (Szs.out.below (G.out.trans (hHeld.1.mono GB.out))) Mzs.out.1 Mzs.out.2 FP1.out).mono ?_
           rintro e W56 ⟨v3, rfl, hr, hb⟩
           refine hK.out _ _ (KE.out _ (hHeld.1.trans (hb.mono (LE.out _ hHeld.1)))) (fun hHeld2 => ?_)
           clear hK K
           rw [HP2.out] at hr
           obtain ⟨Q3, R3, HQ3, N73, N83⟩ : ∃ Q : Nat → Prop, IsTxnIn Q W56 v3 p2 ∧ (∀ b, Q b → b < W56.heap.size) ∧ ¬ Q g7 ∧ ¬ Q g8 := ⟨_, hr, only_new HQ2 hb.size, only_not HG7 N72, only_not HG8 N82⟩
           obtain ⟨fa3, fn3, fc3, ga3, gn3, gc3, hv3, R3x⟩ := R3.parts
           subst hv3
           replace R3 := R3x
           clear R3x hr
           replace R1 := R1.below hb HQ1
           replace HQ1 : ∀ b, Q1 b → b < W56.heap.size := fun b h => Nat.lt_of_lt_of_le (HQ1 b h) hb.size
           replace R2 := R2.below hb HQ2
           replace HQ2 : ∀ b, Q2 b → b < W56.heap.size := fun b h => Nat.lt_of_lt_of_le (HQ2 b h) hb.size
           replace BX7 := (hb.block g7 HG7).trans BX7
           replace HG7 : g7 < W56.heap.size := Nat.lt_of_lt_of_le HG7 hb.size
           replace BX8 := (hb.block g8 HG8).trans BX8
           replace HG8 : g8 < W56.heap.size := Nat.lt_of_lt_of_le HG8 hb.size
           replace hHeld := hHeld2
           clear hHeld2 hb
           have hne : g7 ≠ g8 := by first | exact HNE | exact fun h => HNE h.symm
           obtain ⟨⟨c0, c1, c2, c3⟩, f0, f1, f2, f3⟩ := st4_cells BX7
           refine wpAnyH_ready (rs := [10]) (by kernel_rfl) (by simp) ?_
           refine AllReadyH.cons rfl (fun K hK => ?_) AllReadyH.nil
           go_simp
           refine hK.out _ _ (KE.out _ (st4_below hHeld.1 HGU7)) (fun hHeld2 => ?_)
           clear hK K c0 c1 c2 c3 f0 f1 f2 f3
           have BY : ((((W56.setCell ⟨g7, 0, none⟩ (.int .i64 p1.node)).setCell ⟨g7, 1, none⟩ (.int .i64 p1.seq)).setCell ⟨g7, 2, none⟩ (.slice fa1 fn1 fc1)).setCell ⟨g7, 3, none⟩ (.slice ga1 gn1 gc1)).heap[g7]? = _ := st4_block (v0 := .int .i64 p1.node) (v1 := .int .i64 p1.seq) (v2 := .slice fa1 fn1 fc1) (v3 := .slice ga1 gn1 gc1) BX7
           have HO : ∀ b, b ≠ g7 → ((((W56.setCell ⟨g7, 0, none⟩ (.int .i64 p1.node)).setCell ⟨g7, 1, none⟩ (.int .i64 p1.seq)).setCell ⟨g7, 2, none⟩ (.slice fa1 fn1 fc1)).setCell ⟨g7, 3, none⟩ (.slice ga1 gn1 gc1)).heap[b]? = W56.heap[b]? := fun b h => st4_other W56 g7 _ _ _ _ b h
           have HZ : ((((W56.setCell ⟨g7, 0, none⟩ (.int .i64 p1.node)).setCell ⟨g7, 1, none⟩ (.int .i64 p1.seq)).setCell ⟨g7, 2, none⟩ (.slice fa1 fn1 fc1)).setCell ⟨g7, 3, none⟩ (.slice ga1 gn1 gc1)).heap.size = W56.heap.size := st4_size W56 g7 _ _ _ _
           generalize ((((W56.setCell ⟨g7, 0, none⟩ (.int .i64 p1.node)).setCell ⟨g7, 1, none⟩ (.int .i64 p1.seq)).setCell ⟨g7, 2, none⟩ (.slice fa1 fn1 fc1)).setCell ⟨g7, 3, none⟩ (.slice ga1 gn1 gc1)) = WX at *
           replace BX8 := (HO g8 (Ne.symm hne)).trans BX8
           replace BX7 := BY
           replace R1 := R1.agree fun b h => HO b (fun e => N71 (e ▸ h))
           replace HQ1 : ∀ b, Q1 b → b < WX.heap.size := fun b h => by rw [HZ]; exact HQ1 b h
           replace R3 := R3.agree fun b h => HO b (fun e => N73 (e ▸ h))
           replace HQ3 : ∀ b, Q3 b → b < WX.heap.size := fun b h => by rw [HZ]; exact HQ3 b h
           clear BY HO HZ
           replace hHeld := hHeld2
           clear hHeld2
           obtain ⟨⟨c0, c1, c2, c3⟩, f0, f1, f2, f3⟩ := st4_cells BX8
           refine wpAnyH_ready (rs := [11]) (by kernel_rfl) (by simp) ?_
           refine AllReadyH.cons rfl (fun K hK => ?_) AllReadyH.nil
           go_simp
           refine hK.out _ _ (KE.out _ (st4_below hHeld.1 HGU8)) (fun hHeld2 => ?_)
           clear hK K c0 c1 c2 c3 f0 f1 f2 f3
           have BY : ((((WX.setCell ⟨g8, 0, none⟩ (.int .i64 p2.node)).setCell ⟨g8, 1, none⟩ (.int .i64 p2.seq)).setCell ⟨g8, 2, none⟩ (.slice fa3 fn3 fc3)).setCell ⟨g8, 3, none⟩ (.slice ga3 gn3 gc3)).heap[g8]? = _ := st4_block (v0 := .int .i64 p2.node) (v1 := .int .i64 p2.seq) (v2 := .slice fa3 fn3 fc3) (v3 := .slice ga3 gn3 gc3) BX8
           have HO : ∀ b, b ≠ g8 → ((((WX.setCell ⟨g8, 0, none⟩ (.int .i64 p2.node)).setCell ⟨g8, 1, none⟩ (.int .i64 p2.seq)).setCell ⟨g8, 2, none⟩ (.slice fa3 fn3 fc3)).setCell ⟨g8, 3, none⟩ (.slice ga3 gn3 gc3)).heap[b]? = WX.heap[b]? := fun b h => st4_other WX g8 _ _ _ _ b h
           have HZ : ((((WX.setCell ⟨g8, 0, none⟩ (.int .i64 p2.node)).setCell ⟨g8, 1, none⟩ (.int .i64 p2.seq)).setCell ⟨g8, 2, none⟩ (.slice fa3 fn3 fc3)).setCell ⟨g8, 3, none⟩ (.slice ga3 gn3 gc3)).heap.size = WX.heap.size := st4_size WX g8 _ _ _ _
           generalize ((((WX.setCell ⟨g8, 0, none⟩ (.int .i64 p2.node)).setCell ⟨g8, 1, none⟩ (.int .i64 p2.seq)).setCell ⟨g8, 2, none⟩ (.slice fa3 fn3 fc3)).setCell ⟨g8, 3, none⟩ (.slice ga3 gn3 gc3)) = WY at *
           replace BX7 := (HO g7 hne).trans BX7
           replace BX8 := BY
           replace R1 := R1.agree fun b h => HO b (fun e => N81 (e ▸ h))
           replace HQ1 : ∀ b, Q1 b → b < WY.heap.size := fun b h => by rw [HZ]; exact HQ1 b h
           replace R3 := R3.agree fun b h => HO b (fun e => N83 (e ▸ h))
           replace HQ3 : ∀ b, Q3 b → b < WY.heap.size := fun b h => by rw [HZ]; exact HQ3 b h
           clear BY HO HZ
           replace hHeld := hHeld2
           clear hHeld2
           refine wpAnyH_done (by kernel_rfl) ?_ _
           go_wp2_with fail
           go_meet
           obtain ⟨A7, -⟩ := st4_cells BX7
           obtain ⟨A8, -⟩ := st4_cells BX8
           obtain ⟨d1, e1, hv1, i1, j1⟩ := R1.is HQ1
           obtain ⟨d3, e3, hv3, i3, j3⟩ := R3.is HQ3
           simp only [Value.agg.injEq, Array.mk.injEq, List.cons.injEq, and_true, true_and] at hv1 hv3
           obtain ⟨rfl, rfl⟩ := hv1
           obtain ⟨rfl, rfl⟩ := hv3
           exact ⟨g7, g8, _, _, _, _, _, _, _, _, _, _, _, _, rfl, rfl, ⟨A7, i1, j1⟩, ⟨A8, i3, j3⟩, hHeld.1.mono (Nat.le_of_eq HB0.out)⟩
        ·go_simp
         refine hK.out _ _ (KE.out _ (hHeld.1.alloc (LE.out _ hHeld.1) _)) (fun hHeld2 => ?_)
         clear hK K
         have BX7 : (W51.alloc (.cells #[.int .i64 0, .int .i64 0, .slice none 0 0, .slice none 0 0] 26)).heap[W51.heap.size]? = some (.cells #[.int .i64 0, .int .i64 0, .slice none 0 0, .slice none 0 0] 26 (0, 0)) := heap_alloc_new W51 _
         have HG7 : W51.heap.size < (W51.alloc (.cells #[.int .i64 0, .int .i64 0, .slice none 0 0, .slice none 0 0] 26)).heap.size := by simp
         have hb : Below W51.heap.size W51 (W51.alloc (.cells #[.int .i64 0, .int .i64 0, .slice none 0 0, .slice none 0 0] 26)) := ((Below.refl _ _).alloc (Nat.le_refl _) _)
         have hgb : wB.heap.size ≤ W51.heap.size := Nat.le_trans GU.out hHeld.1.size
         have HGU7 : B0 ≤ W51.heap.size := LE.out _ hHeld.1
         have N71 : ¬ Q1 W51.heap.size := fun h => absurd (HQ1 _ h) (by omega)
         have HNE : g8 ≠ W51.heap.size := by omega
         replace R1 := R1.below hb HQ1
         replace HQ1 : ∀ b, Q1 b → b < (W51.alloc (.cells #[.int .i64 0, .int .i64 0, .slice none 0 0, .slice none 0 0] 26)).heap.size := fun b h => Nat.lt_of_lt_of_le (HQ1 b h) hb.size
         replace BX8 := (hb.block g8 HG8).trans BX8
         replace HG8 : g8 < (W51.alloc (.cells #[.int .i64 0, .int .i64 0, .slice none 0 0, .slice none 0 0] 26)).heap.size := Nat.lt_of_lt_of_le HG8 hb.size
         generalize (W51.alloc (.cells #[.int .i64 0, .int .i64 0, .slice none 0 0, .slice none 0 0] 26)) = W57 at *
         obtain ⟨g7, hg7⟩ : ∃ g, W51.heap.size = g := ⟨_, rfl⟩
         rw [hg7] at BX7 HG7 HGU7 hgb N71 HNE ⊢
         have HGB7 := hgb
         clear hb hgb hg7
         replace hHeld := hHeld2
         clear hHeld2
         refine wpAnyH_ready (rs := [5]) (by kernel_rfl) (by simp) ?_
         refine AllReadyH.cons rfl (fun K hK => ?_) AllReadyH.nil
         ·go_simp
          refine (txonlyP (T0.out.below (hHeld.1.mono (Nat.le_of_eq HB0.out)) (fun b h => Nat.lt_of_lt_of_le (HQ0.out b h) GU.out)) (fun b h => Nat.lt_of_lt_of_le (HQ0.out b h) (Nat.le_trans GU.out hHeld.1.size)) (Sys.out.below (G.out.trans (hHeld.1.mono GB.out))) Mys.out.1 Mys.out.2 FX.out).mono ?_
          rintro e W58 ⟨v2, rfl, hr, hb⟩
          refine hK.out _ _ (KE.out _ (hHeld.1.trans (hb.mono (LE.out _ hHeld.1)))) (fun hHeld2 => ?_)
          clear hK K
          rw [HP1.out] at hr
          obtain ⟨Q2, R2, HQ2, N72, N82⟩ : ∃ Q : Nat → Prop, IsTxnIn Q W58 v2 p1 ∧ (∀ b, Q b → b < W58.heap.size) ∧ ¬ Q g7 ∧ ¬ Q g8 := ⟨_, hr, only_new (fun b h => Nat.lt_of_lt_of_le (HQ0.out b h) (Nat.le_trans GU.out hHeld.1.size)) hb.size, only_not HG7 (fun h => absurd (HQ0.out _ h) (by omega)), only_not HG8 (fun h => absurd (HQ0.out _ h) (by omega))⟩
          obtain ⟨fa2, fn2, fc2, ga2, gn2, gc2, hv2, R2x⟩ := R2.parts
          subst hv2
          replace R2 := R2x
          clear R2x hr
          replace R1 := R1.below hb HQ1
          replace HQ1 : ∀ b, Q1 b → b < W58.heap.size := fun b h => Nat.lt_of_lt_of_le (HQ1 b h) hb.size
          replace BX7 := (hb.block g7 HG7).trans BX7
          replace HG7 : g7 < W58.heap.size := Nat.lt_of_lt_of_le HG7 hb.size
          replace BX8 := (hb.block g8 HG8).trans BX8
          replace HG8 : g8 < W58.heap.size := Nat.lt_of_lt_of_le HG8 hb.size
          replace hHeld := hHeld2
          clear hHeld2 hb
          refine wpAnyH_ready (rs := [7]) (by kernel_rfl) (by simp) ?_
          refine AllReadyH.cons rfl (fun K hK => ?_) AllReadyH.nil
          ·go_simp
           refine (txonlyP R2 HQ2 (Szs.out.below (G.out.trans (hHeld.1.mono GB.out))) Mzs.out.1 Mzs.out.2 FP1.out).mono ?_
           rintro e W59 ⟨v3, rfl, hr, hb⟩
           refine hK.out _ _ (KE.out _ (hHeld.1.trans (hb.mono (LE.out _ hHeld.1)))) (fun hHeld2 => ?_)
           clear hK K
           rw [HP2.out] at hr
           obtain ⟨Q3, R3, HQ3, N73, N83⟩ : ∃ Q : Nat → Prop, IsTxnIn Q W59 v3 p2 ∧ (∀ b, Q b → b < W59.heap.size) ∧ ¬ Q g7 ∧ ¬ Q g8 := ⟨_, hr, only_new HQ2 hb.size, only_not HG7 N72, only_not HG8 N82⟩
           obtain ⟨fa3, fn3, fc3, ga3, gn3, gc3, hv3, R3x⟩ := R3.parts
           subst hv3
           replace R3 := R3x
           clear R3x hr
           replace R1 := R1.below hb HQ1
           replace HQ1 : ∀ b, Q1 b → b < W59.heap.size := fun b h => Nat.lt_of_lt_of_le (HQ1 b h) hb.size
           replace R2 := R2.below hb HQ2
           replace HQ2 : ∀ b, Q2 b → b < W59.heap.size := fun b h => Nat.lt_of_lt_of_le (HQ2 b h) hb.size
           replace BX7 := (hb.block g7 HG7).trans BX7
           replace HG7 : g7 < W59.heap.size := Nat.lt_of_lt_of_le HG7 hb.size
           replace BX8 := (hb.block g8 HG8).trans BX8
           replace HG8 : g8 < W59.heap.size := Nat.lt_of_lt_of_le HG8 hb.size
           replace hHeld := hHeld2
           clear hHeld2 hb
           have hne : g7 ≠ g8 := by first | exact HNE | exact fun h => HNE h.symm
           obtain ⟨⟨c0, c1, c2, c3⟩, f0, f1, f2, f3⟩ := st4_cells BX7
           refine wpAnyH_ready (rs := [10]) (by kernel_rfl) (by simp) ?_
           refine AllReadyH.cons rfl (fun K hK => ?_) AllReadyH.nil
           go_simp
           refine hK.out _ _ (KE.out _ (st4_below hHeld.1 HGU7)) (fun hHeld2 => ?_)
           clear hK K c0 c1 c2 c3 f0 f1 f2 f3
           have BY : ((((W59.setCell ⟨g7, 0, none⟩ (.int .i64 p1.node)).setCell ⟨g7, 1, none⟩ (.int .i64 p1.seq)).setCell ⟨g7, 2, none⟩ (.slice fa1 fn1 fc1)).setCell ⟨g7, 3, none⟩ (.slice ga1 gn1 gc1)).heap[g7]? = _ := st4_block (v0 := .int .i64 p1.node) (v1 := .int .i64 p1.seq) (v2 := .slice fa1 fn1 fc1) (v3 := .slice ga1 gn1 gc1) BX7
           have HO : ∀ b, b ≠ g7 → ((((W59.setCell ⟨g7, 0, none⟩ (.int .i64 p1.node)).setCell ⟨g7, 1, none⟩ (.int .i64 p1.seq)).setCell ⟨g7, 2, none⟩ (.slice fa1 fn1 fc1)).setCell ⟨g7, 3, none⟩ (.slice ga1 gn1 gc1)).heap[b]? = W59.heap[b]? := fun b h => st4_other W59 g7 _ _ _ _ b h
           have HZ : ((((W59.setCell ⟨g7, 0, none⟩ (.int .i64 p1.node)).setCell ⟨g7, 1, none⟩ (.int .i64 p1.seq)).setCell ⟨g7, 2, none⟩ (.slice fa1 fn1 fc1)).setCell ⟨g7, 3, none⟩ (.slice ga1 gn1 gc1)).heap.size = W59.heap.size := st4_size W59 g7 _ _ _ _
           generalize ((((W59.setCell ⟨g7, 0, none⟩ (.int .i64 p1.node)).setCell ⟨g7, 1, none⟩ (.int .i64 p1.seq)).setCell ⟨g7, 2, none⟩ (.slice fa1 fn1 fc1)).setCell ⟨g7, 3, none⟩ (.slice ga1 gn1 gc1)) = WX at *
           replace BX8 := (HO g8 (Ne.symm hne)).trans BX8
           replace BX7 := BY
           replace R1 := R1.agree fun b h => HO b (fun e => N71 (e ▸ h))
           replace HQ1 : ∀ b, Q1 b → b < WX.heap.size := fun b h => by rw [HZ]; exact HQ1 b h
           replace R3 := R3.agree fun b h => HO b (fun e => N73 (e ▸ h))
           replace HQ3 : ∀ b, Q3 b → b < WX.heap.size := fun b h => by rw [HZ]; exact HQ3 b h
           clear BY HO HZ
           replace hHeld := hHeld2
           clear hHeld2
           obtain ⟨⟨c0, c1, c2, c3⟩, f0, f1, f2, f3⟩ := st4_cells BX8
           refine wpAnyH_ready (rs := [11]) (by kernel_rfl) (by simp) ?_
           refine AllReadyH.cons rfl (fun K hK => ?_) AllReadyH.nil
           go_simp
           refine hK.out _ _ (KE.out _ (st4_below hHeld.1 HGU8)) (fun hHeld2 => ?_)
           clear hK K c0 c1 c2 c3 f0 f1 f2 f3
           have BY : ((((WX.setCell ⟨g8, 0, none⟩ (.int .i64 p2.node)).setCell ⟨g8, 1, none⟩ (.int .i64 p2.seq)).setCell ⟨g8, 2, none⟩ (.slice fa3 fn3 fc3)).setCell ⟨g8, 3, none⟩ (.slice ga3 gn3 gc3)).heap[g8]? = _ := st4_block (v0 := .int .i64 p2.node) (v1 := .int .i64 p2.seq) (v2 := .slice fa3 fn3 fc3) (v3 := .slice ga3 gn3 gc3) BX8
           have HO : ∀ b, b ≠ g8 → ((((WX.setCell ⟨g8, 0, none⟩ (.int .i64 p2.node)).setCell ⟨g8, 1, none⟩ (.int .i64 p2.seq)).setCell ⟨g8, 2, none⟩ (.slice fa3 fn3 fc3)).setCell ⟨g8, 3, none⟩ (.slice ga3 gn3 gc3)).heap[b]? = WX.heap[b]? := fun b h => st4_other WX g8 _ _ _ _ b h
           have HZ : ((((WX.setCell ⟨g8, 0, none⟩ (.int .i64 p2.node)).setCell ⟨g8, 1, none⟩ (.int .i64 p2.seq)).setCell ⟨g8, 2, none⟩ (.slice fa3 fn3 fc3)).setCell ⟨g8, 3, none⟩ (.slice ga3 gn3 gc3)).heap.size = WX.heap.size := st4_size WX g8 _ _ _ _
           generalize ((((WX.setCell ⟨g8, 0, none⟩ (.int .i64 p2.node)).setCell ⟨g8, 1, none⟩ (.int .i64 p2.seq)).setCell ⟨g8, 2, none⟩ (.slice fa3 fn3 fc3)).setCell ⟨g8, 3, none⟩ (.slice ga3 gn3 gc3)) = WY at *
           replace BX7 := (HO g7 hne).trans BX7
           replace BX8 := BY
           replace R1 := R1.agree fun b h => HO b (fun e => N81 (e ▸ h))
           replace HQ1 : ∀ b, Q1 b → b < WY.heap.size := fun b h => by rw [HZ]; exact HQ1 b h
           replace R3 := R3.agree fun b h => HO b (fun e => N83 (e ▸ h))
           replace HQ3 : ∀ b, Q3 b → b < WY.heap.size := fun b h => by rw [HZ]; exact HQ3 b h
           clear BY HO HZ
           replace hHeld := hHeld2
           clear hHeld2
           refine wpAnyH_done (by kernel_rfl) ?_ _
           go_wp2_with fail
           go_meet
           obtain ⟨A7, -⟩ := st4_cells BX7
           obtain ⟨A8, -⟩ := st4_cells BX8
           obtain ⟨d1, e1, hv1, i1, j1⟩ := R1.is HQ1
           obtain ⟨d3, e3, hv3, i3, j3⟩ := R3.is HQ3
           simp only [Value.agg.injEq, Array.mk.injEq, List.cons.injEq, and_true, true_and] at hv1 hv3
           obtain ⟨rfl, rfl⟩ := hv1
           obtain ⟨rfl, rfl⟩ := hv3
           exact ⟨g7, g8, _, _, _, _, _, _, _, _, _, _, _, _, rfl, rfl, ⟨A7, i1, j1⟩, ⟨A8, i3, j3⟩, hHeld.1.mono (Nat.le_of_eq HB0.out)⟩
       ·go_simp
        refine hK.out _ _ (KE.out _ (hHeld.1.alloc (LE.out _ hHeld.1) _)) (fun hHeld2 => ?_)
        clear hK K
        have BX7 : (W50.alloc (.cells #[.int .i64 0, .int .i64 0, .slice none 0 0, .slice none 0 0] 26)).heap[W50.heap.size]? = some (.cells #[.int .i64 0, .int .i64 0, .slice none 0 0, .slice none 0 0] 26 (0, 0)) := heap_alloc_new W50 _
        have HG7 : W50.heap.size < (W50.alloc (.cells #[.int .i64 0, .int .i64 0, .slice none 0 0, .slice none 0 0] 26)).heap.size := by simp
        have hb : Below W50.heap.size W50 (W50.alloc (.cells #[.int .i64 0, .int .i64 0, .slice none 0 0, .slice none 0 0] 26)) := ((Below.refl _ _).alloc (Nat.le_refl _) _)
        have hgb : wB.heap.size ≤ W50.heap.size := Nat.le_trans GU.out hHeld.1.size
        have HGU7 : B0 ≤ W50.heap.size := LE.out _ hHeld.1
        have HNE : g8 ≠ W50.heap.size := by omega
        replace BX8 := (hb.block g8 HG8).trans BX8
        replace HG8 : g8 < (W50.alloc (.cells #[.int .i64 0, .int .i64 0, .slice none 0 0, .slice none 0 0] 26)).heap.size := Nat.lt_of_lt_of_le HG8 hb.size
        generalize (W50.alloc (.cells #[.int .i64 0, .int .i64 0, .slice none 0 0, .slice none 0 0] 26)) = W60 at *
        obtain ⟨g7, hg7⟩ : ∃ g, W50.heap.size = g := ⟨_, rfl⟩
        rw [hg7] at BX7 HG7 HGU7 hgb HNE ⊢
        have HGB7 := hgb
        clear hb hgb hg7
        replace hHeld := hHeld2
        clear hHeld2
        refine wpAnyH_ready (rs := [2]) (by kernel_rfl) (by simp) ?_
        refine AllReadyH.cons rfl (fun K hK => ?_) AllReadyH.nil
        ·go_simp
         refine (txonlyP (T0.out.below (hHeld.1.mono (Nat.le_of_eq HB0.out)) (fun b h => Nat.lt_of_lt_of_le (HQ0.out b h) GU.out)) (fun b h => Nat.lt_of_lt_of_le (HQ0.out b h) (Nat.le_trans GU.out hHeld.1.size)) (Sys.out.below (G.out.trans (hHeld.1.mono GB.out))) Mys.out.1 Mys.out.2 FX.out).mono ?_
         rintro e W61 ⟨v1, rfl, hr, hb⟩
         refine hK.out _ _ (KE.out _ (hHeld.1.trans (hb.mono (LE.out _ hHeld.1)))) (fun hHeld2 => ?_)
         clear hK K
         rw [HP1.out] at hr
         obtain ⟨Q1, R1, HQ1, N71, N81⟩ : ∃ Q : Nat → Prop, IsTxnIn Q W61 v1 p1 ∧ (∀ b, Q b → b < W61.heap.size) ∧ ¬ Q g7 ∧ ¬ Q g8 := ⟨_, hr, only_new (fun b h => Nat.lt_of_lt_of_le (HQ0.out b h) (Nat.le_trans GU.out hHeld.1.size)) hb.size, only_not HG7 (fun h => absurd (HQ0.out _ h) (by omega)), only_not HG8 (fun h => absurd (HQ0.out _ h) (by omega))⟩
         obtain ⟨fa1, fn1, fc1, ga1, gn1, gc1, hv1, R1x⟩ := R1.parts
         subst hv1
         replace R1 := R1x
         clear R1x hr
         replace BX7 := (hb.block g7 HG7).trans BX7
         replace HG7 : g7 < W61.heap.size := Nat.lt_of_lt_of_le HG7 hb.size
         replace BX8 := (hb.block g8 HG8).trans BX8
         replace HG8 : g8 < W61.heap.size := Nat.lt_of_lt_of_le HG8 hb.size
         replace hHeld := hHeld2
         clear hHeld2 hb
         refine wpAnyH_ready (rs := [5]) (by kernel_rfl) (by simp) ?_
         refine AllReadyH.cons rfl (fun K hK => ?_) AllReadyH.nil
         ·go_simp
          refine (txonlyP (T0.out.below (hHeld.1.mono (Nat.le_of_eq HB0.out)) (fun b h => Nat.lt_of_lt_of_le (HQ0.out b h) GU.out)) (fun b h => Nat.lt_of_lt_of_le (HQ0.out b h) (Nat.le_trans GU.out hHeld.1.size)) (Sys.out.below (G.out.trans (hHeld.1.mono GB.out))) Mys.out.1 Mys.out.2 FX.out).mono ?_
          rintro e W62 ⟨v2, rfl, hr, hb⟩
          refine hK.out _ _ (KE.out _ (hHeld.1.trans (hb.mono (LE.out _ hHeld.1)))) (fun hHeld2 => ?_)
          clear hK K
          rw [HP1.out] at hr
          obtain ⟨Q2, R2, HQ2, N72, N82⟩ : ∃ Q : Nat → Prop, IsTxnIn Q W62 v2 p1 ∧ (∀ b, Q b → b < W62.heap.size) ∧ ¬ Q g7 ∧ ¬ Q g8 := ⟨_, hr, only_new (fun b h => Nat.lt_of_lt_of_le (HQ0.out b h) (Nat.le_trans GU.out hHeld.1.size)) hb.size, only_not HG7 (fun h => absurd (HQ0.out _ h) (by omega)), only_not HG8 (fun h => absurd (HQ0.out _ h) (by omega))⟩
          obtain ⟨fa2, fn2, fc2, ga2, gn2, gc2, hv2, R2x⟩ := R2.parts
          subst hv2
          replace R2 := R2x
          clear R2x hr
          replace R1 := R1.below hb HQ1
          replace HQ1 : ∀ b, Q1 b → b < W62.heap.size := fun b h => Nat.lt_of_lt_of_le (HQ1 b h) hb.size
          replace BX7 := (hb.block g7 HG7).trans BX7
          replace HG7 : g7 < W62.heap.size := Nat.lt_of_lt_of_le HG7 hb.size
          replace BX8 := (hb.block g8 HG8).trans BX8
          replace HG8 : g8 < W62.heap.size := Nat.lt_of_lt_of_le HG8 hb.size
          replace hHeld := hHeld2
          clear hHeld2 hb
          refine wpAnyH_ready (rs := [7]) (by kernel_rfl) (by simp) ?_
          refine AllReadyH.cons rfl (fun K hK => ?_) AllReadyH.nil
          ·go_simp
           refine (txonlyP R2 HQ2 (Szs.out.below (G.out.trans (hHeld.1.mono GB.out))) Mzs.out.1 Mzs.out.2 FP1.out).mono ?_
           rintro e W63 ⟨v3, rfl, hr, hb⟩
           refine hK.out _ _ (KE.out _ (hHeld.1.trans (hb.mono (LE.out _ hHeld.1)))) (fun hHeld2 => ?_)
           clear hK K
           rw [HP2.out] at hr
           obtain ⟨Q3, R3, HQ3, N73, N83⟩ : ∃ Q : Nat → Prop, IsTxnIn Q W63 v3 p2 ∧ (∀ b, Q b → b < W63.heap.size) ∧ ¬ Q g7 ∧ ¬ Q g8 := ⟨_, hr, only_new HQ2 hb.size, only_not HG7 N72, only_not HG8 N82⟩
           obtain ⟨fa3, fn3, fc3, ga3, gn3, gc3, hv3, R3x⟩ := R3.parts
           subst hv3
           replace R3 := R3x
           clear R3x hr
           replace R1 := R1.below hb HQ1
           replace HQ1 : ∀ b, Q1 b → b < W63.heap.size := fun b h => Nat.lt_of_lt_of_le (HQ1 b h) hb.size
           replace R2 := R2.below hb HQ2
           replace HQ2 : ∀ b, Q2 b → b < W63.heap.size := fun b h => Nat.lt_of_lt_of_le (HQ2 b h) hb.size
           replace BX7 := (hb.block g7 HG7).trans BX7
           replace HG7 : g7 < W63.heap.size := Nat.lt_of_lt_of_le HG7 hb.size
           replace BX8 := (hb.block g8 HG8).trans BX8
           replace HG8 : g8 < W63.heap.size := Nat.lt_of_lt_of_le HG8 hb.size
           replace hHeld := hHeld2
           clear hHeld2 hb
           have hne : g7 ≠ g8 := by first | exact HNE | exact fun h => HNE h.symm
           obtain ⟨⟨c0, c1, c2, c3⟩, f0, f1, f2, f3⟩ := st4_cells BX7
           refine wpAnyH_ready (rs := [10]) (by kernel_rfl) (by simp) ?_
           refine AllReadyH.cons rfl (fun K hK => ?_) AllReadyH.nil
           go_simp
           refine hK.out _ _ (KE.out _ (st4_below hHeld.1 HGU7)) (fun hHeld2 => ?_)
           clear hK K c0 c1 c2 c3 f0 f1 f2 f3
           have BY : ((((W63.setCell ⟨g7, 0, none⟩ (.int .i64 p1.node)).setCell ⟨g7, 1, none⟩ (.int .i64 p1.seq)).setCell ⟨g7, 2, none⟩ (.slice fa1 fn1 fc1)).setCell ⟨g7, 3, none⟩ (.slice ga1 gn1 gc1)).heap[g7]? = _ := st4_block (v0 := .int .i64 p1.node) (v1 := .int .i64 p1.seq) (v2 := .slice fa1 fn1 fc1) (v3 := .slice ga1 gn1 gc1) BX7
           have HO : ∀ b, b ≠ g7 → ((((W63.setCell ⟨g7, 0, none⟩ (.int .i64 p1.node)).setCell ⟨g7, 1, none⟩ (.int .i64 p1.seq)).setCell ⟨g7, 2, none⟩ (.slice fa1 fn1 fc1)).setCell ⟨g7, 3, none⟩ (.slice ga1 gn1 gc1)).heap[b]? = W63.heap[b]? := fun b h => st4_other W63 g7 _ _ _ _ b h
           have HZ : ((((W63.setCell ⟨g7, 0, none⟩ (.int .i64 p1.node)).setCell ⟨g7, 1, none⟩ (.int .i64 p1.seq)).setCell ⟨g7, 2, none⟩ (.slice fa1 fn1 fc1)).setCell ⟨g7, 3, none⟩ (.slice ga1 gn1 gc1)).heap.size = W63.heap.size := st4_size W63 g7 _ _ _ _
           generalize ((((W63.setCell ⟨g7, 0, none⟩ (.int .i64 p1.node)).setCell ⟨g7, 1, none⟩ (.int .i64 p1.seq)).setCell ⟨g7, 2, none⟩ (.slice fa1 fn1 fc1)).setCell ⟨g7, 3, none⟩ (.slice ga1 gn1 gc1)) = WX at *
           replace BX8 := (HO g8 (Ne.symm hne)).trans BX8
           replace BX7 := BY
           replace R1 := R1.agree fun b h => HO b (fun e => N71 (e ▸ h))
           replace HQ1 : ∀ b, Q1 b → b < WX.heap.size := fun b h => by rw [HZ]; exact HQ1 b h
           replace R3 := R3.agree fun b h => HO b (fun e => N73 (e ▸ h))
           replace HQ3 : ∀ b, Q3 b → b < WX.heap.size := fun b h => by rw [HZ]; exact HQ3 b h
           clear BY HO HZ
           replace hHeld := hHeld2
           clear hHeld2
           obtain ⟨⟨c0, c1, c2, c3⟩, f0, f1, f2, f3⟩ := st4_cells BX8
           refine wpAnyH_ready (rs := [11]) (by kernel_rfl) (by simp) ?_
           refine AllReadyH.cons rfl (fun K hK => ?_) AllReadyH.nil
           go_simp
           refine hK.out _ _ (KE.out _ (st4_below hHeld.1 HGU8)) (fun hHeld2 => ?_)
           clear hK K c0 c1 c2 c3 f0 f1 f2 f3
           have BY : ((((WX.setCell ⟨g8, 0, none⟩ (.int .i64 p2.node)).setCell ⟨g8, 1, none⟩ (.int .i64 p2.seq)).setCell ⟨g8, 2, none⟩ (.slice fa3 fn3 fc3)).setCell ⟨g8, 3, none⟩ (.slice ga3 gn3 gc3)).heap[g8]? = _ := st4_block (v0 := .int .i64 p2.node) (v1 := .int .i64 p2.seq) (v2 := .slice fa3 fn3 fc3) (v3 := .slice ga3 gn3 gc3) BX8
           have HO : ∀ b, b ≠ g8 → ((((WX.setCell ⟨g8, 0, none⟩ (.int .i64 p2.node)).setCell ⟨g8, 1, none⟩ (.int .i64 p2.seq)).setCell ⟨g8, 2, none⟩ (.slice fa3 fn3 fc3)).setCell ⟨g8, 3, none⟩ (.slice ga3 gn3 gc3)).heap[b]? = WX.heap[b]? := fun b h => st4_other WX g8 _ _ _ _ b h
           have HZ : ((((WX.setCell ⟨g8, 0, none⟩ (.int .i64 p2.node)).setCell ⟨g8, 1, none⟩ (.int .i64 p2.seq)).setCell ⟨g8, 2, none⟩ (.slice fa3 fn3 fc3)).setCell ⟨g8, 3, none⟩ (.slice ga3 gn3 gc3)).heap.size = WX.heap.size := st4_size WX g8 _ _ _ _
           generalize ((((WX.setCell ⟨g8, 0, none⟩ (.int .i64 p2.node)).setCell ⟨g8, 1, none⟩ (.int .i64 p2.seq)).setCell ⟨g8, 2, none⟩ (.slice fa3 fn3 fc3)).setCell ⟨g8, 3, none⟩ (.slice ga3 gn3 gc3)) = WY at *
           replace BX7 := (HO g7 hne).trans BX7
           replace BX8 := BY
           replace R1 := R1.agree fun b h => HO b (fun e => N81 (e ▸ h))
           replace HQ1 : ∀ b, Q1 b → b < WY.heap.size := fun b h => by rw [HZ]; exact HQ1 b h
           replace R3 := R3.agree fun b h => HO b (fun e => N83 (e ▸ h))
           replace HQ3 : ∀ b, Q3 b → b < WY.heap.size := fun b h => by rw [HZ]; exact HQ3 b h
           clear BY HO HZ
           replace hHeld := hHeld2
           clear hHeld2
           refine wpAnyH_done (by kernel_rfl) ?_ _
           go_wp2_with fail
           go_meet
           obtain ⟨A7, -⟩ := st4_cells BX7
           obtain ⟨A8, -⟩ := st4_cells BX8
           obtain ⟨d1, e1, hv1, i1, j1⟩ := R1.is HQ1
           obtain ⟨d3, e3, hv3, i3, j3⟩ := R3.is HQ3
           simp only [Value.agg.injEq, Array.mk.injEq, List.cons.injEq, and_true, true_and] at hv1 hv3
           obtain ⟨rfl, rfl⟩ := hv1
           obtain ⟨rfl, rfl⟩ := hv3
           exact ⟨g7, g8, _, _, _, _, _, _, _, _, _, _, _, _, rfl, rfl, ⟨A7, i1, j1⟩, ⟨A8, i3, j3⟩, hHeld.1.mono (Nat.le_of_eq HB0.out)⟩
     case rest =>
      obtain ⟨g, h, fa, fn, fc, ga, gn, gc, ja, jn, jc, la, ln, lc, rfl, rfl, X1, X2, hb⟩ := hcut
      rename World => wx
      have GN := Lib.hid (G.out.trans (hb.mono G.out.size))
      have TN := Lib.hid (TB.out.below GN.out)
      have SY := Lib.hid (Sys.out.below GN.out)
      have SZ := Lib.hid (Szs.out.below GN.out)
      have B1 := Lib.hid X1
      have B2 := Lib.hid X2
      clear X1 X2 hb KE LE T0 HQ0 GB GU HB0 TB G Sys Szs
      have KE : Hid (∀ u, Below wx.heap.size wx u → Below wx.heap.size wx u ∧ (u.cell? ⟨w.heap.size, 0, none⟩ = some (.int .i64 t.node) ∧ u.cell? ⟨w.heap.size, 1, none⟩ = some (.int .i64 t.seq) ∧ u.cell? ⟨w.heap.size, 2, none⟩ = some (.slice da dn dc) ∧ u.cell? ⟨w.heap.size, 3, none⟩ = some (.slice ea en ec)) ∧ (u.cell? ⟨g, 0, none⟩ = some (.int .i64 p1.node) ∧ u.cell? ⟨g, 1, none⟩ = some (.int .i64 p1.seq) ∧ u.cell? ⟨g, 2, none⟩ = some (.slice fa fn fc) ∧ u.cell? ⟨g, 3, none⟩ = some (.slice ga gn gc)) ∧ (u.cell? ⟨h, 0, none⟩ = some (.int .i64 p2.node) ∧ u.cell? ⟨h, 1, none⟩ = some (.int .i64 p2.seq) ∧ u.cell? ⟨h, 2, none⟩ = some (.slice ja jn jc) ∧ u.cell? ⟨h, 3, none⟩ = some (.slice la ln lc))) := Lib.hid (fun u hu => ⟨hu, (TN.out.below hu).c, (B1.out.below hu).c, (B2.out.below hu).c⟩)
      have K1 := Lib.hid (fun (W : World) (hW : Below wx.heap.size wx W) => txformedP (B1.out.below hW).is FP1.out true F1.out)
      have K2 := Lib.hid (fun (W : World) (hW : Below wx.heap.size wx W) => txformedP (B2.out.below hW).is FP2.out true F2.out)
      have K3 := Lib.hid (fun (W : World) (hW : Below wx.heap.size wx W) => tonly_is (TN.out.below hW).is (SZ.out.below hW) Mzs.out.1 Mzs.out.2 FX.out)
      rw [HP3.out] at K3
      have K4 := Lib.hid (fun (W : World) (v : Value) (hv : IsTxn W v p3) (hW : Below wx.heap.size wx W) => tonly_is hv (SY.out.below hW) Mys.out.1 Mys.out.2 FP3.out)
      rw [HP4.out] at K4
      have K5 := Lib.hid (fun (W : World) (hW : Below wx.heap.size wx (W.alloc (.cells #[.string { data := #[] }] 9))) => tonly_is (TN.out.below hW).is (show SeqT (W.alloc (.cells #[.string { data := #[] }] 9)) (.slice (some ⟨W.heap.size, 0, none⟩) 1 1) [[]] from SeqT.one W []) (by simp) (by simp) FX.out)
      rw [HP5.out] at K5
      go_wp2_with fail
      go_region_held3 (fun u => Below wx.heap.size wx u ∧ (u.cell? ⟨w.heap.size, 0, none⟩ = some (.int .i64 t.node) ∧ u.cell? ⟨w.heap.size, 1, none⟩ = some (.int .i64 t.seq) ∧ u.cell? ⟨w.heap.size, 2, none⟩ = some (.slice da dn dc) ∧ u.cell? ⟨w.heap.size, 3, none⟩ = some (.slice ea en ec)) ∧ (u.cell? ⟨g, 0, none⟩ = some (.int .i64 p1.node) ∧ u.cell? ⟨g, 1, none⟩ = some (.int .i64 p1.seq) ∧ u.cell? ⟨g, 2, none⟩ = some (.slice fa fn fc) ∧ u.cell? ⟨g, 3, none⟩ = some (.slice ga gn gc)) ∧ (u.cell? ⟨h, 0, none⟩ = some (.int .i64 p2.node) ∧ u.cell? ⟨h, 1, none⟩ = some (.int .i64 p2.seq) ∧ u.cell? ⟨h, 2, none⟩ = some (.slice ja jn jc) ∧ u.cell? ⟨h, 3, none⟩ = some (.slice la ln lc)))
       (first | (exact KE.out _ (Below.refl _ _).drew) | (exact KE.out _ (holdTA (by assumption) _)) | (exact KE.out _ (holdC (by assumption) hb)))
       (first
        | (go_at_call 10; (with_reducible refine (K1.out _ (by assumption : _ ∧ _).1).mono ?_); rintro e s1 ⟨rfl, hb⟩)
        | (go_at_call 10; (with_reducible refine (K2.out _ (by assumption : _ ∧ _).1).mono ?_); rintro e s2 ⟨rfl, hb⟩)
        | (go_at_call 13; (with_reducible refine (K3.out _ (by assumption : _ ∧ _).1).mono ?_); rintro e s3 ⟨y3, rfl, hy3, hb⟩)
        | (go_at_call 13; (with_reducible refine (K4.out _ _ hy3 (by assumption : _ ∧ _).1).mono ?_); rintro e s4 ⟨y4, rfl, hy4, hb⟩)
        | (go_at_call 12; (with_reducible refine (rsameTx (B2.out.below (by assumption : _ ∧ _).1).is hy4 true (decide_eq_true rfl)).mono ?_); rintro e s5 ⟨rfl, hb⟩)
        | (go_at_call 13; (with_reducible refine (K5.out _ (by assumption : _ ∧ _).1).mono ?_); rintro e s6 ⟨y6, rfl, hy6, hb⟩)
        | (go_at_call 12; (with_reducible refine (rsameTx hy6 (TN.out.below (by assumption : _ ∧ _).1).is true (decide_eq_true rfl)).mono ?_); rintro e s7 ⟨rfl, hb⟩))
      go_wp2_with fail
      have HH := (by assumption : _ ∧ _)
      go_ret
      exact ⟨rfl, G0.out.trans ((GN.out.trans (HH.1.mono GN.out.size)).mono G0.out.size)⟩

set_option maxRecDepth 100000 in
theorem lifted (os : Os) (started : os.Started) (H : Type) (enc : TypeId × Value → H) :
    ReturnsInHanded {} Tryz.checked os 4 .any (Rows.txnOnlySpec.pre6 enc Tryz.prog Tryz.f4 Rows.txnOnlyRow.domain false) (Rows.txnOnlySpec.post enc Tryz.prog Tryz.f4 false true false false) := by
  refine returnsInHanded_of_change (C := Tryz.checked) own started (by kernel_rfl) Tryz.func4
    (ChangeSpec.witness6 (enc := enc) (C := Tryz.checked) false ⟨#[], #[.agg #[.int .i64 0, .int .i64 0, .slice none 0 0, .slice none 0 0], .slice none 0 0, .slice none 0 0], []⟩ 8 (by kernel_rfl) (by kernel_rfl) (by kernel_rfl) (by kernel_rfl)) ?_
  intro W base args ds gs before hval0 hW hcnd _
  have hval : ∀ (j : Nat) t v, Tryz.f4.params[j]? = some t → args[j]? = some v → Value.okWide Tryz.prog W .any base t v := hval0
  have hW' := hW
  obtain ⟨p, q, hA0, hV, rfl, hfz, hnd⟩ := hW
  have hA : DataW.TrodAll enc Tryz.prog W 0 (fun _ => true) true Tryz.f4.params.toList args.toList ds p := hA0
  rw [Tryz.params4] at hA hval
  obtain ⟨v0, vs0, d0, ds0, p0, q0, hargs, rfl, rfl, h0, r0⟩ := trodAll_cons hA
  obtain ⟨v1, vs1, d1, ds1, p1, q1, rfl, rfl, rfl, h1, r1⟩ := trodAll_cons r0
  obtain ⟨v2, vs2, d2, ds2, p2, q2, rfl, rfl, rfl, h2, r2⟩ := trodAll_cons r1
  obtain ⟨rfl, rfl, rfl⟩ := trodAll_nil r2
  obtain rfl : args = #[v0, v1, v2] := by cases args; simp_all
  obtain ⟨rfl, rfl⟩ := trodVars_none hV
  have k0 := h0
  have lt0 : ∀ x ∈ p0, x.block < W.heap.size := by obtain ⟨m, hm⟩ := k0; exact DataW.trod_lt m _ _ _ hm
  have w0 := open0 (hval 0 26 v0 rfl rfl) h0
  have k1 := h1
  have lt1 : ∀ x ∈ p1, x.block < W.heap.size := by obtain ⟨m, hm⟩ := k1; exact DataW.trod_lt m _ _ _ hm
  have w1 := open1 (hval 1 27 v1 rfl rfl) h1
  have k2 := h2
  have lt2 : ∀ x ∈ p2, x.block < W.heap.size := by obtain ⟨m, hm⟩ := k2; exact DataW.trod_lt m _ _ _ hm
  have w2 := open2 (hval 2 27 v2 rfl rfl) h2
  clear hA0 hval0
  refine (walk v0 v1 v2 W w0 w1 w2).mono fun e W' ⟨he, bel⟩ => ?_
  subst he
  exact ⟨_, rfl, _, _, _, [], _, [], hW', trodAll_mk1 (shut_bool Tryz.underlying4 _), (trodAll_cons_mk (Below.trod laidOut (by kernel_rfl) (of_decide_eq_true (by kernel_rfl)) k0 bel lt0) (trodAll_cons_mk (Below.trod laidOut (by kernel_rfl) (of_decide_eq_true (by kernel_rfl)) k1 bel lt1) (trodAll_cons_mk (Below.trod laidOut (by kernel_rfl) (of_decide_eq_true (by kernel_rfl)) k2 bel lt2) trodAll_mk0))), rfl, bel.frame _, fun h => by cases h⟩

theorem over : Rows.txnOnlyRow.holds Tryz.pinned (OpenSpec.ofChange Rows.txnOnlySpec) :=
  OpenClaim.holds_of_wide 4 Tryz.f4 rfl rfl rfl rfl rfl rfl rfl ⟨rfl, rfl, rfl, rfl, rfl⟩ rfl rfl rfl rfl rfl (by kernel_rfl) Tryz.func4 (by kernel_rfl)
    (of_decide_eq_true (by kernel_rfl)) (by unfold Func.isWrapper; first | (rw [if_pos (by decide +kernel)]; kernel_rfl) | (rw [if_neg (by decide +kernel)]; exact ⟨rfl, rfl⟩))
    (fun os started H enc _ => lifted os started H enc)

/-- the given statement -/
theorem proved : Rows.TxnOnlySaid := over
#print axioms proved
end Go.Proofs.YtkanklppgioacaaGreat.txnOnly
