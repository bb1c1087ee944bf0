/-
  For any past, any transaction and any vector the law PastAll answers true: whatever is kept, asked and pruned is what the document says, or its error; the past stays as it was. No condition.
  (The frame was written by the guide's proof-skeleton.mjs, turned for pasts; the walk is ours.)
-/
import Derived.Test.YtajfliemmfdnhaaGreatRows
import Derived.WalkKit
import Derived.ProofKit
import Derived.OpenShut
import Derived.ShutString
import Derived.ChangeOld
import Derived.Below
import Derived.Test.YtajfliemmfdnhaaGreatPaUse
import Derived.Test.YtajfliemmfdnhaaGreatPaPru
import Derived.Test.YtajfliemmfdnhaaGreatPaRkp
import Derived.Test.YtajfliemmfdnhaaGreatVcAll
import Derived.Deep.RegionHeld3
import Derived.Deep.DeepCutAuto
import Derived.Test.YtajfliemmfdnhaaGreatTxIns
namespace Go.Proofs.YtajfliemmfdnhaaGreat.pastAll
open Go.ChangeShapes Go.WideShapes Go.ChangeAt Go.RowKit
open Go.ChangeMaps (open_string shut_string)
set_option linter.unusedVariables false

theorem own : ownKnob Tryz.prog.godebug = none := by kernel_rfl
theorem laidOut : laidOutB Tryz.prog = true := by kernel_rfl

open Plain

set_option maxRecDepth 100000 in
theorem open0 {H : Type} {enc : TypeId × Value → H} {W : World} {r : Reach} {b : Nat} {v : Value} {d : DataW H} {p : List MemPlace} (hv : Value.okWide Tryz.prog W r b 26 v) (h : DataW.Trod enc Tryz.prog W 0 (fun _ => true) true 26 v d p) : IsPastA W v := past_of_trod hv h
set_option maxRecDepth 100000 in
theorem open1 {H : Type} {enc : TypeId × Value → H} {W : World} {r : Reach} {b : Nat} {v : Value} {d : DataW H} {p : List MemPlace} (hv : Value.okWide Tryz.prog W r b 29 v) (h : DataW.Trod enc Tryz.prog W 0 (fun _ => true) true 29 v d p) : IsTxnA W v := txn_of_trod hv h

theorem fitR_of {t : PTxn} (h : shortTx1 t = true) (hok : txnOk t) : FitR t := by
  unfold shortTx1 at h
  rw [Bool.and_eq_true, decide_eq_true_iff] at h
  obtain ⟨h1, h2⟩ := h
  obtain ⟨g1, g2⟩ := shortE_iff.1 h2
  exact ⟨⟨by omega, by omega, fun e he => by have := (shortE1_iff.1 (g2 e he)).2.2.2; omega, hok⟩, fun e he => by have := shortE1_iff.1 (g2 e he); omega⟩
theorem fitR_one {t : PTxn} (h : shortTx [t] = true) (hok : txnOk t) : FitR t := by
  unfold shortTx at h
  rw [Bool.and_eq_true, List.all_eq_true] at h
  exact fitR_of (h.2 t (List.mem_singleton.2 rfl)) hok
theorem fitR_all {p : PPast} (h : paShort p = true) (hok : pastOk p) : ∀ t ∈ p.list, FitR t := by
  unfold paShort shortTx at h
  rw [Bool.and_eq_true, Bool.and_eq_true, List.all_eq_true] at h
  exact fun t ht => fitR_of (h.2.2 t ht) (hok.2 t ht)
theorem pacF {g : Nat} {p : PPast} {fa la : Option Addr} {fn fc ln lc : Nat} {u u' : World} (k : PaBox g p fa fn fc la ln lc u) {F : Nat → Prop} (hb : ButF F u u') (hne : ¬ F g) : u'.cell? ⟨g, 0, none⟩ = some (.slice fa fn fc) ∧ u'.cell? ⟨g, 1, none⟩ = some (.slice la ln lc) :=
  ⟨(World.cell?_of_block (a := ⟨g, 0, none⟩) (hb.block g k.lt hne)).trans k.c.1, (World.cell?_of_block (a := ⟨g, 1, none⟩) (hb.block g k.lt hne)).trans k.c.2⟩
theorem txcF {g : Nat} {t : PTxn} {da ea : Option Addr} {dn dc en ec : Nat} {u u' : World} (k : TxBox g t da dn dc ea en ec u) {F : Nat → Prop} (hb : ButF F u u') (hne : ¬ F g) : u'.cell? ⟨g, 0, none⟩ = some (.int .i64 t.node) ∧ u'.cell? ⟨g, 1, none⟩ = some (.int .i64 t.seq) ∧ u'.cell? ⟨g, 2, none⟩ = some (.slice da dn dc) ∧ u'.cell? ⟨g, 3, none⟩ = some (.slice ea en ec) := by
  have c : ∀ {i : Nat} {v : Value}, u.cell? ⟨g, i, none⟩ = some v → u'.cell? ⟨g, i, none⟩ = some v := fun {i v} h => (World.cell?_of_block (a := ⟨g, i, none⟩) (hb.block g (World.block_lt_of_cell? u _ h) hne)).trans h
  obtain ⟨h0, h1, h2, h3⟩ := k.c
  exact ⟨c h0, c h1, c h2, c h3⟩

set_option maxRecDepth 100000 in
set_option maxHeartbeats 64000000 in
theorem walk (v0 : Value) (v1 : Value) (a2 : Option Addr) (n2 : Nat) (c2 : Nat) (z2 : List Int) (w : World) (w0 : IsPastA w v0) (w1 : IsTxnA w v1) (w2 : IsRow .i64 w a2 n2 c2 z2) :
    Calls Tryz.prog 3 #[v0, v1, .slice a2 n2 c2] w fun e w' => e = .returned (.bool true) ∧ Below w.heap.size w w' := by
  obtain ⟨p, hp, hok⟩ := w0
  obtain ⟨fa, fn, fc, la, ln, lc, hv0, h1, h2⟩ := hp.slices
  subst hv0
  have OKP := Lib.hid hok
  obtain ⟨t, ht, okt⟩ := w1
  obtain ⟨da, dn, dc, ea, en, ec, hv1, k1, k2⟩ := ht.parts
  subst hv1
  have OKT := Lib.hid okt
  have b1 := (Below.refl w.heap.size w).alloc (Nat.le_refl _) (.cells #[.slice fa fn fc, .slice la ln lc] 26)
  have b2 := (Below.refl (w.alloc (.cells #[.slice fa fn fc, .slice la ln lc] 26)).heap.size (w.alloc (.cells #[.slice fa fn fc, .slice la ln lc] 26))).alloc (Nat.le_refl _) (.cells #[.int .i64 t.node, .int .i64 t.seq, .slice da dn dc, .slice ea en ec] 29)
  have hb := b1.trans (b2.mono b1.size)
  have PB := Lib.hid ((pabox_new (p := p) h1 h2).below b2)
  have TB : Hid (TxBox (w.heap.size + 1) t da dn dc ea en ec ((w.alloc (.cells #[.slice fa fn fc, .slice la ln lc] 26)).alloc (.cells #[.int .i64 t.node, .int .i64 t.seq, .slice da dn dc, .slice ea en ec] 29))) := Lib.hid (by have h := txbox_new (t := t) (w := w.alloc (.cells #[.slice fa fn fc, .slice la ln lc] 26)) (k1.below b1) (k2.below b1); rwa [show (w.alloc (.cells #[.slice fa fn fc, .slice la ln lc] 26)).heap.size = w.heap.size + 1 by simp] at h)
  have HFN := Lib.hid h1.dims
  have HLN := Lib.hid h2.dims
  obtain ⟨v, sv, lv, cv⟩ := row_ints w2
  have SV := Lib.hid (sv.below hb)
  have LSV := Lib.hid lv
  clear w2 sv lv
  clear ht okt k1 k2 b1 b2
  have G := Lib.hid hb
  clear hp hok hb h1 h2
  go_enter Tryz.func3, Tryz.ntmps3
  go_upto_region 1 with fail
  generalize ((w.alloc (.cells #[.slice fa fn fc, .slice la ln lc] 26)).alloc (.cells #[.int .i64 t.node, .int .i64 t.seq, .slice da dn dc, .slice ea en ec] 29)) = wB at *
  generalize hg0 : w.heap.size = g0 at PB TB ⊢
  go_wp2_with fail
  refine (paawake_any _).mono ?_
  rintro e u3 ⟨rfl, hb⟩
  replace PB := Lib.hid (PB.out.below hb)
  replace TB := Lib.hid (TB.out.below hb)
  replace SV := Lib.hid (SV.out.below hb)
  replace G := Lib.hid (G.out.trans (hb.mono G.out.size))
  clear hb
  obtain ⟨sa, hsa⟩ : ∃ b, b = paShort p := ⟨_, rfl⟩
  have Hsa := Lib.hid hsa
  clear hsa
  obtain ⟨x0a, x0b⟩ := PB.out.c
  have K := Lib.hid (paShortR PB.out.is sa Hsa.out.symm)
  cases sa
  · go_wp2_with fail
    refine (K.out).mono ?_
    rintro e u4 ⟨rfl, hb⟩
    clear K
    replace PB := Lib.hid (PB.out.below hb)
    replace TB := Lib.hid (TB.out.below hb)
    replace SV := Lib.hid (SV.out.below hb)
    replace G := Lib.hid (G.out.trans (hb.mono G.out.size))
    clear hb
    clear x0a x0b
    go_wp2_with fail
    go_ret
    first | exact ⟨rfl, G.out⟩ | exact ⟨rfl, hg0 ▸ G.out⟩
  go_wp2_with fail
  refine (K.out).mono ?_
  rintro e u4 ⟨rfl, hb⟩
  clear K
  replace PB := Lib.hid (PB.out.below hb)
  replace TB := Lib.hid (TB.out.below hb)
  replace SV := Lib.hid (SV.out.below hb)
  replace G := Lib.hid (G.out.trans (hb.mono G.out.size))
  clear hb
  clear x0a x0b
  have FP := Lib.hid (pafit_of Hsa.out.symm OKP.out)
  have FL1 : Hid (p.floor.length ≤ 1000) := Lib.hid (by have := FP.out.floor; omega)
  have FL2 : Hid (p.floor.length ≤ 1000000) := Lib.hid (by have := FP.out.floor; omega)
  have FL3 : Hid (p.list.length ≤ 1000000) := Lib.hid (by have := FP.out.list; omega)
  obtain ⟨y0a, y0b, y0c, y0d⟩ := TB.out.c
  have HD0 := Lib.hid TB.out.d
  have HE0 := Lib.hid TB.out.e
  have B1 := Lib.hid ((Below.refl u4.heap.size u4).alloc (Nat.le_refl _) (.cells #[.int .i64 t.node, .int .i64 t.seq, .slice da dn dc, .slice ea en ec] 29))
  have A1 := Lib.hid (one_txn (t := t) HD0.out HE0.out)
  obtain ⟨sb, hsb⟩ : ∃ b, b = shortTx [t] := ⟨_, rfl⟩
  have Hsb := Lib.hid hsb
  clear hsb HD0 HE0
  have K := Lib.hid (rshortTx_any A1.out sb Hsb.out.symm)
  clear A1
  go_wp2_with fail
  clear y0a y0b y0c y0d
  have hb := B1.out
  clear B1
  generalize (u4.alloc (.cells #[.int .i64 t.node, .int .i64 t.seq, .slice da dn dc, .slice ea en ec] 29)) = uA at *
  replace PB := Lib.hid (PB.out.below hb)
  replace TB := Lib.hid (TB.out.below hb)
  replace SV := Lib.hid (SV.out.below hb)
  replace G := Lib.hid (G.out.trans (hb.mono G.out.size))
  clear hb
  cases sb
  · refine (K.out).mono ?_
    rintro e u5 ⟨rfl, hb⟩
    clear K
    replace PB := Lib.hid (PB.out.below hb)
    replace TB := Lib.hid (TB.out.below hb)
    replace SV := Lib.hid (SV.out.below hb)
    replace G := Lib.hid (G.out.trans (hb.mono G.out.size))
    clear hb
    go_wp2_with fail
    go_ret
    first | exact ⟨rfl, G.out⟩ | exact ⟨rfl, hg0 ▸ G.out⟩
  refine (K.out).mono ?_
  rintro e u5 ⟨rfl, hb⟩
  clear K
  replace PB := Lib.hid (PB.out.below hb)
  replace TB := Lib.hid (TB.out.below hb)
  replace SV := Lib.hid (SV.out.below hb)
  replace G := Lib.hid (G.out.trans (hb.mono G.out.size))
  clear hb
  have FT := Lib.hid (fitTx_of Hsb.out.symm OKT.out)
  have FRT := Lib.hid (fitR_one Hsb.out.symm OKT.out)
  have FRP := Lib.hid (fitR_all Hsa.out.symm OKP.out)
  clear OKP OKT
  by_cases h60 : 60 < n2
  · have i60 : (60 : Int) < (n2 : Int) := by omega
    go_wp2_with fail
    go_ret
    first | exact ⟨rfl, G.out⟩ | exact ⟨rfl, hg0 ▸ G.out⟩
  have i60 : ¬ (60 : Int) < (n2 : Int) := by omega
  have HV60 : Hid (v.length ≤ 60) := Lib.hid (by have := LSV.out; omega)
  have KE : Hid (∀ v, Below u5.heap.size u5 v → Below u5.heap.size u5 v ∧ v.cell? ⟨g0, 0, none⟩ = some (.slice fa fn fc) ∧ v.cell? ⟨g0, 1, none⟩ = some (.slice la ln lc)) := Lib.hid (fun v hb => ⟨hb, (PB.out.below hb).c⟩)
  have K1 := Lib.hid (fun v (hb : Below u5.heap.size u5 v) => vc_rcopy_any (seqI_of (PB.out.below hb).f) FL2.out)
  have K2 := Lib.hid (fun v (hb : Below u5.heap.size u5 v) => rcopyTx_any (PB.out.below hb).l FL3.out (FitTx.alone FP.out.fit))
  go_upto_region 5 with fail
  go_cut [7] (fun s7 wx => ∃ (nb : Nat) (qa : Option Addr) (qn qc : Nat) (pa : Option Addr) (pn pc : Nat), s7 = .pointer (some ⟨nb, 0, none⟩) ∧ PaBox nb p qa qn qc pa pn pc wx ∧ Below u5.heap.size u5 wx)
  case first =>
    refine wp_region_held_drew (S := fun u' => Below u5.heap.size u5 u' ∧ u'.cell? ⟨g0, 0, none⟩ = some (.slice fa fn fc) ∧ u'.cell? ⟨g0, 1, none⟩ = some (.slice la ln lc)) (by kernel_rfl) ?_ (fun hHeld => ?_)
    · (exact KE.out _ (Below.refl _ _).drew)
    simp only [List.size_toArray, List.length_cons, List.length_nil, Nat.zero_add, Nat.reduceAdd]
    refine tkB (i := 0) hHeld ?_
    refine tkB (i := 1) hHeld ?_
    refine tkB (i := 3) hHeld ?_
    refine tkB (i := 4) hHeld ?_
    refine wpAnyH_ready (rs := [2, 7]) (by kernel_rfl) (by simp) ?_
    refine AllReadyH.cons rfl (fun K hK => ?_) (AllReadyH.cons rfl (fun K hK => ?_) AllReadyH.nil)
    · go_simp
      have ZH := Lib.hid hHeld.1.size
      refine (K1.out _ hHeld.1).mono ?_
      rintro e s1 ⟨v2, rfl, ho, hb⟩
      obtain ⟨qa, qc, rfl, -, -, -, -⟩ := ho.parts
      have N1 : Hid (Sq LInt (fun b => u5.heap.size ≤ b ∧ b < s1.heap.size) s1 (.slice qa p.floor.length qc) p.floor) := Lib.hid (ho.newI ZH.out)
      refine hK.out _ _ (KE.out _ (holdC hHeld hb)) (fun hHeld => ?_)
      clear hK K hb ho ZH
      refine wpAnyH_ready (rs := [5, 7]) (by kernel_rfl) (by simp) ?_
      refine AllReadyH.cons rfl (fun K hK => ?_) (AllReadyH.cons rfl (fun K hK => ?_) AllReadyH.nil)
      · go_simp
        have ZH := Lib.hid hHeld.1.size
        refine (K2.out _ hHeld.1).mono ?_
        rintro e s2 ⟨v5, rfl, ho, hb⟩
        obtain ⟨pa, pc, rfl, -, -, -, -⟩ := ho.own.parts
        replace N1 := Lib.hid (N1.out.later hb)
        have I1 : Hid (Sq LTxn (fun b => u5.heap.size ≤ b ∧ b < s2.heap.size) s2 (.slice pa p.list.length pc) p.list) := Lib.hid ((ho.sq fun b h _ => h).mono fun b h => ⟨Nat.le_trans ZH.out h.1, h.2⟩)
        refine hK.out _ _ (KE.out _ (holdC hHeld hb)) (fun hHeld => ?_)
        clear hK K hb ho ZH
        refine tkB (i := 6) hHeld ?_
        refine wpAnyH_ready (rs := [7]) (by kernel_rfl) (by simp) ?_
        refine AllReadyH.cons rfl (fun K hK => ?_) AllReadyH.nil
        go_simp
        have hb : Below s2.heap.size s2 (s2.alloc (.cells #[.slice none 0 0, .slice none 0 0] 26)) := (Below.refl s2.heap.size s2).alloc (Nat.le_refl _) (.cells #[.slice none 0 0, .slice none 0 0] 26)
        replace N1 := Lib.hid (N1.out.later hb)
        replace I1 := Lib.hid (I1.out.later hb)
        have DQ : Hid ((s2.alloc (.cells #[.slice none 0 0, .slice none 0 0] 26)).heap[s2.heap.size]? = some (.cells #[.slice none 0 0, .slice none 0 0] 26 (0, 0))) := Lib.hid (heap_alloc_new s2 _)
        have DW : Hid (u5.heap.size ≤ s2.heap.size) := Lib.hid hHeld.1.size
        refine hK.out _ _ (KE.out _ (holdC hHeld hb)) (fun hHeld => ?_)
        clear hK K hb
        generalize hD : s2.heap.size = gd at *
        generalize (s2.alloc (.cells #[.slice none 0 0, .slice none 0 0] 26)) = s3 at *
        obtain ⟨⟨t0, t1⟩, f0, f1⟩ := st2_cells DQ.out
        have DS := Lib.hid (pabox_set (p := p) ⟨_, _, _, _, _, _, _, DQ.out⟩ (N1.out.mono fun b h => h.2) (I1.out.mono fun b h => h.2) ⟨_, _, DQ.out⟩)
        have DB := Lib.hid hHeld.1
        refine wpAnyH_ready (rs := [8]) (by kernel_rfl) (by simp) ?_
        refine AllReadyH.cons rfl (fun K hK => ?_) AllReadyH.nil
        go_simp
        refine hK.out _ _ (KE.out _ ((DB.out.setCell DW.out _).setCell DW.out _)) (fun hHeld => ?_)
        clear hK K t0 t1 f0 f1
        refine wpAnyH_done (by kernel_rfl) ?_ _
        have GZ := Lib.hid hHeld.1
        clear hHeld
        go_wp2_with fail
        go_meet
        exact ⟨gd, _, _, _, _, _, _, rfl, DS.out, GZ.out⟩
      · go_simp
        have hb : Below s1.heap.size s1 (s1.alloc (.cells #[.slice none 0 0, .slice none 0 0] 26)) := (Below.refl s1.heap.size s1).alloc (Nat.le_refl _) (.cells #[.slice none 0 0, .slice none 0 0] 26)
        replace N1 := Lib.hid (N1.out.later hb)
        have DQ : Hid ((s1.alloc (.cells #[.slice none 0 0, .slice none 0 0] 26)).heap[s1.heap.size]? = some (.cells #[.slice none 0 0, .slice none 0 0] 26 (0, 0))) := Lib.hid (heap_alloc_new s1 _)
        have DW : Hid (u5.heap.size ≤ s1.heap.size) := Lib.hid hHeld.1.size
        refine hK.out _ _ (KE.out _ (holdC hHeld hb)) (fun hHeld => ?_)
        clear hK K hb
        generalize hD : s1.heap.size = gd at *
        generalize (s1.alloc (.cells #[.slice none 0 0, .slice none 0 0] 26)) = s4 at *
        refine wpAnyH_ready (rs := [5]) (by kernel_rfl) (by simp) ?_
        refine AllReadyH.cons rfl (fun K hK => ?_) AllReadyH.nil
        go_simp
        have ZH := Lib.hid hHeld.1.size
        refine (K2.out _ hHeld.1).mono ?_
        rintro e s5 ⟨v5, rfl, ho, hb⟩
        obtain ⟨pa, pc, rfl, -, -, -, -⟩ := ho.own.parts
        replace N1 := Lib.hid (N1.out.later hb)
        replace DQ := Lib.hid ((hb.block _ (Array.getElem?_eq_some_iff.1 DQ.out).1).trans DQ.out)
        have I1 : Hid (Sq LTxn (fun b => u5.heap.size ≤ b ∧ b < s5.heap.size) s5 (.slice pa p.list.length pc) p.list) := Lib.hid ((ho.sq fun b h _ => h).mono fun b h => ⟨Nat.le_trans ZH.out h.1, h.2⟩)
        refine hK.out _ _ (KE.out _ (holdC hHeld hb)) (fun hHeld => ?_)
        clear hK K hb ho ZH
        refine tkB (i := 6) hHeld ?_
        obtain ⟨⟨t0, t1⟩, f0, f1⟩ := st2_cells DQ.out
        have DS := Lib.hid (pabox_set (p := p) ⟨_, _, _, _, _, _, _, DQ.out⟩ (N1.out.mono fun b h => h.2) (I1.out.mono fun b h => h.2) ⟨_, _, DQ.out⟩)
        have DB := Lib.hid hHeld.1
        refine wpAnyH_ready (rs := [8]) (by kernel_rfl) (by simp) ?_
        refine AllReadyH.cons rfl (fun K hK => ?_) AllReadyH.nil
        go_simp
        refine hK.out _ _ (KE.out _ ((DB.out.setCell DW.out _).setCell DW.out _)) (fun hHeld => ?_)
        clear hK K t0 t1 f0 f1
        refine wpAnyH_done (by kernel_rfl) ?_ _
        have GZ := Lib.hid hHeld.1
        clear hHeld
        go_wp2_with fail
        go_meet
        exact ⟨gd, _, _, _, _, _, _, rfl, DS.out, GZ.out⟩
    · go_simp
      have hb : Below u5.drew.heap.size u5.drew ((u5.alloc (.cells #[.slice none 0 0, .slice none 0 0] 26)).drew) := (Below.refl u5.drew.heap.size u5.drew).alloc (Nat.le_refl _) (.cells #[.slice none 0 0, .slice none 0 0] 26)
      have DQ : Hid (((u5.alloc (.cells #[.slice none 0 0, .slice none 0 0] 26)).drew).heap[u5.heap.size]? = some (.cells #[.slice none 0 0, .slice none 0 0] 26 (0, 0))) := Lib.hid (heap_alloc_new u5.drew _)
      have DW : Hid (u5.heap.size ≤ u5.heap.size) := Lib.hid hHeld.1.size
      refine hK.out _ _ (KE.out _ (holdC hHeld hb)) (fun hHeld => ?_)
      clear hK K hb
      generalize ((u5.alloc (.cells #[.slice none 0 0, .slice none 0 0] 26)).drew) = s6 at *
      refine wpAnyH_ready (rs := [2]) (by kernel_rfl) (by simp) ?_
      refine AllReadyH.cons rfl (fun K hK => ?_) AllReadyH.nil
      go_simp
      have ZH := Lib.hid hHeld.1.size
      refine (K1.out _ hHeld.1).mono ?_
      rintro e s7 ⟨v2, rfl, ho, hb⟩
      obtain ⟨qa, qc, rfl, -, -, -, -⟩ := ho.parts
      replace DQ := Lib.hid ((hb.block _ (Array.getElem?_eq_some_iff.1 DQ.out).1).trans DQ.out)
      have N1 : Hid (Sq LInt (fun b => u5.heap.size ≤ b ∧ b < s7.heap.size) s7 (.slice qa p.floor.length qc) p.floor) := Lib.hid (ho.newI ZH.out)
      refine hK.out _ _ (KE.out _ (holdC hHeld hb)) (fun hHeld => ?_)
      clear hK K hb ho ZH
      refine wpAnyH_ready (rs := [5]) (by kernel_rfl) (by simp) ?_
      refine AllReadyH.cons rfl (fun K hK => ?_) AllReadyH.nil
      go_simp
      have ZH := Lib.hid hHeld.1.size
      refine (K2.out _ hHeld.1).mono ?_
      rintro e s8 ⟨v5, rfl, ho, hb⟩
      obtain ⟨pa, pc, rfl, -, -, -, -⟩ := ho.own.parts
      replace N1 := Lib.hid (N1.out.later hb)
      replace DQ := Lib.hid ((hb.block _ (Array.getElem?_eq_some_iff.1 DQ.out).1).trans DQ.out)
      have I1 : Hid (Sq LTxn (fun b => u5.heap.size ≤ b ∧ b < s8.heap.size) s8 (.slice pa p.list.length pc) p.list) := Lib.hid ((ho.sq fun b h _ => h).mono fun b h => ⟨Nat.le_trans ZH.out h.1, h.2⟩)
      refine hK.out _ _ (KE.out _ (holdC hHeld hb)) (fun hHeld => ?_)
      clear hK K hb ho ZH
      refine tkB (i := 6) hHeld ?_
      obtain ⟨⟨t0, t1⟩, f0, f1⟩ := st2_cells DQ.out
      have DS := Lib.hid (pabox_set (p := p) ⟨_, _, _, _, _, _, _, DQ.out⟩ (N1.out.mono fun b h => h.2) (I1.out.mono fun b h => h.2) ⟨_, _, DQ.out⟩)
      have DB := Lib.hid hHeld.1
      refine wpAnyH_ready (rs := [8]) (by kernel_rfl) (by simp) ?_
      refine AllReadyH.cons rfl (fun K hK => ?_) AllReadyH.nil
      go_simp
      refine hK.out _ _ (KE.out _ ((DB.out.setCell DW.out _).setCell DW.out _)) (fun hHeld => ?_)
      clear hK K t0 t1 f0 f1
      refine wpAnyH_done (by kernel_rfl) ?_ _
      have GZ := Lib.hid hHeld.1
      clear hHeld
      go_wp2_with fail
      go_meet
      exact ⟨u5.heap.size, _, _, _, _, _, _, rfl, DS.out, GZ.out⟩
  case rest =>
    obtain ⟨gm, qa, qn, qc, pa, pn, pc, rfl, hbx, hb⟩ := hcut
    replace PB := Lib.hid (PB.out.below hb)
    replace TB := Lib.hid (TB.out.below hb)
    replace SV := Lib.hid (SV.out.below hb)
    replace G := Lib.hid (G.out.trans (hb.mono G.out.size))
    have MB := Lib.hid hbx
    clear hb hbx KE K1 K2
    obtain ⟨x0a, x0b⟩ := MB.out.c
    obtain ⟨y0, y1, y2, y3⟩ := TB.out.c
    have K := Lib.hid (pakeep_any MB.out.is TB.out.is FL1.out FL3.out FP.out.fit FT.out)
    go_upto_region 7 with (go_at_call 9; refine K.out.mono ?_; rintro e u16 ⟨aa, an, ac, ba, bn, bc, rfl, hf, hl, hb⟩; have AB := Lib.hid (pabox_new (p := pKeep p t) hf.new hl.new); replace hb := hb.trans (((Below.refl u16.heap.size u16).alloc (Nat.le_refl _) (.cells #[.slice aa an ac, .slice ba bn bc] 26)).mono hb.size); replace PB := Lib.hid (PB.out.below hb); replace TB := Lib.hid (TB.out.below hb); replace SV := Lib.hid (SV.out.below hb); replace MB := Lib.hid (MB.out.below hb); replace G := Lib.hid (G.out.trans (hb.mono G.out.size)); clear hb hf hl K x0a x0b y0 y1 y2 y3)
    generalize (u16.alloc (.cells #[.slice aa an ac, .slice ba bn bc] 26)) = u17 at *
    generalize u16.heap.size = ga at AB ⊢
    obtain ⟨x0a, x0b⟩ := PB.out.c
    obtain ⟨y0, y1, y2, y3⟩ := TB.out.c
    have K := Lib.hid (rkeep_any PB.out.is TB.out.is FL1.out FL3.out FRT.out)
    have b0 : (pErr p t != pErr p t) = false := by simp
    go_wp2_with fail
    refine K.out.mono ?_
    rintro e u18 ⟨rfl, hb⟩
    replace PB := Lib.hid (PB.out.below hb)
    replace TB := Lib.hid (TB.out.below hb)
    replace SV := Lib.hid (SV.out.below hb)
    replace MB := Lib.hid (MB.out.below hb)
    replace AB := Lib.hid (AB.out.below hb)
    replace G := Lib.hid (G.out.trans (hb.mono G.out.size))
    clear hb K x0a x0b y0 y1 y2 y3
    have NG : Hid (g0 + 1 < u18.heap.size ∧ gm < u18.heap.size ∧ ga < u18.heap.size) := Lib.hid ⟨World.block_lt_of_cell? u18 ⟨g0 + 1, 0, none⟩ TB.out.c.1, MB.out.lt, AB.out.lt⟩
    have WB : Hid (PaBox u18.heap.size ⟨[], []⟩ none 0 0 none 0 0 (u18.alloc (.cells #[.slice none 0 0, .slice none 0 0] 26))) := Lib.hid (pabox_new (p := ⟨[], []⟩) (SeqE.nil _) (SeqE.nil _))
    have hb := (Below.refl u18.heap.size u18).alloc (Nat.le_refl _) (.cells #[.slice none 0 0, .slice none 0 0] 26)
    replace PB := Lib.hid (PB.out.below hb)
    replace TB := Lib.hid (TB.out.below hb)
    replace SV := Lib.hid (SV.out.below hb)
    replace MB := Lib.hid (MB.out.below hb)
    replace AB := Lib.hid (AB.out.below hb)
    replace G := Lib.hid (G.out.trans (hb.mono G.out.size))
    clear hb
    go_upto_region 10 with fail
    generalize (u18.alloc (.cells #[.slice none 0 0, .slice none 0 0] 26)) = u19 at *
    generalize u18.heap.size = gw at *
    by_cases he : pErr p t = 0
    rotate_left
    · have EK : Hid (pKeep p t = ⟨[], []⟩) := Lib.hid (by unfold pKeep; rw [if_neg he])
      have bne : ((pErr p t) == 0) = false := beq_false_of_ne he
      rw [← EK.out] at WB
      clear EK
      obtain ⟨sd, hsd⟩ : ∃ b, b = pSound p := ⟨_, rfl⟩
      have HSD := Lib.hid hsd
      clear hsd
      have bsd : (sd != sd) = false := by cases sd <;> rfl
      have PL : Hid ((pPrune p v).list.length ≤ 1000000) := Lib.hid (by have := pLeft_len p.list (pFloor p v); have := FL3.out; show (pLeft p.list (pFloor p v)).length ≤ _; omega)
      have KL : Hid ((pKeep p t).list.length ≤ 1000000) := Lib.hid (by have := FP.out.list; unfold pKeep; split <;> simp <;> omega)
      have K1 := Lib.hid (fun u (hb : Below u19.heap.size u19 u) => paSameR (AB.out.below hb).is (WB.out.below hb).is KL.out true (decide_eq_true rfl))
      have K2 := Lib.hid (fun u (hb : Below u19.heap.size u19 u) => pasound_any (MB.out.below hb).is FL2.out FL3.out FP.out.fit sd HSD.out.symm)
      have K3 := Lib.hid (fun u (hb : Below u19.heap.size u19 u) => rsound_any (PB.out.below hb).is FL1.out FL3.out FRP.out sd HSD.out.symm)
      have K4 := Lib.hid (fun u (hb : Below u19.heap.size u19 u) => paend_any (MB.out.below hb).is FL2.out FL3.out)
      have K5 := Lib.hid (fun u (hb : Below u19.heap.size u19 u) => rend_any (PB.out.below hb).is FL1.out FL3.out)
      have K6 : Hid (∀ u x y, SeqI u x (pEnd p) → SeqI u y (pEnd p) → Calls Tryz.prog 14 #[x, y] u (GivesB u true)) := Lib.hid (fun u x y hx hy => (vc_requal_yes hx hy).mono (fun e w' h => ⟨h.1, below_of_drawn h.2⟩))
      have K7 := Lib.hid (fun u (hb : Below u19.heap.size u19 u) => prune_any (MB.out.below hb).is (SV.out.below hb) FL1.out FL3.out FP.out.fit (by have := HV60.out; omega))
      have K8 := Lib.hid (fun u (hb : Below u19.heap.size u19 u) => rprune_any (PB.out.below hb).is (SV.out.below hb) FL1.out FL3.out (by have := HV60.out; omega))
      have K9 := Lib.hid (fun u x y (hx : IsPast u x (pPrune p v)) (hy : IsPast u y (pPrune p v)) => paSameR hx hy PL.out true (decide_eq_true rfl))
      go_upto_region 12 with fail
      have KE : Hid (∀ u, Below u19.heap.size u19 u → Below u19.heap.size u19 u ∧ (u.cell? ⟨gm, 0, none⟩ = some (.slice qa qn qc) ∧ u.cell? ⟨gm, 1, none⟩ = some (.slice pa pn pc)) ∧ (u.cell? ⟨g0, 0, none⟩ = some (.slice fa fn fc) ∧ u.cell? ⟨g0, 1, none⟩ = some (.slice la ln lc)) ∧ (u.cell? ⟨ga, 0, none⟩ = some (.slice aa an ac) ∧ u.cell? ⟨ga, 1, none⟩ = some (.slice ba bn bc)) ∧ (u.cell? ⟨gw, 0, none⟩ = some (.slice none 0 0) ∧ u.cell? ⟨gw, 1, none⟩ = some (.slice none 0 0))) := Lib.hid (fun u hb => ⟨hb, (MB.out.below hb).c, (PB.out.below hb).c, (AB.out.below hb).c, (WB.out.below hb).c⟩)
      refine wp_region_held_drew (S := fun u' => Below u19.heap.size u19 u' ∧ (u'.cell? ⟨gm, 0, none⟩ = some (.slice qa qn qc) ∧ u'.cell? ⟨gm, 1, none⟩ = some (.slice pa pn pc)) ∧ (u'.cell? ⟨g0, 0, none⟩ = some (.slice fa fn fc) ∧ u'.cell? ⟨g0, 1, none⟩ = some (.slice la ln lc)) ∧ (u'.cell? ⟨ga, 0, none⟩ = some (.slice aa an ac) ∧ u'.cell? ⟨ga, 1, none⟩ = some (.slice ba bn bc)) ∧ (u'.cell? ⟨gw, 0, none⟩ = some (.slice none 0 0) ∧ u'.cell? ⟨gw, 1, none⟩ = some (.slice none 0 0))) (by kernel_rfl) ?_ (fun hHeld => ?_)
      · (exact KE.out _ (Below.refl _ _).drew)
      simp only [List.size_toArray, List.length_cons, List.length_nil, Nat.zero_add, Nat.reduceAdd]
      refine tkB (i := 0) hHeld ?_
      refine tkB (i := 1) hHeld ?_
      refine wpAnyH_ready (rs := [2]) (by kernel_rfl) (by simp) ?_
      refine AllReadyH.cons rfl (fun K hK => ?_) AllReadyH.nil
      go_simp
      refine (K1.out _ hHeld.1).mono ?_
      rintro e r1 ⟨rfl, hb⟩
      refine hK.out _ _ (KE.out _ (holdC hHeld hb)) (fun hHeld => ?_)
      clear hK K hb
      refine tkB (i := 3) hHeld ?_
      refine tkB (i := 4) hHeld ?_
      refine tkB (i := 5) hHeld ?_
      refine tkB (i := 7) hHeld ?_
      refine wpAnyH_ready (rs := [6]) (by kernel_rfl) (by simp) ?_
      refine AllReadyH.cons rfl (fun K hK => ?_) AllReadyH.nil
      go_simp
      refine (K2.out _ hHeld.1).mono ?_
      rintro e r2 ⟨rfl, hb⟩
      refine hK.out _ _ (KE.out _ (holdC hHeld hb)) (fun hHeld => ?_)
      clear hK K hb
      refine wpAnyH_ready (rs := [8]) (by kernel_rfl) (by simp) ?_
      refine AllReadyH.cons rfl (fun K hK => ?_) AllReadyH.nil
      go_simp
      refine (K3.out _ hHeld.1).mono ?_
      rintro e r3 ⟨rfl, hb⟩
      refine hK.out _ _ (KE.out _ (holdC hHeld hb)) (fun hHeld => ?_)
      clear hK K hb
      refine tkB (i := 9) hHeld ?_
      refine tkB (i := 10) hHeld ?_
      refine tkB (i := 11) hHeld ?_
      refine tkB (i := 12) hHeld ?_
      refine tkB (i := 14) hHeld ?_
      refine wpAnyH_ready (rs := [13]) (by kernel_rfl) (by simp) ?_
      refine AllReadyH.cons rfl (fun K hK => ?_) AllReadyH.nil
      go_simp
      refine (K4.out _ hHeld.1).mono ?_
      rintro e r4 ⟨v4, rfl, ho, hb⟩; have Q1 := Lib.hid ho.seq; obtain ⟨Q1a, Q1c, rfl, -, -, -, -⟩ := ho.parts; clear ho
      refine hK.out _ _ (KE.out _ (holdC hHeld hb)) (fun hHeld => ?_)
      clear hK K hb
      refine wpAnyH_ready (rs := [15]) (by kernel_rfl) (by simp) ?_
      refine AllReadyH.cons rfl (fun K hK => ?_) AllReadyH.nil
      go_simp
      refine (K5.out _ hHeld.1).mono ?_
      rintro e r5 ⟨v5, rfl, ho, hb⟩; have Q2 := Lib.hid (Q1.out.below hb); clear Q1; have Q3 := Lib.hid ho.seq; obtain ⟨Q3a, Q3c, rfl, -, -, -, -⟩ := ho.parts; clear ho
      refine hK.out _ _ (KE.out _ (holdC hHeld hb)) (fun hHeld => ?_)
      clear hK K hb
      refine wpAnyH_ready (rs := [16]) (by kernel_rfl) (by simp) ?_
      refine AllReadyH.cons rfl (fun K hK => ?_) AllReadyH.nil
      go_simp
      refine (K6.out _ _ _ Q2.out Q3.out).mono ?_
      rintro e r6 ⟨rfl, hb⟩; clear Q2 Q3
      refine hK.out _ _ (KE.out _ (holdC hHeld hb)) (fun hHeld => ?_)
      clear hK K hb
      refine tkB (i := 17) hHeld ?_
      refine tkB (i := 18) hHeld ?_
      refine tkB (i := 19) hHeld ?_
      refine tkB (i := 20) hHeld ?_
      refine tkB (i := 21) hHeld ?_
      refine tkB (i := 23) hHeld ?_
      refine tkB (i := 24) hHeld ?_
      refine wpAnyH_ready (rs := [22]) (by kernel_rfl) (by simp) ?_
      refine AllReadyH.cons rfl (fun K hK => ?_) AllReadyH.nil
      go_simp
      refine (K7.out _ hHeld.1).mono ?_
      rintro e r7 ⟨ra, rn, rc, ja, jn, jc, rfl, hf, hl, hb⟩; have I1 : Hid (IsPast _ _ _) := Lib.hid ⟨_, _, rfl, hf.new, hl.new⟩; clear hf hl
      refine hK.out _ _ (KE.out _ (holdC hHeld hb)) (fun hHeld => ?_)
      clear hK K hb
      refine wpAnyH_ready (rs := [25]) (by kernel_rfl) (by simp) ?_
      refine AllReadyH.cons rfl (fun K hK => ?_) AllReadyH.nil
      go_simp
      refine (K8.out _ hHeld.1).mono ?_
      rintro e r8 ⟨ra2, rn2, rc2, ja2, jn2, jc2, rfl, hf, hl, hb⟩; have I2 : Hid (IsPast _ _ _) := Lib.hid (I1.out.below hb); clear I1; have I3 : Hid (IsPast _ _ _) := Lib.hid ⟨_, _, rfl, hf, hl⟩; clear hf hl
      refine hK.out _ _ (KE.out _ (holdC hHeld hb)) (fun hHeld => ?_)
      clear hK K hb
      refine wpAnyH_ready (rs := [26]) (by kernel_rfl) (by simp) ?_
      refine AllReadyH.cons rfl (fun K hK => ?_) AllReadyH.nil
      go_simp
      refine (K9.out _ _ _ I2.out I3.out).mono ?_
      rintro e r9 ⟨rfl, hb⟩; clear I2 I3
      refine hK.out _ _ (KE.out _ (holdC hHeld hb)) (fun hHeld => ?_)
      clear hK K hb
      refine tkB (i := 27) hHeld ?_
      refine tkB (i := 28) hHeld ?_
      refine wpAnyH_done (by kernel_rfl) ?_ _
      have hb := hHeld.1
      clear hHeld KE
      replace PB := Lib.hid (PB.out.below hb)
      replace TB := Lib.hid (TB.out.below hb)
      replace SV := Lib.hid (SV.out.below hb)
      replace MB := Lib.hid (MB.out.below hb)
      replace AB := Lib.hid (AB.out.below hb)
      replace WB := Lib.hid (WB.out.below hb)
      replace G := Lib.hid (G.out.trans (hb.mono G.out.size))
      clear hb
      clear K1 K2 K3 K4 K5 K6 K7 K8 K9
      obtain ⟨fb, hfb⟩ : ∃ b, b = Plain.within p.floor v := ⟨_, rfl⟩
      have HFB := Lib.hid hfb
      clear hfb
      skip
      cases fb
      · have SE1 : Hid (sinceErr p v = 14) := Lib.hid (by unfold sinceErr; rw [← HFB.out]; rfl)
        have SL1 : Hid (sinceList p v = []) := Lib.hid (by unfold sinceList; rw [← HFB.out]; rfl)
        obtain ⟨x0a, x0b⟩ := MB.out.c
        have K := Lib.hid (since_any MB.out.is SV.out FL2.out FL3.out FP.out.fit)
        rw [SE1.out, SL1.out] at K
        clear SE1 SL1
        go_wp2_with fail
        refine (K.out).mono ?_
        rintro e u20 ⟨za, zn, zc, rfl, ho, hb⟩
        have A1 := Lib.hid ho.new
        clear ho K
        replace PB := Lib.hid (PB.out.below hb)
        replace TB := Lib.hid (TB.out.below hb)
        replace SV := Lib.hid (SV.out.below hb)
        replace MB := Lib.hid (MB.out.below hb)
        replace AB := Lib.hid (AB.out.below hb)
        replace WB := Lib.hid (WB.out.below hb)
        replace G := Lib.hid (G.out.trans (hb.mono G.out.size))
        clear hb
        clear x0a x0b
        obtain ⟨x0a, x0b⟩ := PB.out.c
        have K := Lib.hid (vc_rwithin_any (seqI_of PB.out.f) SV.out FL2.out (by have := HV60.out; omega))
        rw [← HFB.out] at K
        go_wp2_with fail
        refine (K.out).mono ?_
        rintro e u21 ⟨rfl, hb⟩
        clear K
        replace PB := Lib.hid (PB.out.below hb)
        replace TB := Lib.hid (TB.out.below hb)
        replace SV := Lib.hid (SV.out.below hb)
        replace MB := Lib.hid (MB.out.below hb)
        replace AB := Lib.hid (AB.out.below hb)
        replace WB := Lib.hid (WB.out.below hb)
        replace A1 := Lib.hid (A1.out.below hb)
        replace G := Lib.hid (G.out.trans (hb.mono G.out.size))
        clear hb
        clear x0a x0b
        have ZN := Lib.hid A1.out.dims.1
        obtain rfl : 0 = zn := by have := ZN.out; simpa using this
        go_wp2_with fail
        go_ret
        first | exact ⟨rfl, G.out⟩ | exact ⟨rfl, hg0 ▸ G.out⟩
      have SE1 : Hid (sinceErr p v = 0) := Lib.hid (by unfold sinceErr; rw [← HFB.out]; rfl)
      have SL1 : Hid (sinceList p v = pLeft p.list v) := Lib.hid (by unfold sinceList; rw [← HFB.out]; rfl)
      obtain ⟨x0a, x0b⟩ := MB.out.c
      have K := Lib.hid (since_any MB.out.is SV.out FL2.out FL3.out FP.out.fit)
      rw [SE1.out, SL1.out] at K
      clear SE1 SL1
      go_wp2_with fail
      refine (K.out).mono ?_
      rintro e u20 ⟨za, zn, zc, rfl, ho, hb⟩
      have A1 := Lib.hid ho.new
      clear ho K
      replace PB := Lib.hid (PB.out.below hb)
      replace TB := Lib.hid (TB.out.below hb)
      replace SV := Lib.hid (SV.out.below hb)
      replace MB := Lib.hid (MB.out.below hb)
      replace AB := Lib.hid (AB.out.below hb)
      replace WB := Lib.hid (WB.out.below hb)
      replace G := Lib.hid (G.out.trans (hb.mono G.out.size))
      clear hb
      clear x0a x0b
      obtain ⟨x0a, x0b⟩ := PB.out.c
      have K := Lib.hid (vc_rwithin_any (seqI_of PB.out.f) SV.out FL2.out (by have := HV60.out; omega))
      rw [← HFB.out] at K
      go_wp2_with fail
      refine (K.out).mono ?_
      rintro e u21 ⟨rfl, hb⟩
      clear K
      replace PB := Lib.hid (PB.out.below hb)
      replace TB := Lib.hid (TB.out.below hb)
      replace SV := Lib.hid (SV.out.below hb)
      replace MB := Lib.hid (MB.out.below hb)
      replace AB := Lib.hid (AB.out.below hb)
      replace WB := Lib.hid (WB.out.below hb)
      replace A1 := Lib.hid (A1.out.below hb)
      replace G := Lib.hid (G.out.trans (hb.mono G.out.size))
      clear hb
      clear x0a x0b
      have LL : Hid ((pLeft p.list v).length ≤ 1000000) := Lib.hid (by have := pLeft_len p.list v; have := FL3.out; omega)
      obtain ⟨x0a, x0b⟩ := PB.out.c
      have K := Lib.hid (rleft_any PB.out.l SV.out FL3.out)
      go_wp2_with fail
      refine (K.out).mono ?_
      rintro e u22 ⟨lv, rfl, ho, hb⟩
      have A2 := Lib.hid ho.seq
      obtain ⟨l2a, l2c, rfl, -, -, -, -⟩ := ho.parts
      clear ho K
      replace PB := Lib.hid (PB.out.below hb)
      replace TB := Lib.hid (TB.out.below hb)
      replace SV := Lib.hid (SV.out.below hb)
      replace MB := Lib.hid (MB.out.below hb)
      replace AB := Lib.hid (AB.out.below hb)
      replace WB := Lib.hid (WB.out.below hb)
      replace A1 := Lib.hid (A1.out.below hb)
      replace G := Lib.hid (G.out.trans (hb.mono G.out.size))
      clear hb
      clear x0a x0b
      have K := Lib.hid (sameAllR A1.out A2.out LL.out true (decide_eq_true rfl))
      go_wp2_with fail
      refine (K.out).mono ?_
      rintro e u23 ⟨rfl, hb⟩
      clear K
      replace PB := Lib.hid (PB.out.below hb)
      replace TB := Lib.hid (TB.out.below hb)
      replace SV := Lib.hid (SV.out.below hb)
      replace MB := Lib.hid (MB.out.below hb)
      replace AB := Lib.hid (AB.out.below hb)
      replace WB := Lib.hid (WB.out.below hb)
      replace A1 := Lib.hid (A1.out.below hb)
      replace G := Lib.hid (G.out.trans (hb.mono G.out.size))
      clear hb
      obtain ⟨x0a, x0b⟩ := MB.out.c
      obtain ⟨x1a, x1b⟩ := PB.out.c
      have K := Lib.hid (paSameR MB.out.is PB.out.is FL3.out true (decide_eq_true rfl))
      go_wp2_with fail
      refine (K.out).mono ?_
      rintro e u24 ⟨rfl, hb⟩
      clear K
      replace PB := Lib.hid (PB.out.below hb)
      replace TB := Lib.hid (TB.out.below hb)
      replace SV := Lib.hid (SV.out.below hb)
      replace MB := Lib.hid (MB.out.below hb)
      replace AB := Lib.hid (AB.out.below hb)
      replace WB := Lib.hid (WB.out.below hb)
      replace A1 := Lib.hid (A1.out.below hb)
      replace G := Lib.hid (G.out.trans (hb.mono G.out.size))
      clear hb
      clear x0a x0b x1a x1b
      go_wp2_with fail
      go_ret
      first | exact ⟨rfl, G.out⟩ | exact ⟨rfl, hg0 ▸ G.out⟩
    rw [he]
    have EK : Hid (pKeep p t = ⟨p.floor, p.list ++ [t]⟩) := Lib.hid (by unfold pKeep; rw [if_pos he])
    have NG0 : Hid (g0 ≠ gw ∧ g0 + 1 ≠ gw ∧ gm ≠ gw ∧ ga ≠ gw) := Lib.hid (by have := NG.out; omega)
    have KE : Hid (∀ u, ButF (fun k => k = gw) u19 u → ButF (fun k => k = gw) u19 u ∧ (u.cell? ⟨g0, 0, none⟩ = some (.slice fa fn fc) ∧ u.cell? ⟨g0, 1, none⟩ = some (.slice la ln lc)) ∧ u.cell? ⟨g0 + 1, 0, none⟩ = some (.int .i64 t.node) ∧ u.cell? ⟨g0 + 1, 1, none⟩ = some (.int .i64 t.seq) ∧ u.cell? ⟨g0 + 1, 2, none⟩ = some (.slice da dn dc) ∧ u.cell? ⟨g0 + 1, 3, none⟩ = some (.slice ea en ec)) := Lib.hid (fun u hb => ⟨hb, pacF PB.out hb NG0.out.1, txcF TB.out hb NG0.out.2.1⟩)
    have KX := Lib.hid (fun u (hb : Below u19.heap.size u19 u) => rcopyTx_any (PB.out.below hb).l FL3.out (FitTx.alone FP.out.fit))
    go_upto_region 11 with fail
    go_cut [] (fun wx => ∃ (xa : Option Addr) (xn xc : Nat), PaBox gw ⟨p.floor, p.list ++ [t]⟩ fa fn fc xa xn xc wx ∧ PaBox g0 p fa fn fc la ln lc wx ∧ TxBox (g0 + 1) t da dn dc ea en ec wx ∧ PaBox gm p qa qn qc pa pn pc wx ∧ PaBox ga (pKeep p t) aa an ac ba bn bc wx ∧ SeqI wx (.slice a2 n2 c2) v ∧ Below w.heap.size w wx)
    case first =>
      have GB := Lib.hid (Below.refl u19.heap.size u19)
      refine wp_region_held_drew (S := fun u' => ButF (fun k => k = gw) u19 u' ∧ (u'.cell? ⟨g0, 0, none⟩ = some (.slice fa fn fc) ∧ u'.cell? ⟨g0, 1, none⟩ = some (.slice la ln lc)) ∧ u'.cell? ⟨g0 + 1, 0, none⟩ = some (.int .i64 t.node) ∧ u'.cell? ⟨g0 + 1, 1, none⟩ = some (.int .i64 t.seq) ∧ u'.cell? ⟨g0 + 1, 2, none⟩ = some (.slice da dn dc) ∧ u'.cell? ⟨g0 + 1, 3, none⟩ = some (.slice ea en ec)) (by kernel_rfl) ?_ (fun hHeld => ?_)
      · (exact KE.out _ (ButF.of (GB.out.drew)))
      simp only [List.size_toArray, List.length_cons, List.length_nil, Nat.zero_add, Nat.reduceAdd]
      refine tkB (i := 0) hHeld ?_
      refine tkB (i := 1) hHeld ?_
      refine tkB (i := 2) hHeld ?_
      refine tkB (i := 3) hHeld ?_
      refine tkB (i := 5) hHeld ?_
      refine wpAnyH_ready (rs := [4, 6]) (by kernel_rfl) (by simp) ?_
      refine AllReadyH.cons rfl (fun K hK => ?_) (AllReadyH.cons rfl (fun K hK => ?_) AllReadyH.nil)
      · go_simp
        refine (KX.out _ GB.out.drew).mono ?_
        rintro e s1 ⟨v4, rfl, ho, hb⟩
        have GN0 : Hid (Below u19.heap.size u19 s1) := Lib.hid (GB.out.drew.trans hb)
        have OV0 : Hid (OwnE LTxn u19.heap.size s1 v4 p.list) := Lib.hid ho.own
        refine hK.out _ _ (KE.out _ (ButF.of GN0.out)) (fun hHeld => ?_)
        clear hK K hb ho
        refine wpAnyH_ready (rs := [6]) (by kernel_rfl) (by simp) ?_
        refine AllReadyH.cons rfl (fun K hK => ?_) AllReadyH.nil
        go_simp
        have GN : Hid (Below u19.heap.size u19 s1) := Lib.hid GN0.out
        have L1 : Hid (Sq LTxn (fun b => b < u19.heap.size ∨ b = s1.heap.size) (s1.alloc (.cells #[.int .i64 t.node, .int .i64 t.seq, .slice da dn dc, .slice ea en ec] 29)) (.slice (some ⟨s1.heap.size, 0, none⟩) 1 1) [t]) := Lib.hid (one_txnJ (t := t) (TB.out.d.agree fun b hb => GN.out.block b hb) (TB.out.e.agree fun b hb => GN.out.block b hb) GN.out.size)
        clear GN
        have LBZ : Hid (s1.heap.size < (s1.alloc (.cells #[.int .i64 t.node, .int .i64 t.seq, .slice da dn dc, .slice ea en ec] 29)).heap.size) := Lib.hid (by simp)
        have GN : Hid (Below u19.heap.size u19 (s1.alloc (.cells #[.int .i64 t.node, .int .i64 t.seq, .slice da dn dc, .slice ea en ec] 29))) := Lib.hid (GN0.out.alloc GN0.out.size _)
        have OV1 := Lib.hid (OV0.out.alloc (.cells #[.int .i64 t.node, .int .i64 t.seq, .slice da dn dc, .slice ea en ec] 29))
        have OVN0 := Lib.hid OV0.out.lt
        refine hK.out _ _ (KE.out _ (ButF.of GN.out)) (fun hHeld => ?_)
        clear hK K OV0
        obtain ⟨xa0, xc0, rfl, -, -, -, -⟩ := OV1.out.parts
        have OVN : Hid (∀ b, Value.ownBlock (.slice xa0 p.list.length xc0) = some b → u19.heap.size ≤ b ∧ b ≠ s1.heap.size) := Lib.hid (fun b e => by have := OVN0.out b e; omega)
        have OV := Lib.hid OV1.out
        clear OV1 OVN0 GN0
        obtain ⟨lb, hlb⟩ : ∃ b, b = s1.heap.size := ⟨_, rfl⟩
        rw [← hlb] at L1 LBZ OVN ⊢
        clear hlb
        generalize (s1.alloc (.cells #[.int .i64 t.node, .int .i64 t.seq, .slice da dn dc, .slice ea en ec] 29)) = s2 at *
        have OR : Hid (∀ vs x, LTxn.R (fun b => b < u19.heap.size ∨ b = lb) s2 vs x → LTxn.R (fun b => b < s2.heap.size ∧ Value.ownBlock (.slice xa0 p.list.length xc0) ≠ some b) s2 vs x) := Lib.hid (fun vs x h => LTxn.mono h fun b hb => by
          have h1 := OVN.out b
          have h2 := GN.out.size
          have h3 := LBZ.out
          refine ⟨by omega, fun e => ?_⟩
          have := h1 e
          omega)
        refine wpAnyH_ready (rs := [7]) (by kernel_rfl) (by simp) ?_
        refine AllReadyH.cons rfl (fun K hK => ?_) AllReadyH.nil
        refine step_append_el LTxn (by rfl) (.tmp 53) (.tmp 55) rfl u19.heap.size rfl OV.out rfl L1.out OR.out (by have := FP.out.list; simp; omega) GN.out.size ?_
        intro v7 s7 ho7 hb7
        have GM : Hid (Below u19.heap.size u19 s7) := Lib.hid (GN.out.trans hb7)
        have X7 := Lib.hid ho7.seq
        obtain ⟨xa, xc, rfl, -, -, -, -⟩ := ho7.parts
        obtain ⟨xn, hxn⟩ : ∃ n, n = (p.list ++ [t]).length := ⟨_, rfl⟩
        rw [← hxn] at X7 ⊢
        clear hxn
        refine hK.out _ _ (KE.out _ (ButF.of GM.out)) (fun hHeld => ?_)
        clear hK K ho7 hb7
        refine tkB (i := 8) hHeld ?_
        have WB7 := Lib.hid (WB.out.below GM.out)
        obtain ⟨z0, z1⟩ := WB7.out.c
        obtain ⟨z2, z3⟩ := WB7.out.free
        refine wpAnyH_ready (rs := [9]) (by kernel_rfl) (by simp) ?_
        refine AllReadyH.cons rfl (fun K hK => ?_) AllReadyH.nil
        go_simp
        refine hK.out _ _ (KE.out _ (((ButF.of GM.out).trans (ButF.set (F := fun k => k = gw) rfl) fun _ _ e => e).trans (ButF.set (F := fun k => k = gw) rfl) fun _ _ e => e)) (fun hHeld => ?_)
        clear hK K z0 z1 z2 z3
        refine wpAnyH_done (by kernel_rfl) ?_ _
        clear hHeld
        have TWO := Lib.hid WB7.out.two
        have BT := Lib.hid (st2_but s7 gw (.slice fa fn fc) (.slice xa xn xc))
        have Y0 := Lib.hid (pabox_set (p := ⟨p.floor, p.list ++ [t]⟩) TWO.out (PB.out.below GM.out).f X7.out ⟨_, _, WB7.out.b⟩)
        have Y1 := Lib.hid ((PB.out.below GM.out).but TWO.out BT.out NG0.out.1)
        have Y2 := Lib.hid ((TB.out.below GM.out).but TWO.out BT.out NG0.out.2.1)
        have Y3 := Lib.hid ((MB.out.below GM.out).but TWO.out BT.out NG0.out.2.2.1)
        have Y4 := Lib.hid ((AB.out.below GM.out).but TWO.out BT.out NG0.out.2.2.2)
        have Y5 := Lib.hid (seqI_of (seq_int_but TWO.out BT.out (seq_ofI (SV.out.below GM.out))))
        have Y6 := Lib.hid (((G.out.trans (GM.out.mono G.out.size)).setCell (p := ⟨gw, 0, none⟩) (show w.heap.size ≤ gw by have := NG.out; omega) (.slice fa fn fc)).setCell (p := ⟨gw, 1, none⟩) (show w.heap.size ≤ gw by have := NG.out; omega) (.slice xa xn xc))
        go_wp2_with fail
        go_meet
        exact ⟨_, _, _, Y0.out, Y1.out, Y2.out, Y3.out, Y4.out, Y5.out, Y6.out⟩
      · go_simp
        have GN : Hid (Below u19.heap.size u19 u19) := Lib.hid GB.out
        have L1 : Hid (Sq LTxn (fun b => b < u19.heap.size ∨ b = u19.heap.size) (u19.alloc (.cells #[.int .i64 t.node, .int .i64 t.seq, .slice da dn dc, .slice ea en ec] 29)) (.slice (some ⟨u19.heap.size, 0, none⟩) 1 1) [t]) := Lib.hid (one_txnJ (t := t) (TB.out.d.agree fun b hb => GN.out.block b hb) (TB.out.e.agree fun b hb => GN.out.block b hb) GN.out.size)
        clear GN
        have hbB : Below u19.heap.size u19 ((u19.alloc (.cells #[.int .i64 t.node, .int .i64 t.seq, .slice da dn dc, .slice ea en ec] 29)).drew) := ((Below.refl u19.heap.size u19).alloc (Nat.le_refl _) (.cells #[.int .i64 t.node, .int .i64 t.seq, .slice da dn dc, .slice ea en ec] 29)).drew
        have GN0 : Hid (Below u19.heap.size u19 ((u19.alloc (.cells #[.int .i64 t.node, .int .i64 t.seq, .slice da dn dc, .slice ea en ec] 29)).drew)) := Lib.hid hbB
        have LBZ0 : Hid (u19.heap.size < ((u19.alloc (.cells #[.int .i64 t.node, .int .i64 t.seq, .slice da dn dc, .slice ea en ec] 29)).drew).heap.size) := Lib.hid (by show u19.heap.size < (u19.alloc (.cells #[.int .i64 t.node, .int .i64 t.seq, .slice da dn dc, .slice ea en ec] 29)).heap.size; simp)
        have L2 : Hid (Sq LTxn (fun b => b < u19.heap.size ∨ b = u19.heap.size) ((u19.alloc (.cells #[.int .i64 t.node, .int .i64 t.seq, .slice da dn dc, .slice ea en ec] 29)).drew) (.slice (some ⟨u19.heap.size, 0, none⟩) 1 1) [t]) := Lib.hid L1.out
        refine hK.out _ _ (KE.out _ (ButF.of GN0.out)) (fun hHeld => ?_)
        clear hK K hbB L1
        generalize ((u19.alloc (.cells #[.int .i64 t.node, .int .i64 t.seq, .slice da dn dc, .slice ea en ec] 29)).drew) = s1 at *
        refine wpAnyH_ready (rs := [4]) (by kernel_rfl) (by simp) ?_
        refine AllReadyH.cons rfl (fun K hK => ?_) AllReadyH.nil
        go_simp
        refine (KX.out _ GN0.out).mono ?_
        rintro e s2 ⟨v4, rfl, ho, hb⟩
        have GN : Hid (Below u19.heap.size u19 s2) := Lib.hid (GN0.out.trans (hb.mono GN0.out.size))
        have OV1 : Hid (OwnE LTxn u19.heap.size s2 v4 p.list) := Lib.hid (ho.own.mono GN0.out.size)
        have OVN0 := Lib.hid ho.own.lt
        have L1 : Hid (Sq LTxn (fun b => b < u19.heap.size ∨ b = u19.heap.size) s2 (.slice (some ⟨u19.heap.size, 0, none⟩) 1 1) [t]) := Lib.hid (L2.out.agree fun b h => hb.block b (by have := LBZ0.out; omega))
        have LBZ : Hid (u19.heap.size < s2.heap.size) := Lib.hid (Nat.lt_of_lt_of_le LBZ0.out hb.size)
        refine hK.out _ _ (KE.out _ (ButF.of GN.out)) (fun hHeld => ?_)
        obtain ⟨xa0, xc0, rfl, -, -, -, -⟩ := OV1.out.parts
        have OVN : Hid (∀ b, Value.ownBlock (.slice xa0 p.list.length xc0) = some b → u19.heap.size ≤ b ∧ b ≠ u19.heap.size) := Lib.hid (fun b e => by have := OVN0.out b e; have := LBZ0.out; omega)
        have OV := Lib.hid OV1.out
        clear hK K hb ho OV1 OVN0 L2 LBZ0 GN0
        have OR : Hid (∀ vs x, LTxn.R (fun b => b < u19.heap.size ∨ b = u19.heap.size) s2 vs x → LTxn.R (fun b => b < s2.heap.size ∧ Value.ownBlock (.slice xa0 p.list.length xc0) ≠ some b) s2 vs x) := Lib.hid (fun vs x h => LTxn.mono h fun b hb => by
          have h1 := OVN.out b
          have h2 := GN.out.size
          have h3 := LBZ.out
          refine ⟨by omega, fun e => ?_⟩
          have := h1 e
          omega)
        refine wpAnyH_ready (rs := [7]) (by kernel_rfl) (by simp) ?_
        refine AllReadyH.cons rfl (fun K hK => ?_) AllReadyH.nil
        refine step_append_el LTxn (by rfl) (.tmp 53) (.tmp 55) rfl u19.heap.size rfl OV.out rfl L1.out OR.out (by have := FP.out.list; simp; omega) GN.out.size ?_
        intro v7 s7 ho7 hb7
        have GM : Hid (Below u19.heap.size u19 s7) := Lib.hid (GN.out.trans hb7)
        have X7 := Lib.hid ho7.seq
        obtain ⟨xa, xc, rfl, -, -, -, -⟩ := ho7.parts
        obtain ⟨xn, hxn⟩ : ∃ n, n = (p.list ++ [t]).length := ⟨_, rfl⟩
        rw [← hxn] at X7 ⊢
        clear hxn
        refine hK.out _ _ (KE.out _ (ButF.of GM.out)) (fun hHeld => ?_)
        clear hK K ho7 hb7
        refine tkB (i := 8) hHeld ?_
        have WB7 := Lib.hid (WB.out.below GM.out)
        obtain ⟨z0, z1⟩ := WB7.out.c
        obtain ⟨z2, z3⟩ := WB7.out.free
        refine wpAnyH_ready (rs := [9]) (by kernel_rfl) (by simp) ?_
        refine AllReadyH.cons rfl (fun K hK => ?_) AllReadyH.nil
        go_simp
        refine hK.out _ _ (KE.out _ (((ButF.of GM.out).trans (ButF.set (F := fun k => k = gw) rfl) fun _ _ e => e).trans (ButF.set (F := fun k => k = gw) rfl) fun _ _ e => e)) (fun hHeld => ?_)
        clear hK K z0 z1 z2 z3
        refine wpAnyH_done (by kernel_rfl) ?_ _
        clear hHeld
        have TWO := Lib.hid WB7.out.two
        have BT := Lib.hid (st2_but s7 gw (.slice fa fn fc) (.slice xa xn xc))
        have Y0 := Lib.hid (pabox_set (p := ⟨p.floor, p.list ++ [t]⟩) TWO.out (PB.out.below GM.out).f X7.out ⟨_, _, WB7.out.b⟩)
        have Y1 := Lib.hid ((PB.out.below GM.out).but TWO.out BT.out NG0.out.1)
        have Y2 := Lib.hid ((TB.out.below GM.out).but TWO.out BT.out NG0.out.2.1)
        have Y3 := Lib.hid ((MB.out.below GM.out).but TWO.out BT.out NG0.out.2.2.1)
        have Y4 := Lib.hid ((AB.out.below GM.out).but TWO.out BT.out NG0.out.2.2.2)
        have Y5 := Lib.hid (seqI_of (seq_int_but TWO.out BT.out (seq_ofI (SV.out.below GM.out))))
        have Y6 := Lib.hid (((G.out.trans (GM.out.mono G.out.size)).setCell (p := ⟨gw, 0, none⟩) (show w.heap.size ≤ gw by have := NG.out; omega) (.slice fa fn fc)).setCell (p := ⟨gw, 1, none⟩) (show w.heap.size ≤ gw by have := NG.out; omega) (.slice xa xn xc))
        go_wp2_with fail
        go_meet
        exact ⟨_, _, _, Y0.out, Y1.out, Y2.out, Y3.out, Y4.out, Y5.out, Y6.out⟩
    case rest =>
      obtain ⟨xa, xn, xc, hw, hp, ht, hm, ha, hv, hg⟩ := hcut
      clear PB TB MB AB WB SV G KE KX
      rw [← EK.out] at hw
      have WB := Lib.hid hw
      have PB := Lib.hid hp
      have TB := Lib.hid ht
      have MB := Lib.hid hm
      have AB := Lib.hid ha
      have SV := Lib.hid hv
      have G := Lib.hid hg
      clear hw hp ht hm ha hv hg EK
      obtain ⟨sd, hsd⟩ : ∃ b, b = pSound p := ⟨_, rfl⟩
      have HSD := Lib.hid hsd
      clear hsd
      have bsd : (sd != sd) = false := by cases sd <;> rfl
      have PL : Hid ((pPrune p v).list.length ≤ 1000000) := Lib.hid (by have := pLeft_len p.list (pFloor p v); have := FL3.out; show (pLeft p.list (pFloor p v)).length ≤ _; omega)
      have KL : Hid ((pKeep p t).list.length ≤ 1000000) := Lib.hid (by have := FP.out.list; unfold pKeep; split <;> simp <;> omega)
      have K1 := Lib.hid (fun u (hb : Below wc.heap.size wc u) => paSameR (AB.out.below hb).is (WB.out.below hb).is KL.out true (decide_eq_true rfl))
      have K2 := Lib.hid (fun u (hb : Below wc.heap.size wc u) => pasound_any (MB.out.below hb).is FL2.out FL3.out FP.out.fit sd HSD.out.symm)
      have K3 := Lib.hid (fun u (hb : Below wc.heap.size wc u) => rsound_any (PB.out.below hb).is FL1.out FL3.out FRP.out sd HSD.out.symm)
      have K4 := Lib.hid (fun u (hb : Below wc.heap.size wc u) => paend_any (MB.out.below hb).is FL2.out FL3.out)
      have K5 := Lib.hid (fun u (hb : Below wc.heap.size wc u) => rend_any (PB.out.below hb).is FL1.out FL3.out)
      have K6 : Hid (∀ u x y, SeqI u x (pEnd p) → SeqI u y (pEnd p) → Calls Tryz.prog 14 #[x, y] u (GivesB u true)) := Lib.hid (fun u x y hx hy => (vc_requal_yes hx hy).mono (fun e w' h => ⟨h.1, below_of_drawn h.2⟩))
      have K7 := Lib.hid (fun u (hb : Below wc.heap.size wc u) => prune_any (MB.out.below hb).is (SV.out.below hb) FL1.out FL3.out FP.out.fit (by have := HV60.out; omega))
      have K8 := Lib.hid (fun u (hb : Below wc.heap.size wc u) => rprune_any (PB.out.below hb).is (SV.out.below hb) FL1.out FL3.out (by have := HV60.out; omega))
      have K9 := Lib.hid (fun u x y (hx : IsPast u x (pPrune p v)) (hy : IsPast u y (pPrune p v)) => paSameR hx hy PL.out true (decide_eq_true rfl))
      go_upto_region 12 with fail
      have KE : Hid (∀ u, Below wc.heap.size wc u → Below wc.heap.size wc u ∧ (u.cell? ⟨gm, 0, none⟩ = some (.slice qa qn qc) ∧ u.cell? ⟨gm, 1, none⟩ = some (.slice pa pn pc)) ∧ (u.cell? ⟨g0, 0, none⟩ = some (.slice fa fn fc) ∧ u.cell? ⟨g0, 1, none⟩ = some (.slice la ln lc)) ∧ (u.cell? ⟨ga, 0, none⟩ = some (.slice aa an ac) ∧ u.cell? ⟨ga, 1, none⟩ = some (.slice ba bn bc)) ∧ (u.cell? ⟨gw, 0, none⟩ = some (.slice fa fn fc) ∧ u.cell? ⟨gw, 1, none⟩ = some (.slice xa xn xc))) := Lib.hid (fun u hb => ⟨hb, (MB.out.below hb).c, (PB.out.below hb).c, (AB.out.below hb).c, (WB.out.below hb).c⟩)
      refine wp_region_held_drew (S := fun u' => Below wc.heap.size wc u' ∧ (u'.cell? ⟨gm, 0, none⟩ = some (.slice qa qn qc) ∧ u'.cell? ⟨gm, 1, none⟩ = some (.slice pa pn pc)) ∧ (u'.cell? ⟨g0, 0, none⟩ = some (.slice fa fn fc) ∧ u'.cell? ⟨g0, 1, none⟩ = some (.slice la ln lc)) ∧ (u'.cell? ⟨ga, 0, none⟩ = some (.slice aa an ac) ∧ u'.cell? ⟨ga, 1, none⟩ = some (.slice ba bn bc)) ∧ (u'.cell? ⟨gw, 0, none⟩ = some (.slice fa fn fc) ∧ u'.cell? ⟨gw, 1, none⟩ = some (.slice xa xn xc))) (by kernel_rfl) ?_ (fun hHeld => ?_)
      · (exact KE.out _ (Below.refl _ _).drew)
      simp only [List.size_toArray, List.length_cons, List.length_nil, Nat.zero_add, Nat.reduceAdd]
      refine tkB (i := 0) hHeld ?_
      refine tkB (i := 1) hHeld ?_
      refine wpAnyH_ready (rs := [2]) (by kernel_rfl) (by simp) ?_
      refine AllReadyH.cons rfl (fun K hK => ?_) AllReadyH.nil
      go_simp
      refine (K1.out _ hHeld.1).mono ?_
      rintro e r1 ⟨rfl, hb⟩
      refine hK.out _ _ (KE.out _ (holdC hHeld hb)) (fun hHeld => ?_)
      clear hK K hb
      refine tkB (i := 3) hHeld ?_
      refine tkB (i := 4) hHeld ?_
      refine tkB (i := 5) hHeld ?_
      refine tkB (i := 7) hHeld ?_
      refine wpAnyH_ready (rs := [6]) (by kernel_rfl) (by simp) ?_
      refine AllReadyH.cons rfl (fun K hK => ?_) AllReadyH.nil
      go_simp
      refine (K2.out _ hHeld.1).mono ?_
      rintro e r2 ⟨rfl, hb⟩
      refine hK.out _ _ (KE.out _ (holdC hHeld hb)) (fun hHeld => ?_)
      clear hK K hb
      refine wpAnyH_ready (rs := [8]) (by kernel_rfl) (by simp) ?_
      refine AllReadyH.cons rfl (fun K hK => ?_) AllReadyH.nil
      go_simp
      refine (K3.out _ hHeld.1).mono ?_
      rintro e r3 ⟨rfl, hb⟩
      refine hK.out _ _ (KE.out _ (holdC hHeld hb)) (fun hHeld => ?_)
      clear hK K hb
      refine tkB (i := 9) hHeld ?_
      refine tkB (i := 10) hHeld ?_
      refine tkB (i := 11) hHeld ?_
      refine tkB (i := 12) hHeld ?_
      refine tkB (i := 14) hHeld ?_
      refine wpAnyH_ready (rs := [13]) (by kernel_rfl) (by simp) ?_
      refine AllReadyH.cons rfl (fun K hK => ?_) AllReadyH.nil
      go_simp
      refine (K4.out _ hHeld.1).mono ?_
      rintro e r4 ⟨v4, rfl, ho, hb⟩; have Q1 := Lib.hid ho.seq; obtain ⟨Q1a, Q1c, rfl, -, -, -, -⟩ := ho.parts; clear ho
      refine hK.out _ _ (KE.out _ (holdC hHeld hb)) (fun hHeld => ?_)
      clear hK K hb
      refine wpAnyH_ready (rs := [15]) (by kernel_rfl) (by simp) ?_
      refine AllReadyH.cons rfl (fun K hK => ?_) AllReadyH.nil
      go_simp
      refine (K5.out _ hHeld.1).mono ?_
      rintro e r5 ⟨v5, rfl, ho, hb⟩; have Q2 := Lib.hid (Q1.out.below hb); clear Q1; have Q3 := Lib.hid ho.seq; obtain ⟨Q3a, Q3c, rfl, -, -, -, -⟩ := ho.parts; clear ho
      refine hK.out _ _ (KE.out _ (holdC hHeld hb)) (fun hHeld => ?_)
      clear hK K hb
      refine wpAnyH_ready (rs := [16]) (by kernel_rfl) (by simp) ?_
      refine AllReadyH.cons rfl (fun K hK => ?_) AllReadyH.nil
      go_simp
      refine (K6.out _ _ _ Q2.out Q3.out).mono ?_
      rintro e r6 ⟨rfl, hb⟩; clear Q2 Q3
      refine hK.out _ _ (KE.out _ (holdC hHeld hb)) (fun hHeld => ?_)
      clear hK K hb
      refine tkB (i := 17) hHeld ?_
      refine tkB (i := 18) hHeld ?_
      refine tkB (i := 19) hHeld ?_
      refine tkB (i := 20) hHeld ?_
      refine tkB (i := 21) hHeld ?_
      refine tkB (i := 23) hHeld ?_
      refine tkB (i := 24) hHeld ?_
      refine wpAnyH_ready (rs := [22]) (by kernel_rfl) (by simp) ?_
      refine AllReadyH.cons rfl (fun K hK => ?_) AllReadyH.nil
      go_simp
      refine (K7.out _ hHeld.1).mono ?_
      rintro e r7 ⟨ra, rn, rc, ja, jn, jc, rfl, hf, hl, hb⟩; have I1 : Hid (IsPast _ _ _) := Lib.hid ⟨_, _, rfl, hf.new, hl.new⟩; clear hf hl
      refine hK.out _ _ (KE.out _ (holdC hHeld hb)) (fun hHeld => ?_)
      clear hK K hb
      refine wpAnyH_ready (rs := [25]) (by kernel_rfl) (by simp) ?_
      refine AllReadyH.cons rfl (fun K hK => ?_) AllReadyH.nil
      go_simp
      refine (K8.out _ hHeld.1).mono ?_
      rintro e r8 ⟨ra2, rn2, rc2, ja2, jn2, jc2, rfl, hf, hl, hb⟩; have I2 : Hid (IsPast _ _ _) := Lib.hid (I1.out.below hb); clear I1; have I3 : Hid (IsPast _ _ _) := Lib.hid ⟨_, _, rfl, hf, hl⟩; clear hf hl
      refine hK.out _ _ (KE.out _ (holdC hHeld hb)) (fun hHeld => ?_)
      clear hK K hb
      refine wpAnyH_ready (rs := [26]) (by kernel_rfl) (by simp) ?_
      refine AllReadyH.cons rfl (fun K hK => ?_) AllReadyH.nil
      go_simp
      refine (K9.out _ _ _ I2.out I3.out).mono ?_
      rintro e r9 ⟨rfl, hb⟩; clear I2 I3
      refine hK.out _ _ (KE.out _ (holdC hHeld hb)) (fun hHeld => ?_)
      clear hK K hb
      refine tkB (i := 27) hHeld ?_
      refine tkB (i := 28) hHeld ?_
      refine wpAnyH_done (by kernel_rfl) ?_ _
      have hb := hHeld.1
      clear hHeld KE
      replace PB := Lib.hid (PB.out.below hb)
      replace TB := Lib.hid (TB.out.below hb)
      replace SV := Lib.hid (SV.out.below hb)
      replace MB := Lib.hid (MB.out.below hb)
      replace AB := Lib.hid (AB.out.below hb)
      replace WB := Lib.hid (WB.out.below hb)
      replace G := Lib.hid (G.out.trans (hb.mono G.out.size))
      clear hb
      clear K1 K2 K3 K4 K5 K6 K7 K8 K9
      obtain ⟨fb, hfb⟩ : ∃ b, b = Plain.within p.floor v := ⟨_, rfl⟩
      have HFB := Lib.hid hfb
      clear hfb
      skip
      cases fb
      · have SE1 : Hid (sinceErr p v = 14) := Lib.hid (by unfold sinceErr; rw [← HFB.out]; rfl)
        have SL1 : Hid (sinceList p v = []) := Lib.hid (by unfold sinceList; rw [← HFB.out]; rfl)
        obtain ⟨x0a, x0b⟩ := MB.out.c
        have K := Lib.hid (since_any MB.out.is SV.out FL2.out FL3.out FP.out.fit)
        rw [SE1.out, SL1.out] at K
        clear SE1 SL1
        go_wp2_with fail
        refine (K.out).mono ?_
        rintro e u20 ⟨za, zn, zc, rfl, ho, hb⟩
        have A1 := Lib.hid ho.new
        clear ho K
        replace PB := Lib.hid (PB.out.below hb)
        replace TB := Lib.hid (TB.out.below hb)
        replace SV := Lib.hid (SV.out.below hb)
        replace MB := Lib.hid (MB.out.below hb)
        replace AB := Lib.hid (AB.out.below hb)
        replace WB := Lib.hid (WB.out.below hb)
        replace G := Lib.hid (G.out.trans (hb.mono G.out.size))
        clear hb
        clear x0a x0b
        obtain ⟨x0a, x0b⟩ := PB.out.c
        have K := Lib.hid (vc_rwithin_any (seqI_of PB.out.f) SV.out FL2.out (by have := HV60.out; omega))
        rw [← HFB.out] at K
        go_wp2_with fail
        refine (K.out).mono ?_
        rintro e u21 ⟨rfl, hb⟩
        clear K
        replace PB := Lib.hid (PB.out.below hb)
        replace TB := Lib.hid (TB.out.below hb)
        replace SV := Lib.hid (SV.out.below hb)
        replace MB := Lib.hid (MB.out.below hb)
        replace AB := Lib.hid (AB.out.below hb)
        replace WB := Lib.hid (WB.out.below hb)
        replace A1 := Lib.hid (A1.out.below hb)
        replace G := Lib.hid (G.out.trans (hb.mono G.out.size))
        clear hb
        clear x0a x0b
        have ZN := Lib.hid A1.out.dims.1
        obtain rfl : 0 = zn := by have := ZN.out; simpa using this
        go_wp2_with fail
        go_ret
        first | exact ⟨rfl, G.out⟩ | exact ⟨rfl, hg0 ▸ G.out⟩
      have SE1 : Hid (sinceErr p v = 0) := Lib.hid (by unfold sinceErr; rw [← HFB.out]; rfl)
      have SL1 : Hid (sinceList p v = pLeft p.list v) := Lib.hid (by unfold sinceList; rw [← HFB.out]; rfl)
      obtain ⟨x0a, x0b⟩ := MB.out.c
      have K := Lib.hid (since_any MB.out.is SV.out FL2.out FL3.out FP.out.fit)
      rw [SE1.out, SL1.out] at K
      clear SE1 SL1
      go_wp2_with fail
      refine (K.out).mono ?_
      rintro e u20 ⟨za, zn, zc, rfl, ho, hb⟩
      have A1 := Lib.hid ho.new
      clear ho K
      replace PB := Lib.hid (PB.out.below hb)
      replace TB := Lib.hid (TB.out.below hb)
      replace SV := Lib.hid (SV.out.below hb)
      replace MB := Lib.hid (MB.out.below hb)
      replace AB := Lib.hid (AB.out.below hb)
      replace WB := Lib.hid (WB.out.below hb)
      replace G := Lib.hid (G.out.trans (hb.mono G.out.size))
      clear hb
      clear x0a x0b
      obtain ⟨x0a, x0b⟩ := PB.out.c
      have K := Lib.hid (vc_rwithin_any (seqI_of PB.out.f) SV.out FL2.out (by have := HV60.out; omega))
      rw [← HFB.out] at K
      go_wp2_with fail
      refine (K.out).mono ?_
      rintro e u21 ⟨rfl, hb⟩
      clear K
      replace PB := Lib.hid (PB.out.below hb)
      replace TB := Lib.hid (TB.out.below hb)
      replace SV := Lib.hid (SV.out.below hb)
      replace MB := Lib.hid (MB.out.below hb)
      replace AB := Lib.hid (AB.out.below hb)
      replace WB := Lib.hid (WB.out.below hb)
      replace A1 := Lib.hid (A1.out.below hb)
      replace G := Lib.hid (G.out.trans (hb.mono G.out.size))
      clear hb
      clear x0a x0b
      have LL : Hid ((pLeft p.list v).length ≤ 1000000) := Lib.hid (by have := pLeft_len p.list v; have := FL3.out; omega)
      obtain ⟨x0a, x0b⟩ := PB.out.c
      have K := Lib.hid (rleft_any PB.out.l SV.out FL3.out)
      go_wp2_with fail
      refine (K.out).mono ?_
      rintro e u22 ⟨lv, rfl, ho, hb⟩
      have A2 := Lib.hid ho.seq
      obtain ⟨l2a, l2c, rfl, -, -, -, -⟩ := ho.parts
      clear ho K
      replace PB := Lib.hid (PB.out.below hb)
      replace TB := Lib.hid (TB.out.below hb)
      replace SV := Lib.hid (SV.out.below hb)
      replace MB := Lib.hid (MB.out.below hb)
      replace AB := Lib.hid (AB.out.below hb)
      replace WB := Lib.hid (WB.out.below hb)
      replace A1 := Lib.hid (A1.out.below hb)
      replace G := Lib.hid (G.out.trans (hb.mono G.out.size))
      clear hb
      clear x0a x0b
      have K := Lib.hid (sameAllR A1.out A2.out LL.out true (decide_eq_true rfl))
      go_wp2_with fail
      refine (K.out).mono ?_
      rintro e u23 ⟨rfl, hb⟩
      clear K
      replace PB := Lib.hid (PB.out.below hb)
      replace TB := Lib.hid (TB.out.below hb)
      replace SV := Lib.hid (SV.out.below hb)
      replace MB := Lib.hid (MB.out.below hb)
      replace AB := Lib.hid (AB.out.below hb)
      replace WB := Lib.hid (WB.out.below hb)
      replace A1 := Lib.hid (A1.out.below hb)
      replace G := Lib.hid (G.out.trans (hb.mono G.out.size))
      clear hb
      obtain ⟨x0a, x0b⟩ := MB.out.c
      obtain ⟨x1a, x1b⟩ := PB.out.c
      have K := Lib.hid (paSameR MB.out.is PB.out.is FL3.out true (decide_eq_true rfl))
      go_wp2_with fail
      refine (K.out).mono ?_
      rintro e u24 ⟨rfl, hb⟩
      clear K
      replace PB := Lib.hid (PB.out.below hb)
      replace TB := Lib.hid (TB.out.below hb)
      replace SV := Lib.hid (SV.out.below hb)
      replace MB := Lib.hid (MB.out.below hb)
      replace AB := Lib.hid (AB.out.below hb)
      replace WB := Lib.hid (WB.out.below hb)
      replace A1 := Lib.hid (A1.out.below hb)
      replace G := Lib.hid (G.out.trans (hb.mono G.out.size))
      clear hb
      clear x0a x0b x1a x1b
      go_wp2_with fail
      go_ret
      first | exact ⟨rfl, G.out⟩ | exact ⟨rfl, hg0 ▸ G.out⟩

set_option maxRecDepth 100000 in
theorem lifted (os : Os) (started : os.Started) (H : Type) (enc : TypeId × Value → H) :
    ReturnsInHanded {} Tryz.checked os 3 .any (Rows.pastAllSpec.pre6 enc Tryz.prog Tryz.f3 Rows.pastAllRow.domain false) (Rows.pastAllSpec.post enc Tryz.prog Tryz.f3 false true false false) := by
  refine returnsInHanded_of_change (C := Tryz.checked) own started (by kernel_rfl) Tryz.func3
    (ChangeSpec.witness6 (enc := enc) (C := Tryz.checked) false ⟨#[], #[.agg #[.slice none 0 0, .slice none 0 0], .agg #[.int .i64 0, .int .i64 0, .slice none 0 0, .slice none 0 0], .slice none 0 0], []⟩ 8 (by kernel_rfl) (by kernel_rfl) (by kernel_rfl) (by kernel_rfl)) ?_
  intro W base args ds gs before hval0 hW hcnd _
  have hval : ∀ (j : Nat) t v, Tryz.f3.params[j]? = some t → args[j]? = some v → Value.okWide Tryz.prog W .any base t v := hval0
  have hW' := hW
  obtain ⟨p, q, hA0, hV, rfl, hfz, hnd⟩ := hW
  have hA : DataW.TrodAll enc Tryz.prog W 0 (fun _ => true) true Tryz.f3.params.toList args.toList ds p := hA0
  rw [Tryz.params3] at hA hval
  obtain ⟨v0, vs0, d0, ds0, p0, q0, hargs, rfl, rfl, h0, r0⟩ := trodAll_cons hA
  obtain ⟨v1, vs1, d1, ds1, p1, q1, rfl, rfl, rfl, h1, r1⟩ := trodAll_cons r0
  obtain ⟨v2, vs2, d2, ds2, p2, q2, rfl, rfl, rfl, h2, r2⟩ := trodAll_cons r1
  obtain ⟨rfl, rfl, rfl⟩ := trodAll_nil r2
  obtain rfl : args = #[v0, v1, v2] := by cases args; simp_all
  obtain ⟨rfl, rfl⟩ := trodVars_none hV
  have k0 := h0
  have lt0 : ∀ x ∈ p0, x.block < W.heap.size := by obtain ⟨m, hm⟩ := k0; exact DataW.trod_lt m _ _ _ hm
  have w0 := open0 (hval 0 26 v0 rfl rfl) h0
  have k1 := h1
  have lt1 : ∀ x ∈ p1, x.block < W.heap.size := by obtain ⟨m, hm⟩ := k1; exact DataW.trod_lt m _ _ _ hm
  have w1 := open1 (hval 1 29 v1 rfl rfl) h1
  obtain ⟨a2, len2, cap2, rfl⟩ := okWide_slice Tryz.underlying23 (hval 2 23 v2 rfl rfl)
  have k2 := h2
  have lt2 : ∀ x ∈ p2, x.block < W.heap.size := by obtain ⟨m, hm⟩ := k2; exact DataW.trod_lt m _ _ _ hm
  obtain ⟨z2, w2⟩ : ∃ zs, IsRow .i64 W a2 len2 cap2 zs := by
    obtain ⟨fuel, hf⟩ := h2
    rcases open_ints Tryz.underlying23 Tryz.underlying3 (by kernel_rfl) hf with ⟨hcs, _⟩ | ⟨x, l, c, zs, hcs, _, hl, hm, hz, _, hcell, hwz⟩
    · simp [Value.cells] at hcs
      obtain ⟨rfl, rfl, rfl⟩ := hcs
      exact ⟨[], .inl ⟨rfl, rfl, rfl, rfl⟩⟩
    · simp [Value.cells] at hcs
      obtain ⟨rfl, rfl, rfl⟩ := hcs
      exact ⟨zs, .inr ⟨_, rfl, hl, hm, by simpa using hz, hcell, hwz⟩⟩
  clear hA0 hval0
  refine (walk v0 v1 a2 len2 cap2 z2 W w0 w1 w2).mono fun e W' ⟨he, bel⟩ => ?_
  subst he
  exact ⟨_, rfl, _, _, _, [], _, [], hW', trodAll_mk1 (shut_bool Tryz.underlying4 _), (trodAll_cons_mk (Below.trod laidOut (by kernel_rfl) (of_decide_eq_true (by kernel_rfl)) k0 bel lt0) (trodAll_cons_mk (Below.trod laidOut (by kernel_rfl) (of_decide_eq_true (by kernel_rfl)) k1 bel lt1) (trodAll_cons_mk (Below.trod laidOut (by kernel_rfl) (of_decide_eq_true (by kernel_rfl)) k2 bel lt2) trodAll_mk0))), rfl, bel.frame _, fun h => by cases h⟩

theorem over : Rows.pastAllRow.holds Tryz.pinned (OpenSpec.ofChange Rows.pastAllSpec) :=
  OpenClaim.holds_of_wide 3 Tryz.f3 rfl rfl rfl rfl rfl rfl rfl ⟨rfl, rfl, rfl, rfl, rfl⟩ rfl rfl rfl rfl rfl (by kernel_rfl) Tryz.func3 (by kernel_rfl)
    (of_decide_eq_true (by kernel_rfl)) (by unfold Func.isWrapper; first | (rw [if_pos (by decide +kernel)]; kernel_rfl) | (rw [if_neg (by decide +kernel)]; exact ⟨rfl, rfl⟩))
    (fun os started H enc _ => lifted os started H enc)

/-- the given statement -/
theorem proved : Rows.PastAllSaid := over
#print axioms proved
end Go.Proofs.YtajfliemmfdnhaaGreat.pastAll
