/-
  For any store, any transactions, any one and any texts the law StoreAll answers true: Do, All, Sound and Under answer what the document says, and what they were given stays as it was. No condition.
  (The frame was written by the guide's proof-skeleton.mjs, turned for stores and slices of transactions; the walk is ours.)
-/
import Derived.Test.YtpnpomocjkmncaaGreatRows
import Derived.WalkKit
import Derived.ProofKit
import Derived.OpenShut
import Derived.ShutString
import Derived.ChangeOld
import Derived.Below
import Derived.Test.YtpnpomocjkmncaaGreatStSz
import Derived.Deep.DeepCutAuto
import Derived.Deep.RegionHeld3
import Derived.Test.YtpnpomocjkmncaaGreatRefZs
import Derived.Test.YtpnpomocjkmncaaGreatStRSn
import Derived.Test.YtpnpomocjkmncaaGreatStRAl
import Derived.Test.YtpnpomocjkmncaaGreatStDoP
import Derived.Test.YtpnpomocjkmncaaGreatStDoR
namespace Go.Proofs.YtpnpomocjkmncaaGreat.storeAll
open Go.ChangeShapes Go.WideShapes Go.ChangeAt Go.RowKit
open Go.ChangeMaps (open_string shut_string)
set_option linter.unusedVariables false

theorem own : ownKnob Tryz.prog.godebug = none := by kernel_rfl
theorem laidOut : laidOutB Tryz.prog = true := by kernel_rfl

open Plain

set_option maxRecDepth 100000 in
theorem open0 {H : Type} {enc : TypeId × Value → H} {W : World} {r : Reach} {b : Nat} {v : Value} {d : DataW H} {p : List MemPlace} (hv : Value.okWide Tryz.prog W r b 26 v) (h : DataW.Trod enc Tryz.prog W 0 (fun _ => true) true 26 v d p) : IsStoreA W v := store_of_trod hv h
set_option maxRecDepth 100000 in
theorem open1 {H : Type} {enc : TypeId × Value → H} {W : World} {r : Reach} {b : Nat} {v : Value} {d : DataW H} {p : List MemPlace} (hv : Value.okWide Tryz.prog W r b 27 v) (h : DataW.Trod enc Tryz.prog W 0 (fun _ => true) true 27 v d p) : IsTxns W v := txns_of_trod hv h
set_option maxRecDepth 100000 in
theorem open2 {H : Type} {enc : TypeId × Value → H} {W : World} {r : Reach} {b : Nat} {v : Value} {d : DataW H} {p : List MemPlace} (hv : Value.okWide Tryz.prog W r b 30 v) (h : DataW.Trod enc Tryz.prog W 0 (fun _ => true) true 30 v d p) : IsTxnA W v := txn_of_trod hv h
set_option maxRecDepth 100000 in
theorem open3 {H : Type} {enc : TypeId × Value → H} {W : World} {r : Reach} {b : Nat} {v : Value} {d : DataW H} {p : List MemPlace} (hv : Value.okWide Tryz.prog W r b 31 v) (h : DataW.Trod enc Tryz.prog W 0 (fun _ => true) true 31 v d p) : IsTexts W v := texts_of_trod hv h

/-- a block of no cells holds no row -/
theorem Sq.noNone {α : Type} {L : El α} (hf : Flat L) {P : Nat → Prop} {w : World} {g : Nat} {ty : TypeId} {v : Value} {xs : List α} (hg : w.heap[g]? = some (.cells #[] ty (0, 0))) (h : Sq L P w v xs) : Sq L (fun b => P b ∧ b ≠ g) w v xs := by
  obtain ⟨a, cap, vals, e, h1, h3, h0, hr, h4⟩ := h
  refine ⟨a, cap, vals, e, h1, h3, h0, ⟨hr.1, fun j x hj => hf (hr.2 j x hj)⟩, fun hp => ?_⟩
  obtain ⟨b, off, ea, hb, hc⟩ := h4 hp
  refine ⟨b, off, ea, ⟨hb, fun e => ?_⟩, hc⟩
  subst e
  have hl : 0 < vals.length := by
    rw [hr.1]
    exact Nat.mul_pos hp L.pos
  have h7 := hc 0 _ (List.getElem?_eq_getElem hl)
  have h8 := cell_of_row _ _ (off + 0) _ _ _ hg
  rw [h7] at h8
  simp at h8

set_option maxRecDepth 100000 in
set_option maxHeartbeats 64000000 in
theorem walk (v0 : Value) (v1 : Value) (v2 : Value) (v3 : Value) (w : World) (w0 : IsStoreA w v0) (w1 : IsTxns w v1) (w2 : IsTxnA w v2) (w3 : IsTexts w v3) :
    Calls Tryz.prog 3 #[v0, v1, v2, v3] w fun e w' => e = .returned (.bool true) ∧ Below w.heap.size w w' := by
  obtain ⟨s, hs, hok⟩ := w0
  obtain ⟨ha, hn, hc, ia, im, ic, hv0, h1, h2⟩ := hs.slices
  subst hv0
  obtain ⟨l, sl, okl⟩ := w1
  obtain ⟨a1, c1, hv1, L1, L2, -, -⟩ := sl.parts
  subst hv1
  obtain ⟨t, ht, hokt⟩ := w2
  obtain ⟨da, dn, dc, ea, en, ec, hvt, hd, he⟩ := ht.parts
  subst hvt
  obtain ⟨zs, sz0⟩ := w3
  obtain ⟨za, zc, hvz, -, -, -, kz⟩ := sz0.parts
  subst hvz
  obtain ⟨zn, hzn⟩ : ∃ q, zs.length = q := ⟨_, rfl⟩
  rw [hzn] at kz ⊢
  have OKS := Lib.hid hok
  have OKL := Lib.hid okl
  have OKT := Lib.hid hokt
  obtain ⟨n, hnn⟩ : ∃ n, n = l.length := ⟨_, rfl⟩
  have HN := Lib.hid hnn
  rw [← hnn] at sl L1 ⊢
  have hb1 := (Below.refl w.heap.size w).alloc (Nat.le_refl _) (.cells #[.slice ha hn hc, .slice ia im ic] 26)
  have hb := hb1.alloc hb1.size (.cells #[.int .i64 t.node, .int .i64 t.seq, .slice da dn dc, .slice ea en ec] 30)
  have SB := Lib.hid ((stbox_new (s := s) h1 h2).below ((Below.refl (w.alloc (.cells #[.slice ha hn hc, .slice ia im ic] 26)).heap.size (w.alloc (.cells #[.slice ha hn hc, .slice ia im ic] 26))).alloc (Nat.le_refl _) (.cells #[.int .i64 t.node, .int .i64 t.seq, .slice da dn dc, .slice ea en ec] 30)))
  have TB := Lib.hid (txbox_new (hd.below hb1) (he.below hb1))
  have SL := Lib.hid (sl.below hb)
  have SZ := Lib.hid (kz.below hb)
  have G := Lib.hid hb
  have e1 : (w.alloc (.cells #[.slice ha hn hc, .slice ia im ic] 26)).heap.size = w.heap.size + 1 := by simp
  rw [e1] at TB
  clear hs hok hb hb1 h1 h2 sl okl hnn sz0 kz hd he ht hokt hzn e1
  go_enter Tryz.func3, Tryz.ntmps3
  go_upto_region 1 with fail
  generalize ((w.alloc (.cells #[.slice ha hn hc, .slice ia im ic] 26)).alloc (.cells #[.int .i64 t.node, .int .i64 t.seq, .slice da dn dc, .slice ea en ec] 30)) = wB at *
  generalize hg1 : w.heap.size + 1 = g1 at TB ⊢
  generalize hg0 : w.heap.size = g0 at SB ⊢
  go_wp2_with fail
  refine (stawake_any _).mono ?_
  rintro e u3 ⟨rfl, hb⟩
  replace SB := Lib.hid (SB.out.below hb)
  replace SL := Lib.hid (SL.out.below hb)
  replace SZ := Lib.hid (SZ.out.below hb)
  replace TB := Lib.hid (TB.out.below hb)
  replace G := Lib.hid (G.out.trans (hb.mono G.out.size))
  clear hb
  obtain ⟨sa, hsa⟩ : ∃ b, b = stShort s := ⟨_, rfl⟩
  have Hsa := Lib.hid hsa
  clear hsa
  obtain ⟨x0a, x0b⟩ := SB.out.c
  have K := Lib.hid (stShortR SB.out.is sa Hsa.out.symm)
  cases sa
  · go_wp2_with fail
    refine (K.out).mono ?_
    rintro e u4 ⟨rfl, hb⟩
    clear K
    replace SB := Lib.hid (SB.out.below hb)
    replace SL := Lib.hid (SL.out.below hb)
    replace SZ := Lib.hid (SZ.out.below hb)
    replace TB := Lib.hid (TB.out.below hb)
    replace G := Lib.hid (G.out.trans (hb.mono G.out.size))
    clear hb
    clear x0a x0b
    go_wp2_with fail
    go_ret
    exact ⟨rfl, G.out⟩
  go_wp2_with fail
  refine (K.out).mono ?_
  rintro e u4 ⟨rfl, hb⟩
  clear K
  replace SB := Lib.hid (SB.out.below hb)
  replace SL := Lib.hid (SL.out.below hb)
  replace SZ := Lib.hid (SZ.out.below hb)
  replace TB := Lib.hid (TB.out.below hb)
  replace G := Lib.hid (G.out.trans (hb.mono G.out.size))
  clear hb
  clear x0a x0b
  obtain ⟨sb, hsb⟩ : ∃ b, b = shortTx l := ⟨_, rfl⟩
  have Hsb := Lib.hid hsb
  clear hsb
  have K := Lib.hid (rshortTx_any SL.out sb Hsb.out.symm)
  cases sb
  · go_wp2_with fail
    refine (K.out).mono ?_
    rintro e u5 ⟨rfl, hb⟩
    clear K
    replace SB := Lib.hid (SB.out.below hb)
    replace SL := Lib.hid (SL.out.below hb)
    replace SZ := Lib.hid (SZ.out.below hb)
    replace TB := Lib.hid (TB.out.below hb)
    replace G := Lib.hid (G.out.trans (hb.mono G.out.size))
    clear hb
    go_wp2_with fail
    go_ret
    exact ⟨rfl, G.out⟩
  go_wp2_with fail
  refine (K.out).mono ?_
  rintro e u5 ⟨rfl, hb⟩
  clear K
  replace SB := Lib.hid (SB.out.below hb)
  replace SL := Lib.hid (SL.out.below hb)
  replace SZ := Lib.hid (SZ.out.below hb)
  replace TB := Lib.hid (TB.out.below hb)
  replace G := Lib.hid (G.out.trans (hb.mono G.out.size))
  clear hb
  obtain ⟨st, hst⟩ : ∃ b, b = shortTx [t] := ⟨_, rfl⟩
  have Hst := Lib.hid hst
  clear hst
  have K := Lib.hid (rshortTx_any (one_txn TB.out.d TB.out.e) st Hst.out.symm)
  obtain ⟨y0, y1, y2, y3⟩ := TB.out.c
  cases st
  · go_wp2_with fail
    refine (K.out).mono ?_
    rintro e u6 ⟨rfl, hb⟩
    clear K
    replace hb := ((Below.refl u5.heap.size u5).alloc (Nat.le_refl _) (.cells #[.int .i64 t.node, .int .i64 t.seq, .slice da dn dc, .slice ea en ec] 30)).trans (hb.mono (by simp))
    replace SB := Lib.hid (SB.out.below hb)
    replace SL := Lib.hid (SL.out.below hb)
    replace SZ := Lib.hid (SZ.out.below hb)
    replace TB := Lib.hid (TB.out.below hb)
    replace G := Lib.hid (G.out.trans (hb.mono G.out.size))
    clear hb
    clear y0 y1 y2 y3
    go_wp2_with fail
    go_ret
    exact ⟨rfl, G.out⟩
  go_wp2_with fail
  refine (K.out).mono ?_
  rintro e u6 ⟨rfl, hb⟩
  clear K
  replace hb := ((Below.refl u5.heap.size u5).alloc (Nat.le_refl _) (.cells #[.int .i64 t.node, .int .i64 t.seq, .slice da dn dc, .slice ea en ec] 30)).trans (hb.mono (by simp))
  replace SB := Lib.hid (SB.out.below hb)
  replace SL := Lib.hid (SL.out.below hb)
  replace SZ := Lib.hid (SZ.out.below hb)
  replace TB := Lib.hid (TB.out.below hb)
  replace G := Lib.hid (G.out.trans (hb.mono G.out.size))
  clear hb
  clear y0 y1 y2 y3
  obtain ⟨sz, hsz⟩ : ∃ b, b = shortB zs := ⟨_, rfl⟩
  have Hsz := Lib.hid hsz
  clear hsz
  have K := Lib.hid (rshortS SZ.out sz Hsz.out.symm)
  cases sz
  · go_wp2_with fail
    refine (K.out).mono ?_
    rintro e u7 ⟨rfl, hb⟩
    clear K
    replace SB := Lib.hid (SB.out.below hb)
    replace SL := Lib.hid (SL.out.below hb)
    replace SZ := Lib.hid (SZ.out.below hb)
    replace TB := Lib.hid (TB.out.below hb)
    replace G := Lib.hid (G.out.trans (hb.mono G.out.size))
    clear hb
    go_wp2_with fail
    go_ret
    exact ⟨rfl, G.out⟩
  go_wp2_with fail
  refine (K.out).mono ?_
  rintro e u7 ⟨rfl, hb⟩
  clear K
  replace SB := Lib.hid (SB.out.below hb)
  replace SL := Lib.hid (SL.out.below hb)
  replace SZ := Lib.hid (SZ.out.below hb)
  replace TB := Lib.hid (TB.out.below hb)
  replace G := Lib.hid (G.out.trans (hb.mono G.out.size))
  clear hb
  have FS := Lib.hid (stfit_of Hsa.out.symm OKS.out)
  have FL := Lib.hid (fitB_of Hsb.out.symm OKL.out)
  have FT0 := Lib.hid (fitB_of Hst.out.symm (fun x hx => by rw [List.mem_singleton.1 hx]; exact OKT.out))
  have FT := Lib.hid (FT0.out.2.1 t (List.mem_singleton.2 rfl))
  have FTX := Lib.hid (FT0.out.2.2 t (List.mem_singleton.2 rfl))
  have FS1 : Hid (StFit s 1000) := Lib.hid ⟨FS.out.1.heard, by have := FS.out.1.items; omega, FS.out.1.dots⟩
  have HLN : Hid (n ≤ 24) := Lib.hid (by rw [HN.out]; exact FL.out.1)
  have FZ := Lib.hid (short_iff.1 Hsz.out.symm)
  have HTL := Lib.hid (sTake_len s.heard l)
  clear FT0 OKS OKL OKT
  have KE : Hid (∀ v, Below u7.heap.size u7 v → Below u7.heap.size u7 v ∧ v.cell? ⟨g0, 0, none⟩ = some (.slice ha hn hc) ∧ v.cell? ⟨g0, 1, none⟩ = some (.slice ia im ic)) := Lib.hid (fun v hb => ⟨hb, (SB.out.below hb).c⟩)
  have KH := Lib.hid (fun v (hb : Below u7.heap.size u7 v) => (SB.out.below hb).h)
  have KC := Lib.hid (fun v (hb : Below u7.heap.size u7 v) => rcopyI_any (SB.out.below hb).i (by have := FS1.out.items; omega))
  go_upto_region 5 with fail
  go_cut [9] (fun s9 wx => ∃ (nb : Nat) (qa : Option Addr) (qn qc : Nat) (pa : Option Addr) (pn pc : Nat), s9 = .pointer (some ⟨nb, 0, none⟩) ∧ StBox nb s qa qn qc pa pn pc wx ∧ Below u7.heap.size u7 wx)
  case first =>
    refine wp_region_held_drew (S := fun u' => Below u7.heap.size u7 u' ∧ u'.cell? ⟨g0, 0, none⟩ = some (.slice ha hn hc) ∧ u'.cell? ⟨g0, 1, none⟩ = some (.slice ia im ic)) (by kernel_rfl) ?_ (fun hHeld => ?_)
    · (exact KE.out _ (Below.refl _ _).drew)
    simp only [List.size_toArray, List.length_cons, List.length_nil, Nat.zero_add, Nat.reduceAdd]
    refine tkB (i := 1) hHeld ?_
    refine tkB (i := 2) hHeld ?_
    refine tkB (i := 4) hHeld ?_
    refine tkB (i := 5) hHeld ?_
    refine wpAnyH_ready (rs := [0, 8]) (by kernel_rfl) (by simp) ?_
    refine AllReadyH.cons rfl (fun K hK => ?_) (AllReadyH.cons rfl (fun K hK => ?_) AllReadyH.nil)
    · go_simp
      have hb : Below u7.drew.heap.size u7.drew ((u7.alloc (.cells #[] 3)).drew) := (Below.refl u7.drew.heap.size u7.drew).alloc (Nat.le_refl _) (.cells #[] 3)
      have OV : Hid (OwnE LInt u7.heap.size ((u7.alloc (.cells #[] 3)).drew) (.slice (some ⟨u7.heap.size, 0, none⟩) 0 0) []) := Lib.hid (OwnE.empty (L := LInt) u7.drew u7.heap.size hHeld.1.size)
      have EB : Hid (((u7.alloc (.cells #[] 3)).drew).heap[u7.heap.size]? = some (.cells #[] 3 (0, 0))) := Lib.hid (heap_alloc_new u7.drew _)
      refine hK.out _ _ (KE.out _ (holdC hHeld hb)) (fun hHeld => ?_)
      clear hK K hb
      generalize ((u7.alloc (.cells #[] 3)).drew) = s1 at *
      refine wpAnyH_ready (rs := [3, 8]) (by kernel_rfl) (by simp) ?_
      refine AllReadyH.cons rfl (fun K hK => ?_) (AllReadyH.cons rfl (fun K hK => ?_) AllReadyH.nil)
      · refine step_append_elG LInt (by rfl) (.tmp 39) (.tmp 41) rfl u7.heap.size rfl OV.out rfl (KH.out _ hHeld.1) (fun _ _ h => h) (by have := FS1.out.heard; simp; omega) (hHeld.1.size) ?_
        intro v5 s2 ho5 hg5
        have OL := Lib.hid OV.out.lt
        have G5 : Hid (Below u7.heap.size u7 s2) := Lib.hid (hHeld.1.grown hg5 hHeld.1.size fun b hb => (OL.out b hb).1)
        have KB : Hid (∀ b, b < s1.heap.size → b ≠ u7.heap.size → s2.heap[b]? = s1.heap[b]?) := Lib.hid (fun b hb hne => hg5.block b hb fun e => hne (by cases e; rfl))
        have KZ := Lib.hid hg5.size
        obtain ⟨qa, qc, rfl, -, -, -, -⟩ := ho5.seq.parts
        have N1 : Hid (Sq LInt (fun b => u7.heap.size ≤ b ∧ b < s2.heap.size) s2 (.slice qa s.heard.length qc) s.heard) := Lib.hid (ho5.new flat_int)
        refine hK.out _ _ (KE.out _ G5.out) (fun hHeld => ?_)
        clear hK K ho5 hg5 OL G5 KB KZ OV EB
        refine wpAnyH_ready (rs := [6, 8]) (by kernel_rfl) (by simp) ?_
        refine AllReadyH.cons rfl (fun K hK => ?_) (AllReadyH.cons rfl (fun K hK => ?_) AllReadyH.nil)
        · go_simp
          have ZH := Lib.hid hHeld.1.size
          refine (KC.out _ hHeld.1).mono ?_
          rintro e s3 ⟨v6, rfl, ho, hb⟩
          obtain ⟨pa, pc, rfl, -, -, -, -⟩ := ho.seq.parts
          replace N1 := Lib.hid (N1.out.later hb)
          have I1 : Hid (Sq LItem (fun b => u7.heap.size ≤ b ∧ b < s3.heap.size) s3 (.slice pa s.items.length pc) s.items) := Lib.hid ((ho.new flat_item).mono fun b h => ⟨Nat.le_trans ZH.out h.1, h.2⟩)
          refine hK.out _ _ (KE.out _ (holdC hHeld hb)) (fun hHeld => ?_)
          clear hK K hb ho ZH
          refine tkB (i := 7) hHeld ?_
          refine wpAnyH_ready (rs := [8]) (by kernel_rfl) (by simp) ?_
          refine AllReadyH.cons rfl (fun K hK => ?_) AllReadyH.nil
          go_simp
          have hb : Below s3.heap.size s3 (s3.alloc (.cells #[.slice none 0 0, .slice none 0 0] 26)) := (Below.refl s3.heap.size s3).alloc (Nat.le_refl _) (.cells #[.slice none 0 0, .slice none 0 0] 26)
          replace N1 := Lib.hid (N1.out.later hb)
          replace I1 := Lib.hid (I1.out.later hb)
          have DQ : Hid ((s3.alloc (.cells #[.slice none 0 0, .slice none 0 0] 26)).heap[s3.heap.size]? = some (.cells #[.slice none 0 0, .slice none 0 0] 26 (0, 0))) := Lib.hid (heap_alloc_new s3 _)
          have DW : Hid (u7.heap.size ≤ s3.heap.size) := Lib.hid hHeld.1.size
          refine hK.out _ _ (KE.out _ (holdC hHeld hb)) (fun hHeld => ?_)
          clear hK K hb
          generalize hD : s3.heap.size = gd at *
          generalize (s3.alloc (.cells #[.slice none 0 0, .slice none 0 0] 26)) = s4 at *
          obtain ⟨⟨t0, t1⟩, f0, f1⟩ := st2_cells DQ.out
          have DS := Lib.hid (stbox_set (s := s) ⟨_, _, _, _, _, _, _, DQ.out⟩ (N1.out.mono fun b h => h.2) (I1.out.mono fun b h => h.2) ⟨_, _, DQ.out⟩)
          have DB := Lib.hid hHeld.1
          refine wpAnyH_ready (rs := [9]) (by kernel_rfl) (by simp) ?_
          refine AllReadyH.cons rfl (fun K hK => ?_) AllReadyH.nil
          go_simp
          refine hK.out _ _ (KE.out _ ((DB.out.setCell DW.out _).setCell DW.out _)) (fun hHeld => ?_)
          clear hK K t0 t1 f0 f1
          refine wpAnyH_done (by kernel_rfl) ?_ _
          have GZ := Lib.hid hHeld.1
          clear hHeld
          go_wp2_with fail
          go_meet
          exact ⟨gd, _, _, _, _, _, _, rfl, DS.out, GZ.out⟩
        · go_simp
          have hb : Below s2.heap.size s2 (s2.alloc (.cells #[.slice none 0 0, .slice none 0 0] 26)) := (Below.refl s2.heap.size s2).alloc (Nat.le_refl _) (.cells #[.slice none 0 0, .slice none 0 0] 26)
          replace N1 := Lib.hid (N1.out.later hb)
          have DQ : Hid ((s2.alloc (.cells #[.slice none 0 0, .slice none 0 0] 26)).heap[s2.heap.size]? = some (.cells #[.slice none 0 0, .slice none 0 0] 26 (0, 0))) := Lib.hid (heap_alloc_new s2 _)
          have DW : Hid (u7.heap.size ≤ s2.heap.size) := Lib.hid hHeld.1.size
          refine hK.out _ _ (KE.out _ (holdC hHeld hb)) (fun hHeld => ?_)
          clear hK K hb
          generalize hD : s2.heap.size = gd at *
          generalize (s2.alloc (.cells #[.slice none 0 0, .slice none 0 0] 26)) = s5 at *
          refine wpAnyH_ready (rs := [6]) (by kernel_rfl) (by simp) ?_
          refine AllReadyH.cons rfl (fun K hK => ?_) AllReadyH.nil
          go_simp
          have ZH := Lib.hid hHeld.1.size
          refine (KC.out _ hHeld.1).mono ?_
          rintro e s6 ⟨v6, rfl, ho, hb⟩
          obtain ⟨pa, pc, rfl, -, -, -, -⟩ := ho.seq.parts
          replace N1 := Lib.hid (N1.out.later hb)
          replace DQ := Lib.hid ((hb.block _ (Array.getElem?_eq_some_iff.1 DQ.out).1).trans DQ.out)
          have I1 : Hid (Sq LItem (fun b => u7.heap.size ≤ b ∧ b < s6.heap.size) s6 (.slice pa s.items.length pc) s.items) := Lib.hid ((ho.new flat_item).mono fun b h => ⟨Nat.le_trans ZH.out h.1, h.2⟩)
          refine hK.out _ _ (KE.out _ (holdC hHeld hb)) (fun hHeld => ?_)
          clear hK K hb ho ZH
          refine tkB (i := 7) hHeld ?_
          obtain ⟨⟨t0, t1⟩, f0, f1⟩ := st2_cells DQ.out
          have DS := Lib.hid (stbox_set (s := s) ⟨_, _, _, _, _, _, _, DQ.out⟩ (N1.out.mono fun b h => h.2) (I1.out.mono fun b h => h.2) ⟨_, _, DQ.out⟩)
          have DB := Lib.hid hHeld.1
          refine wpAnyH_ready (rs := [9]) (by kernel_rfl) (by simp) ?_
          refine AllReadyH.cons rfl (fun K hK => ?_) AllReadyH.nil
          go_simp
          refine hK.out _ _ (KE.out _ ((DB.out.setCell DW.out _).setCell DW.out _)) (fun hHeld => ?_)
          clear hK K t0 t1 f0 f1
          refine wpAnyH_done (by kernel_rfl) ?_ _
          have GZ := Lib.hid hHeld.1
          clear hHeld
          go_wp2_with fail
          go_meet
          exact ⟨gd, _, _, _, _, _, _, rfl, DS.out, GZ.out⟩
      · go_simp
        have hb : Below s1.heap.size s1 (s1.alloc (.cells #[.slice none 0 0, .slice none 0 0] 26)) := (Below.refl s1.heap.size s1).alloc (Nat.le_refl _) (.cells #[.slice none 0 0, .slice none 0 0] 26)
        replace OV := Lib.hid (OV.out.below hb (Nat.le_refl _))
        replace EB := Lib.hid ((hb.block _ (Array.getElem?_eq_some_iff.1 EB.out).1).trans EB.out)
        have DQ : Hid ((s1.alloc (.cells #[.slice none 0 0, .slice none 0 0] 26)).heap[s1.heap.size]? = some (.cells #[.slice none 0 0, .slice none 0 0] 26 (0, 0))) := Lib.hid (heap_alloc_new s1 _)
        have DW : Hid (u7.heap.size ≤ s1.heap.size) := Lib.hid hHeld.1.size
        refine hK.out _ _ (KE.out _ (holdC hHeld hb)) (fun hHeld => ?_)
        clear hK K hb
        generalize hD : s1.heap.size = gd at *
        generalize (s1.alloc (.cells #[.slice none 0 0, .slice none 0 0] 26)) = s7 at *
        refine wpAnyH_ready (rs := [3]) (by kernel_rfl) (by simp) ?_
        refine AllReadyH.cons rfl (fun K hK => ?_) AllReadyH.nil
        refine step_append_elG LInt (by rfl) (.tmp 39) (.tmp 41) rfl u7.heap.size rfl OV.out rfl (KH.out _ hHeld.1) (fun _ _ h => h) (by have := FS1.out.heard; simp; omega) (hHeld.1.size) ?_
        intro v5 s8 ho5 hg5
        have OL := Lib.hid OV.out.lt
        have G5 : Hid (Below u7.heap.size u7 s8) := Lib.hid (hHeld.1.grown hg5 hHeld.1.size fun b hb => (OL.out b hb).1)
        have KB : Hid (∀ b, b < s7.heap.size → b ≠ u7.heap.size → s8.heap[b]? = s7.heap[b]?) := Lib.hid (fun b hb hne => hg5.block b hb fun e => hne (by cases e; rfl))
        have KZ := Lib.hid hg5.size
        obtain ⟨qa, qc, rfl, -, -, -, -⟩ := ho5.seq.parts
        have N1 : Hid (Sq LInt (fun b => u7.heap.size ≤ b ∧ b < s8.heap.size) s8 (.slice qa s.heard.length qc) s.heard) := Lib.hid (ho5.new flat_int)
        have DN : Hid (gd ≠ u7.heap.size) := Lib.hid (fun e => by have h1 := DQ.out; rw [e, EB.out] at h1; simp at h1)
        replace DQ := Lib.hid ((KB.out _ (Array.getElem?_eq_some_iff.1 DQ.out).1 DN.out).trans DQ.out)
        clear DN
        refine hK.out _ _ (KE.out _ G5.out) (fun hHeld => ?_)
        clear hK K ho5 hg5 OL G5 KB KZ OV EB
        refine wpAnyH_ready (rs := [6]) (by kernel_rfl) (by simp) ?_
        refine AllReadyH.cons rfl (fun K hK => ?_) AllReadyH.nil
        go_simp
        have ZH := Lib.hid hHeld.1.size
        refine (KC.out _ hHeld.1).mono ?_
        rintro e s9 ⟨v6, rfl, ho, hb⟩
        obtain ⟨pa, pc, rfl, -, -, -, -⟩ := ho.seq.parts
        replace N1 := Lib.hid (N1.out.later hb)
        replace DQ := Lib.hid ((hb.block _ (Array.getElem?_eq_some_iff.1 DQ.out).1).trans DQ.out)
        have I1 : Hid (Sq LItem (fun b => u7.heap.size ≤ b ∧ b < s9.heap.size) s9 (.slice pa s.items.length pc) s.items) := Lib.hid ((ho.new flat_item).mono fun b h => ⟨Nat.le_trans ZH.out h.1, h.2⟩)
        refine hK.out _ _ (KE.out _ (holdC hHeld hb)) (fun hHeld => ?_)
        clear hK K hb ho ZH
        refine tkB (i := 7) hHeld ?_
        obtain ⟨⟨t0, t1⟩, f0, f1⟩ := st2_cells DQ.out
        have DS := Lib.hid (stbox_set (s := s) ⟨_, _, _, _, _, _, _, DQ.out⟩ (N1.out.mono fun b h => h.2) (I1.out.mono fun b h => h.2) ⟨_, _, DQ.out⟩)
        have DB := Lib.hid hHeld.1
        refine wpAnyH_ready (rs := [9]) (by kernel_rfl) (by simp) ?_
        refine AllReadyH.cons rfl (fun K hK => ?_) AllReadyH.nil
        go_simp
        refine hK.out _ _ (KE.out _ ((DB.out.setCell DW.out _).setCell DW.out _)) (fun hHeld => ?_)
        clear hK K t0 t1 f0 f1
        refine wpAnyH_done (by kernel_rfl) ?_ _
        have GZ := Lib.hid hHeld.1
        clear hHeld
        go_wp2_with fail
        go_meet
        exact ⟨gd, _, _, _, _, _, _, rfl, DS.out, GZ.out⟩
    · go_simp
      have hb : Below u7.drew.heap.size u7.drew ((u7.alloc (.cells #[.slice none 0 0, .slice none 0 0] 26)).drew) := (Below.refl u7.drew.heap.size u7.drew).alloc (Nat.le_refl _) (.cells #[.slice none 0 0, .slice none 0 0] 26)
      have DQ : Hid (((u7.alloc (.cells #[.slice none 0 0, .slice none 0 0] 26)).drew).heap[u7.heap.size]? = some (.cells #[.slice none 0 0, .slice none 0 0] 26 (0, 0))) := Lib.hid (heap_alloc_new u7.drew _)
      have DW : Hid (u7.heap.size ≤ u7.heap.size) := Lib.hid hHeld.1.size
      refine hK.out _ _ (KE.out _ (holdC hHeld hb)) (fun hHeld => ?_)
      clear hK K hb
      generalize ((u7.alloc (.cells #[.slice none 0 0, .slice none 0 0] 26)).drew) = s10 at *
      refine wpAnyH_ready (rs := [0]) (by kernel_rfl) (by simp) ?_
      refine AllReadyH.cons rfl (fun K hK => ?_) AllReadyH.nil
      go_simp
      have hb : Below s10.heap.size s10 (s10.alloc (.cells #[] 3)) := (Below.refl s10.heap.size s10).alloc (Nat.le_refl _) (.cells #[] 3)
      replace DQ := Lib.hid ((hb.block _ (Array.getElem?_eq_some_iff.1 DQ.out).1).trans DQ.out)
      have OV : Hid (OwnE LInt u7.heap.size (s10.alloc (.cells #[] 3)) (.slice (some ⟨s10.heap.size, 0, none⟩) 0 0) []) := Lib.hid (OwnE.empty (L := LInt) s10 u7.heap.size hHeld.1.size)
      have EB : Hid ((s10.alloc (.cells #[] 3)).heap[s10.heap.size]? = some (.cells #[] 3 (0, 0))) := Lib.hid (heap_alloc_new s10 _)
      refine hK.out _ _ (KE.out _ (holdC hHeld hb)) (fun hHeld => ?_)
      clear hK K hb
      generalize hE : s10.heap.size = ge at *
      generalize (s10.alloc (.cells #[] 3)) = s11 at *
      refine wpAnyH_ready (rs := [3]) (by kernel_rfl) (by simp) ?_
      refine AllReadyH.cons rfl (fun K hK => ?_) AllReadyH.nil
      refine step_append_elG LInt (by rfl) (.tmp 39) (.tmp 41) rfl u7.heap.size rfl OV.out rfl (KH.out _ hHeld.1) (fun _ _ h => h) (by have := FS1.out.heard; simp; omega) (hHeld.1.size) ?_
      intro v5 s12 ho5 hg5
      have OL := Lib.hid OV.out.lt
      have G5 : Hid (Below u7.heap.size u7 s12) := Lib.hid (hHeld.1.grown hg5 hHeld.1.size fun b hb => (OL.out b hb).1)
      have KB : Hid (∀ b, b < s11.heap.size → b ≠ ge → s12.heap[b]? = s11.heap[b]?) := Lib.hid (fun b hb hne => hg5.block b hb fun e => hne (by cases e; rfl))
      have KZ := Lib.hid hg5.size
      obtain ⟨qa, qc, rfl, -, -, -, -⟩ := ho5.seq.parts
      have N1 : Hid (Sq LInt (fun b => u7.heap.size ≤ b ∧ b < s12.heap.size) s12 (.slice qa s.heard.length qc) s.heard) := Lib.hid (ho5.new flat_int)
      have DN : Hid (u7.heap.size ≠ ge) := Lib.hid (fun e => by have h1 := DQ.out; rw [e, EB.out] at h1; simp at h1)
      replace DQ := Lib.hid ((KB.out _ (Array.getElem?_eq_some_iff.1 DQ.out).1 DN.out).trans DQ.out)
      clear DN
      refine hK.out _ _ (KE.out _ G5.out) (fun hHeld => ?_)
      clear hK K ho5 hg5 OL G5 KB KZ OV EB
      refine wpAnyH_ready (rs := [6]) (by kernel_rfl) (by simp) ?_
      refine AllReadyH.cons rfl (fun K hK => ?_) AllReadyH.nil
      go_simp
      have ZH := Lib.hid hHeld.1.size
      refine (KC.out _ hHeld.1).mono ?_
      rintro e s13 ⟨v6, rfl, ho, hb⟩
      obtain ⟨pa, pc, rfl, -, -, -, -⟩ := ho.seq.parts
      replace N1 := Lib.hid (N1.out.later hb)
      replace DQ := Lib.hid ((hb.block _ (Array.getElem?_eq_some_iff.1 DQ.out).1).trans DQ.out)
      have I1 : Hid (Sq LItem (fun b => u7.heap.size ≤ b ∧ b < s13.heap.size) s13 (.slice pa s.items.length pc) s.items) := Lib.hid ((ho.new flat_item).mono fun b h => ⟨Nat.le_trans ZH.out h.1, h.2⟩)
      refine hK.out _ _ (KE.out _ (holdC hHeld hb)) (fun hHeld => ?_)
      clear hK K hb ho ZH
      refine tkB (i := 7) hHeld ?_
      obtain ⟨⟨t0, t1⟩, f0, f1⟩ := st2_cells DQ.out
      have DS := Lib.hid (stbox_set (s := s) ⟨_, _, _, _, _, _, _, DQ.out⟩ (N1.out.mono fun b h => h.2) (I1.out.mono fun b h => h.2) ⟨_, _, DQ.out⟩)
      have DB := Lib.hid hHeld.1
      refine wpAnyH_ready (rs := [9]) (by kernel_rfl) (by simp) ?_
      refine AllReadyH.cons rfl (fun K hK => ?_) AllReadyH.nil
      go_simp
      refine hK.out _ _ (KE.out _ ((DB.out.setCell DW.out _).setCell DW.out _)) (fun hHeld => ?_)
      clear hK K t0 t1 f0 f1
      refine wpAnyH_done (by kernel_rfl) ?_ _
      have GZ := Lib.hid hHeld.1
      clear hHeld
      go_wp2_with fail
      go_meet
      exact ⟨u7.heap.size, _, _, _, _, _, _, rfl, DS.out, GZ.out⟩
  case rest =>
    obtain ⟨gm, qa, qn, qc, pa, pn, pc, rfl, hbx, hb⟩ := hcut
    replace SB := Lib.hid (SB.out.below hb)
    replace SL := Lib.hid (SL.out.below hb)
    replace SZ := Lib.hid (SZ.out.below hb)
    replace TB := Lib.hid (TB.out.below hb)
    replace G := Lib.hid (G.out.trans (hb.mono G.out.size))
    have MB := Lib.hid hbx
    clear hb hbx KE KH KC
    have K := Lib.hid (rcopyTx_any SL.out (by have := FL.out.1; omega) (fun t ht => ⟨by have := (FL.out.2.1 t ht).tx.deps; omega, by have := (FL.out.2.1 t ht).tx.effs; omega, fun e he => by have := (FL.out.2.1 t ht).tx.drops e he; omega⟩))
    go_wp2_with fail
    refine (K.out).mono ?_
    rintro e u18 ⟨mv, rfl, hc6, hb⟩
    have SM := Lib.hid hc6.own.seq
    clear hc6 K
    replace SB := Lib.hid (SB.out.below hb)
    replace SL := Lib.hid (SL.out.below hb)
    replace SZ := Lib.hid (SZ.out.below hb)
    replace TB := Lib.hid (TB.out.below hb)
    replace MB := Lib.hid (MB.out.below hb)
    replace G := Lib.hid (G.out.trans (hb.mono G.out.size))
    clear hb
    obtain ⟨ma, mc, rfl, -, -, -, -⟩ := SM.out.parts
    have HB := Lib.hid (Below.refl u18.heap.size u18)
    obtain ⟨x0a, x0b⟩ := MB.out.c
    obtain ⟨y0, y1, y2, y3⟩ := (TB.out.below HB.out).c
    have K := Lib.hid (stDoP_any (MB.out.is) (TB.out.below HB.out).is (by have := FS1.out.heard; omega) (by have := FS1.out.items; omega) FS1.out.dots FT.out)
    go_upto_region 8 with (go_at_call 14; refine K.out.mono ?_; rintro e u19 ⟨aha, ahn, ahc, aia, aim, aic, rfl, hh, hi, hb⟩; have AB := Lib.hid (stbox_new (s := doSt s t) (hh.mono fun _ h => h.2) (hi.mono fun _ h => h.2)); have ABZ : Hid (u18.heap.size ≤ u19.heap.size) := Lib.hid (HB.out.trans (hb.mono HB.out.size)).size; replace hb := hb.trans (((Below.refl u19.heap.size u19).alloc (Nat.le_refl _) (.cells #[.slice aha ahn ahc, .slice aia aim aic] 26)).mono hb.size); replace HB := Lib.hid (HB.out.trans (hb.mono HB.out.size)); clear hb hh hi K x0a x0b y0 y1 y2 y3)
    generalize (u19.alloc (.cells #[.slice aha ahn ahc, .slice aia aim aic] 26)) = u20 at *
    generalize u19.heap.size = ga at AB ABZ ⊢
    obtain ⟨x0a, x0b⟩ := (SB.out.below HB.out).c
    obtain ⟨y0, y1, y2, y3⟩ := (TB.out.below HB.out).c
    have K := Lib.hid (stDoR_any (SB.out.below HB.out).is (TB.out.below HB.out).is (by have := FS1.out.heard; omega) (by have := FS1.out.items; omega) FS1.out.dots FT.out (fun e he => by have := FTX.out e he; omega))
    go_upto_region 9 with (go_at_call 15; refine K.out.mono ?_; rintro e u21 ⟨bha, bhn, bhc, bia, bim, bic, rfl, hh, hi, hb⟩; have BB := Lib.hid (stbox_new (s := doSt s t) (hh.mono fun _ h => h.2) (hi.mono fun _ h => h.2)); have BBZ : Hid (u18.heap.size ≤ u21.heap.size) := Lib.hid (HB.out.trans (hb.mono HB.out.size)).size; have NAB : Hid (ga < u21.heap.size) := Lib.hid (Nat.lt_of_lt_of_le AB.out.lt hb.size); replace hb := hb.trans (((Below.refl u21.heap.size u21).alloc (Nat.le_refl _) (.cells #[.slice bha bhn bhc, .slice bia bim bic] 26)).mono hb.size); replace AB := Lib.hid (AB.out.below hb); replace HB := Lib.hid (HB.out.trans (hb.mono HB.out.size)); clear hb hh hi K x0a x0b y0 y1 y2 y3)
    generalize (u21.alloc (.cells #[.slice bha bhn bhc, .slice bia bim bic] 26)) = u22 at *
    generalize u21.heap.size = gb at BB BBZ NAB ⊢
    obtain ⟨sd, hsd⟩ : ∃ b, b = soundB s := ⟨_, rfl⟩
    have HSD := Lib.hid hsd
    clear hsd
    have KE : Hid (∀ v, Below u22.heap.size u22 v → Below u22.heap.size u22 v ∧ (v.cell? ⟨ga, 0, none⟩ = some (.slice aha ahn ahc) ∧ v.cell? ⟨ga, 1, none⟩ = some (.slice aia aim aic)) ∧ (v.cell? ⟨gb, 0, none⟩ = some (.slice bha bhn bhc) ∧ v.cell? ⟨gb, 1, none⟩ = some (.slice bia bim bic)) ∧ (v.cell? ⟨gm, 0, none⟩ = some (.slice qa qn qc) ∧ v.cell? ⟨gm, 1, none⟩ = some (.slice pa pn pc)) ∧ (v.cell? ⟨g0, 0, none⟩ = some (.slice ha hn hc) ∧ v.cell? ⟨g0, 1, none⟩ = some (.slice ia im ic))) := Lib.hid (fun v hb => ⟨hb, (AB.out.below hb).c, (BB.out.below hb).c, (MB.out.below (HB.out.trans (hb.mono HB.out.size))).c, (SB.out.below (HB.out.trans (hb.mono HB.out.size))).c⟩)
    have K1 := Lib.hid (fun v (hb : Below u22.heap.size u22 v) => stSameR (AB.out.below hb).is (BB.out.below hb).is true (decide_eq_true rfl))
    have K2 := Lib.hid (fun v (hb : Below u22.heap.size u22 v) => stSoundS (MB.out.below (HB.out.trans (hb.mono HB.out.size))).is FS1.out sd HSD.out.symm)
    have K3 := Lib.hid (fun v (hb : Below u22.heap.size u22 v) => stSoundR (SB.out.below (HB.out.trans (hb.mono HB.out.size))).is (by have := FS1.out.heard; omega) (by have := FS1.out.items; omega) (fun x hx => by have := FS.out.2 x hx; omega) sd HSD.out.symm)
    generalize doErr s t = er at *
    have b0 : (er != er) = false := by simp
    have b1 : (sd != sd) = false := by cases sd <;> rfl
    refine wp_region_held_drew (S := fun u' => Below u22.heap.size u22 u' ∧ (u'.cell? ⟨ga, 0, none⟩ = some (.slice aha ahn ahc) ∧ u'.cell? ⟨ga, 1, none⟩ = some (.slice aia aim aic)) ∧ (u'.cell? ⟨gb, 0, none⟩ = some (.slice bha bhn bhc) ∧ u'.cell? ⟨gb, 1, none⟩ = some (.slice bia bim bic)) ∧ (u'.cell? ⟨gm, 0, none⟩ = some (.slice qa qn qc) ∧ u'.cell? ⟨gm, 1, none⟩ = some (.slice pa pn pc)) ∧ (u'.cell? ⟨g0, 0, none⟩ = some (.slice ha hn hc) ∧ u'.cell? ⟨g0, 1, none⟩ = some (.slice ia im ic))) (by kernel_rfl) ?_ (fun hHeld => ?_)
    · (exact KE.out _ (Below.refl _ _).drew)
    simp only [List.size_toArray, List.length_cons, List.length_nil, Nat.zero_add, Nat.reduceAdd]
    refine tkB (i := 0) hHeld ?_
    refine tkB (i := 1) hHeld ?_
    refine tkB (i := 2) hHeld ?_
    refine tkB (i := 3) hHeld ?_
    refine tkB (i := 4) hHeld ?_
    refine tkB (i := 5) hHeld ?_
    refine wpAnyH_ready (rs := [6]) (by kernel_rfl) (by simp) ?_
    refine AllReadyH.cons rfl (fun K hK => ?_) AllReadyH.nil
    go_simp
    refine (K1.out _ hHeld.1).mono ?_
    rintro e r1 ⟨rfl, hb⟩
    refine hK.out _ _ (KE.out _ (holdC hHeld hb)) (fun hHeld => ?_)
    clear hK K hb
    refine tkB (i := 7) hHeld ?_
    refine tkB (i := 8) hHeld ?_
    refine tkB (i := 9) hHeld ?_
    refine tkB (i := 10) hHeld ?_
    refine tkB (i := 12) hHeld ?_
    refine wpAnyH_ready (rs := [11]) (by kernel_rfl) (by simp) ?_
    refine AllReadyH.cons rfl (fun K hK => ?_) AllReadyH.nil
    go_simp
    refine (K2.out _ hHeld.1).mono ?_
    rintro e r2 ⟨rfl, hb⟩
    refine hK.out _ _ (KE.out _ (holdC hHeld hb)) (fun hHeld => ?_)
    clear hK K hb
    refine wpAnyH_ready (rs := [13]) (by kernel_rfl) (by simp) ?_
    refine AllReadyH.cons rfl (fun K hK => ?_) AllReadyH.nil
    go_simp
    refine (K3.out _ hHeld.1).mono ?_
    rintro e r3 ⟨rfl, hb⟩
    refine hK.out _ _ (KE.out _ (holdC hHeld hb)) (fun hHeld => ?_)
    clear hK K hb
    refine tkB (i := 14) hHeld ?_
    refine tkB (i := 15) hHeld ?_
    refine wpAnyH_done (by kernel_rfl) ?_ _
    have hb := hHeld.1
    replace HB := Lib.hid (HB.out.trans (hb.mono HB.out.size))
    replace AB := Lib.hid (AB.out.below hb)
    replace BB := Lib.hid (BB.out.below hb)
    clear hHeld hb KE K1 K2 K3
    obtain ⟨x0a, x0b⟩ := (MB.out.below HB.out).c
    have K := Lib.hid (stAllS (MB.out.below HB.out).is (SM.out.below HB.out) FS1.out FL.out.1 FL.out.2.1)
    go_upto_region 12 with (go_at_call 19; refine K.out.mono ?_; rintro e u23 ⟨cha, chn, chc, cia, cim, cic, XTa, XTn, XTc, rfl, hh, hi, ht, hb⟩; have XTD := Lib.hid ht.dims.1; replace AB := Lib.hid (AB.out.below hb); replace BB := Lib.hid (BB.out.below hb); obtain ⟨z0, z1⟩ := AB.out.c; obtain ⟨z2, z3⟩ := AB.out.free; have HH := Lib.hid hh; have HI := Lib.hid hi; have XT := Lib.hid ht; replace HB := Lib.hid (HB.out.trans (hb.mono HB.out.size)); clear hb hh hi ht K x0a x0b)
    replace BB := Lib.hid (BB.out.but AB.out.two (st2_but u23 ga (.slice cha chn chc) (.slice cia cim cic)) (Nat.ne_of_gt NAB.out))
    replace XT := Lib.hid (seq_txn_but AB.out.two (st2_but u23 ga (.slice cha chn chc) (.slice cia cim cic)) XT.out)
    replace AB := Lib.hid (AB.out.set HH.out HI.out)
    replace HB : Hid (Below u18.heap.size u18 ((u23.setCell ⟨ga, 0, none⟩ (.slice cha chn chc)).setCell ⟨ga, 1, none⟩ (.slice cia cim cic))) := Lib.hid ((HB.out.setCell (show u18.heap.size ≤ (⟨ga, 0, none⟩ : Addr).block from ABZ.out) _).setCell (show u18.heap.size ≤ (⟨ga, 1, none⟩ : Addr).block from ABZ.out) _)
    clear z0 z1 z2 z3 HH HI
    generalize ((u23.setCell ⟨ga, 0, none⟩ (.slice cha chn chc)).setCell ⟨ga, 1, none⟩ (.slice cia cim cic)) = u24 at *
    obtain ⟨x0a, x0b⟩ := (SB.out.below HB.out).c
    have K := Lib.hid (stAllR_any (SB.out.below HB.out).is (SL.out.below HB.out) (by have := FS1.out.heard; omega) (by have := FS1.out.items; omega) FS1.out.dots (by have := FL.out.1; omega) FL.out.2.1 (fun t ht e he => by have := FL.out.2.2 t ht e he; omega))
    go_upto_region 13 with (go_at_call 20; refine K.out.mono ?_; rintro e u25 ⟨dha, dhn, dhc, dia, dim, dic, YTa, YTn, YTc, rfl, hh, hi, ht, hb⟩; have YTD := Lib.hid ht.dims.1; replace BB := Lib.hid (BB.out.below hb); replace AB := Lib.hid (AB.out.below hb); replace XT := Lib.hid (XT.out.below hb); obtain ⟨z0, z1⟩ := BB.out.c; obtain ⟨z2, z3⟩ := BB.out.free; have HH := Lib.hid hh; have HI := Lib.hid hi; have YT := Lib.hid ht; replace HB := Lib.hid (HB.out.trans (hb.mono HB.out.size)); clear hb hh hi ht K x0a x0b)
    replace AB := Lib.hid (AB.out.but BB.out.two (st2_but u25 gb (.slice dha dhn dhc) (.slice dia dim dic)) (Nat.ne_of_lt NAB.out))
    replace XT := Lib.hid (seq_txn_but BB.out.two (st2_but u25 gb (.slice dha dhn dhc) (.slice dia dim dic)) XT.out)
    replace YT := Lib.hid (seq_txn_but BB.out.two (st2_but u25 gb (.slice dha dhn dhc) (.slice dia dim dic)) YT.out)
    replace BB := Lib.hid (BB.out.set HH.out HI.out)
    replace HB : Hid (Below u18.heap.size u18 ((u25.setCell ⟨gb, 0, none⟩ (.slice dha dhn dhc)).setCell ⟨gb, 1, none⟩ (.slice dia dim dic))) := Lib.hid ((HB.out.setCell (show u18.heap.size ≤ (⟨gb, 0, none⟩ : Addr).block from BBZ.out) _).setCell (show u18.heap.size ≤ (⟨gb, 1, none⟩ : Addr).block from BBZ.out) _)
    clear z0 z1 z2 z3 HH HI
    generalize ((u25.setCell ⟨gb, 0, none⟩ (.slice dha dhn dhc)).setCell ⟨gb, 1, none⟩ (.slice dia dim dic)) = u26 at *
    obtain ⟨x0a, x0b⟩ := (MB.out.below HB.out).c
    have K := Lib.hid (stUnderS (MB.out.below HB.out).is (SZ.out.below HB.out) FS1.out FZ.out.1)
    go_upto_region 14 with (go_at_call 21; refine K.out.mono ?_; rintro e u27 ⟨uha, uhn, uhc, uia, uim, uic, rfl, hh, hi, hb⟩; have UB := Lib.hid (stbox_new (s := ⟨s.heard, iunder s.items zs⟩) hh hi); have UBZ : Hid (u18.heap.size ≤ u27.heap.size) := Lib.hid (HB.out.trans (hb.mono HB.out.size)).size; replace hb := hb.trans (((Below.refl u27.heap.size u27).alloc (Nat.le_refl _) (.cells #[.slice uha uhn uhc, .slice uia uim uic] 26)).mono hb.size); replace AB := Lib.hid (AB.out.below hb); replace BB := Lib.hid (BB.out.below hb); replace XT := Lib.hid (XT.out.below hb); replace YT := Lib.hid (YT.out.below hb); replace HB := Lib.hid (HB.out.trans (hb.mono HB.out.size)); clear hb hh hi K x0a x0b)
    generalize (u27.alloc (.cells #[.slice uha uhn uhc, .slice uia uim uic] 26)) = u28 at *
    generalize u27.heap.size = gu at UB UBZ ⊢
    have KE : Hid (∀ v, Below u28.heap.size u28 v → Below u28.heap.size u28 v ∧ (v.cell? ⟨ga, 0, none⟩ = some (.slice cha chn chc) ∧ v.cell? ⟨ga, 1, none⟩ = some (.slice cia cim cic)) ∧ (v.cell? ⟨gb, 0, none⟩ = some (.slice dha dhn dhc) ∧ v.cell? ⟨gb, 1, none⟩ = some (.slice dia dim dic)) ∧ (v.cell? ⟨gu, 0, none⟩ = some (.slice uha uhn uhc) ∧ v.cell? ⟨gu, 1, none⟩ = some (.slice uia uim uic)) ∧ (v.cell? ⟨gm, 0, none⟩ = some (.slice qa qn qc) ∧ v.cell? ⟨gm, 1, none⟩ = some (.slice pa pn pc)) ∧ (v.cell? ⟨g0, 0, none⟩ = some (.slice ha hn hc) ∧ v.cell? ⟨g0, 1, none⟩ = some (.slice ia im ic))) := Lib.hid (fun v hb => ⟨hb, (AB.out.below hb).c, (BB.out.below hb).c, (UB.out.below hb).c, (MB.out.below (HB.out.trans (hb.mono HB.out.size))).c, (SB.out.below (HB.out.trans (hb.mono HB.out.size))).c⟩)
    have K1 := Lib.hid (fun v (hb : Below u28.heap.size u28 v) => stSameR (AB.out.below hb).is (BB.out.below hb).is true (decide_eq_true rfl))
    have K2 := Lib.hid (fun v (hb : Below u28.heap.size u28 v) => sameAll_any (XT.out.below hb) (YT.out.below hb) (by have := HTL.out; have := FL.out.1; omega))
    rw [decide_eq_true (rfl : sTake s.heard l = sTake s.heard l)] at K2
    have K3 := Lib.hid (fun v (hb : Below u28.heap.size u28 v) => runderI_any (SB.out.below (HB.out.trans (hb.mono HB.out.size))).i (SZ.out.below (HB.out.trans (hb.mono HB.out.size))) (fun z hz => by have := FZ.out.2 z hz; omega) (fun x hx => by have := FS.out.2 x hx; omega) (by have := FS1.out.items; omega) (by have := FZ.out.1; omega))
    have K4 := Lib.hid (fun v (hb : Below u28.heap.size u28 v) av (hs : IsStore v av ⟨s.heard, iunder s.items zs⟩) => stSameR (UB.out.below hb).is hs true (decide_eq_true rfl))
    have K5 := Lib.hid (fun v (hb : Below u28.heap.size u28 v) => stSameR (MB.out.below (HB.out.trans (hb.mono HB.out.size))).is (SB.out.below (HB.out.trans (hb.mono HB.out.size))).is true (decide_eq_true rfl))
    have K6 := Lib.hid (fun v (hb : Below u28.heap.size u28 v) => sameAll_any (SM.out.below (HB.out.trans (hb.mono HB.out.size))) (SL.out.below (HB.out.trans (hb.mono HB.out.size))) (by have := FL.out.1; omega))
    rw [decide_eq_true (rfl : l = l)] at K6
    have KH := Lib.hid (fun v (hb : Below u28.heap.size u28 v) => (SB.out.below (HB.out.trans (hb.mono HB.out.size))).h)
    refine wp_region_held_drew (S := fun u' => Below u28.heap.size u28 u' ∧ (u'.cell? ⟨ga, 0, none⟩ = some (.slice cha chn chc) ∧ u'.cell? ⟨ga, 1, none⟩ = some (.slice cia cim cic)) ∧ (u'.cell? ⟨gb, 0, none⟩ = some (.slice dha dhn dhc) ∧ u'.cell? ⟨gb, 1, none⟩ = some (.slice dia dim dic)) ∧ (u'.cell? ⟨gu, 0, none⟩ = some (.slice uha uhn uhc) ∧ u'.cell? ⟨gu, 1, none⟩ = some (.slice uia uim uic)) ∧ (u'.cell? ⟨gm, 0, none⟩ = some (.slice qa qn qc) ∧ u'.cell? ⟨gm, 1, none⟩ = some (.slice pa pn pc)) ∧ (u'.cell? ⟨g0, 0, none⟩ = some (.slice ha hn hc) ∧ u'.cell? ⟨g0, 1, none⟩ = some (.slice ia im ic))) (by kernel_rfl) ?_ (fun hHeld => ?_)
    · (exact KE.out _ (Below.refl _ _).drew)
    simp only [List.size_toArray, List.length_cons, List.length_nil, Nat.zero_add, Nat.reduceAdd]
    refine tkB (i := 0) hHeld ?_
    refine tkB (i := 1) hHeld ?_
    refine wpAnyH_ready (rs := [2]) (by kernel_rfl) (by simp) ?_
    refine AllReadyH.cons rfl (fun K hK => ?_) AllReadyH.nil
    go_simp
    refine (K1.out _ hHeld.1).mono ?_
    rintro e r1 ⟨rfl, hb⟩
    refine hK.out _ _ (KE.out _ (holdC hHeld hb)) (fun hHeld => ?_)
    clear hK K hb
    refine tkB (i := 3) hHeld ?_
    refine tkB (i := 4) hHeld ?_
    refine tkB (i := 5) hHeld ?_
    refine wpAnyH_ready (rs := [6]) (by kernel_rfl) (by simp) ?_
    refine AllReadyH.cons rfl (fun K hK => ?_) AllReadyH.nil
    go_simp
    refine (K2.out _ hHeld.1).mono ?_
    rintro e r2 ⟨rfl, hb⟩
    refine hK.out _ _ (KE.out _ (holdC hHeld hb)) (fun hHeld => ?_)
    clear hK K hb
    refine tkB (i := 7) hHeld ?_
    refine tkB (i := 8) hHeld ?_
    refine tkB (i := 9) hHeld ?_
    refine tkB (i := 10) hHeld ?_
    refine tkB (i := 11) hHeld ?_
    refine tkB (i := 12) hHeld ?_
    refine tkB (i := 13) hHeld ?_
    refine tkB (i := 14) hHeld ?_
    refine wpAnyH_ready (rs := [15]) (by kernel_rfl) (by simp) ?_
    refine AllReadyH.cons rfl (fun K hK => ?_) AllReadyH.nil
    go_simp
    refine (K3.out _ hHeld.1).mono ?_
    rintro e r3 ⟨v15, rfl, ho, hb⟩
    obtain ⟨va, vc, rfl, -, -, -, -⟩ := ho.seq.parts
    have HN5 := Lib.hid (KH.out _ (holdC hHeld hb))
    have IS1 : Hid (IsStore r3 (.agg #[.slice ha hn hc, .slice va (iunder s.items zs).length vc]) ⟨s.heard, iunder s.items zs⟩) := Lib.hid ⟨_, _, rfl, HN5.out, ho.seq⟩
    clear ho HN5
    refine hK.out _ _ (KE.out _ (holdC hHeld hb)) (fun hHeld => ?_)
    clear hK K hb
    refine tkB (i := 16) hHeld ?_
    refine wpAnyH_ready (rs := [17]) (by kernel_rfl) (by simp) ?_
    refine AllReadyH.cons rfl (fun K hK => ?_) AllReadyH.nil
    go_simp
    refine (K4.out _ hHeld.1 _ IS1.out).mono ?_
    rintro e r4 ⟨rfl, hb⟩
    refine hK.out _ _ (KE.out _ (holdC hHeld hb)) (fun hHeld => ?_)
    clear hK K hb
    refine tkB (i := 18) hHeld ?_
    refine tkB (i := 19) hHeld ?_
    refine tkB (i := 20) hHeld ?_
    refine tkB (i := 21) hHeld ?_
    refine wpAnyH_ready (rs := [22]) (by kernel_rfl) (by simp) ?_
    refine AllReadyH.cons rfl (fun K hK => ?_) AllReadyH.nil
    go_simp
    refine (K5.out _ hHeld.1).mono ?_
    rintro e r5 ⟨rfl, hb⟩
    refine hK.out _ _ (KE.out _ (holdC hHeld hb)) (fun hHeld => ?_)
    clear hK K hb
    refine tkB (i := 23) hHeld ?_
    refine tkB (i := 24) hHeld ?_
    refine tkB (i := 25) hHeld ?_
    refine tkB (i := 26) hHeld ?_
    refine wpAnyH_ready (rs := [27]) (by kernel_rfl) (by simp) ?_
    refine AllReadyH.cons rfl (fun K hK => ?_) AllReadyH.nil
    go_simp
    refine (K6.out _ hHeld.1).mono ?_
    rintro e r6 ⟨rfl, hb⟩
    refine hK.out _ _ (KE.out _ (holdC hHeld hb)) (fun hHeld => ?_)
    clear hK K hb
    refine tkB (i := 28) hHeld ?_
    refine tkB (i := 29) hHeld ?_
    refine wpAnyH_done (by kernel_rfl) ?_ _
    have GZ := Lib.hid (G.out.trans ((HB.out.trans (hHeld.1.mono HB.out.size)).mono G.out.size))
    clear hHeld
    go_wp2_with fail
    go_ret
    exact ⟨rfl, GZ.out⟩

set_option maxRecDepth 100000 in
theorem lifted (os : Os) (started : os.Started) (H : Type) (enc : TypeId × Value → H) :
    ReturnsInHanded {} Tryz.checked os 3 .any (Rows.storeAllSpec.pre6 enc Tryz.prog Tryz.f3 Rows.storeAllRow.domain false) (Rows.storeAllSpec.post enc Tryz.prog Tryz.f3 false true false false) := by
  refine returnsInHanded_of_change (C := Tryz.checked) own started (by kernel_rfl) Tryz.func3
    (ChangeSpec.witness6 (enc := enc) (C := Tryz.checked) false ⟨#[], #[.agg #[.slice none 0 0, .slice none 0 0], .slice none 0 0, .agg #[.int .i64 0, .int .i64 0, .slice none 0 0, .slice none 0 0], .slice none 0 0], []⟩ 8 (by kernel_rfl) (by kernel_rfl) (by kernel_rfl) (by kernel_rfl)) ?_
  intro W base args ds gs before hval0 hW hcnd _
  have hval : ∀ (j : Nat) t v, Tryz.f3.params[j]? = some t → args[j]? = some v → Value.okWide Tryz.prog W .any base t v := hval0
  have hW' := hW
  obtain ⟨p, q, hA0, hV, rfl, hfz, hnd⟩ := hW
  have hA : DataW.TrodAll enc Tryz.prog W 0 (fun _ => true) true Tryz.f3.params.toList args.toList ds p := hA0
  rw [Tryz.params3] at hA hval
  obtain ⟨v0, vs0, d0, ds0, p0, q0, hargs, rfl, rfl, h0, r0⟩ := trodAll_cons hA
  obtain ⟨v1, vs1, d1, ds1, p1, q1, rfl, rfl, rfl, h1, r1⟩ := trodAll_cons r0
  obtain ⟨v2, vs2, d2, ds2, p2, q2, rfl, rfl, rfl, h2, r2⟩ := trodAll_cons r1
  obtain ⟨v3, vs3, d3, ds3, p3, q3, rfl, rfl, rfl, h3, r3⟩ := trodAll_cons r2
  obtain ⟨rfl, rfl, rfl⟩ := trodAll_nil r3
  obtain rfl : args = #[v0, v1, v2, v3] := by cases args; simp_all
  obtain ⟨rfl, rfl⟩ := trodVars_none hV
  have k0 := h0
  have lt0 : ∀ x ∈ p0, x.block < W.heap.size := by obtain ⟨m, hm⟩ := k0; exact DataW.trod_lt m _ _ _ hm
  have w0 := open0 (hval 0 26 v0 rfl rfl) h0
  have k1 := h1
  have lt1 : ∀ x ∈ p1, x.block < W.heap.size := by obtain ⟨m, hm⟩ := k1; exact DataW.trod_lt m _ _ _ hm
  have w1 := open1 (hval 1 27 v1 rfl rfl) h1
  have k2 := h2
  have lt2 : ∀ x ∈ p2, x.block < W.heap.size := by obtain ⟨m, hm⟩ := k2; exact DataW.trod_lt m _ _ _ hm
  have w2 := open2 (hval 2 30 v2 rfl rfl) h2
  have k3 := h3
  have lt3 : ∀ x ∈ p3, x.block < W.heap.size := by obtain ⟨m, hm⟩ := k3; exact DataW.trod_lt m _ _ _ hm
  have w3 := open3 (hval 3 31 v3 rfl rfl) h3
  clear hA0 hval0
  refine (walk v0 v1 v2 v3 W w0 w1 w2 w3).mono fun e W' ⟨he, bel⟩ => ?_
  subst he
  exact ⟨_, rfl, _, _, _, [], _, [], hW', trodAll_mk1 (shut_bool Tryz.underlying4 _), (trodAll_cons_mk (Below.trod laidOut (by kernel_rfl) (of_decide_eq_true (by kernel_rfl)) k0 bel lt0) (trodAll_cons_mk (Below.trod laidOut (by kernel_rfl) (of_decide_eq_true (by kernel_rfl)) k1 bel lt1) (trodAll_cons_mk (Below.trod laidOut (by kernel_rfl) (of_decide_eq_true (by kernel_rfl)) k2 bel lt2) (trodAll_cons_mk (Below.trod laidOut (by kernel_rfl) (of_decide_eq_true (by kernel_rfl)) k3 bel lt3) trodAll_mk0)))), rfl, bel.frame _, fun h => by cases h⟩

theorem over : Rows.storeAllRow.holds Tryz.pinned (OpenSpec.ofChange Rows.storeAllSpec) :=
  OpenClaim.holds_of_wide 3 Tryz.f3 rfl rfl rfl rfl rfl rfl rfl ⟨rfl, rfl, rfl, rfl, rfl⟩ rfl rfl rfl rfl rfl (by kernel_rfl) Tryz.func3 (by kernel_rfl)
    (of_decide_eq_true (by kernel_rfl)) (by unfold Func.isWrapper; first | (rw [if_pos (by decide +kernel)]; kernel_rfl) | (rw [if_neg (by decide +kernel)]; exact ⟨rfl, rfl⟩))
    (fun os started H enc _ => lifted os started H enc)

/-- the given statement -/
theorem proved : Rows.StoreAllSaid := over
#print axioms proved
end Go.Proofs.YtpnpomocjkmncaaGreat.storeAll
