/-
  For any vector, any transactions and any one the law OrderAll answers true: any transactions are taken, and are a chain or none, as the document says; they stay as they are. No condition.
  (The frame was written by the guide's proof-skeleton.mjs, turned for slices of transactions; the walk is ours.)
-/
import Derived.Test.YtlpcpbangmonaaaRows
import Derived.WalkKit
import Derived.ProofKit
import Derived.OpenShut
import Derived.ShutString
import Derived.ChangeOld
import Derived.Below
import Derived.Test.YtlpcpbangmonaaaOrRTks
import Derived.Test.YtlpcpbangmonaaaRefTxOC
import Derived.Test.YtlpcpbangmonaaaVcAll
import Derived.Deep.DeepCutAuto
import Derived.Deep.RegionHeld3
namespace Go.Proofs.Ytlpcpbangmonaaa.orderAll
open Go.ChangeShapes Go.WideShapes Go.ChangeAt Go.RowKit
open Go.ChangeMaps (open_string shut_string)
set_option linter.unusedVariables false

theorem own : ownKnob Try.prog.godebug = none := by kernel_rfl
theorem laidOut : laidOutB Try.prog = true := by kernel_rfl

open Plain

set_option maxRecDepth 100000 in
theorem open1 {H : Type} {enc : TypeId × Value → H} {W : World} {r : Reach} {b : Nat} {v : Value} {d : DataW H} {p : List MemPlace} (hv : Value.okWide Try.prog W r b 24 v) (h : DataW.Trod enc Try.prog W 0 (fun _ => true) true 24 v d p) : IsTxns W v := txns_of_trod hv h
set_option maxRecDepth 100000 in
theorem open2 {H : Type} {enc : TypeId × Value → H} {W : World} {r : Reach} {b : Nat} {v : Value} {d : DataW H} {p : List MemPlace} (hv : Value.okWide Try.prog W r b 27 v) (h : DataW.Trod enc Try.prog W 0 (fun _ => true) true 27 v d p) : IsTxnA W v := txn_of_trod hv h

set_option maxRecDepth 100000 in
set_option maxHeartbeats 32000000 in
theorem walk (a0 : Option Addr) (n0 c0 : Nat) (z0 : List Int) (v1 : Value) (v2 : Value) (w : World) (w0 : IsRow .i64 w a0 n0 c0 z0) (w1 : IsTxns w v1) (w2 : IsTxnA w v2) :
    Calls Try.prog 3 #[.slice a0 n0 c0, v1, v2] w fun e w' => e = .returned (.bool true) ∧ Below w.heap.size w w' := by
  obtain ⟨v, sv, lv, c0l⟩ := row_ints w0
  obtain ⟨l, sl, okl⟩ := w1
  obtain ⟨a1, c1, hv1, L1, L2, -, -⟩ := sl.parts
  subst hv1
  have SV := Lib.hid sv
  have SW := Lib.hid sv
  have SL := Lib.hid sl
  have OK := Lib.hid okl
  have LV := Lib.hid lv
  obtain ⟨n, hn⟩ : ∃ n, n = l.length := ⟨_, rfl⟩
  have HN := Lib.hid hn
  rw [← hn] at SL L1 ⊢
  have G := Lib.hid (Below.refl w.heap.size w)
  clear w0 sv sl okl lv hn
  obtain ⟨t, ht, hok⟩ := w2
  have OKT := Lib.hid hok
  obtain ⟨da, dn, dc, ea, en, ec, hvt, hd, he⟩ := ht.parts
  subst hvt
  have hb := (Below.refl w.heap.size w).alloc (Nat.le_refl _) (.cells #[.int .i64 t.node, .int .i64 t.seq, .slice da dn dc, .slice ea en ec] 27)
  have TB := Lib.hid (txbox_new hd he)
  have G0 := Lib.hid hb
  replace SV := Lib.hid (SV.out.below hb)
  replace SL := Lib.hid (SL.out.below hb)
  clear ht hok hd he hb SW
  go_enter Try.func3, Try.ntmps3
  go_upto_region 1 with fail
  generalize (w.alloc (.cells #[.int .i64 t.node, .int .i64 t.seq, .slice da dn dc, .slice ea en ec] 27)) = wB at *
  replace G : Hid (Below wB.heap.size wB wB) := Lib.hid (Below.refl wB.heap.size wB)
  go_wp2_with fail
  refine (oawake_any _).mono ?_
  rintro e u2 ⟨rfl, hb⟩
  replace SV := Lib.hid (SV.out.below hb)
  replace SL := Lib.hid (SL.out.below hb)
  replace G := Lib.hid (G.out.trans (hb.mono G.out.size))
  clear hb
  by_cases h60 : 60 < n0
  · have i60 : ((60 : Int) < (n0 : Int)) := by omega
    go_wp2_with fail
    go_ret
    exact ⟨rfl, G0.out.trans (G.out.mono G0.out.size)⟩
  · have i60 : ¬ ((60 : Int) < (n0 : Int)) := by omega
    have HV : Hid (v.length ≤ 60) := Lib.hid (by rw [LV.out]; omega)
    obtain ⟨sh, hsh⟩ : ∃ b, b = shortTx l := ⟨_, rfl⟩
    have HSH := Lib.hid hsh
    have KS := Lib.hid (rshortTx_any SL.out sh hsh.symm)
    clear hsh h60
    cases sh
    · go_wp2_with (go_at_call 9; refine KS.out.mono ?_; rintro e u3 ⟨rfl, hb⟩; have G3 := Lib.hid (G.out.trans (hb.mono G.out.size)); clear hb)
      go_ret
      exact ⟨rfl, G0.out.trans (G3.out.mono G0.out.size)⟩
    · have HFS := Lib.hid (fitS_of HSH.out.symm OK.out)
      have HF : Hid (∀ t ∈ l, FitW t) := Lib.hid (fun t ht => (HFS.out.2 t ht).w)
      have HL : Hid (l.length ≤ 1000000) := Lib.hid (by have := HFS.out.1; omega)
      have HLN : Hid (n ≤ 24) := Lib.hid (by rw [HN.out]; exact HFS.out.1)
      obtain ⟨st, hst⟩ : ∃ b, b = shortTx [t] := ⟨_, rfl⟩
      have HST := Lib.hid hst
      clear hst
      cases st
      · go_wp2_with (first
          | (go_at_call 9; refine KS.out.mono ?_; rintro e u3 ⟨rfl, hb⟩; replace SV := Lib.hid (SV.out.below hb); replace SL := Lib.hid (SL.out.below hb); replace G := Lib.hid (G.out.trans (hb.mono G.out.size)); have TBc := TB.out.below G.out; obtain ⟨y0, y1, y2, y3⟩ := TBc.c; have KS2 := Lib.hid (rshortTx_any (one_txn TBc.d TBc.e) _ HST.out.symm); clear hb; have hb := (Below.refl u3.heap.size u3).alloc (Nat.le_refl _) (.cells #[.int .i64 t.node, .int .i64 t.seq, .slice da dn dc, .slice ea en ec] 27); replace SV := Lib.hid (SV.out.below hb); replace SL := Lib.hid (SL.out.below hb); replace G := Lib.hid (G.out.trans (hb.mono G.out.size)); clear hb KS TBc)
          | (go_at_call 9; refine KS2.out.mono ?_; rintro e u4 ⟨rfl, hb⟩; replace SV := Lib.hid (SV.out.below hb); replace SL := Lib.hid (SL.out.below hb); replace G := Lib.hid (G.out.trans (hb.mono G.out.size)); clear hb KS2 y0 y1 y2 y3))
        go_ret
        exact ⟨rfl, G0.out.trans (G.out.mono G0.out.size)⟩
      · have HFT : Hid (FitW t) := Lib.hid ((fitS_of HST.out.symm (fun x hx => by rw [List.mem_singleton.1 hx]; exact OKT.out)).2 t (List.mem_singleton.2 rfl)).w
        have HDR : Hid (∀ t ∈ l, t.deps.length ≤ 1000000 ∧ t.effs.length ≤ 1000000 ∧ ∀ e ∈ t.effs, e.drops.length ≤ 1000000) := Lib.hid (fun t ht => ⟨(HF.out t ht).deps, (HF.out t ht).effs, (HF.out t ht).drops⟩)
        have HVL : Hid (v.length ≤ 1000000) := Lib.hid (by have := HV.out; omega)
        have HLA : Hid ((oTake v l).length ≤ 1000000) := Lib.hid (by have := oTake_len v l; have := HL.out; omega)
        generalize hch : oChain v l = ch
        have HCH := Lib.hid hch
        clear hch
        have b0 : (ch != ch) = false := by cases ch <;> rfl
        go_upto_region 10 with (first
          | (go_at_call 9; refine KS.out.mono ?_; rintro e u3 ⟨rfl, hb⟩; replace SV := Lib.hid (SV.out.below hb); replace SL := Lib.hid (SL.out.below hb); replace G := Lib.hid (G.out.trans (hb.mono G.out.size)); have TBc := TB.out.below G.out; obtain ⟨y0, y1, y2, y3⟩ := TBc.c; have KS2 := Lib.hid (rshortTx_any (one_txn TBc.d TBc.e) _ HST.out.symm); clear hb; have hb := (Below.refl u3.heap.size u3).alloc (Nat.le_refl _) (.cells #[.int .i64 t.node, .int .i64 t.seq, .slice da dn dc, .slice ea en ec] 27); replace SV := Lib.hid (SV.out.below hb); replace SL := Lib.hid (SL.out.below hb); replace G := Lib.hid (G.out.trans (hb.mono G.out.size)); clear hb KS TBc)
          | (go_at_call 9; refine KS2.out.mono ?_; rintro e u4 ⟨rfl, hb⟩; replace SV := Lib.hid (SV.out.below hb); replace SL := Lib.hid (SL.out.below hb); replace G := Lib.hid (G.out.trans (hb.mono G.out.size)); clear hb KS2 y0 y1 y2 y3; have KC := Lib.hid (rcopyTx_any SL.out HL.out HDR.out))
          | (go_at_call 10; refine KC.out.mono ?_; rintro e u5 ⟨mv, rfl, hc, hb⟩; replace SV := Lib.hid (SV.out.below hb); replace SL := Lib.hid (SL.out.below hb); replace G := Lib.hid (G.out.trans (hb.mono G.out.size)); have SM := Lib.hid hc.own.seq; obtain ⟨ma, mc, hv6, -, -, -, -⟩ := SM.out.parts; rw [← HN.out] at hv6; subst hv6; have KV := Lib.hid (vc_rcopy_any SV.out HVL.out); clear hc hb KC)
          | (go_at_call 11; refine KV.out.mono ?_; rintro e u6 ⟨wv, rfl, ho, hb⟩; replace SV := Lib.hid (SV.out.below hb); replace SL := Lib.hid (SL.out.below hb); replace SM := Lib.hid (SM.out.below hb); replace G := Lib.hid (G.out.trans (hb.mono G.out.size)); have SW := Lib.hid ho.seq; obtain ⟨wa, wc, rfl, -, -, -, -⟩ := ho.seq.parts; have KT := Lib.hid (takeP_any SW.out SM.out HL.out HF.out HVL.out); clear ho hb KV)
          | (go_at_call 12; refine KT.out.mono ?_; rintro e u7 ⟨a, xv, rfl, ha, hx, hb⟩; replace SV := Lib.hid (SV.out.below hb); replace SL := Lib.hid (SL.out.below hb); replace SM := Lib.hid (SM.out.below hb); replace SW := Lib.hid (SW.out.below hb); replace G := Lib.hid (G.out.trans (hb.mono G.out.size)); have SA := Lib.hid ha; have SX := Lib.hid hx; obtain ⟨aa, ac, rfl, -, -, -, -⟩ := ha.parts; obtain ⟨xa, xc, rfl, -, -, -, -⟩ := hx.parts; have KT2 := Lib.hid (takeR_any SV.out SL.out HL.out HF.out HVL.out); clear ha hx hb KT)
          | (go_at_call 13; refine KT2.out.mono ?_; rintro e u8 ⟨b, yv, rfl, ha, hx, hb⟩; replace SV := Lib.hid (SV.out.below hb); replace SL := Lib.hid (SL.out.below hb); replace SM := Lib.hid (SM.out.below hb); replace SW := Lib.hid (SW.out.below hb); replace SA := Lib.hid (SA.out.below hb); replace SX := Lib.hid (SX.out.below hb); replace G := Lib.hid (G.out.trans (hb.mono G.out.size)); have SB := Lib.hid ha; have SY := Lib.hid hx; obtain ⟨ba, bc, rfl, -, -, -, -⟩ := ha.parts; obtain ⟨ya, yc, rfl, -, -, -, -⟩ := hx.parts; have KE1 := Lib.hid (sameAll_any SA.out SB.out HLA.out); rw [decide_eq_true (rfl : oTake v l = oTake v l)] at KE1; clear ha hx hb KT2)
          | (go_at_call 14; refine KE1.out.mono ?_; rintro e u9 ⟨rfl, hb⟩; replace SV := Lib.hid (SV.out.below hb); replace SL := Lib.hid (SL.out.below hb); replace SM := Lib.hid (SM.out.below hb); replace SW := Lib.hid (SW.out.below hb); replace SA := Lib.hid (SA.out.below hb); replace SX := Lib.hid (SX.out.below hb); replace SB := Lib.hid (SB.out.below hb); replace SY := Lib.hid (SY.out.below hb); replace G := Lib.hid (G.out.trans (hb.mono G.out.size)); clear hb KE1)
          | (go_at_call 15; refine (vc_requal_yes (seqI_of SX.out) (seqI_of SY.out)).mono ?_; rintro e u10 ⟨rfl, q, hq⟩; have hb : Below u9.heap.size u9 u10 := (by rw [hq]; exact below_drewN (Below.refl _ _) q); clear hq; replace SV := Lib.hid (SV.out.below hb); replace SL := Lib.hid (SL.out.below hb); replace SM := Lib.hid (SM.out.below hb); replace SW := Lib.hid (SW.out.below hb); replace G := Lib.hid (G.out.trans (hb.mono G.out.size)); have KC1 := Lib.hid (chainP_any SW.out SM.out HL.out HF.out HVL.out); rw [HCH.out] at KC1; clear hb SX SY SA SB)
          | (go_at_call 16; refine KC1.out.mono ?_; rintro e u11 ⟨rfl, hb⟩; replace SV := Lib.hid (SV.out.below hb); replace SL := Lib.hid (SL.out.below hb); replace SM := Lib.hid (SM.out.below hb); replace SW := Lib.hid (SW.out.below hb); replace G := Lib.hid (G.out.trans (hb.mono G.out.size)); have KC2 := Lib.hid (chainR_any SV.out SL.out HL.out HF.out HVL.out); rw [HCH.out] at KC2; clear hb KC1)
          | (go_at_call 17; refine KC2.out.mono ?_; rintro e u12 ⟨rfl, hb⟩; replace SV := Lib.hid (SV.out.below hb); replace SL := Lib.hid (SL.out.below hb); replace SM := Lib.hid (SM.out.below hb); replace SW := Lib.hid (SW.out.below hb); replace G := Lib.hid (G.out.trans (hb.mono G.out.size)); clear hb KC2))
        have TBz := TB.out.below G.out
        have IT : ∀ u, Below u12.heap.size u12 u → IsTxn u (.agg #[.int .i64 t.node, .int .i64 t.seq, .slice da dn dc, .slice ea en ec]) t := fun u h => ⟨_, _, rfl, (TBz.below h).d, (TBz.below h).e⟩
        have KE : Hid (∀ u, Below u12.heap.size u12 u → Below u12.heap.size u12 u ∧ (u.cell? ⟨w.heap.size, 0, none⟩ = some (.int .i64 t.node) ∧ u.cell? ⟨w.heap.size, 1, none⟩ = some (.int .i64 t.seq) ∧ u.cell? ⟨w.heap.size, 2, none⟩ = some (.slice da dn dc) ∧ u.cell? ⟨w.heap.size, 3, none⟩ = some (.slice ea en ec))) := Lib.hid (fun u h => ⟨h, (TBz.below h).c⟩)
        have KR1 := Lib.hid (fun u (h : Below u12.heap.size u12 u) => oreadyP_any (SW.out.below h) (IT u h) HVL.out HFT.out.deps HFT.out.small)
        have KR2 := Lib.hid (fun u (h : Below u12.heap.size u12 u) => oreadyR_any (SV.out.below h) (IT u h) HVL.out HFT.out.deps HFT.out.small)
        have KN1 := Lib.hid (fun u (h : Below u12.heap.size u12 u) => onextP_any (SW.out.below h) (IT u h) HVL.out)
        have KN2 := Lib.hid (fun u (h : Below u12.heap.size u12 u) => onextR_any (SV.out.below h) (IT u h) HVL.out)
        have KSA := Lib.hid (fun u (h : Below u12.heap.size u12 u) => sameAll_any (SM.out.below h) (SL.out.below h) HL.out)
        rw [decide_eq_true (rfl : l = l)] at KSA
        have KQ := Lib.hid (fun u (h : Below u12.heap.size u12 u) => (vc_requal_yes (SW.out.below h) (SV.out.below h)).mono (fun e w' (k : e = .returned (.bool true) ∧ ∃ n, w' = u.drewN n) => (And.intro k.1 (by obtain ⟨-, n, hn⟩ := k; rw [hn]; exact below_drewN (Below.refl _ _) n) : e = .returned (.bool true) ∧ Below u.heap.size u w')))
        clear TBz IT
        generalize oReady v t = rd at *
        generalize oNext v t = nx at *
        have b1 : (rd == rd) = true := by cases rd <;> rfl
        refine wp_region_held_drew (S := fun u' => Below u12.heap.size u12 u' ∧ (u'.cell? ⟨w.heap.size, 0, none⟩ = some (.int .i64 t.node) ∧ u'.cell? ⟨w.heap.size, 1, none⟩ = some (.int .i64 t.seq) ∧ u'.cell? ⟨w.heap.size, 2, none⟩ = some (.slice da dn dc) ∧ u'.cell? ⟨w.heap.size, 3, none⟩ = some (.slice ea en ec))) (by kernel_rfl) ?_ (fun hHeld => ?_)
        · (exact KE.out _ (Below.refl _ _).drew)
        simp only [List.size_toArray, List.length_cons, List.length_nil, Nat.zero_add, Nat.reduceAdd]
        refine wpAnyH_take (i := 0) (v := ?_) rfl (by kernel_rfl) (by kernel_rfl) (by kernel_rfl) (fun _ _ _ h => h) (Or.inl ⟨by rfl, ?_⟩) hHeld ?_
        rotate_left
        · (intro w' hSw; (try dsimp only at hSw); go_simp; try with_reducible rfl)
        simp only [List.getElem_toArray, List.getElem_cons_zero, Act.put, List.setIfInBounds_toArray, List.set_cons_zero, List.set_cons_succ]
        refine wpAnyH_take (i := 1) (v := ?_) rfl (by kernel_rfl) (by kernel_rfl) (by kernel_rfl) (fun _ _ _ h => h) (Or.inl ⟨by rfl, ?_⟩) hHeld ?_
        rotate_left
        · (intro w' hSw; (try dsimp only at hSw); go_simp; try with_reducible rfl)
        simp only [List.getElem_toArray, List.getElem_cons_zero, List.getElem_cons_succ, Act.put, List.setIfInBounds_toArray, List.set_cons_zero, List.set_cons_succ]
        refine wpAnyH_take (i := 3) (v := ?_) rfl (by kernel_rfl) (by kernel_rfl) (by kernel_rfl) (fun _ _ _ h => h) (Or.inl ⟨by rfl, ?_⟩) hHeld ?_
        rotate_left
        · (intro w' hSw; (try dsimp only at hSw); go_simp; try with_reducible rfl)
        simp only [List.getElem_toArray, List.getElem_cons_zero, List.getElem_cons_succ, Act.put, List.setIfInBounds_toArray, List.set_cons_zero, List.set_cons_succ]
        refine wpAnyH_take (i := 4) (v := ?_) rfl (by kernel_rfl) (by kernel_rfl) (by kernel_rfl) (fun _ _ _ h => h) (Or.inl ⟨by rfl, ?_⟩) hHeld ?_
        rotate_left
        · (intro w' hSw; (try dsimp only at hSw); go_simp; try with_reducible rfl)
        simp only [List.getElem_toArray, List.getElem_cons_zero, List.getElem_cons_succ, Act.put, List.setIfInBounds_toArray, List.set_cons_zero, List.set_cons_succ]
        refine wpAnyH_ready (rs := [2]) (by kernel_rfl) (by simp) ?_
        refine AllReadyH.cons rfl (fun K hK => ?_) AllReadyH.nil
        go_simp
        refine (KR1.out _ hHeld.1).mono ?_
        rintro e s1 ⟨rfl, hb⟩
        refine hK.out _ _ (KE.out _ (holdC hHeld hb)) (fun hHeld => ?_)
        clear hK K hb
        refine wpAnyH_ready (rs := [5]) (by kernel_rfl) (by simp) ?_
        refine AllReadyH.cons rfl (fun K hK => ?_) AllReadyH.nil
        go_simp
        refine (KR2.out _ hHeld.1).mono ?_
        rintro e s2 ⟨rfl, hb⟩
        refine hK.out _ _ (KE.out _ (holdC hHeld hb)) (fun hHeld => ?_)
        clear hK K hb
        refine wpAnyH_take (i := 6) (v := ?_) rfl (by kernel_rfl) (by kernel_rfl) (by kernel_rfl) (fun _ _ _ h => h) (Or.inl ⟨by rfl, ?_⟩) hHeld ?_
        rotate_left
        · (intro w' hSw; (try dsimp only at hSw); go_simp; try with_reducible rfl)
        simp only [List.getElem_toArray, List.getElem_cons_zero, List.getElem_cons_succ, Act.put, List.setIfInBounds_toArray, List.set_cons_zero, List.set_cons_succ]
        refine wpAnyH_take (i := 7) (v := ?_) rfl (by kernel_rfl) (by kernel_rfl) (by kernel_rfl) (fun _ _ _ h => h) (Or.inl ⟨by rfl, ?_⟩) hHeld ?_
        rotate_left
        · (intro w' hSw; (try dsimp only at hSw); go_simp; try with_reducible rfl)
        simp only [List.getElem_toArray, List.getElem_cons_zero, List.getElem_cons_succ, Act.put, List.setIfInBounds_toArray, List.set_cons_zero, List.set_cons_succ]
        refine wpAnyH_take (i := 8) (v := ?_) rfl (by kernel_rfl) (by kernel_rfl) (by kernel_rfl) (fun _ _ _ h => h) (Or.inl ⟨by rfl, ?_⟩) hHeld ?_
        rotate_left
        · (intro w' hSw; (try dsimp only at hSw); go_simp; try with_reducible rfl)
        simp only [List.getElem_toArray, List.getElem_cons_zero, List.getElem_cons_succ, Act.put, List.setIfInBounds_toArray, List.set_cons_zero, List.set_cons_succ]
        refine wpAnyH_take (i := 9) (v := ?_) rfl (by kernel_rfl) (by kernel_rfl) (by kernel_rfl) (fun _ _ _ h => h) (Or.inl ⟨by rfl, ?_⟩) hHeld ?_
        rotate_left
        · (intro w' hSw; (try dsimp only at hSw); go_simp; try with_reducible rfl)
        simp only [List.getElem_toArray, List.getElem_cons_zero, List.getElem_cons_succ, Act.put, List.setIfInBounds_toArray, List.set_cons_zero, List.set_cons_succ]
        refine wpAnyH_take (i := 11) (v := ?_) rfl (by kernel_rfl) (by kernel_rfl) (by kernel_rfl) (fun _ _ _ h => h) (Or.inl ⟨by rfl, ?_⟩) hHeld ?_
        rotate_left
        · (intro w' hSw; (try dsimp only at hSw); go_simp; try with_reducible rfl)
        simp only [List.getElem_toArray, List.getElem_cons_zero, List.getElem_cons_succ, Act.put, List.setIfInBounds_toArray, List.set_cons_zero, List.set_cons_succ]
        refine wpAnyH_take (i := 12) (v := ?_) rfl (by kernel_rfl) (by kernel_rfl) (by kernel_rfl) (fun _ _ _ h => h) (Or.inl ⟨by rfl, ?_⟩) hHeld ?_
        rotate_left
        · (intro w' hSw; (try dsimp only at hSw); go_simp; try with_reducible rfl)
        simp only [List.getElem_toArray, List.getElem_cons_zero, List.getElem_cons_succ, Act.put, List.setIfInBounds_toArray, List.set_cons_zero, List.set_cons_succ]
        refine wpAnyH_ready (rs := [10]) (by kernel_rfl) (by simp) ?_
        refine AllReadyH.cons rfl (fun K hK => ?_) AllReadyH.nil
        go_simp
        refine (KN1.out _ hHeld.1).mono ?_
        rintro e s3 ⟨va, rfl, ho, hb⟩
        have SN1 := Lib.hid ho.seq
        clear ho
        refine hK.out _ _ (KE.out _ (holdC hHeld hb)) (fun hHeld => ?_)
        clear hK K hb
        refine wpAnyH_ready (rs := [13]) (by kernel_rfl) (by simp) ?_
        refine AllReadyH.cons rfl (fun K hK => ?_) AllReadyH.nil
        go_simp
        refine (KN2.out _ hHeld.1).mono ?_
        rintro e s4 ⟨vb, rfl, ho, hb⟩
        have SN2 := Lib.hid ho.seq
        replace SN1 := Lib.hid (SN1.out.below hb)
        clear ho
        refine hK.out _ _ (KE.out _ (holdC hHeld hb)) (fun hHeld => ?_)
        clear hK K hb
        refine wpAnyH_ready (rs := [14]) (by kernel_rfl) (by simp) ?_
        refine AllReadyH.cons rfl (fun K hK => ?_) AllReadyH.nil
        go_simp
        refine (vc_requal_yes SN1.out SN2.out).mono ?_
        rintro e s5 ⟨rfl, q, hq⟩
        have hb : Below s4.heap.size s4 s5 := (by rw [hq]; exact below_drewN (Below.refl _ _) q)
        clear hq
        refine hK.out _ _ (KE.out _ (holdC hHeld hb)) (fun hHeld => ?_)
        clear hK K hb
        refine wpAnyH_take (i := 15) (v := ?_) rfl (by kernel_rfl) (by kernel_rfl) (by kernel_rfl) (fun _ _ _ h => h) (Or.inl ⟨by rfl, ?_⟩) hHeld ?_
        rotate_left
        · (intro w' hSw; (try dsimp only at hSw); go_simp; try with_reducible rfl)
        simp only [List.getElem_toArray, List.getElem_cons_zero, List.getElem_cons_succ, Act.put, List.setIfInBounds_toArray, List.set_cons_zero, List.set_cons_succ]
        refine wpAnyH_take (i := 16) (v := ?_) rfl (by kernel_rfl) (by kernel_rfl) (by kernel_rfl) (fun _ _ _ h => h) (Or.inl ⟨by rfl, ?_⟩) hHeld ?_
        rotate_left
        · (intro w' hSw; (try dsimp only at hSw); go_simp; try with_reducible rfl)
        simp only [List.getElem_toArray, List.getElem_cons_zero, List.getElem_cons_succ, Act.put, List.setIfInBounds_toArray, List.set_cons_zero, List.set_cons_succ]
        refine wpAnyH_take (i := 17) (v := ?_) rfl (by kernel_rfl) (by kernel_rfl) (by kernel_rfl) (fun _ _ _ h => h) (Or.inl ⟨by rfl, ?_⟩) hHeld ?_
        rotate_left
        · (intro w' hSw; (try dsimp only at hSw); go_simp; try with_reducible rfl)
        simp only [List.getElem_toArray, List.getElem_cons_zero, List.getElem_cons_succ, Act.put, List.setIfInBounds_toArray, List.set_cons_zero, List.set_cons_succ]
        refine wpAnyH_take (i := 18) (v := ?_) rfl (by kernel_rfl) (by kernel_rfl) (by kernel_rfl) (fun _ _ _ h => h) (Or.inl ⟨by rfl, ?_⟩) hHeld ?_
        rotate_left
        · (intro w' hSw; (try dsimp only at hSw); go_simp; try with_reducible rfl)
        simp only [List.getElem_toArray, List.getElem_cons_zero, List.getElem_cons_succ, Act.put, List.setIfInBounds_toArray, List.set_cons_zero, List.set_cons_succ]
        refine wpAnyH_ready (rs := [19]) (by kernel_rfl) (by simp) ?_
        refine AllReadyH.cons rfl (fun K hK => ?_) AllReadyH.nil
        go_simp
        refine (KSA.out _ hHeld.1).mono ?_
        rintro e s6 ⟨rfl, hb⟩
        refine hK.out _ _ (KE.out _ (holdC hHeld hb)) (fun hHeld => ?_)
        clear hK K hb
        refine wpAnyH_take (i := 20) (v := ?_) rfl (by kernel_rfl) (by kernel_rfl) (by kernel_rfl) (fun _ _ _ h => h) (Or.inl ⟨by rfl, ?_⟩) hHeld ?_
        rotate_left
        · (intro w' hSw; (try dsimp only at hSw); go_simp; try with_reducible rfl)
        simp only [List.getElem_toArray, List.getElem_cons_zero, List.getElem_cons_succ, Act.put, List.setIfInBounds_toArray, List.set_cons_zero, List.set_cons_succ]
        refine wpAnyH_take (i := 21) (v := ?_) rfl (by kernel_rfl) (by kernel_rfl) (by kernel_rfl) (fun _ _ _ h => h) (Or.inl ⟨by rfl, ?_⟩) hHeld ?_
        rotate_left
        · (intro w' hSw; (try dsimp only at hSw); go_simp; try with_reducible rfl)
        simp only [List.getElem_toArray, List.getElem_cons_zero, List.getElem_cons_succ, Act.put, List.setIfInBounds_toArray, List.set_cons_zero, List.set_cons_succ]
        refine wpAnyH_take (i := 22) (v := ?_) rfl (by kernel_rfl) (by kernel_rfl) (by kernel_rfl) (fun _ _ _ h => h) (Or.inl ⟨by rfl, ?_⟩) hHeld ?_
        rotate_left
        · (intro w' hSw; (try dsimp only at hSw); go_simp; try with_reducible rfl)
        simp only [List.getElem_toArray, List.getElem_cons_zero, List.getElem_cons_succ, Act.put, List.setIfInBounds_toArray, List.set_cons_zero, List.set_cons_succ]
        refine wpAnyH_take (i := 23) (v := ?_) rfl (by kernel_rfl) (by kernel_rfl) (by kernel_rfl) (fun _ _ _ h => h) (Or.inl ⟨by rfl, ?_⟩) hHeld ?_
        rotate_left
        · (intro w' hSw; (try dsimp only at hSw); go_simp; try with_reducible rfl)
        simp only [List.getElem_toArray, List.getElem_cons_zero, List.getElem_cons_succ, Act.put, List.setIfInBounds_toArray, List.set_cons_zero, List.set_cons_succ]
        refine wpAnyH_ready (rs := [24]) (by kernel_rfl) (by simp) ?_
        refine AllReadyH.cons rfl (fun K hK => ?_) AllReadyH.nil
        go_simp
        refine (KQ.out _ hHeld.1).mono ?_
        rintro e s7 ⟨rfl, hb⟩
        refine hK.out _ _ (KE.out _ (holdC hHeld hb)) (fun hHeld => ?_)
        clear hK K hb
        refine wpAnyH_take (i := 25) (v := ?_) rfl (by kernel_rfl) (by kernel_rfl) (by kernel_rfl) (fun _ _ _ h => h) (Or.inl ⟨by rfl, ?_⟩) hHeld ?_
        rotate_left
        · (intro w' hSw; (try dsimp only at hSw); go_simp; try with_reducible rfl)
        simp only [List.getElem_toArray, List.getElem_cons_zero, List.getElem_cons_succ, Act.put, List.setIfInBounds_toArray, List.set_cons_zero, List.set_cons_succ]
        refine wpAnyH_take (i := 26) (v := ?_) rfl (by kernel_rfl) (by kernel_rfl) (by kernel_rfl) (fun _ _ _ h => h) (Or.inl ⟨by rfl, ?_⟩) hHeld ?_
        rotate_left
        · (intro w' hSw; (try dsimp only at hSw); go_simp; try with_reducible rfl)
        simp only [List.getElem_toArray, List.getElem_cons_zero, List.getElem_cons_succ, Act.put, List.setIfInBounds_toArray, List.set_cons_zero, List.set_cons_succ]
        refine wpAnyH_done (by kernel_rfl) ?_ _
        have GZ : Hid (Below u12.heap.size u12 _) := Lib.hid hHeld.1
        clear hHeld
        go_wp2_with fail
        go_ret
        exact ⟨rfl, G0.out.trans ((G.out.trans (GZ.out.mono G.out.size)).mono G0.out.size)⟩

set_option maxRecDepth 100000 in
theorem lifted (os : Os) (started : os.Started) (H : Type) (enc : TypeId × Value → H) :
    ReturnsInHanded {} Try.checked os 3 .any (Rows.orderAllSpec.pre6 enc Try.prog Try.f3 Rows.orderAllRow.domain false) (Rows.orderAllSpec.post enc Try.prog Try.f3 false true false false) := by
  refine returnsInHanded_of_change (C := Try.checked) own started (by kernel_rfl) Try.func3
    (ChangeSpec.witness6 (enc := enc) (C := Try.checked) false ⟨#[], #[.slice none 0 0, .slice none 0 0, .agg #[.int .i64 0, .int .i64 0, .slice none 0 0, .slice none 0 0]], []⟩ 8 (by kernel_rfl) (by kernel_rfl) (by kernel_rfl) (by kernel_rfl)) ?_
  intro W base args ds gs before hval0 hW hcnd _
  have hval : ∀ (j : Nat) t v, Try.f3.params[j]? = some t → args[j]? = some v → Value.okWide Try.prog W .any base t v := hval0
  have hW' := hW
  obtain ⟨p, q, hA0, hV, rfl, hfz, hnd⟩ := hW
  have hA : DataW.TrodAll enc Try.prog W 0 (fun _ => true) true Try.f3.params.toList args.toList ds p := hA0
  rw [Try.params3] at hA hval
  obtain ⟨v0, vs0, d0, ds0, p0, q0, hargs, rfl, rfl, h0, r0⟩ := trodAll_cons hA
  obtain ⟨v1, vs1, d1, ds1, p1, q1, rfl, rfl, rfl, h1, r1⟩ := trodAll_cons r0
  obtain ⟨v2, vs2, d2, ds2, p2, q2, rfl, rfl, rfl, h2, r2⟩ := trodAll_cons r1
  obtain ⟨rfl, rfl, rfl⟩ := trodAll_nil r2
  obtain rfl : args = #[v0, v1, v2] := by cases args; simp_all
  obtain ⟨rfl, rfl⟩ := trodVars_none hV
  obtain ⟨a0, len0, cap0, rfl⟩ := okWide_slice Try.underlying23 (hval 0 23 v0 rfl rfl)
  have k0 := h0
  have lt0 : ∀ x ∈ p0, x.block < W.heap.size := by obtain ⟨m, hm⟩ := k0; exact DataW.trod_lt m _ _ _ hm
  obtain ⟨z0, w0⟩ : ∃ zs, IsRow .i64 W a0 len0 cap0 zs := by
    obtain ⟨fuel, hf⟩ := h0
    rcases open_ints Try.underlying23 Try.underlying3 (by kernel_rfl) hf with ⟨hcs, _⟩ | ⟨x, l, c, zs, hcs, _, hl, hm, hz, _, hcell, hwz⟩
    · simp [Value.cells] at hcs
      obtain ⟨rfl, rfl, rfl⟩ := hcs
      exact ⟨[], .inl ⟨rfl, rfl, rfl, rfl⟩⟩
    · simp [Value.cells] at hcs
      obtain ⟨rfl, rfl, rfl⟩ := hcs
      exact ⟨zs, .inr ⟨_, rfl, hl, hm, by simpa using hz, hcell, hwz⟩⟩
  have k1 := h1
  have lt1 : ∀ x ∈ p1, x.block < W.heap.size := by obtain ⟨m, hm⟩ := k1; exact DataW.trod_lt m _ _ _ hm
  have w1 := open1 (hval 1 24 v1 rfl rfl) h1
  have k2 := h2
  have lt2 : ∀ x ∈ p2, x.block < W.heap.size := by obtain ⟨m, hm⟩ := k2; exact DataW.trod_lt m _ _ _ hm
  have w2 := open2 (hval 2 27 v2 rfl rfl) h2
  clear hA0 hval0
  refine (walk a0 len0 cap0 z0 v1 v2 W w0 w1 w2).mono fun e W' ⟨he, bel⟩ => ?_
  subst he
  exact ⟨_, rfl, _, _, _, [], _, [], hW', trodAll_mk1 (shut_bool Try.underlying4 _), (trodAll_cons_mk (Below.trod laidOut (by kernel_rfl) (of_decide_eq_true (by kernel_rfl)) k0 bel lt0) (trodAll_cons_mk (Below.trod laidOut (by kernel_rfl) (of_decide_eq_true (by kernel_rfl)) k1 bel lt1) (trodAll_cons_mk (Below.trod laidOut (by kernel_rfl) (of_decide_eq_true (by kernel_rfl)) k2 bel lt2) trodAll_mk0))), rfl, bel.frame _, fun h => by cases h⟩

theorem over : Rows.orderAllRow.holds Try.pinned (OpenSpec.ofChange Rows.orderAllSpec) :=
  OpenClaim.holds_of_wide 3 Try.f3 rfl rfl rfl rfl rfl rfl rfl ⟨rfl, rfl, rfl, rfl, rfl⟩ rfl rfl rfl rfl rfl (by kernel_rfl) Try.func3 (by kernel_rfl)
    (of_decide_eq_true (by kernel_rfl)) (by unfold Func.isWrapper; first | (rw [if_pos (by decide +kernel)]; kernel_rfl) | (rw [if_neg (by decide +kernel)]; exact ⟨rfl, rfl⟩))
    (fun os started H enc _ => lifted os started H enc)

/-- the given statement -/
theorem proved : Rows.OrderAllSaid := over
#print axioms proved
end Go.Proofs.Ytlpcpbangmonaaa.orderAll
