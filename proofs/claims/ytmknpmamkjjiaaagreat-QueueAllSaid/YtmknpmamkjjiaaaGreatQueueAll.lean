/-
  For any queue, any transaction, any vector and any number the law QueueAll answers true: any queue takes, and lets go of, what the document says; it stays as it is. No condition.
  (The frame was written by the guide's proof-skeleton.mjs, turned for queues; the walk is ours.)
-/
import Derived.Test.YtmknpmamkjjiaaaGreatRows
import Derived.WalkKit
import Derived.ProofKit
import Derived.OpenShut
import Derived.ShutString
import Derived.ChangeOld
import Derived.Below
import Derived.Test.YtmknpmamkjjiaaaGreatQuDPush
import Derived.Test.YtmknpmamkjjiaaaGreatTxIns
import Derived.Deep.RegionHeld3
import Derived.Deep.DeepCutAuto
import Derived.Deep.Cut
import Derived.JoinedOf
namespace Go.Proofs.YtmknpmamkjjiaaaGreat.queueAll
open Go.ChangeShapes Go.WideShapes Go.ChangeAt Go.RowKit
open Go.ChangeMaps (open_string shut_string)
set_option linter.unusedVariables false

theorem own : ownKnob Tryz.prog.godebug = none := by kernel_rfl
theorem laidOut : laidOutB Tryz.prog = true := by kernel_rfl

open Plain

set_option maxRecDepth 100000 in
theorem open0 {H : Type} {enc : TypeId × Value → H} {W : World} {r : Reach} {b : Nat} {v : Value} {d : DataW H} {p : List MemPlace} (hv : Value.okWide Tryz.prog W r b 24 v) (h : DataW.Trod enc Tryz.prog W 0 (fun _ => true) true 24 v d p) : IsQueueA W v := queue_of_trod hv h
set_option maxRecDepth 100000 in
theorem open1 {H : Type} {enc : TypeId × Value → H} {W : World} {r : Reach} {b : Nat} {v : Value} {d : DataW H} {p : List MemPlace} (hv : Value.okWide Tryz.prog W r b 29 v) (h : DataW.Trod enc Tryz.prog W 0 (fun _ => true) true 29 v d p) : IsTxnA W v := txn_of_trod hv h
set_option maxRecDepth 100000 in
set_option maxHeartbeats 64000000 in
theorem walk (v0 : Value) (v1 : Value) (a2 : Option Addr) (n2 : Nat) (c2 : Nat) (z2 : List Int) (mo : Int) (w : World) (w0 : IsQueueA w v0) (w1 : IsTxnA w v1) (w2 : IsRow .i64 w a2 n2 c2 z2) (w3 : (Lit.int .i64 mo).wf = true) :
    Calls Tryz.prog 3 #[v0, v1, .slice a2 n2 c2, .int .i64 mo] w fun e w' => e = .returned (.bool true) ∧ Below w.heap.size w w' := by
  obtain ⟨q, hq, hok⟩ := w0
  obtain ⟨t, ht, htok⟩ := w1
  obtain ⟨qa, qn, qk, hv0, hn, hs⟩ := hq.parts
  obtain ⟨ta, tn, tc, ea, en, ec, hv1, k1, k2⟩ := ht.parts
  subst hv0 hv1
  have hb := (Below.refl w.heap.size w).alloc (Nat.le_refl _) (.cells #[.int .i64 q.most, .slice qa qn qk] 24)
  have hb2 := (Below.refl (w.alloc (.cells #[.int .i64 q.most, .slice qa qn qk] 24)).heap.size (w.alloc (.cells #[.int .i64 q.most, .slice qa qn qk] 24))).alloc (Nat.le_refl _) (.cells #[.int .i64 t.node, .int .i64 t.seq, .slice ta tn tc, .slice ea en ec] 29)
  have ZA : (w.alloc (.cells #[.int .i64 q.most, .slice qa qn qk] 24)).heap.size = w.heap.size + 1 := by simp
  obtain ⟨x2, s2, l2, -⟩ := row_seqI w2
  have VB := Lib.hid ((quvar_new hq).below hb2)
  have TB0 := txbox_new (k1.below hb) (k2.below hb)
  rw [ZA] at TB0
  have TB := Lib.hid TB0
  have S2 := Lib.hid ((s2.below hb).below hb2)
  have L2 := Lib.hid l2
  have OK := Lib.hid hok
  have OT := Lib.hid htok
  have HN := Lib.hid hn
  have G := Lib.hid (hb.trans (hb2.mono hb.size))
  have HD := SeqE.dims (L := LTxn) hs
  have hq1 : (qn : Int) ≤ qk := by have := HD.2; omega
  have hq2 : (qk : Int) ≤ 9223372036854775807 := by have := HD.2; omega
  clear hq hok ht htok hn hs hb hb2 ZA TB0 w2 w3 s2 l2 k1 k2 HD
  go_enter Tryz.func3, Tryz.ntmps3
  go_upto_region 1 with fail
  generalize ((w.alloc (.cells #[.int .i64 q.most, .slice qa qn qk] 24)).alloc (.cells #[.int .i64 t.node, .int .i64 t.seq, .slice ta tn tc, .slice ea en ec] 29)) = wB at *
  generalize hg0 : w.heap.size = g0 at VB TB ⊢
  go_wp2_with fail
  refine (Lib.hid (quawake_any _)).out.mono ?_
  rintro e u1 ⟨rfl, hb⟩

  replace VB := Lib.hid (VB.out.below hb)
  replace TB := Lib.hid (TB.out.below hb)
  replace S2 := Lib.hid (S2.out.below hb)
  replace G := Lib.hid (G.out.trans (hb.mono G.out.size))
  clear hb 
  obtain ⟨sa, hsa⟩ : ∃ b, shortTx q.list = b := ⟨_, rfl⟩
  have HSA := Lib.hid hsa
  obtain ⟨sb, hsb⟩ : ∃ b, shortTx [t] = b := ⟨_, rfl⟩
  have HSB := Lib.hid hsb
  have KA := Lib.hid (rshortTx_any (show SeqE LTxn u1 (.slice qa qn qk) q.list from VB.out.sq.mono fun b h => h.1) sa hsa)
  clear hsa hsb
  obtain ⟨⟨x0, x1⟩, -⟩ := VB.out.box.c
  cases sa with
  | false =>
    go_wp2_with fail
    refine KA.out.mono ?_
    rintro e u2 ⟨rfl, hb⟩

    replace VB := Lib.hid (VB.out.below hb)
    replace TB := Lib.hid (TB.out.below hb)
    replace S2 := Lib.hid (S2.out.below hb)
    replace G := Lib.hid (G.out.trans (hb.mono G.out.size))
    clear hb KA x0 x1
    go_wp2_with fail
    go_ret
    first | exact ⟨rfl, G.out⟩ | exact ⟨rfl, hg0 ▸ G.out⟩
  | true =>
  have FQ := Lib.hid (qfit_of HSA.out OK.out)
  obtain ⟨y0, y1, y2, y3⟩ := TB.out.c
  go_upto_region 3 with fail
  go_wp2_with fail
  refine KA.out.mono ?_
  rintro e u2 ⟨rfl, hb⟩
  replace VB := Lib.hid (VB.out.below hb)
  replace TB := Lib.hid (TB.out.below hb)
  replace S2 := Lib.hid (S2.out.below hb)
  replace G := Lib.hid (G.out.trans (hb.mono G.out.size))
  clear hb KA x0 x1 y0 y1 y2 y3
  obtain ⟨y0, y1, y2, y3⟩ := TB.out.c
  have hbT := (Below.refl u2.heap.size u2).alloc (Nat.le_refl _) (.cells #[.int .i64 t.node, .int .i64 t.seq, .slice ta tn tc, .slice ea en ec] 29)
  have KB := Lib.hid (rshortTx_any (one_txn TB.out.d TB.out.e) sb HSB.out)
  replace VB := Lib.hid (VB.out.below hbT)
  replace TB := Lib.hid (TB.out.below hbT)
  replace S2 := Lib.hid (S2.out.below hbT)
  replace G := Lib.hid (G.out.trans (hbT.mono G.out.size))
  clear hbT
  go_wp2_with fail
  generalize (u2.alloc (.cells #[.int .i64 t.node, .int .i64 t.seq, .slice ta tn tc, .slice ea en ec] 29)) = u2b at *
  clear y0 y1 y2 y3
  cases sb with
  | false =>
    refine KB.out.mono ?_
    rintro e u3 ⟨rfl, hb⟩
    replace VB := Lib.hid (VB.out.below hb)
    replace TB := Lib.hid (TB.out.below hb)
    replace S2 := Lib.hid (S2.out.below hb)
    replace G := Lib.hid (G.out.trans (hb.mono G.out.size))
    clear hb KB
    go_wp2_with fail
    go_ret
    first | exact ⟨rfl, G.out⟩ | exact ⟨rfl, hg0 ▸ G.out⟩
  | true =>
  have FT := Lib.hid (fitTx_of HSB.out OT.out)
  by_cases h60 : 60 < n2
  · have i60 : (60 : Int) < (n2 : Int) := by omega
    refine KB.out.mono ?_
    rintro e u3 ⟨rfl, hb⟩
    replace VB := Lib.hid (VB.out.below hb)
    replace TB := Lib.hid (TB.out.below hb)
    replace S2 := Lib.hid (S2.out.below hb)
    replace G := Lib.hid (G.out.trans (hb.mono G.out.size))
    clear hb KB
    go_wp2_with fail
    go_ret
    first | exact ⟨rfl, G.out⟩ | exact ⟨rfl, hg0 ▸ G.out⟩
  have i60 : ¬ (60 : Int) < (n2 : Int) := by omega
  refine KB.out.mono ?_
  rintro e u3 ⟨rfl, hb⟩
  replace VB := Lib.hid (VB.out.below hb)
  replace TB := Lib.hid (TB.out.below hb)
  replace S2 := Lib.hid (S2.out.below hb)
  replace G := Lib.hid (G.out.trans (hb.mono G.out.size))
  clear hb KB h60
  go_upto_region 5 with fail
  go_cut [9] (fun s9 wx => ∃ (nb : Nat) (ma : Option Addr) (mk : Nat), s9 = .pointer (some ⟨nb, 0, none⟩) ∧ Below u3.heap.size u3 wx ∧ QuVar nb q ma qn mk wx)
  case first =>
    have KE : Hid (∀ u, Below u3.heap.size u3 u → Below u3.heap.size u3 u ∧ (u.cell? ⟨g0, 0, none⟩ = some (.int .i64 q.most) ∧ u.cell? ⟨g0, 1, none⟩ = some (.slice qa qn qk))) := Lib.hid (fun u hb => ⟨hb, (VB.out.below hb).box.c.1⟩)
    have KC := Lib.hid (fun u (hb : Below u3.heap.size u3 u) => rcopyTx_any (v := .slice qa qn qk) (xs := q.list) ((VB.out.below hb).sq.mono fun b h => h.1) (by have := FQ.out.len; omega) (FitTx.aloneQ FQ.out.fit))
    refine wp_region_held_drew (S := fun u' => Below u3.heap.size u3 u' ∧ (u'.cell? ⟨g0, 0, none⟩ = some (.int .i64 q.most) ∧ u'.cell? ⟨g0, 1, none⟩ = some (.slice qa qn qk))) (by kernel_rfl) ?_ (fun hHeld => ?_)
    · (exact KE.out _ (Below.refl _ _).drew)
    simp only [List.size_toArray, List.length_cons, List.length_nil, Nat.zero_add, Nat.reduceAdd]
    refine wpAnyH_take (i := 0) (v := ?_) rfl (by kernel_rfl) (by kernel_rfl) (by kernel_rfl) (fun _ _ _ h => h) (Or.inl ⟨by rfl, ?_⟩) hHeld ?_
    rotate_left
    · (intro w' hSw; (try dsimp only at hSw); go_simp; try with_reducible rfl)
    simp only [List.getElem_toArray, List.getElem_cons_zero, Act.put, List.setIfInBounds_toArray, List.set_cons_zero, List.set_cons_succ]
    refine wpAnyH_take (i := 1) (v := ?_) rfl (by kernel_rfl) (by kernel_rfl) (by kernel_rfl) (fun _ _ _ h => h) (Or.inl ⟨by rfl, ?_⟩) hHeld ?_
    rotate_left
    · (intro w' hSw; (try dsimp only at hSw); go_simp; try with_reducible rfl)
    simp only [List.getElem_toArray, List.getElem_cons_zero, List.getElem_cons_succ, Act.put, List.setIfInBounds_toArray, List.set_cons_zero, List.set_cons_succ]
    refine wpAnyH_take (i := 2) (v := ?_) rfl (by kernel_rfl) (by kernel_rfl) (by kernel_rfl) (fun _ _ _ h => h) (Or.inl ⟨by rfl, ?_⟩) hHeld ?_
    rotate_left
    · (intro w' hSw; (try dsimp only at hSw); go_simp; try with_reducible rfl)
    simp only [List.getElem_toArray, List.getElem_cons_zero, List.getElem_cons_succ, Act.put, List.setIfInBounds_toArray, List.set_cons_zero, List.set_cons_succ]
    refine wpAnyH_take (i := 3) (v := ?_) rfl (by kernel_rfl) (by kernel_rfl) (by kernel_rfl) (fun _ _ _ h => h) (Or.inl ⟨by rfl, ?_⟩) hHeld ?_
    rotate_left
    · (intro w' hSw; (try dsimp only at hSw); go_simp; try with_reducible rfl)
    simp only [List.getElem_toArray, List.getElem_cons_zero, List.getElem_cons_succ, Act.put, List.setIfInBounds_toArray, List.set_cons_zero, List.set_cons_succ]
    refine wpAnyH_ready (rs := [4, 6]) (by kernel_rfl) (by simp) ?_
    refine AllReadyH.cons rfl (fun K hK => ?_) (AllReadyH.cons rfl (fun K hK => ?_) AllReadyH.nil)
    · skip
      go_simp
      have BH := Lib.hid hHeld.1
      refine (KC.out _ hHeld.1).mono ?_
      rintro e s1 ⟨cv, rfl, ho, hb⟩
      obtain ⟨a5, c5, rfl, -, -, ho⟩ := ho.at qn HN.out
      have O5 := Lib.hid ho
      have B1 := Lib.hid (BH.out.trans (hb.mono BH.out.size))
      clear ho hb BH KC
      have B0L := Lib.hid B1.out.size
      refine hK.out _ _ (KE.out _ B1.out) (fun hHeld => ?_)
      clear hK K
      refine wpAnyH_take (i := 5) (v := ?_) rfl (by kernel_rfl) (by kernel_rfl) (by kernel_rfl) (fun _ _ _ h => h) (Or.inl ⟨by rfl, ?_⟩) hHeld ?_
      rotate_left
      · (intro w' hSw; (try dsimp only at hSw); go_simp; try with_reducible rfl)
      simp only [List.getElem_toArray, List.getElem_cons_zero, List.getElem_cons_succ, Act.put, List.setIfInBounds_toArray, List.set_cons_zero, List.set_cons_succ]
      refine wpAnyH_ready (rs := [6]) (by kernel_rfl) (by simp) ?_
      refine AllReadyH.cons rfl (fun K hK => ?_) AllReadyH.nil
      go_simp
      have hb := (Below.refl s1.heap.size s1).alloc (Nat.le_refl _) (.cells #[.int .i64 0, .slice none 0 0] 24)
      have XB := Lib.hid (qubox_new s1 0 none 0 0)
      have O6 := Lib.hid (O5.out.below hb (Nat.le_refl _))
      have OL := Lib.hid (fun b (h : b < s1.heap.size) => Nat.ne_of_lt h)
      replace B1 := Lib.hid (B1.out.trans (hb.mono B1.out.size))
      have SS := Lib.hid ((Sq.agree (O5.out.newSq) fun b h => hb.block b h.2).mono fun b h => (⟨Nat.lt_of_lt_of_le h.2 hb.size, Nat.ne_of_lt h.2⟩ : b < _ ∧ b ≠ s1.heap.size))
      clear hb O5 O6 OL
      refine hK.out _ _ (KE.out _ B1.out) (fun hHeld => ?_)
      clear hK K
      have NBL : Hid (u3.heap.size ≤ s1.heap.size) := Lib.hid B0L.out
      generalize s1.heap.size = nb at *
      generalize (s1.alloc (.cells #[.int .i64 0, .slice none 0 0] 24)) = s2 at *
      obtain ⟨⟨y0, y1⟩, f0, f1⟩ := XB.out.c
      have VM := Lib.hid (QuVar.put (q := ⟨0, []⟩) (q' := q) ⟨XB.out, rfl, sqNil _ _⟩ HN.out SS.out)
      skip
      have BZ : Hid (Below u3.heap.size u3 ((s2.setCell ⟨nb, 0, none⟩ (.int .i64 q.most)).setCell ⟨nb, 1, none⟩ (.slice a5 qn c5))) := Lib.hid ((B1.out.setCell NBL.out _).setCell NBL.out _)
      refine wpAnyH_ready (rs := [7]) (by kernel_rfl) (by simp) ?_
      refine AllReadyH.cons rfl (fun K hK => ?_) AllReadyH.nil
      go_simp
      refine hK.out _ _ (KE.out _ BZ.out) (fun hHeld => ?_)
      clear hK K
      refine wpAnyH_done (by kernel_rfl) ?_ _
      clear hHeld
      go_wp2_with fail
      go_meet
      exact ⟨_, _, _, rfl, BZ.out, VM.out⟩
    · skip
      go_simp
      have XB0 : Hid (QuBox u3.heap.size 0 none 0 0 (u3.alloc (.cells #[.int .i64 0, .slice none 0 0] 24)).drew) := Lib.hid ⟨(qubox_new u3 0 none 0 0).b⟩
      have B0 : Hid (Below u3.heap.size u3 (u3.alloc (.cells #[.int .i64 0, .slice none 0 0] 24)).drew) := Lib.hid (((Below.refl _ _).alloc (Nat.le_refl _) _).trans ((Below.refl _ _).drew.mono (show u3.heap.size ≤ (u3.alloc (.cells #[.int .i64 0, .slice none 0 0] 24)).heap.size by simp)))
      refine hK.out _ _ (KE.out _ B0.out) (fun hHeld => ?_)
      clear hK K B0
      generalize (u3.alloc (.cells #[.int .i64 0, .slice none 0 0] 24)).drew = s0 at *
      have NBL : Hid (u3.heap.size ≤ u3.heap.size) := Lib.hid (Nat.le_refl _)
      refine wpAnyH_ready (rs := [4]) (by kernel_rfl) (by simp) ?_
      refine AllReadyH.cons rfl (fun K hK => ?_) AllReadyH.nil
      go_simp
      have BH := Lib.hid hHeld.1
      refine (KC.out _ hHeld.1).mono ?_
      rintro e s1 ⟨cv, rfl, ho, hb⟩
      obtain ⟨a5, c5, rfl, -, -, ho⟩ := ho.at qn HN.out
      have O5 := Lib.hid ho
      have XB := Lib.hid (QuBox.below XB0.out hb)
      have ON := Lib.hid (fun b (h : _ ≤ b) => Nat.lt_of_lt_of_le XB0.out.lt h)
      clear XB0
      have B1 := Lib.hid (BH.out.trans (hb.mono BH.out.size))
      clear ho hb BH KC
      refine hK.out _ _ (KE.out _ B1.out) (fun hHeld => ?_)
      clear hK K
      refine wpAnyH_take (i := 5) (v := ?_) rfl (by kernel_rfl) (by kernel_rfl) (by kernel_rfl) (fun _ _ _ h => h) (Or.inl ⟨by rfl, ?_⟩) hHeld ?_
      rotate_left
      · (intro w' hSw; (try dsimp only at hSw); go_simp; try with_reducible rfl)
      simp only [List.getElem_toArray, List.getElem_cons_zero, List.getElem_cons_succ, Act.put, List.setIfInBounds_toArray, List.set_cons_zero, List.set_cons_succ]
      have SS := Lib.hid ((O5.out.newSq).mono fun b h => (⟨h.2, fun e => by have := ON.out b h.1; omega⟩ : b < s1.heap.size ∧ b ≠ u3.heap.size))
      clear O5 ON
      obtain ⟨⟨y0, y1⟩, f0, f1⟩ := XB.out.c
      have VM := Lib.hid (QuVar.put (q := ⟨0, []⟩) (q' := q) ⟨XB.out, rfl, sqNil _ _⟩ HN.out SS.out)
      skip
      have BZ : Hid (Below u3.heap.size u3 ((s1.setCell ⟨u3.heap.size, 0, none⟩ (.int .i64 q.most)).setCell ⟨u3.heap.size, 1, none⟩ (.slice a5 qn c5))) := Lib.hid ((B1.out.setCell NBL.out _).setCell NBL.out _)
      refine wpAnyH_ready (rs := [7]) (by kernel_rfl) (by simp) ?_
      refine AllReadyH.cons rfl (fun K hK => ?_) AllReadyH.nil
      go_simp
      refine hK.out _ _ (KE.out _ BZ.out) (fun hHeld => ?_)
      clear hK K
      refine wpAnyH_done (by kernel_rfl) ?_ _
      clear hHeld
      go_wp2_with fail
      go_meet
      exact ⟨_, _, _, rfl, BZ.out, VM.out⟩
  case rest =>
  obtain ⟨nb, ma, mk, rfl, hb, hVM⟩ := hcut
  have VM := Lib.hid hVM
  replace VB := Lib.hid (VB.out.below hb)
  replace TB := Lib.hid (TB.out.below hb)
  replace S2 := Lib.hid (S2.out.below hb)
  replace G := Lib.hid (G.out.trans (hb.mono G.out.size))
  clear hb hVM
  have KN := Lib.hid (qunew_any mo wc)
  go_upto_region 7 with (go_at_call 7; refine KN.out.mono ?_; rintro e u5 ⟨na, nn, nc, rfl, hnn, ho, hb⟩; have NQ0 := Lib.hid (show IsQueue u5 (.agg #[.int .i64 (qNew mo).most, .slice na nn nc]) (qNew mo) from ⟨na, nn, nc, rfl, hnn.symm, ho.newSq.mono fun b h => h.2⟩); have B5 := Lib.hid hb; clear hnn ho hb KN)
  have hbn := (Below.refl u5.heap.size u5).alloc (Nat.le_refl _) (.cells #[.int .i64 (qNew mo).most, .slice na nn nc] 24)
  have NQ := Lib.hid (quvar_new NQ0.out)
  have hb := B5.out
  replace VB := Lib.hid (VB.out.below hb)
  replace TB := Lib.hid (TB.out.below hb)
  replace S2 := Lib.hid (S2.out.below hb)
  replace VM := Lib.hid (VM.out.below hb)
  replace G := Lib.hid (G.out.trans (hb.mono G.out.size))
  replace VB := Lib.hid (VB.out.below hbn)
  replace TB := Lib.hid (TB.out.below hbn)
  replace S2 := Lib.hid (S2.out.below hbn)
  replace VM := Lib.hid (VM.out.below hbn)
  replace G := Lib.hid (G.out.trans (hbn.mono G.out.size))
  clear hb hbn B5 NQ0
  generalize (u5.alloc (.cells #[.int .i64 (qNew mo).most, .slice na nn nc] 24)) = u6 at *
  generalize u5.heap.size = g5 at *
  go_cut [50] (fun s50 wx => s50 = .bool (qBad mo) ∧ wx = u6)
  case first =>
    by_cases hm0 : mo < 0
    · have hq : qBad mo = true := by unfold qBad; simp [hm0]
      go_wp2_with fail
      go_meet
      exact ⟨by rw [hq], rfl⟩
    · by_cases hm1 : 16 < mo
      · have hq : qBad mo = true := by unfold qBad; simp [hm1]
        go_wp2_with fail
        go_meet
        exact ⟨by rw [hq], rfl⟩
      · have hq : qBad mo = false := by unfold qBad; simp [hm0, hm1]
        go_wp2_with fail
        go_meet
        exact ⟨by rw [hq], rfl⟩
  case rest =>
  obtain ⟨rfl, rfl⟩ := hcut
  have HB := Lib.hid (fun h => qNew_bad (m := mo) h)
  obtain ⟨bd, hbd⟩ : ∃ b, qBad mo = b := ⟨_, rfl⟩
  have HBD := Lib.hid hbd
  rw [hbd]
  clear hbd
  obtain ⟨⟨x0, x1⟩, -⟩ := NQ.out.box.c
  go_upto_if 50 with fail
  go_cut [] (fun wy => Below wc.heap.size wc wy)
  case first =>
    cases bd with
    | true =>
      have hE : qNew mo = ⟨0, []⟩ ∧ qNewErr mo = 1 := by unfold qNew qNewErr; rw [HBD.out]; exact ⟨rfl, rfl⟩
      have bne : (qNewErr mo != 1) = false := by rw [hE.2]; decide
      have KS := Lib.hid (qusame_any NQ.out.is (v := .agg #[.int .i64 0, .slice none 0 0]) (by rw [hE.1]; exact IsQuIn.nil _ _) (by rw [hE.1]; simp))
      clear hE
      go_wp2_with fail
      refine KS.out.mono ?_
      rintro e u7 ⟨rfl, hb⟩
      have BX := Lib.hid hb
      clear hb KS x0 x1
      go_wp2_with fail
      go_meet
      exact BX.out
    | false =>
      have hE : qNew mo = ⟨mo, []⟩ ∧ qNewErr mo = 0 := by unfold qNew qNewErr; rw [HBD.out]; exact ⟨rfl, rfl⟩
      have bne : (qNewErr mo != 0) = false := by rw [hE.2]; decide
      have KS := Lib.hid (qusame_any NQ.out.is (v := .agg #[.int .i64 mo, .slice none 0 0]) (by rw [hE.1]; exact IsQuIn.nil _ _) (by rw [hE.1]; simp))
      clear hE
      go_wp2_with fail
      refine KS.out.mono ?_
      rintro e u7 ⟨rfl, hb⟩
      have BX := Lib.hid hb
      clear hb KS x0 x1
      go_wp2_with fail
      go_meet
      exact BX.out
  case rest =>
  replace VB := Lib.hid (VB.out.below hcut)
  replace TB := Lib.hid (TB.out.below hcut)
  replace S2 := Lib.hid (S2.out.below hcut)
  replace VM := Lib.hid (VM.out.below hcut)
  replace G := Lib.hid (G.out.trans (hcut.mono G.out.size))
  clear hcut x0 x1 NQ HB HBD
  generalize qg : g0 + 1 = g1 at *
  have KP := Lib.hid (qupush_any VM.out.is TB.out.is (by have := FQ.out.len; omega) FQ.out.fit FT.out)
  obtain ⟨⟨x0, x1⟩, -⟩ := VM.out.box.c
  obtain ⟨y0, y1, y2, y3⟩ := TB.out.c
  go_wp2_with fail
  refine KP.out.mono ?_
  rintro e u8 ⟨pa, pn, pc, rfl, hpn, ho, hb⟩
  have hbn := (Below.refl u8.heap.size u8).alloc (Nat.le_refl _) (.cells #[.int .i64 (qPush q t).most, .slice pa pn pc] 24)
  have PV := Lib.hid (quvar_new (w := u8) (q := qPush q t) (a := pa) (n := pn) (c := pc) ⟨pa, pn, pc, rfl, hpn.symm, ho.newSq.mono fun b h => h.2⟩)
  replace VB := Lib.hid (VB.out.below hb)
  replace TB := Lib.hid (TB.out.below hb)
  replace S2 := Lib.hid (S2.out.below hb)
  replace VM := Lib.hid (VM.out.below hb)
  replace G := Lib.hid (G.out.trans (hb.mono G.out.size))
  replace VB := Lib.hid (VB.out.below hbn)
  replace TB := Lib.hid (TB.out.below hbn)
  replace S2 := Lib.hid (S2.out.below hbn)
  replace VM := Lib.hid (VM.out.below hbn)
  replace G := Lib.hid (G.out.trans (hbn.mono G.out.size))
  clear hb hbn ho hpn KP x0 x1 y0 y1 y2 y3
  go_upto_region 13 with fail
  generalize (u8.alloc (.cells #[.int .i64 (qPush q t).most, .slice pa pn pc] 24)) = u9 at *
  generalize u8.heap.size = g8 at *
  have KR := Lib.hid (rqpush_any VB.out.is TB.out.is (by have := FQ.out.len; omega) FQ.out.fit FT.out)
  obtain ⟨⟨x0, x1⟩, -⟩ := VB.out.box.c
  obtain ⟨y0, y1, y2, y3⟩ := TB.out.c
  go_wp2_with fail
  refine KR.out.mono ?_
  rintro e u10 ⟨rv, rfl, hr, hb⟩
  obtain ⟨ra, rn, rc, rfl, -, -⟩ := hr.parts
  have hbn := (Below.refl u10.heap.size u10).alloc (Nat.le_refl _) (.cells #[.int .i64 (qPush q t).most, .slice ra rn rc] 24)
  have RV := Lib.hid (quvar_new hr)
  replace VB := Lib.hid (VB.out.below hb)
  replace TB := Lib.hid (TB.out.below hb)
  replace S2 := Lib.hid (S2.out.below hb)
  replace VM := Lib.hid (VM.out.below hb)
  replace PV := Lib.hid (PV.out.below hb)
  replace G := Lib.hid (G.out.trans (hb.mono G.out.size))
  replace VB := Lib.hid (VB.out.below hbn)
  replace TB := Lib.hid (TB.out.below hbn)
  replace S2 := Lib.hid (S2.out.below hbn)
  replace VM := Lib.hid (VM.out.below hbn)
  replace PV := Lib.hid (PV.out.below hbn)
  replace G := Lib.hid (G.out.trans (hbn.mono G.out.size))
  clear hb hbn hr KR x0 x1 y0 y1 y2 y3
  go_upto_region 14 with fail
  generalize (u10.alloc (.cells #[.int .i64 (qPush q t).most, .slice ra rn rc] 24)) = u11 at *
  generalize u10.heap.size = g10 at *
  have bne : (qErr q t != qErr q t) = false := by simp
  have KE : Hid (∀ u, Below u11.heap.size u11 u → Below u11.heap.size u11 u ∧ (u.cell? ⟨g0, 0, none⟩ = some (.int .i64 q.most) ∧ u.cell? ⟨g0, 1, none⟩ = some (.slice qa qn qk)) ∧ (u.cell? ⟨nb, 0, none⟩ = some (.int .i64 q.most) ∧ u.cell? ⟨nb, 1, none⟩ = some (.slice ma qn mk)) ∧ (u.cell? ⟨g8, 0, none⟩ = some (.int .i64 (qPush q t).most) ∧ u.cell? ⟨g8, 1, none⟩ = some (.slice pa pn pc)) ∧ u.cell? ⟨g10, 0, none⟩ = some (.int .i64 (qPush q t).most) ∧ u.cell? ⟨g10, 1, none⟩ = some (.slice ra rn rc)) := Lib.hid (fun u hb => ⟨hb, (VB.out.below hb).box.c.1, (VM.out.below hb).box.c.1, (PV.out.below hb).box.c.1, (RV.out.below hb).box.c.1⟩)
  have QL : Hid ((qPush q t).list.length ≤ 1000000) := Lib.hid (by have := FQ.out.len; unfold qPush; split; (rw [List.length_append]; simp; omega); simp)
  go_cut [98] (fun s98 wx => s98 = .bool false ∧ Below u11.heap.size u11 wx)
  case first =>
    refine wp_region_held_drew (S := fun u' => Below u11.heap.size u11 u' ∧ (u'.cell? ⟨g0, 0, none⟩ = some (.int .i64 q.most) ∧ u'.cell? ⟨g0, 1, none⟩ = some (.slice qa qn qk)) ∧ (u'.cell? ⟨nb, 0, none⟩ = some (.int .i64 q.most) ∧ u'.cell? ⟨nb, 1, none⟩ = some (.slice ma qn mk)) ∧ (u'.cell? ⟨g8, 0, none⟩ = some (.int .i64 (qPush q t).most) ∧ u'.cell? ⟨g8, 1, none⟩ = some (.slice pa pn pc)) ∧ u'.cell? ⟨g10, 0, none⟩ = some (.int .i64 (qPush q t).most) ∧ u'.cell? ⟨g10, 1, none⟩ = some (.slice ra rn rc)) (by kernel_rfl) ?_ (fun hHeld => ?_)
    · (exact KE.out _ (Below.refl _ _).drew)
    simp only [List.size_toArray, List.length_cons, List.length_nil, Nat.zero_add, Nat.reduceAdd]
    refine wpAnyH_take (i := 0) (v := ?_) rfl (by kernel_rfl) (by kernel_rfl) (by kernel_rfl) (fun _ _ _ h => h) (Or.inl ⟨by rfl, ?_⟩) hHeld ?_
    rotate_left
    · (intro w' hSw; (try dsimp only at hSw); go_simp; try with_reducible rfl)
    simp only [List.getElem_toArray, List.getElem_cons_zero, Act.put, List.setIfInBounds_toArray, List.set_cons_zero, List.set_cons_succ]
    refine wpAnyH_take (i := 1) (v := ?_) rfl (by kernel_rfl) (by kernel_rfl) (by kernel_rfl) (fun _ _ _ h => h) (Or.inl ⟨by rfl, ?_⟩) hHeld ?_
    rotate_left
    · (intro w' hSw; (try dsimp only at hSw); go_simp; try with_reducible rfl)
    simp only [List.getElem_toArray, List.getElem_cons_zero, List.getElem_cons_succ, Act.put, List.setIfInBounds_toArray, List.set_cons_zero, List.set_cons_succ]
    refine wpAnyH_take (i := 2) (v := ?_) rfl (by kernel_rfl) (by kernel_rfl) (by kernel_rfl) (fun _ _ _ h => h) (Or.inl ⟨by rfl, ?_⟩) hHeld ?_
    rotate_left
    · (intro w' hSw; (try dsimp only at hSw); go_simp; try with_reducible rfl)
    simp only [List.getElem_toArray, List.getElem_cons_zero, List.getElem_cons_succ, Act.put, List.setIfInBounds_toArray, List.set_cons_zero, List.set_cons_succ]
    refine wpAnyH_take (i := 3) (v := ?_) rfl (by kernel_rfl) (by kernel_rfl) (by kernel_rfl) (fun _ _ _ h => h) (Or.inl ⟨by rfl, ?_⟩) hHeld ?_
    rotate_left
    · (intro w' hSw; (try dsimp only at hSw); go_simp; try with_reducible rfl)
    simp only [List.getElem_toArray, List.getElem_cons_zero, List.getElem_cons_succ, Act.put, List.setIfInBounds_toArray, List.set_cons_zero, List.set_cons_succ]
    refine wpAnyH_take (i := 4) (v := ?_) rfl (by kernel_rfl) (by kernel_rfl) (by kernel_rfl) (fun _ _ _ h => h) (Or.inl ⟨by rfl, ?_⟩) hHeld ?_
    rotate_left
    · (intro w' hSw; (try dsimp only at hSw); go_simp; try with_reducible rfl)
    simp only [List.getElem_toArray, List.getElem_cons_zero, List.getElem_cons_succ, Act.put, List.setIfInBounds_toArray, List.set_cons_zero, List.set_cons_succ]
    refine wpAnyH_take (i := 5) (v := ?_) rfl (by kernel_rfl) (by kernel_rfl) (by kernel_rfl) (fun _ _ _ h => h) (Or.inl ⟨by rfl, ?_⟩) hHeld ?_
    rotate_left
    · (intro w' hSw; (try dsimp only at hSw); go_simp; try with_reducible rfl)
    simp only [List.getElem_toArray, List.getElem_cons_zero, List.getElem_cons_succ, Act.put, List.setIfInBounds_toArray, List.set_cons_zero, List.set_cons_succ]
    have K6 := Lib.hid (qusame_any (PV.out.below hHeld.1).is (RV.out.below hHeld.1).is QL.out)
    refine wpAnyH_ready (rs := [6]) (by kernel_rfl) (by simp) ?_
    refine AllReadyH.cons rfl (fun K hK => ?_) AllReadyH.nil
    go_simp
    refine (K6.out).mono ?_
    rintro e s1 ⟨rfl, hb⟩
    clear K6
    refine hK.out _ _ (KE.out _ (holdC hHeld hb)) (fun hHeld => ?_)
    clear hK K hb
    refine wpAnyH_take (i := 7) (v := ?_) rfl (by kernel_rfl) (by kernel_rfl) (by kernel_rfl) (fun _ _ _ h => h) (Or.inl ⟨by rfl, ?_⟩) hHeld ?_
    rotate_left
    · (intro w' hSw; (try dsimp only at hSw); go_simp; try with_reducible rfl)
    simp only [List.getElem_toArray, List.getElem_cons_zero, List.getElem_cons_succ, Act.put, List.setIfInBounds_toArray, List.set_cons_zero, List.set_cons_succ]
    refine wpAnyH_take (i := 8) (v := ?_) rfl (by kernel_rfl) (by kernel_rfl) (by kernel_rfl) (fun _ _ _ h => h) (Or.inl ⟨by rfl, ?_⟩) hHeld ?_
    rotate_left
    · (intro w' hSw; (try dsimp only at hSw); go_simp; try with_reducible rfl)
    simp only [List.getElem_toArray, List.getElem_cons_zero, List.getElem_cons_succ, Act.put, List.setIfInBounds_toArray, List.set_cons_zero, List.set_cons_succ]
    refine wpAnyH_take (i := 9) (v := ?_) rfl (by kernel_rfl) (by kernel_rfl) (by kernel_rfl) (fun _ _ _ h => h) (Or.inl ⟨by rfl, ?_⟩) hHeld ?_
    rotate_left
    · (intro w' hSw; (try dsimp only at hSw); go_simp; try with_reducible rfl)
    simp only [List.getElem_toArray, List.getElem_cons_zero, List.getElem_cons_succ, Act.put, List.setIfInBounds_toArray, List.set_cons_zero, List.set_cons_succ]
    refine wpAnyH_take (i := 10) (v := ?_) rfl (by kernel_rfl) (by kernel_rfl) (by kernel_rfl) (fun _ _ _ h => h) (Or.inl ⟨by rfl, ?_⟩) hHeld ?_
    rotate_left
    · (intro w' hSw; (try dsimp only at hSw); go_simp; try with_reducible rfl)
    simp only [List.getElem_toArray, List.getElem_cons_zero, List.getElem_cons_succ, Act.put, List.setIfInBounds_toArray, List.set_cons_zero, List.set_cons_succ]
    refine wpAnyH_take (i := 11) (v := ?_) rfl (by kernel_rfl) (by kernel_rfl) (by kernel_rfl) (fun _ _ _ h => h) (Or.inl ⟨by rfl, ?_⟩) hHeld ?_
    rotate_left
    · (intro w' hSw; (try dsimp only at hSw); go_simp; try with_reducible rfl)
    simp only [List.getElem_toArray, List.getElem_cons_zero, List.getElem_cons_succ, Act.put, List.setIfInBounds_toArray, List.set_cons_zero, List.set_cons_succ]
    refine wpAnyH_take (i := 13) (v := ?_) rfl (by kernel_rfl) (by kernel_rfl) (by kernel_rfl) (fun _ _ _ h => h) (Or.inl ⟨by rfl, ?_⟩) hHeld ?_
    rotate_left
    · (intro w' hSw; (try dsimp only at hSw); go_simp; try with_reducible rfl)
    simp only [List.getElem_toArray, List.getElem_cons_zero, List.getElem_cons_succ, Act.put, List.setIfInBounds_toArray, List.set_cons_zero, List.set_cons_succ]
    refine wpAnyH_take (i := 14) (v := ?_) rfl (by kernel_rfl) (by kernel_rfl) (by kernel_rfl) (fun _ _ _ h => h) (Or.inl ⟨by rfl, ?_⟩) hHeld ?_
    rotate_left
    · (intro w' hSw; (try dsimp only at hSw); go_simp; try with_reducible rfl)
    simp only [List.getElem_toArray, List.getElem_cons_zero, List.getElem_cons_succ, Act.put, List.setIfInBounds_toArray, List.set_cons_zero, List.set_cons_succ]
    have KM := Lib.hid (fun u (hb : Below u11.heap.size u11 u) => quheardQ (VM.out.below hb).is (S2.out.below hb) FQ.out)
    have KD := Lib.hid (fun u (hb : Below u11.heap.size u11 u) => rqheard_any (VB.out.below hb).is (S2.out.below hb) (by have := FQ.out.len; omega))
    refine wpAnyH_ready (rs := [12]) (by kernel_rfl) (by simp) ?_
    refine AllReadyH.cons rfl (fun K hK => ?_) AllReadyH.nil
    go_simp
    refine (KM.out _ hHeld.1).mono ?_
    rintro e sm ⟨b1, m1, d1, rfl, hq, -, hb⟩
    have QM := Lib.hid hq
    clear hq KM
    refine hK.out _ _ (KE.out _ (holdC hHeld hb)) (fun hHeld => ?_)
    clear hK K hb
    refine wpAnyH_ready (rs := [15]) (by kernel_rfl) (by simp) ?_
    refine AllReadyH.cons rfl (fun K hK => ?_) AllReadyH.nil
    go_simp
    refine (KD.out _ hHeld.1).mono ?_
    rintro e sd ⟨uv, rfl, hq, hb⟩
    obtain ⟨b2, m2, d2, rfl, -, -⟩ := hq.parts
    have QD := Lib.hid hq
    replace QM := Lib.hid (QM.out.below hb)
    clear hq KD
    refine hK.out _ _ (KE.out _ (holdC hHeld hb)) (fun hHeld => ?_)
    clear hK K hb
    have K16 := Lib.hid (qusame_any QM.out QD.out (by have := (FQ.out.heard x2).len; omega))
    refine wpAnyH_ready (rs := [16]) (by kernel_rfl) (by simp) ?_
    refine AllReadyH.cons rfl (fun K hK => ?_) AllReadyH.nil
    go_simp
    refine (K16.out).mono ?_
    rintro e s3 ⟨rfl, hb⟩
    clear K16 QM QD
    refine hK.out _ _ (KE.out _ (holdC hHeld hb)) (fun hHeld => ?_)
    clear hK K hb
    refine wpAnyH_take (i := 17) (v := ?_) rfl (by kernel_rfl) (by kernel_rfl) (by kernel_rfl) (fun _ _ _ h => h) (Or.inl ⟨by rfl, ?_⟩) hHeld ?_
    rotate_left
    · (intro w' hSw; (try dsimp only at hSw); go_simp; try with_reducible rfl)
    simp only [List.getElem_toArray, List.getElem_cons_zero, List.getElem_cons_succ, Act.put, List.setIfInBounds_toArray, List.set_cons_zero, List.set_cons_succ]
    refine wpAnyH_take (i := 18) (v := ?_) rfl (by kernel_rfl) (by kernel_rfl) (by kernel_rfl) (fun _ _ _ h => h) (Or.inl ⟨by rfl, ?_⟩) hHeld ?_
    rotate_left
    · (intro w' hSw; (try dsimp only at hSw); go_simp; try with_reducible rfl)
    simp only [List.getElem_toArray, List.getElem_cons_zero, List.getElem_cons_succ, Act.put, List.setIfInBounds_toArray, List.set_cons_zero, List.set_cons_succ]
    refine wpAnyH_done (by kernel_rfl) ?_ _
    have hb := hHeld.1
    clear hHeld KE
    go_wp2_with fail
    go_meet
    exact ⟨rfl, hb⟩
  case rest =>
  obtain ⟨rfl, hcut⟩ := hcut
  clear PV RV bne KE QL
  replace VB := Lib.hid (VB.out.below hcut)
  replace TB := Lib.hid (TB.out.below hcut)
  replace S2 := Lib.hid (S2.out.below hcut)
  replace VM := Lib.hid (VM.out.below hcut)
  replace G := Lib.hid (G.out.trans (hcut.mono G.out.size))
  clear hcut
  have KL := Lib.hid (qulast_any VM.out.is FQ.out.fit)
  obtain ⟨⟨x0, x1⟩, -⟩ := VM.out.box.c
  go_upto_region 17 with (go_at_call 13; refine KL.out.mono ?_; rintro e u12 ⟨lv, rfl, hl, hb⟩; obtain ⟨a1, b1, e1, a2', b2, e2, rfl, hl⟩ := hl.parts; have LV0 := Lib.hid hl; have B12 := Lib.hid hb; clear hl hb KL x0 x1)
  have hbn := (Below.refl u12.heap.size u12).alloc (Nat.le_refl _) (.cells #[.int .i64 (qLast q.list).node, .int .i64 (qLast q.list).seq, .slice a1 b1 e1, .slice a2' b2 e2] 29)
  have LV := Lib.hid (txbox_new (w := u12) (t := qLast q.list) (SeqE.below (L := LInt) (LV0.out.deps.mono fun b h => h.2) (Below.refl _ _)) (SeqE.below (L := LEff) (LV0.out.effs.mono fun b h => h.2) (Below.refl _ _)))
  have hb := B12.out
  replace VB := Lib.hid (VB.out.below hb)
  replace TB := Lib.hid (TB.out.below hb)
  replace S2 := Lib.hid (S2.out.below hb)
  replace VM := Lib.hid (VM.out.below hb)
  replace G := Lib.hid (G.out.trans (hb.mono G.out.size))
  replace VB := Lib.hid (VB.out.below hbn)
  replace TB := Lib.hid (TB.out.below hbn)
  replace S2 := Lib.hid (S2.out.below hbn)
  replace VM := Lib.hid (VM.out.below hbn)
  replace G := Lib.hid (G.out.trans (hbn.mono G.out.size))
  clear hb hbn B12 LV0
  generalize (u12.alloc (.cells #[.int .i64 (qLast q.list).node, .int .i64 (qLast q.list).seq, .slice a1 b1 e1, .slice a2' b2 e2] 29)) = u13 at *
  generalize u12.heap.size = g12 at *
  obtain ⟨⟨x0, x1⟩, -⟩ := VB.out.box.c
  by_cases hz : qn = 0
  · subst hz
    have HE : Hid (qLast q.list = ⟨0, 0, [], []⟩ ∧ decide (0 < q.list.length) = false) := Lib.hid ⟨by unfold qLast; rw [if_pos HN.out], decide_eq_false (by have := HN.out; omega)⟩
    have KS := Lib.hid (rsameTx LV.out.is (v := .agg #[.int .i64 0, .int .i64 0, .slice none 0 0, .slice none 0 0]) (q := ⟨0, 0, [], []⟩) ⟨_, _, rfl, SeqE.nil _, SeqE.nil _⟩ true (decide_eq_true HE.out.1))
    rw [HE.out.2]
    obtain ⟨y0, y1, y2, y3⟩ := LV.out.c
    go_wp2_with fail
    refine KS.out.mono ?_
    rintro e u14 ⟨rfl, hb⟩
    replace G := Lib.hid (G.out.trans (hb.mono G.out.size))
    clear hb KS x0 x1 y0 y1 y2 y3
    go_wp2_with fail
    go_ret
    first | exact ⟨rfl, G.out⟩ | exact ⟨rfl, hg0 ▸ G.out⟩
  have hz2 : ((qn : Int) == 0) = false := by simp; omega
  have HP : Hid (decide (0 < q.list.length) = true) := Lib.hid (decide_eq_true (by have := HN.out; omega))
  rw [HP.out]
  obtain ⟨lb, lo, rfl, hlb, hc'⟩ := txns_atQ (fun b h => h.1) VB.out.sq (by omega)
  obtain ⟨da, dn, dc, fa, fn, fc, hW2⟩ := hc' (qn - 1) (by omega)
  have hI : (qn : Int) - 1 = ((qn - 1 : Nat) : Int) := by omega
  have hz3 : ((qn - 1 : Nat) : Int) < qn := by omega
  have hW3 : IntKind.i64.wrap ((qn : Int) - 1) = ((qn - 1 : Nat) : Int) := by rw [hI]; exact qwrap (by omega)
  have HQ : Hid (qLast q.list = otx q.list (qn - 1)) := Lib.hid (by unfold qLast qEnd; rw [if_neg (by have := HN.out; omega), HN.out])
  have HX := Lib.hid hW2
  rw [← HQ.out] at HX
  clear hc' hW2 hlb HQ
  generalize qn - 1 = n1 at *
  generalize qLast q.list = t9 at *
  go_upto_region 19 with fail
  clear x0 x1
  have KE : Hid (∀ u, Below u13.heap.size u13 u → Below u13.heap.size u13 u ∧ (u.cell? ⟨g0, 0, none⟩ = some (.int .i64 q.most) ∧ u.cell? ⟨g0, 1, none⟩ = some (.slice (some ⟨lb, lo, none⟩) qn qk)) ∧ (u.cell? ⟨nb, 0, none⟩ = some (.int .i64 q.most) ∧ u.cell? ⟨nb, 1, none⟩ = some (.slice ma qn mk)) ∧ (u.cell? ⟨g12, 0, none⟩ = some (.int .i64 t9.node) ∧ u.cell? ⟨g12, 1, none⟩ = some (.int .i64 t9.seq) ∧ u.cell? ⟨g12, 2, none⟩ = some (.slice a1 b1 e1) ∧ u.cell? ⟨g12, 3, none⟩ = some (.slice a2' b2 e2)) ∧ u.cell? ⟨lb, lo + n1 * 4, none⟩ = some (.int .i64 t9.node) ∧ u.cell? ⟨lb, lo + n1 * 4 + 1, none⟩ = some (.int .i64 t9.seq) ∧ u.cell? ⟨lb, lo + n1 * 4 + 2, none⟩ = some (.slice da dn dc) ∧ u.cell? ⟨lb, lo + n1 * 4 + 3, none⟩ = some (.slice fa fn fc)) := Lib.hid (fun u hb => ⟨hb, (VB.out.below hb).box.c.1, (VM.out.below hb).box.c.1, (LV.out.below hb).c, (HX.out u hb).1⟩)
  have hq0 : 0 < qn := by omega
  have hWn : IntKind.i64.wrap ((n1 : Nat) : Int) = ((n1 : Nat) : Int) := qwrap (by omega)
  refine wp_region_held_drew (S := fun u' => Below u13.heap.size u13 u' ∧ (u'.cell? ⟨g0, 0, none⟩ = some (.int .i64 q.most) ∧ u'.cell? ⟨g0, 1, none⟩ = some (.slice (some ⟨lb, lo, none⟩) qn qk)) ∧ (u'.cell? ⟨nb, 0, none⟩ = some (.int .i64 q.most) ∧ u'.cell? ⟨nb, 1, none⟩ = some (.slice ma qn mk)) ∧ (u'.cell? ⟨g12, 0, none⟩ = some (.int .i64 t9.node) ∧ u'.cell? ⟨g12, 1, none⟩ = some (.int .i64 t9.seq) ∧ u'.cell? ⟨g12, 2, none⟩ = some (.slice a1 b1 e1) ∧ u'.cell? ⟨g12, 3, none⟩ = some (.slice a2' b2 e2)) ∧ u'.cell? ⟨lb, lo + n1 * 4, none⟩ = some (.int .i64 t9.node) ∧ u'.cell? ⟨lb, lo + n1 * 4 + 1, none⟩ = some (.int .i64 t9.seq) ∧ u'.cell? ⟨lb, lo + n1 * 4 + 2, none⟩ = some (.slice da dn dc) ∧ u'.cell? ⟨lb, lo + n1 * 4 + 3, none⟩ = some (.slice fa fn fc)) (by kernel_rfl) ?_ (fun hHeld => ?_)
  · (exact KE.out _ (Below.refl _ _).drew)
  simp only [List.size_toArray, List.length_cons, List.length_nil, Nat.zero_add, Nat.reduceAdd]
  refine wpAnyH_take (i := 0) (v := ?_) rfl (by kernel_rfl) (by kernel_rfl) (by kernel_rfl) (fun _ _ _ h => h) (Or.inl ⟨by rfl, ?_⟩) hHeld ?_
  rotate_left
  · (intro w' hSw; (try dsimp only at hSw); go_simp; try with_reducible rfl)
  simp only [List.getElem_toArray, List.getElem_cons_zero, Act.put, List.setIfInBounds_toArray, List.set_cons_zero, List.set_cons_succ]
  refine wpAnyH_take (i := 1) (v := ?_) rfl (by kernel_rfl) (by kernel_rfl) (by kernel_rfl) (fun _ _ _ h => h) (Or.inl ⟨by rfl, ?_⟩) hHeld ?_
  rotate_left
  · (intro w' hSw; (try dsimp only at hSw); go_simp; try with_reducible rfl)
  simp only [List.getElem_toArray, List.getElem_cons_zero, List.getElem_cons_succ, Act.put, List.setIfInBounds_toArray, List.set_cons_zero, List.set_cons_succ]
  refine wpAnyH_take (i := 2) (v := ?_) rfl (by kernel_rfl) (by kernel_rfl) (by kernel_rfl) (fun _ _ _ h => h) (Or.inl ⟨by rfl, ?_⟩) hHeld ?_
  rotate_left
  · (intro w' hSw; (try dsimp only at hSw); go_simp; try with_reducible rfl)
  simp only [List.getElem_toArray, List.getElem_cons_zero, List.getElem_cons_succ, Act.put, List.setIfInBounds_toArray, List.set_cons_zero, List.set_cons_succ]
  refine wpAnyH_take (i := 3) (v := ?_) rfl (by kernel_rfl) (by kernel_rfl) (by kernel_rfl) (fun _ _ _ h => h) (Or.inl ⟨by rfl, ?_⟩) hHeld ?_
  rotate_left
  · (intro w' hSw; (try dsimp only at hSw); go_simp; try with_reducible rfl)
  simp only [List.getElem_toArray, List.getElem_cons_zero, List.getElem_cons_succ, Act.put, List.setIfInBounds_toArray, List.set_cons_zero, List.set_cons_succ]
  refine wpAnyH_take (i := 4) (v := ?_) rfl (by kernel_rfl) (by kernel_rfl) (by kernel_rfl) (fun _ _ _ h => h) (Or.inl ⟨by rfl, ?_⟩) hHeld ?_
  rotate_left
  · (intro w' hSw; (try dsimp only at hSw); go_simp; try with_reducible rfl)
  simp only [List.getElem_toArray, List.getElem_cons_zero, List.getElem_cons_succ, Act.put, List.setIfInBounds_toArray, List.set_cons_zero, List.set_cons_succ]
  refine wpAnyH_take (i := 5) (v := ?_) rfl (by kernel_rfl) (by kernel_rfl) (by kernel_rfl) (fun _ _ _ h => h) (Or.inl ⟨by rfl, ?_⟩) hHeld ?_
  rotate_left
  · (intro w' hSw; (try dsimp only at hSw); go_simp; try with_reducible rfl)
  simp only [List.getElem_toArray, List.getElem_cons_zero, List.getElem_cons_succ, Act.put, List.setIfInBounds_toArray, List.set_cons_zero, List.set_cons_succ]
  refine wpAnyH_take (i := 6) (v := ?_) rfl (by kernel_rfl) (by kernel_rfl) (by kernel_rfl) (fun _ _ _ h => h) (Or.inl ⟨by rfl, ?_⟩) hHeld ?_
  rotate_left
  · (intro w' hSw; (try dsimp only at hSw); go_simp; try with_reducible rfl)
  simp only [List.getElem_toArray, List.getElem_cons_zero, List.getElem_cons_succ, Act.put, List.setIfInBounds_toArray, List.set_cons_zero, List.set_cons_succ]
  refine wpAnyH_take (i := 7) (v := ?_) rfl (by kernel_rfl) (by kernel_rfl) (by kernel_rfl) (fun _ _ _ h => h) (Or.inl ⟨by rfl, ?_⟩) hHeld ?_
  rotate_left
  · (intro w' hSw; (try dsimp only at hSw); go_simp; try with_reducible rfl)
  simp only [List.getElem_toArray, List.getElem_cons_zero, List.getElem_cons_succ, Act.put, List.setIfInBounds_toArray, List.set_cons_zero, List.set_cons_succ]
  refine wpAnyH_take (i := 8) (v := ?_) rfl (by kernel_rfl) (by kernel_rfl) (by kernel_rfl) (fun _ _ _ h => h) (Or.inl ⟨by rfl, ?_⟩) hHeld ?_
  rotate_left
  · (intro w' hSw; (try dsimp only at hSw); go_simp; try with_reducible rfl)
  simp only [List.getElem_toArray, List.getElem_cons_zero, List.getElem_cons_succ, Act.put, List.setIfInBounds_toArray, List.set_cons_zero, List.set_cons_succ]
  refine wpAnyH_take (i := 9) (v := ?_) rfl (by kernel_rfl) (by kernel_rfl) (by kernel_rfl) (fun _ _ _ h => h) (Or.inl ⟨by rfl, ?_⟩) hHeld ?_
  rotate_left
  · (intro w' hSw; (try dsimp only at hSw); go_simp; (try simp only [hWn]); (try rw [if_pos (And.intro (Int.natCast_nonneg _) hz3)]); (try simp only [Int.toNat_natCast]); try with_reducible rfl)
  simp only [List.getElem_toArray, List.getElem_cons_zero, List.getElem_cons_succ, Act.put, List.setIfInBounds_toArray, List.set_cons_zero, List.set_cons_succ]
  refine wpAnyH_take (i := 10) (v := ?_) rfl (by kernel_rfl) (by kernel_rfl) (by kernel_rfl) (fun _ _ _ h => h) (Or.inl ⟨by rfl, ?_⟩) hHeld ?_
  rotate_left
  · (intro w' hSw; (try dsimp only at hSw); go_simp; try with_reducible rfl)
  simp only [List.getElem_toArray, List.getElem_cons_zero, List.getElem_cons_succ, Act.put, List.setIfInBounds_toArray, List.set_cons_zero, List.set_cons_succ]
  have K11 := Lib.hid (rsameTx (LV.out.below hHeld.1).is ((HX.out _ hHeld.1).2.is fun b h => Nat.lt_of_lt_of_le h.1 hHeld.1.size) true (decide_eq_true rfl))
  refine wpAnyH_ready (rs := [11]) (by kernel_rfl) (by simp) ?_
  refine AllReadyH.cons rfl (fun K hK => ?_) AllReadyH.nil
  go_simp
  refine (K11.out).mono ?_
  rintro e s1 ⟨rfl, hb⟩
  clear K11
  refine hK.out _ _ (KE.out _ (holdC hHeld hb)) (fun hHeld => ?_)
  clear hK K hb
  refine wpAnyH_take (i := 12) (v := ?_) rfl (by kernel_rfl) (by kernel_rfl) (by kernel_rfl) (fun _ _ _ h => h) (Or.inl ⟨by rfl, ?_⟩) hHeld ?_
  rotate_left
  · (intro w' hSw; (try dsimp only at hSw); go_simp; try with_reducible rfl)
  simp only [List.getElem_toArray, List.getElem_cons_zero, List.getElem_cons_succ, Act.put, List.setIfInBounds_toArray, List.set_cons_zero, List.set_cons_succ]
  refine wpAnyH_take (i := 13) (v := ?_) rfl (by kernel_rfl) (by kernel_rfl) (by kernel_rfl) (fun _ _ _ h => h) (Or.inl ⟨by rfl, ?_⟩) hHeld ?_
  rotate_left
  · (intro w' hSw; (try dsimp only at hSw); go_simp; try with_reducible rfl)
  simp only [List.getElem_toArray, List.getElem_cons_zero, List.getElem_cons_succ, Act.put, List.setIfInBounds_toArray, List.set_cons_zero, List.set_cons_succ]
  refine wpAnyH_take (i := 14) (v := ?_) rfl (by kernel_rfl) (by kernel_rfl) (by kernel_rfl) (fun _ _ _ h => h) (Or.inl ⟨by rfl, ?_⟩) hHeld ?_
  rotate_left
  · (intro w' hSw; (try dsimp only at hSw); go_simp; try with_reducible rfl)
  simp only [List.getElem_toArray, List.getElem_cons_zero, List.getElem_cons_succ, Act.put, List.setIfInBounds_toArray, List.set_cons_zero, List.set_cons_succ]
  refine wpAnyH_take (i := 15) (v := ?_) rfl (by kernel_rfl) (by kernel_rfl) (by kernel_rfl) (fun _ _ _ h => h) (Or.inl ⟨by rfl, ?_⟩) hHeld ?_
  rotate_left
  · (intro w' hSw; (try dsimp only at hSw); go_simp; try with_reducible rfl)
  simp only [List.getElem_toArray, List.getElem_cons_zero, List.getElem_cons_succ, Act.put, List.setIfInBounds_toArray, List.set_cons_zero, List.set_cons_succ]
  have K16 := Lib.hid (qusame_any (VM.out.below hHeld.1).is (VB.out.below hHeld.1).is (by have := FQ.out.len; omega))
  refine wpAnyH_ready (rs := [16]) (by kernel_rfl) (by simp) ?_
  refine AllReadyH.cons rfl (fun K hK => ?_) AllReadyH.nil
  go_simp
  refine (K16.out).mono ?_
  rintro e s2 ⟨rfl, hb⟩
  clear K16
  refine hK.out _ _ (KE.out _ (holdC hHeld hb)) (fun hHeld => ?_)
  clear hK K hb
  refine wpAnyH_take (i := 17) (v := ?_) rfl (by kernel_rfl) (by kernel_rfl) (by kernel_rfl) (fun _ _ _ h => h) (Or.inl ⟨by rfl, ?_⟩) hHeld ?_
  rotate_left
  · (intro w' hSw; (try dsimp only at hSw); go_simp; try with_reducible rfl)
  simp only [List.getElem_toArray, List.getElem_cons_zero, List.getElem_cons_succ, Act.put, List.setIfInBounds_toArray, List.set_cons_zero, List.set_cons_succ]
  refine wpAnyH_take (i := 18) (v := ?_) rfl (by kernel_rfl) (by kernel_rfl) (by kernel_rfl) (fun _ _ _ h => h) (Or.inl ⟨by rfl, ?_⟩) hHeld ?_
  rotate_left
  · (intro w' hSw; (try dsimp only at hSw); go_simp; try with_reducible rfl)
  simp only [List.getElem_toArray, List.getElem_cons_zero, List.getElem_cons_succ, Act.put, List.setIfInBounds_toArray, List.set_cons_zero, List.set_cons_succ]
  refine wpAnyH_done (by kernel_rfl) ?_ _
  replace G := Lib.hid (G.out.trans (hHeld.1.mono G.out.size))
  clear hHeld KE
  go_wp2_with fail
  go_ret
  refine ⟨rfl, ?_⟩
  exact G.out

set_option maxRecDepth 100000 in
theorem lifted (os : Os) (started : os.Started) (H : Type) (enc : TypeId × Value → H) :
    ReturnsInHanded {} Tryz.checked os 3 .any (Rows.queueAllSpec.pre6 enc Tryz.prog Tryz.f3 Rows.queueAllRow.domain false) (Rows.queueAllSpec.post enc Tryz.prog Tryz.f3 false true false false) := by
  refine returnsInHanded_of_change (C := Tryz.checked) own started (by kernel_rfl) Tryz.func3
    (ChangeSpec.witness6 (enc := enc) (C := Tryz.checked) false ⟨#[], #[.agg #[.int .i64 0, .slice none 0 0], .agg #[.int .i64 0, .int .i64 0, .slice none 0 0, .slice none 0 0], .slice none 0 0, .int .i64 0], []⟩ 8 (by kernel_rfl) (by kernel_rfl) (by kernel_rfl) (by kernel_rfl)) ?_
  intro W base args ds gs before hval0 hW hcnd _
  have hval : ∀ (j : Nat) t v, Tryz.f3.params[j]? = some t → args[j]? = some v → Value.okWide Tryz.prog W .any base t v := hval0
  have hW' := hW
  obtain ⟨p, q, hA0, hV, rfl, hfz, hnd⟩ := hW
  have hA : DataW.TrodAll enc Tryz.prog W 0 (fun _ => true) true Tryz.f3.params.toList args.toList ds p := hA0
  rw [Tryz.params3] at hA hval
  obtain ⟨v0, vs0, d0, ds0, p0, q0, hargs, rfl, rfl, h0, r0⟩ := trodAll_cons hA
  obtain ⟨v1, vs1, d1, ds1, p1, q1, rfl, rfl, rfl, h1, r1⟩ := trodAll_cons r0
  obtain ⟨v2, vs2, d2, ds2, p2, q2, rfl, rfl, rfl, h2, r2⟩ := trodAll_cons r1
  obtain ⟨v3, vs3, d3, ds3, p3, q3, rfl, rfl, rfl, h3, r3⟩ := trodAll_cons r2
  obtain ⟨rfl, rfl, rfl⟩ := trodAll_nil r3
  obtain rfl : args = #[v0, v1, v2, v3] := by cases args; simp_all
  obtain ⟨rfl, rfl⟩ := trodVars_none hV
  have k0 := h0
  have lt0 : ∀ x ∈ p0, x.block < W.heap.size := by obtain ⟨m, hm⟩ := k0; exact DataW.trod_lt m _ _ _ hm
  have w0 := open0 (hval 0 24 v0 rfl rfl) h0
  have k1 := h1
  have lt1 : ∀ x ∈ p1, x.block < W.heap.size := by obtain ⟨m, hm⟩ := k1; exact DataW.trod_lt m _ _ _ hm
  have w1 := open1 (hval 1 29 v1 rfl rfl) h1
  obtain ⟨a2, len2, cap2, rfl⟩ := okWide_slice Tryz.underlying26 (hval 2 26 v2 rfl rfl)
  have k2 := h2
  have lt2 : ∀ x ∈ p2, x.block < W.heap.size := by obtain ⟨m, hm⟩ := k2; exact DataW.trod_lt m _ _ _ hm
  obtain ⟨z2, w2⟩ : ∃ zs, IsRow .i64 W a2 len2 cap2 zs := by
    obtain ⟨fuel, hf⟩ := h2
    rcases open_ints Tryz.underlying26 Tryz.underlying3 (by kernel_rfl) hf with ⟨hcs, _⟩ | ⟨x, l, c, zs, hcs, _, hl, hm, hz, _, hcell, hwz⟩
    · simp [Value.cells] at hcs
      obtain ⟨rfl, rfl, rfl⟩ := hcs
      exact ⟨[], .inl ⟨rfl, rfl, rfl, rfl⟩⟩
    · simp [Value.cells] at hcs
      obtain ⟨rfl, rfl, rfl⟩ := hcs
      exact ⟨zs, .inr ⟨_, rfl, hl, hm, by simpa using hz, hcell, hwz⟩⟩
  obtain ⟨a3, rfl, rfl, rfl, w3⟩ := open_int Tryz.underlying3 (hval 3 3 v3 rfl rfl) h3
  clear hA0 hval0
  refine (walk v0 v1 a2 len2 cap2 z2 a3 W w0 w1 w2 w3).mono fun e W' ⟨he, bel⟩ => ?_
  subst he
  exact ⟨_, rfl, _, _, _, [], _, [], hW', trodAll_mk1 (shut_bool Tryz.underlying4 _), (trodAll_cons_mk (Below.trod laidOut (by kernel_rfl) (of_decide_eq_true (by kernel_rfl)) k0 bel lt0) (trodAll_cons_mk (Below.trod laidOut (by kernel_rfl) (of_decide_eq_true (by kernel_rfl)) k1 bel lt1) (trodAll_cons_mk (Below.trod laidOut (by kernel_rfl) (of_decide_eq_true (by kernel_rfl)) k2 bel lt2) (trodAll_cons_mk (shut_int Tryz.underlying3 w3) trodAll_mk0)))), rfl, bel.frame _, fun h => by cases h⟩

set_option maxHeartbeats 8000000 in
theorem over : Rows.queueAllRow.holds Tryz.pinned (OpenSpec.ofChange Rows.queueAllSpec) :=
  OpenClaim.holds_of_wide 3 Tryz.f3 rfl rfl rfl rfl rfl rfl rfl ⟨rfl, rfl, rfl, rfl, rfl⟩ rfl rfl rfl rfl rfl (by kernel_rfl) Tryz.func3 (by unfold joinedFacts; simp only [Bool.and_eq_true]; and_intros <;> as_aux_lemma => kernel_rfl)
    (of_decide_eq_true (by kernel_rfl)) (by unfold Func.isWrapper; first | (rw [if_pos (by decide +kernel)]; kernel_rfl) | (rw [if_neg (by decide +kernel)]; exact ⟨rfl, rfl⟩))
    (fun os started H enc _ => lifted os started H enc)

/-- the given statement -/
theorem proved : Rows.QueueAllSaid := over
#print axioms proved
end Go.Proofs.YtmknpmamkjjiaaaGreat.queueAll
