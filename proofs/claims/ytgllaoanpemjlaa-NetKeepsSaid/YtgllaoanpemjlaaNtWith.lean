/- The document's own Without of networks. (Written by gen-ntwith.py.) -/
import Derived.Test.YtgllaoanpemjlaaNtCopy
namespace Go.Proofs.Ytgllaoanpemjlaa
open Go.RowKit Plain
set_option linter.unusedVariables false

theorem without_step {xs : List PPkt} {i k : Nat} (hk : k < xs.length) (hne : k ≠ i) : (xs.take (k + 1)).eraseIdx i = (xs.take k).eraseIdx i ++ [pk xs k] := by
  rw [pk_take hk]
  have hl : (xs.take k).length = k := by rw [List.length_take]; omega
  by_cases h : i < k
  · rw [List.eraseIdx_append_of_lt_length (by rw [hl]; exact h)]
  · rw [List.eraseIdx_of_length_le (by rw [List.length_append, hl]; simp; omega), List.eraseIdx_of_length_le (by rw [hl]; omega)]
theorem without_skip {xs : List PPkt} {i : Nat} (hk : i < xs.length) : (xs.take (i + 1)).eraseIdx i = (xs.take i).eraseIdx i := by
  rw [pk_take hk]
  have hl : (xs.take i).length = i := by rw [List.length_take]; omega
  rw [List.eraseIdx_append_of_length_le (by rw [hl]; exact Nat.le_refl _), hl, Nat.sub_self]
  rw [List.eraseIdx_of_length_le (l := xs.take i) (by rw [hl]; exact Nat.le_refl _)]
  simp
set_option maxRecDepth 100000 in
set_option maxHeartbeats 16000000 in
/-- Without -/
theorem rwithoutN {v : Value} {xs : List PPkt} {i : Nat} {w : World} (hv : IsNet w v xs) (hn : xs.length ≤ 1000000) (hi : i < xs.length) : Calls Try.prog 15 #[v, .int .i64 i] w (MadeN (fun _ _ => True) w (xs.eraseIdx i)) := by
  obtain ⟨v, rfl, hv⟩ := hv
  obtain ⟨a, cap, rfl, g1, g2, -, h⟩ := hv.parts
  have PS : Hid (∀ k, k < xs.length → k ≠ i → (xs.take (k + 1)).eraseIdx i = (xs.take k).eraseIdx i ++ [pk xs k]) := Lib.hid (fun k hk hne => without_step hk hne)
  have PI : Hid ((xs.take (i + 1)).eraseIdx i = (xs.take i).eraseIdx i) := Lib.hid (without_skip hi)
  have PL : Hid (∀ k, ((xs.take k).eraseIdx i).length ≤ xs.length) := Lib.hid (fun k => Nat.le_trans (List.eraseIdx_sublist _ _).length_le (by rw [List.length_take]; omega))
  have PN : Hid ((xs.take xs.length).eraseIdx i = xs.eraseIdx i) := Lib.hid (by rw [List.take_length])
  obtain ⟨n, hN⟩ : ∃ n, xs.length = n := ⟨_, rfl⟩
  rw [hN] at h g1 hn PS PL PN hi ⊢
  have HS := Lib.hid h
  have LN := Lib.hid hN
  have P0 : Hid ((xs.take 0).eraseIdx i = []) := Lib.hid (by simp)
  obtain ⟨P, hP⟩ : ∃ P : Nat → List PPkt, P = fun k => (xs.take k).eraseIdx i := ⟨_, rfl⟩
  replace PS : Hid (∀ k, k < n → k ≠ i → P (k + 1) = P k ++ [pk xs k]) := Lib.hid (by rw [hP]; exact PS.out)
  replace PI : Hid (P (i + 1) = P i) := Lib.hid (by rw [hP]; exact PI.out)
  replace PL : Hid (∀ k, (P k).length ≤ n) := Lib.hid (by rw [hP]; exact PL.out)
  replace PN : Hid (P n = xs.eraseIdx i) := Lib.hid (by rw [hP]; exact PN.out)
  replace P0 : Hid (P 0 = []) := Lib.hid (by rw [hP]; exact P0.out)
  have T3 := Lib.hid (three_nets w a n cap)
  have HI := Lib.hid hi
  clear hv h hN hP hi
  generalize xs.eraseIdx i = res at *
  go_enter Try.func15, Try.ntmps15
  go_upto_region 2 with fail
  generalize (((w.alloc (.cells #[.slice a n cap] 24)).alloc (.cells #[.slice none 0 0] 24)).alloc (.cells #[.slice none 0 0] 24)) = w1 at *
  obtain ⟨G, c0, ⟨d0, d1⟩, ⟨e0, e1⟩, hz⟩ := T3.out
  have GH := Lib.hid G
  have ZH := Lib.hid hz
  clear G hz T3
  go_wp2_with fail
  go_loopw [6] (fun iv wr => ∃ (k : Nat) (a2 : Option Addr) (m2 c2 : Nat), k ≤ n ∧ iv = .int .i64 k ∧ Below w.heap.size w wr ∧ w.heap.size + 3 ≤ wr.heap.size ∧ wr.cell? ⟨w.heap.size, 0, none⟩ = some (.slice a n cap) ∧
      (wr.cell? ⟨w.heap.size + 1, 0, none⟩ = some (.slice none 0 0) ∧ wr.frozen? ⟨w.heap.size + 1, 0, none⟩ = false) ∧
      (wr.cell? ⟨w.heap.size + 1 + 1, 0, none⟩ = some (.slice a2 m2 c2) ∧ wr.frozen? ⟨w.heap.size + 1 + 1, 0, none⟩ = false) ∧ OwnJ (fun b => b < w.heap.size ∨ w.heap.size + 3 ≤ b) LPkt (w.heap.size + 3) wr (.slice a2 m2 c2) (P k)) (fun iv _ => n - (intOf iv).toNat)
  case atStart => exact ⟨0, none, 0, 0, Nat.zero_le _, rfl, GH.out, Nat.le_of_eq ZH.out.symm, c0, ⟨d0, d1⟩, ⟨e0, e1⟩, by rw [P0.out]; exact OwnJ.nil _ _ _⟩
  clear c0 d0 d1 e0 e1
  case round =>
    obtain ⟨k, a2, m2, c2, hk, rfl, hB, hZ, c0, ⟨d0, d1⟩, ⟨e0, e1⟩, hO⟩ := hrel
    have HB := Lib.hid hB
    have HZ := Lib.hid hZ
    have HO := Lib.hid hO
    have D0 := Lib.hid d0
    have D1 := Lib.hid d1
    have E0 := Lib.hid e0
    have E1 := Lib.hid e1
    have C0 := Lib.hid c0
    clear hB hO hZ
    by_cases hlt : k < n
    · by_cases hki : k = i
      · subst hki
        have bne : ((k : Int) != (k : Int)) = false := by simp
        have RL : Hid (OwnJ (fun b => b < w.heap.size ∨ w.heap.size + 3 ≤ b) LPkt (w.heap.size + 3) wr (.slice a2 m2 c2) (P (k + 1))) := Lib.hid (by rw [PI.out]; exact HO.out)
        go_wp2_with fail
        go_roundw
        case rel => exact ⟨k + 1, a2, m2, c2, by omega, by go_num, HB.out, HZ.out, C0.out, ⟨D0.out, D1.out⟩, ⟨E0.out, E1.out⟩, RL.out⟩
        case measure => simp [intOf]; omega
      have bne : ((k : Int) != (i : Int)) = true := by simp; omega
      have PK := Lib.hid (PS.out k hlt hki)
      have LK := Lib.hid (PL.out k)
      obtain ⟨lb, lo, rfl, hc⟩ := pkts_at HS.out (by omega)
      obtain ⟨da, dn, dc, hW⟩ := hc k hlt
      have BQ : Hid (Sq LByte (fun b => b < w.heap.size) wr.drew (.slice da dn dc) (pk xs k).bytes) := Lib.hid (Sq.agree (hW w (Below.refl _ _)).2.2.1 fun b hb => HB.out.block b hb)
      have XW : Hid (∀ u, Below w.heap.size wr u → u.cell? ⟨lb, lo + k * 3, none⟩ = some (.int .i64 (pk xs k).frm) ∧ u.cell? ⟨lb, lo + k * 3 + 1, none⟩ = some (.int .i64 (pk xs k).to) ∧ u.cell? ⟨lb, lo + k * 3 + 2, none⟩ = some (.slice da dn dc)) := Lib.hid (fun u hb => (hW u (HB.out.trans hb)).1)
      have k1 : (k : Int) < n := by omega
      have k2 : (n : Int) ≤ cap := by omega
      have k3 : (cap : Int) ≤ 9223372036854775807 := by omega
      clear hc hW d0 d1
      generalize pk xs k = x at *
      have KF : Hid (∀ u, Below w.heap.size wr u → u.cell? ⟨w.heap.size, 0, none⟩ = some (.slice (some ⟨lb, lo, none⟩) n cap) → Below w.heap.size wr u ∧ u.cell? ⟨w.heap.size, 0, none⟩ = some (.slice (some ⟨lb, lo, none⟩) n cap) ∧ (u.cell? ⟨lb, lo + k * 3, none⟩ = some (.int .i64 x.frm) ∧ u.cell? ⟨lb, lo + k * 3 + 1, none⟩ = some (.int .i64 x.to) ∧ u.cell? ⟨lb, lo + k * 3 + 2, none⟩ = some (.slice da dn dc))) := Lib.hid (fun u hb h => ⟨hb, h, XW.out u hb⟩)
      have KE : Hid (∀ u, Below wr.heap.size wr u → Below w.heap.size wr u ∧ u.cell? ⟨w.heap.size, 0, none⟩ = some (.slice (some ⟨lb, lo, none⟩) n cap) ∧ (u.cell? ⟨lb, lo + k * 3, none⟩ = some (.int .i64 x.frm) ∧ u.cell? ⟨lb, lo + k * 3 + 1, none⟩ = some (.int .i64 x.to) ∧ u.cell? ⟨lb, lo + k * 3 + 2, none⟩ = some (.slice da dn dc))) := Lib.hid (fun u hb => KF.out u (hb.mono HB.out.size) ((hb.cell (p := ⟨w.heap.size, 0, none⟩) (show w.heap.size < _ by have := HZ.out; omega)).trans C0.out))
      have A2 : Hid (Below wr.heap.size wr (wr.alloc (.cells #[.int .i64 x.frm, .int .i64 x.to, .slice da dn dc] 27)).drew) := Lib.hid ((Below.refl _ _).drew.alloc (Nat.le_refl _) _)
      have Y2 : Hid ((wr.alloc (.cells #[.int .i64 x.frm, .int .i64 x.to, .slice da dn dc] 27)).drew.cell? ⟨w.heap.size + 1 + 1, 0, none⟩ = some (.slice a2 m2 c2)) := Lib.hid ((A2.out.cell (p := ⟨w.heap.size + 1 + 1, 0, none⟩) (show w.heap.size + 1 + 1 < _ by have := HZ.out; omega)).trans E0.out)
      have UZ : Hid ((wr.alloc (.cells #[.int .i64 x.frm, .int .i64 x.to, .slice da dn dc] 27)).drew.heap.size = wr.heap.size + 1) := Lib.hid (by simp)
      have hZ_ := HZ.out
      have L1 : Hid (Sq LPkt (fun b => (b < w.heap.size ∨ w.heap.size + 3 ≤ b) ∧ b < wr.heap.size + 1 ∧ Value.ownBlock (.slice a2 m2 c2) ≠ some b) (wr.alloc (.cells #[.int .i64 x.frm, .int .i64 x.to, .slice da dn dc] 27)).drew (.slice (some ⟨wr.heap.size, 0, none⟩) 1 1) [x]) := Lib.hid (one_pkt (W := wr.drew) (x := x) (N := fun b => (b < w.heap.size ∨ w.heap.size + 3 ≤ b) ∧ b < wr.heap.size + 1 ∧ Value.ownBlock (.slice a2 m2 c2) ≠ some b) BQ.out (fun b hb => by show b < wr.heap.size; omega) (fun b hb => ⟨.inl hb, by omega, fun e => by have := (HO.out.lt b e).1; omega⟩) ⟨.inr hZ_, Nat.lt_succ_self _, fun e => by have h1 : wr.heap.size < wr.heap.size := (HO.out.lt _ e).2; omega⟩)
      clear hZ_
      go_upto_region 6 with fail
      clear c0 e0 e1
      refine wp_region_held_drew (S := fun u' => Below w.heap.size wr u' ∧ u'.cell? ⟨w.heap.size, 0, none⟩ = some (.slice (some ⟨lb, lo, none⟩) n cap) ∧ (u'.cell? ⟨lb, lo + k * 3, none⟩ = some (.int .i64 x.frm) ∧ u'.cell? ⟨lb, lo + k * 3 + 1, none⟩ = some (.int .i64 x.to) ∧ u'.cell? ⟨lb, lo + k * 3 + 2, none⟩ = some (.slice da dn dc))) (by kernel_rfl) ?_ (fun hHeld => ?_)
      · (exact KE.out _ (Below.refl _ _).drew)
      simp only [List.size_toArray, List.length_cons, List.length_nil, Nat.zero_add, Nat.reduceAdd]
      refine wpAnyH_take (i := 0) (v := ?_) rfl (by kernel_rfl) (by kernel_rfl) (by kernel_rfl) (fun _ _ _ h => h) (Or.inl ⟨by rfl, ?_⟩) hHeld ?_
      rotate_left
      · (intro w' hSw; (try dsimp only at hSw); go_simp; try with_reducible rfl)
      simp only [List.getElem_toArray, List.getElem_cons_zero, Act.put, List.setIfInBounds_toArray, List.set_cons_zero, List.set_cons_succ]
      refine wpAnyH_take (i := 2) (v := ?_) rfl (by kernel_rfl) (by kernel_rfl) (by kernel_rfl) (fun _ _ _ h => h) (Or.inl ⟨by rfl, ?_⟩) hHeld ?_
      rotate_left
      · (intro w' hSw; (try dsimp only at hSw); go_simp; try with_reducible rfl)
      simp only [List.getElem_toArray, List.getElem_cons_zero, List.getElem_cons_succ, Act.put, List.setIfInBounds_toArray, List.set_cons_zero, List.set_cons_succ]
      refine wpAnyH_take (i := 3) (v := ?_) rfl (by kernel_rfl) (by kernel_rfl) (by kernel_rfl) (fun _ _ _ h => h) (Or.inl ⟨by rfl, ?_⟩) hHeld ?_
      rotate_left
      · (intro w' hSw; (try dsimp only at hSw); go_simp; try with_reducible rfl)
      simp only [List.getElem_toArray, List.getElem_cons_zero, List.getElem_cons_succ, Act.put, List.setIfInBounds_toArray, List.set_cons_zero, List.set_cons_succ]
      refine wpAnyH_take (i := 4) (v := ?_) rfl (by kernel_rfl) (by kernel_rfl) (by kernel_rfl) (fun _ _ _ h => h) (Or.inl ⟨by rfl, ?_⟩) hHeld ?_
      rotate_left
      · (intro w' hSw; (try dsimp only at hSw); go_simp; try with_reducible rfl)
      simp only [List.getElem_toArray, List.getElem_cons_zero, List.getElem_cons_succ, Act.put, List.setIfInBounds_toArray, List.set_cons_zero, List.set_cons_succ]
      refine wpAnyH_take (i := 5) (v := ?_) rfl (by kernel_rfl) (by kernel_rfl) (by kernel_rfl) (fun _ _ _ h => h) (Or.inl ⟨by rfl, ?_⟩) hHeld ?_
      rotate_left
      · (intro w' hSw; (try dsimp only at hSw); go_simp; try with_reducible rfl)
      simp only [List.getElem_toArray, List.getElem_cons_zero, List.getElem_cons_succ, Act.put, List.setIfInBounds_toArray, List.set_cons_zero, List.set_cons_succ]
      refine wpAnyH_take (i := 6) (v := ?_) rfl (by kernel_rfl) (by kernel_rfl) (by kernel_rfl) (fun _ _ _ h => h) (Or.inl ⟨by rfl, ?_⟩) hHeld ?_
      rotate_left
      · (intro w' hSw; (try dsimp only at hSw); go_simp; try with_reducible rfl)
      simp only [List.getElem_toArray, List.getElem_cons_zero, List.getElem_cons_succ, Act.put, List.setIfInBounds_toArray, List.set_cons_zero, List.set_cons_succ]
      refine wpAnyH_ready (rs := [1, 7]) (by kernel_rfl) (by simp) ?_
      refine AllReadyH.cons rfl (fun K hK => ?_) (AllReadyH.cons rfl (fun K hK => ?_) AllReadyH.nil)
      · have yy : wr.drew.cell? ⟨w.heap.size + 1 + 1, 0, none⟩ = some (.slice a2 m2 c2) := E0.out
        go_simp
        refine hK.out _ _ (KE.out _ (Below.refl _ _).drew) (fun hHeld => ?_)
        clear hK K yy
        refine wpAnyH_ready (rs := [7]) (by kernel_rfl) (by simp) ?_
        refine AllReadyH.cons rfl (fun K hK => ?_) AllReadyH.nil
        go_simp
        refine hK.out _ _ (KE.out _ A2.out) (fun hHeld => ?_)
        clear hK K
        generalize (wr.alloc (.cells #[.int .i64 x.frm, .int .i64 x.to, .slice da dn dc] 27)).drew = ua at *
        refine wpAnyH_ready (rs := [8]) (by kernel_rfl) (by simp) ?_
        refine AllReadyH.cons rfl (fun K hK => ?_) AllReadyH.nil
        have hZ_ := HZ.out
        refine step_append_elJ (fun b => b < w.heap.size ∨ w.heap.size + 3 ≤ b) LPkt (by rfl) (.tmp 18) (.tmp 24) (by rfl) (w.heap.size + 3) (by rfl) (HO.out.below A2.out (Nat.le_refl _)) (by rfl) L1.out (fun vs x h => LPkt.mono h fun b hb => ⟨hb.1, by rw [UZ.out]; exact hb.2.1, hb.2.2⟩) (by have := LK.out; simp; omega) (by rw [UZ.out]; omega) ?_
        intro v2 u2 ho2 hg2
        have B2 : Hid (Below (w.heap.size + 3) wr u2) := Lib.hid ((A2.out.mono hZ_).grown hg2 (by have := A2.out.size; omega) (fun j hj => (HO.out.lt j hj).1))
        have O2 := Lib.hid ho2
        obtain ⟨a3, c3, rfl, -, -, -, -⟩ := ho2.own.parts
        have z1 := (B2.out.cell (p := ⟨w.heap.size + 1 + 1, 0, none⟩) (show w.heap.size + 1 + 1 < _ by omega)).trans E0.out
        have z2 := (B2.out.frozen (p := ⟨w.heap.size + 1 + 1, 0, none⟩) (show w.heap.size + 1 + 1 < _ by omega)).trans E1.out
        clear hZ_ ho2 hg2
        refine hK.out _ _ (KF.out _ (B2.out.mono (by omega)) ((B2.out.cell (p := ⟨w.heap.size, 0, none⟩) (show w.heap.size < _ by omega)).trans C0.out)) (fun hHeld => ?_)
        clear hK K
        refine wpAnyH_take (i := 9) (v := ?_) rfl (by kernel_rfl) (by kernel_rfl) (by kernel_rfl) (fun _ _ _ h => h) (Or.inl ⟨by rfl, ?_⟩) hHeld ?_
        rotate_left
        · (intro w' hSw; (try dsimp only at hSw); go_simp; try with_reducible rfl)
        simp only [List.getElem_toArray, List.getElem_cons_zero, List.getElem_cons_succ, Act.put, List.setIfInBounds_toArray, List.set_cons_zero, List.set_cons_succ]
        refine wpAnyH_ready (rs := [10]) (by kernel_rfl) (by simp) ?_
        refine AllReadyH.cons rfl (fun K hK => ?_) AllReadyH.nil
        go_simp
        refine hK.out _ _ (KF.out _ ((B2.out.mono (by omega)).setCell (by show w.heap.size ≤ w.heap.size + 1 + 1; omega) _) ((World.cell?_setCell_other _ _ _ _ (by simp)).trans ((B2.out.cell (p := ⟨w.heap.size, 0, none⟩) (show w.heap.size < _ by omega)).trans C0.out))) (fun hHeld => ?_)
        clear hK K
        refine wpAnyH_done (by kernel_rfl) ?_ _
        clear hHeld
        have C : ∀ z a v, wr.cell? a = some v → a.block < w.heap.size + 3 → (⟨w.heap.size + 1 + 1, 0, none⟩ : Addr) ≠ a → (u2.setCell ⟨w.heap.size + 1 + 1, 0, none⟩ z).cell? a = some v := fun z a v h hb ne => (World.cell?_setCell_other _ _ _ _ ne).trans ((B2.out.cell hb).trans h)
        have F : ∀ z a, wr.frozen? a = false → a.block < w.heap.size + 3 → (u2.setCell ⟨w.heap.size + 1 + 1, 0, none⟩ z).frozen? a = false := fun z a h hb => (World.frozen?_setCell _ _ _ _).trans ((B2.out.frozen hb).trans h)
        have EQ : Hid (∀ z, (u2.setCell ⟨w.heap.size + 1 + 1, 0, none⟩ z).cell? ⟨w.heap.size + 1 + 1, 0, none⟩ = some z) := Lib.hid (fun z => World.cell?_setCell_same u2 ⟨w.heap.size + 1 + 1, 0, none⟩ z z1)
        have CF := Lib.hid (And.intro C F)
        clear C F z1 z2
        go_wp2_with fail
        go_roundw
        case rel =>
          obtain ⟨C, F⟩ := CF.out
          refine ⟨k + 1, a3, _, c3, by omega, by go_num, (HB.out.trans (B2.out.mono (by omega))).setCell (by show w.heap.size ≤ w.heap.size + 1 + 1; omega) _, by have := B2.out.size; have := HZ.out; simp [World.setCell]; omega, C _ _ _ C0.out (by simp) (by simp), ⟨C _ _ _ D0.out (by simp) (by simp), F _ _ D1.out (by simp)⟩, ⟨EQ.out _, F _ _ E1.out (by simp)⟩, ?_⟩
          rw [PK.out]
          have h := O2.out
          rw [show (P k ++ [x]).length = (P k).length + 1 by simp] at h
          exact h.kept (by simp [World.setCell]) fun b hb h => Below.heap_setCell _ _ _ _ (by have h2 : (b < w.heap.size ∨ w.heap.size + 3 ≤ b) ∨ w.heap.size + 3 ≤ b := h; show b ≠ w.heap.size + 1 + 1; omega)
        case measure => simp [intOf]; omega
      · go_simp
        refine hK.out _ _ (KE.out _ A2.out) (fun hHeld => ?_)
        clear hK K
        generalize (wr.alloc (.cells #[.int .i64 x.frm, .int .i64 x.to, .slice da dn dc] 27)).drew = ua at *
        refine wpAnyH_ready (rs := [1]) (by kernel_rfl) (by simp) ?_
        refine AllReadyH.cons rfl (fun K hK => ?_) AllReadyH.nil
        have yy : ua.cell? ⟨w.heap.size + 1 + 1, 0, none⟩ = some (.slice a2 m2 c2) := Y2.out
        go_simp
        refine hK.out _ _ (KE.out _ A2.out) (fun hHeld => ?_)
        clear hK K yy
        refine wpAnyH_ready (rs := [8]) (by kernel_rfl) (by simp) ?_
        refine AllReadyH.cons rfl (fun K hK => ?_) AllReadyH.nil
        have hZ_ := HZ.out
        refine step_append_elJ (fun b => b < w.heap.size ∨ w.heap.size + 3 ≤ b) LPkt (by rfl) (.tmp 18) (.tmp 24) (by rfl) (w.heap.size + 3) (by rfl) (HO.out.below A2.out (Nat.le_refl _)) (by rfl) L1.out (fun vs x h => LPkt.mono h fun b hb => ⟨hb.1, by rw [UZ.out]; exact hb.2.1, hb.2.2⟩) (by have := LK.out; simp; omega) (by rw [UZ.out]; omega) ?_
        intro v2 u2 ho2 hg2
        have B2 : Hid (Below (w.heap.size + 3) wr u2) := Lib.hid ((A2.out.mono hZ_).grown hg2 (by have := A2.out.size; omega) (fun j hj => (HO.out.lt j hj).1))
        have O2 := Lib.hid ho2
        obtain ⟨a3, c3, rfl, -, -, -, -⟩ := ho2.own.parts
        have z1 := (B2.out.cell (p := ⟨w.heap.size + 1 + 1, 0, none⟩) (show w.heap.size + 1 + 1 < _ by omega)).trans E0.out
        have z2 := (B2.out.frozen (p := ⟨w.heap.size + 1 + 1, 0, none⟩) (show w.heap.size + 1 + 1 < _ by omega)).trans E1.out
        clear hZ_ ho2 hg2
        refine hK.out _ _ (KF.out _ (B2.out.mono (by omega)) ((B2.out.cell (p := ⟨w.heap.size, 0, none⟩) (show w.heap.size < _ by omega)).trans C0.out)) (fun hHeld => ?_)
        clear hK K
        refine wpAnyH_take (i := 9) (v := ?_) rfl (by kernel_rfl) (by kernel_rfl) (by kernel_rfl) (fun _ _ _ h => h) (Or.inl ⟨by rfl, ?_⟩) hHeld ?_
        rotate_left
        · (intro w' hSw; (try dsimp only at hSw); go_simp; try with_reducible rfl)
        simp only [List.getElem_toArray, List.getElem_cons_zero, List.getElem_cons_succ, Act.put, List.setIfInBounds_toArray, List.set_cons_zero, List.set_cons_succ]
        refine wpAnyH_ready (rs := [10]) (by kernel_rfl) (by simp) ?_
        refine AllReadyH.cons rfl (fun K hK => ?_) AllReadyH.nil
        go_simp
        refine hK.out _ _ (KF.out _ ((B2.out.mono (by omega)).setCell (by show w.heap.size ≤ w.heap.size + 1 + 1; omega) _) ((World.cell?_setCell_other _ _ _ _ (by simp)).trans ((B2.out.cell (p := ⟨w.heap.size, 0, none⟩) (show w.heap.size < _ by omega)).trans C0.out))) (fun hHeld => ?_)
        clear hK K
        refine wpAnyH_done (by kernel_rfl) ?_ _
        clear hHeld
        have C : ∀ z a v, wr.cell? a = some v → a.block < w.heap.size + 3 → (⟨w.heap.size + 1 + 1, 0, none⟩ : Addr) ≠ a → (u2.setCell ⟨w.heap.size + 1 + 1, 0, none⟩ z).cell? a = some v := fun z a v h hb ne => (World.cell?_setCell_other _ _ _ _ ne).trans ((B2.out.cell hb).trans h)
        have F : ∀ z a, wr.frozen? a = false → a.block < w.heap.size + 3 → (u2.setCell ⟨w.heap.size + 1 + 1, 0, none⟩ z).frozen? a = false := fun z a h hb => (World.frozen?_setCell _ _ _ _).trans ((B2.out.frozen hb).trans h)
        have EQ : Hid (∀ z, (u2.setCell ⟨w.heap.size + 1 + 1, 0, none⟩ z).cell? ⟨w.heap.size + 1 + 1, 0, none⟩ = some z) := Lib.hid (fun z => World.cell?_setCell_same u2 ⟨w.heap.size + 1 + 1, 0, none⟩ z z1)
        have CF := Lib.hid (And.intro C F)
        clear C F z1 z2
        go_wp2_with fail
        go_roundw
        case rel =>
          obtain ⟨C, F⟩ := CF.out
          refine ⟨k + 1, a3, _, c3, by omega, by go_num, (HB.out.trans (B2.out.mono (by omega))).setCell (by show w.heap.size ≤ w.heap.size + 1 + 1; omega) _, by have := B2.out.size; have := HZ.out; simp [World.setCell]; omega, C _ _ _ C0.out (by simp) (by simp), ⟨C _ _ _ D0.out (by simp) (by simp), F _ _ D1.out (by simp)⟩, ⟨EQ.out _, F _ _ E1.out (by simp)⟩, ?_⟩
          rw [PK.out]
          have h := O2.out
          rw [show (P k ++ [x]).length = (P k).length + 1 by simp] at h
          exact h.kept (by simp [World.setCell]) fun b hb h => Below.heap_setCell _ _ _ _ (by have h2 : (b < w.heap.size ∨ w.heap.size + 3 ≤ b) ∨ w.heap.size + 3 ≤ b := h; show b ≠ w.heap.size + 1 + 1; omega)
        case measure => simp [intOf]; omega
    · obtain rfl : k = n := by omega
      have OE : Hid (∀ z, OwnJ (fun b => True) LPkt w.heap.size (wr.setCell ⟨w.heap.size + 1, 0, none⟩ z) (.slice a2 m2 c2) res) := Lib.hid (fun z => by
        have h := HO.out
        rw [PN.out] at h
        exact ((h.kept (by simp [World.setCell]) fun b hb h => Below.heap_setCell _ _ _ _ (by have h2 : (b < w.heap.size ∨ w.heap.size + 3 ≤ b) ∨ w.heap.size + 3 ≤ b := h; show b ≠ w.heap.size + 1; omega)).mono (by omega)).imp fun b hb => trivial)
      go_wp2_with fail
      have E : ∀ x, (wr.setCell ⟨w.heap.size + 1, 0, none⟩ x).cell? ⟨w.heap.size + 1, 0, none⟩ = some x := fun x => World.cell?_setCell_same _ _ _ D0.out
      exact bodyPost_ret (v := .agg #[.slice a2 m2 c2]) (by simp [results, Try.results15, go_sem, E]) rfl ⟨_, rfl, OE.out _, HB.out.setCell (by simp) _⟩
end Go.Proofs.Ytgllaoanpemjlaa
