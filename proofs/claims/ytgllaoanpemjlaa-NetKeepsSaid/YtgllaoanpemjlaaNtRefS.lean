/- Same of networks: the document's own. (Written by gen-ntref.py.) -/
import Derived.Test.YtgllaoanpemjlaaNtRef
import Derived.Deep.RegionHeld3
namespace Go.Proofs.Ytgllaoanpemjlaa
open Go.RowKit Plain
set_option linter.unusedVariables false

def pk (xs : List PPkt) (k : Nat) : PPkt := xs.getD k default
theorem nsame_all {xs ys : List PPkt} (h : xs.length = ys.length) (e : ∀ j, j < xs.length → pk xs j = pk ys j) : xs = ys := by
  apply List.ext_getElem h
  intro i h1 h2
  have := e i h1
  unfold pk at this
  simpa [List.getD, List.getElem?_eq_getElem h1, List.getElem?_eq_getElem h2] using this
/-- packets in a row that isn't empty, each told by cells and bytes for every later world -/
theorem pkts_at {w : World} {la : Option Addr} {n lc : Nat} {xs : List PPkt} (h : SeqE LPkt w (.slice la n lc) xs) (hp : 0 < n) : ∃ lb lo, la = some ⟨lb, lo, none⟩ ∧ ∀ k, k < n → ∃ da dn dc, ∀ u, Below w.heap.size w u →
    (u.cell? ⟨lb, lo + k * 3, none⟩ = some (.int .i64 (pk xs k).frm) ∧ u.cell? ⟨lb, lo + k * 3 + 1, none⟩ = some (.int .i64 (pk xs k).to) ∧ u.cell? ⟨lb, lo + k * 3 + 2, none⟩ = some (.slice da dn dc)) ∧ IsPkt u (.agg #[.int .i64 (pk xs k).frm, .int .i64 (pk xs k).to, .slice da dn dc]) (pk xs k) ∧ SeqE LByte u (.slice da dn dc) (pk xs k).bytes ∧ dn = (pk xs k).bytes.length := by
  have hn : n = xs.length := by
    obtain ⟨a, c, e, -⟩ := h.parts
    simp only [Value.slice.injEq] at e
    exact e.2.1
  subst hn
  obtain ⟨b, o, c, e, -, -, -, hc⟩ := pkts_spot h hp
  simp only [Value.slice.injEq] at e
  refine ⟨b, o, e.1, fun k hk => ?_⟩
  obtain ⟨bv, EX, hd⟩ := hc k hk
  obtain ⟨da, dc, rfl, -, -, -, -⟩ := hd.parts
  refine ⟨da, _, dc, fun u hu => ⟨⟨?_, ?_, ?_⟩, ⟨_, rfl, hd.below hu⟩, hd.below hu, rfl⟩⟩
  · exact (EX.below hu EX.lt).c0
  · exact (EX.below hu EX.lt).c1
  · exact (EX.below hu EX.lt).c2
set_option maxRecDepth 100000 in
set_option maxHeartbeats 16000000 in
/-- Same of networks -/
theorem rsameN {uv vv : Value} {xs ys : List PPkt} {w : World} (hu : IsNet w uv xs) (hv : IsNet w vv ys) (hl : xs.length ≤ 1000000) (r0 : Bool) (hr0 : decide (xs = ys) = r0) :
    Calls Try.prog 11 #[uv, vv] w (GivesB w r0) := by
  subst hr0
  obtain ⟨uv, rfl, hu⟩ := hu
  obtain ⟨vv, rfl, hv⟩ := hv
  obtain ⟨la, lc, rfl, L1, L2, -, -⟩ := hu.parts
  obtain ⟨ma, mc, rfl, M1, M2, -, -⟩ := hv.parts
  obtain ⟨n, hn⟩ : ∃ n, xs.length = n := ⟨_, rfl⟩
  obtain ⟨m, hm⟩ : ∃ m, ys.length = m := ⟨_, rfl⟩
  rw [hn] at hu L1 hl ⊢
  rw [hm] at hv M1 ⊢
  have HNN := Lib.hid hn
  have HMM := Lib.hid hm
  have hb := ((Below.refl w.heap.size w).alloc (Nat.le_refl _) (.cells #[.slice la n lc] 24)).alloc (by simp) (.cells #[.slice ma m mc] 24)
  have PC := npair_cells w #[.slice la n lc] #[.slice ma m mc] 24 24 0
  have C0 : Hid (((w.alloc (.cells #[.slice la n lc] 24)).alloc (.cells #[.slice ma m mc] 24)).cell? ⟨w.heap.size, 0, none⟩ = some (.slice la n lc)) := Lib.hid PC.1
  have C1 : Hid (((w.alloc (.cells #[.slice la n lc] 24)).alloc (.cells #[.slice ma m mc] 24)).cell? ⟨w.heap.size + 1, 0, none⟩ = some (.slice ma m mc)) := Lib.hid PC.2
  have Z : Hid (((w.alloc (.cells #[.slice la n lc] 24)).alloc (.cells #[.slice ma m mc] 24)).heap.size = w.heap.size + 2) := Lib.hid (by simp)
  have G := Lib.hid hb
  have HU := Lib.hid (hu.below hb)
  have HV := Lib.hid (hv.below hb)
  clear hu hv hn hm hb PC
  go_enter Try.func11, Try.ntmps11
  go_upto_region 1 with fail
  generalize ((w.alloc (.cells #[.slice la n lc] 24)).alloc (.cells #[.slice ma m mc] 24)) = w1 at *
  have c0 := C0.out
  have c1 := C1.out
  by_cases hne : n = m
  rotate_left
  · have HF : Hid (decide (xs = ys) = false) := Lib.hid (decide_eq_false fun e => hne (by rw [← HNN.out, ← HMM.out, e]))
    have bne : ((n : Int) != (m : Int)) = true := by simp; omega
    clear hne
    go_wp2_with fail
    go_ret
    exact ⟨by rw [HF.out]; rfl, G.out⟩
  subst hne
  go_wp2_with fail
  go_loopw [5] (fun i wr => ∃ k : Nat, k ≤ n ∧ i = .int .i64 k ∧ (∀ j, j < k → pk xs j = pk ys j) ∧ Below w1.heap.size w1 wr) (fun i _ => n - (intOf i).toNat)
  case atStart => exact ⟨0, Nat.zero_le _, rfl, fun j hj => absurd hj (Nat.not_lt_zero _), Below.refl _ _⟩
  case round =>
    obtain ⟨k, hk, rfl, h1, h2⟩ := hrel
    have A1 := Lib.hid h1
    have GB := Lib.hid h2
    clear h1 h2
    have D0 : Hid (∀ u, Below wr.heap.size wr u → u.cell? ⟨w.heap.size, 0, none⟩ = some (.slice la n lc)) := Lib.hid (fun u hb => ((GB.out.trans (hb.mono GB.out.size)).cell (p := ⟨w.heap.size, 0, none⟩) (by rw [Z.out]; show w.heap.size < _; omega)).trans C0.out)
    have D1 : Hid (∀ u, Below wr.heap.size wr u → u.cell? ⟨w.heap.size + 1, 0, none⟩ = some (.slice ma n mc)) := Lib.hid (fun u hb => ((GB.out.trans (hb.mono GB.out.size)).cell (p := ⟨w.heap.size + 1, 0, none⟩) (by rw [Z.out]; show w.heap.size + 1 < _; omega)).trans C1.out)
    have GZ0 : Hid (Below w.heap.size w wr) := Lib.hid (G.out.trans (GB.out.mono G.out.size))
    clear c0 c1
    have c0 := D0.out _ (Below.refl _ _)
    by_cases hlt : k < n
    · obtain ⟨lb, lo, rfl, hc⟩ := pkts_at HU.out (by omega)
      obtain ⟨mb, mo, rfl, hc2⟩ := pkts_at HV.out (by omega)
      obtain ⟨da, dn, dc, hW⟩ := hc k hlt
      obtain ⟨ea, en, ec, hW2⟩ := hc2 k hlt
      have AN : Hid (pk xs k = pk ys k → ∀ j, j < k + 1 → pk xs j = pk ys j) := Lib.hid (fun e j hj => by
        by_cases c : j = k
        · rw [c]; exact e
        · exact A1.out j (by omega))
      have AF : Hid (¬ pk xs k = pk ys k → decide (xs = ys) = false) := Lib.hid (fun e => decide_eq_false fun h => e (by rw [h]))
      have KE : Hid (∀ u, Below wr.heap.size wr u → Below wr.heap.size wr u ∧ u.cell? ⟨w.heap.size, 0, none⟩ = some (.slice (some ⟨lb, lo, none⟩) n lc) ∧ u.cell? ⟨w.heap.size + 1, 0, none⟩ = some (.slice (some ⟨mb, mo, none⟩) n mc) ∧ (u.cell? ⟨lb, lo + k * 3, none⟩ = some (.int .i64 (pk xs k).frm) ∧ u.cell? ⟨lb, lo + k * 3 + 1, none⟩ = some (.int .i64 (pk xs k).to) ∧ u.cell? ⟨lb, lo + k * 3 + 2, none⟩ = some (.slice da dn dc)) ∧ u.cell? ⟨mb, mo + k * 3, none⟩ = some (.int .i64 (pk ys k).frm) ∧ u.cell? ⟨mb, mo + k * 3 + 1, none⟩ = some (.int .i64 (pk ys k).to) ∧ u.cell? ⟨mb, mo + k * 3 + 2, none⟩ = some (.slice ea en ec)) := Lib.hid (fun u hb => ⟨hb, D0.out u hb, D1.out u hb, (hW u (GB.out.trans (hb.mono GB.out.size))).1, (hW2 u (GB.out.trans (hb.mono GB.out.size))).1⟩)
      have KS := Lib.hid (fun u (hb : Below wr.heap.size wr u) => rsamePk (hW u (GB.out.trans (hb.mono GB.out.size))).2.1 (hW2 u (GB.out.trans (hb.mono GB.out.size))).2.1 _ rfl)
      have k1 : (k : Int) < n := by omega
      have k2 : (n : Int) ≤ lc := by omega
      have k3 : (lc : Int) ≤ 9223372036854775807 := by omega
      have k4 : (n : Int) ≤ mc := by omega
      have k5 : (mc : Int) ≤ 9223372036854775807 := by omega
      clear hc hc2 hW hW2
      generalize pk xs k = x at *
      generalize pk ys k = y at *
      go_upto_region 6 with fail
      clear c0
      obtain ⟨r, hr⟩ : ∃ r, r = decide (x = y) := ⟨_, rfl⟩
      rw [← hr] at KS
      have HR := Lib.hid hr
      clear hr
      refine wp_region_held_drew (S := fun u' => Below wr.heap.size wr u' ∧ u'.cell? ⟨w.heap.size, 0, none⟩ = some (.slice (some ⟨lb, lo, none⟩) n lc) ∧ u'.cell? ⟨w.heap.size + 1, 0, none⟩ = some (.slice (some ⟨mb, mo, none⟩) n mc) ∧ (u'.cell? ⟨lb, lo + k * 3, none⟩ = some (.int .i64 x.frm) ∧ u'.cell? ⟨lb, lo + k * 3 + 1, none⟩ = some (.int .i64 x.to) ∧ u'.cell? ⟨lb, lo + k * 3 + 2, none⟩ = some (.slice da dn dc)) ∧ u'.cell? ⟨mb, mo + k * 3, none⟩ = some (.int .i64 y.frm) ∧ u'.cell? ⟨mb, mo + k * 3 + 1, none⟩ = some (.int .i64 y.to) ∧ u'.cell? ⟨mb, mo + k * 3 + 2, none⟩ = some (.slice ea en ec)) (by kernel_rfl) ?_ (fun hHeld => ?_)
      · (exact KE.out _ (Below.refl _ _).drew)
      simp only [List.size_toArray, List.length_cons, List.length_nil, Nat.zero_add, Nat.reduceAdd]
      refine wpAnyH_take (i := 0) (v := ?_) rfl (by kernel_rfl) (by kernel_rfl) (by kernel_rfl) (fun _ _ _ h => h) (Or.inl ⟨by rfl, ?_⟩) hHeld ?_
      rotate_left
      · (intro w' hSw; (try dsimp only at hSw); go_simp; try with_reducible rfl)
      simp only [List.getElem_toArray, List.getElem_cons_zero, Act.put, List.setIfInBounds_toArray, List.set_cons_zero, List.set_cons_succ]
      refine wpAnyH_take (i := 1) (v := ?_) rfl (by kernel_rfl) (by kernel_rfl) (by kernel_rfl) (fun _ _ _ h => h) (Or.inl ⟨by rfl, ?_⟩) hHeld ?_
      rotate_left
      · (intro w' hSw; (try dsimp only at hSw); go_simp; try with_reducible rfl)
      simp only [List.getElem_toArray, List.getElem_cons_zero, List.getElem_cons_succ, Act.put, List.setIfInBounds_toArray, List.set_cons_zero, List.set_cons_succ]
      refine wpAnyH_take (i := 2) (v := ?_) rfl (by kernel_rfl) (by kernel_rfl) (by kernel_rfl) (fun _ _ _ h => h) (Or.inl ⟨by rfl, ?_⟩) hHeld ?_
      rotate_left
      · (intro w' hSw; (try dsimp only at hSw); go_simp; try with_reducible rfl)
      simp only [List.getElem_toArray, List.getElem_cons_zero, List.getElem_cons_succ, Act.put, List.setIfInBounds_toArray, List.set_cons_zero, List.set_cons_succ]
      refine wpAnyH_take (i := 3) (v := ?_) rfl (by kernel_rfl) (by kernel_rfl) (by kernel_rfl) (fun _ _ _ h => h) (Or.inl ⟨by rfl, ?_⟩) hHeld ?_
      rotate_left
      · (intro w' hSw; (try dsimp only at hSw); go_simp; try with_reducible rfl)
      simp only [List.getElem_toArray, List.getElem_cons_zero, List.getElem_cons_succ, Act.put, List.setIfInBounds_toArray, List.set_cons_zero, List.set_cons_succ]
      refine wpAnyH_take (i := 4) (v := ?_) rfl (by kernel_rfl) (by kernel_rfl) (by kernel_rfl) (fun _ _ _ h => h) (Or.inl ⟨by rfl, ?_⟩) hHeld ?_
      rotate_left
      · (intro w' hSw; (try dsimp only at hSw); go_simp; try with_reducible rfl)
      simp only [List.getElem_toArray, List.getElem_cons_zero, List.getElem_cons_succ, Act.put, List.setIfInBounds_toArray, List.set_cons_zero, List.set_cons_succ]
      refine wpAnyH_take (i := 5) (v := ?_) rfl (by kernel_rfl) (by kernel_rfl) (by kernel_rfl) (fun _ _ _ h => h) (Or.inl ⟨by rfl, ?_⟩) hHeld ?_
      rotate_left
      · (intro w' hSw; (try dsimp only at hSw); go_simp; try with_reducible rfl)
      simp only [List.getElem_toArray, List.getElem_cons_zero, List.getElem_cons_succ, Act.put, List.setIfInBounds_toArray, List.set_cons_zero, List.set_cons_succ]
      refine wpAnyH_take (i := 6) (v := ?_) rfl (by kernel_rfl) (by kernel_rfl) (by kernel_rfl) (fun _ _ _ h => h) (Or.inl ⟨by rfl, ?_⟩) hHeld ?_
      rotate_left
      · (intro w' hSw; (try dsimp only at hSw); go_simp; try with_reducible rfl)
      simp only [List.getElem_toArray, List.getElem_cons_zero, List.getElem_cons_succ, Act.put, List.setIfInBounds_toArray, List.set_cons_zero, List.set_cons_succ]
      refine wpAnyH_take (i := 7) (v := ?_) rfl (by kernel_rfl) (by kernel_rfl) (by kernel_rfl) (fun _ _ _ h => h) (Or.inl ⟨by rfl, ?_⟩) hHeld ?_
      rotate_left
      · (intro w' hSw; (try dsimp only at hSw); go_simp; try with_reducible rfl)
      simp only [List.getElem_toArray, List.getElem_cons_zero, List.getElem_cons_succ, Act.put, List.setIfInBounds_toArray, List.set_cons_zero, List.set_cons_succ]
      refine wpAnyH_take (i := 8) (v := ?_) rfl (by kernel_rfl) (by kernel_rfl) (by kernel_rfl) (fun _ _ _ h => h) (Or.inl ⟨by rfl, ?_⟩) hHeld ?_
      rotate_left
      · (intro w' hSw; (try dsimp only at hSw); go_simp; try with_reducible rfl)
      simp only [List.getElem_toArray, List.getElem_cons_zero, List.getElem_cons_succ, Act.put, List.setIfInBounds_toArray, List.set_cons_zero, List.set_cons_succ]
      refine wpAnyH_take (i := 9) (v := ?_) rfl (by kernel_rfl) (by kernel_rfl) (by kernel_rfl) (fun _ _ _ h => h) (Or.inl ⟨by rfl, ?_⟩) hHeld ?_
      rotate_left
      · (intro w' hSw; (try dsimp only at hSw); go_simp; try with_reducible rfl)
      simp only [List.getElem_toArray, List.getElem_cons_zero, List.getElem_cons_succ, Act.put, List.setIfInBounds_toArray, List.set_cons_zero, List.set_cons_succ]
      refine wpAnyH_ready (rs := [10]) (by kernel_rfl) (by simp) ?_
      refine AllReadyH.cons rfl (fun K hK => ?_) AllReadyH.nil
      go_simp
      refine (KS.out _ hHeld.1).mono ?_
      rintro e s1 ⟨rfl, hb⟩
      refine hK.out _ _ (KE.out _ (holdC hHeld hb)) (fun hHeld => ?_)
      clear hK K hb
      refine wpAnyH_take (i := 11) (v := ?_) rfl (by kernel_rfl) (by kernel_rfl) (by kernel_rfl) (fun _ _ _ h => h) (Or.inl ⟨by rfl, ?_⟩) hHeld ?_
      rotate_left
      · (intro w' hSw; (try dsimp only at hSw); go_simp; try with_reducible rfl)
      simp only [List.getElem_toArray, List.getElem_cons_zero, List.getElem_cons_succ, Act.put, List.setIfInBounds_toArray, List.set_cons_zero, List.set_cons_succ]
      refine wpAnyH_done (by kernel_rfl) ?_ _
      have GZ : Hid (Below wr.heap.size wr _) := Lib.hid hHeld.1
      clear hHeld
      have GA := Lib.hid (GB.out.trans (GZ.out.mono GB.out.size))
      have GR := Lib.hid (GZ0.out.trans (GZ.out.mono GZ0.out.size))
      cases r
      · have HF := Lib.hid (AF.out fun e => by have := HR.out; rw [decide_eq_true e] at this; cases this)
        go_wp2_with fail
        go_ret
        exact ⟨by rw [HF.out]; rfl, GR.out⟩
      · have HA := Lib.hid (AN.out (of_decide_eq_true HR.out.symm))
        go_wp2_with fail
        go_roundw
        case rel => exact ⟨k + 1, by omega, by go_num, HA.out, GA.out⟩
        case measure => simp [intOf]; omega
    · obtain rfl : k = n := by omega
      have HA : Hid (decide (xs = ys) = true) := Lib.hid (decide_eq_true (nsame_all (HNN.out.trans HMM.out.symm) fun j hj => A1.out j (by rw [← HNN.out]; exact hj)))
      go_wp2_with fail
      go_ret
      exact ⟨by rw [HA.out]; rfl, GZ0.out⟩
end Go.Proofs.Ytgllaoanpemjlaa
