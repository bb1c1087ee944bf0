/- Chain: the program's and the document's own. (Written by gen-chn.py.) SameAll, Twice: the document's own. (Written by gen-ref14.py.) -/
import Derived.Test.YtmknpmamkjjiaaaGreatOrTk
import Derived.Test.YtmknpmamkjjiaaaGreatTxIns
namespace Go.Proofs.YtmknpmamkjjiaaaGreat
open Go.RowKit Plain
set_option linter.unusedVariables false

/-- where there are transactions, each by its place, in whatever later world -/
theorem txns_at {w : World} {la : Option Addr} {n lc : Nat} {l : List PTxn} (h : SeqE LTxn w (.slice la n lc) l) (hp : 0 < n) : ∃ lb lo, la = some ⟨lb, lo, none⟩ ∧ ∀ k, k < n → ∃ da dn dc ea en ec, ∀ W, Below w.heap.size w W →
  (W.cell? ⟨lb, lo + k * 4, none⟩ = some (.int .i64 (otx l k).node) ∧ W.cell? ⟨lb, lo + k * 4 + 1, none⟩ = some (.int .i64 (otx l k).seq) ∧ W.cell? ⟨lb, lo + k * 4 + 2, none⟩ = some (.slice da dn dc) ∧ W.cell? ⟨lb, lo + k * 4 + 3, none⟩ = some (.slice ea en ec)) ∧
   IsTxn W (.agg #[.int .i64 (otx l k).node, .int .i64 (otx l k).seq, .slice da dn dc, .slice ea en ec]) (otx l k) := by
 have hd := h.dims.1
 obtain ⟨lb, lo, lc', hsl, -, -, hc⟩ := txns_spotB (B := w.heap.size) h (Nat.le_refl _) (by omega)
 simp only [Value.slice.injEq] at hsl
 obtain ⟨rfl, -, -⟩ := hsl
 refine ⟨lb, lo, rfl, fun k hk => ?_⟩
 obtain ⟨da, dn, dc, ea, en, ec, TA, IT⟩ := hc k (by omega)
 refine ⟨da, dn, dc, ea, en, ec, fun W hb => ⟨?_, IT.below hb⟩⟩
 have T := TA.below hb TA.lt
 exact ⟨T.c0, T.c1, T.c2, T.c3⟩
end Go.Proofs.YtmknpmamkjjiaaaGreat
namespace Go.Proofs.YtmknpmamkjjiaaaGreat
open Go.RowKit Plain
set_option linter.unusedVariables false

theorem same_all {xs ys : List PTxn} (h : xs.length = ys.length) (e : ∀ j, j < xs.length → otx xs j = otx ys j) : xs = ys := by
 apply List.ext_getElem h
 intro i h1 h2
 have := e i h1
 rw [otx_lt h1, otx_lt h2] at this
 exact this
set_option maxRecDepth 100000 in
set_option maxHeartbeats 16000000 in
/-- SameAll -/
theorem sameAll_any {uv vv : Value} {xs ys : List PTxn} {w : World} (hu : SeqE LTxn w uv xs) (hv : SeqE LTxn w vv ys) (hl : xs.length ≤ 1000000) :
  Calls Tryz.prog 18 #[uv, vv] w (GivesB w (decide (xs = ys))) := by
 obtain ⟨la, lc, rfl, L1, L2, -, -⟩ := hu.parts
 obtain ⟨ma, mc, rfl, M1, M2, -, -⟩ := hv.parts
 have HU := Lib.hid hu
 have HV := Lib.hid hv
 by_cases hne : xs.length = ys.length
 ·obtain ⟨n, hn⟩ : ∃ n, n = xs.length := ⟨_, rfl⟩
  rw [← hne] at HV M1 ⊢
  rw [← hn] at HU HV L1 M1 ⊢
  have HNE := Lib.hid hne
  have HNN := Lib.hid hn
  clear hu hv hn hne
  go_enter Tryz.func18, Tryz.ntmps18
  go_wp2_with fail
  go_loopw [5] (fun i wr => ∃ k : Nat, k ≤ n ∧ i = .int .i64 k ∧ Aside ((∀ j, j < k → otx xs j = otx ys j) ∧ Below w.heap.size w wr)) (fun i _ => n - (intOf i).toNat)
  case atStart => exact ⟨0, Nat.zero_le _, rfl, fun j hj => absurd hj (Nat.not_lt_zero _), Below.refl _ _⟩
  case round =>
   obtain ⟨k, hk, rfl, hrel⟩ := hrel
   obtain ⟨h1, h2⟩ := Aside.out hrel
   have A1 := Lib.hid h1
   have GB := Lib.hid h2
   clear hrel h1 h2
   by_cases hlt : k < n
   ·obtain ⟨lb, lo, rfl, hc⟩ := txns_at HU.out (by omega)
    obtain ⟨mb, mo, rfl, hc2⟩ := txns_at HV.out (by omega)
    obtain ⟨da, dn, dc, ea, en, ec, hW⟩ := hc k hlt
    obtain ⟨da2, dn2, dc2, ea2, en2, ec2, hW2⟩ := hc2 k hlt
    have AN : Hid (otx xs k = otx ys k → ∀ j, j < k + 1 → otx xs j = otx ys j) := Lib.hid (fun e j hj => by
     by_cases c : j = k
     ·rw [c]; exact e
     ·exact A1.out j (by omega))
    have AF : Hid (¬ otx xs k = otx ys k → decide (xs = ys) = false) := Lib.hid (fun e => decide_eq_false fun h => e (by rw [h]))
    have KE : Hid (∀ u, Below wr.heap.size wr u → Below wr.heap.size wr u ∧ (u.cell? ⟨lb, lo + k * 4, none⟩ = some (.int .i64 (otx xs k).node) ∧ u.cell? ⟨lb, lo + k * 4 + 1, none⟩ = some (.int .i64 (otx xs k).seq) ∧ u.cell? ⟨lb, lo + k * 4 + 2, none⟩ = some (.slice da dn dc) ∧ u.cell? ⟨lb, lo + k * 4 + 3, none⟩ = some (.slice ea en ec)) ∧ u.cell? ⟨mb, mo + k * 4, none⟩ = some (.int .i64 (otx ys k).node) ∧ u.cell? ⟨mb, mo + k * 4 + 1, none⟩ = some (.int .i64 (otx ys k).seq) ∧ u.cell? ⟨mb, mo + k * 4 + 2, none⟩ = some (.slice da2 dn2 dc2) ∧ u.cell? ⟨mb, mo + k * 4 + 3, none⟩ = some (.slice ea2 en2 ec2)) := Lib.hid (fun u hb => ⟨hb, (hW u (GB.out.trans (hb.mono GB.out.size))).1, (hW2 u (GB.out.trans (hb.mono GB.out.size))).1⟩)
    have KS := Lib.hid (fun u (hb : Below wr.heap.size wr u) => rsameTx (hW u (GB.out.trans (hb.mono GB.out.size))).2 (hW2 u (GB.out.trans (hb.mono GB.out.size))).2 _ rfl)
    have k1 : (k : Int) < n := by omega
    have k2 : (n : Int) ≤ lc := by omega
    have k3 : (lc : Int) ≤ 9223372036854775807 := by omega
    have k4 : (n : Int) ≤ mc := by omega
    have k5 : (mc : Int) ≤ 9223372036854775807 := by omega
    clear hc hc2 hW hW2
    generalize otx xs k = x at *
    generalize otx ys k = y at *
    go_upto_region 6 with fail
    obtain ⟨r, hr⟩ : ∃ r, r = decide (x = y) := ⟨_, rfl⟩
    rw [← hr] at KS
    have HR := Lib.hid hr
    clear hr
    refine wp_region_held_drew (S := fun u' => Below wr.heap.size wr u' ∧ (u'.cell? ⟨lb, lo + k * 4, none⟩ = some (.int .i64 x.node) ∧ u'.cell? ⟨lb, lo + k * 4 + 1, none⟩ = some (.int .i64 x.seq) ∧ u'.cell? ⟨lb, lo + k * 4 + 2, none⟩ = some (.slice da dn dc) ∧ u'.cell? ⟨lb, lo + k * 4 + 3, none⟩ = some (.slice ea en ec)) ∧ u'.cell? ⟨mb, mo + k * 4, none⟩ = some (.int .i64 y.node) ∧ u'.cell? ⟨mb, mo + k * 4 + 1, none⟩ = some (.int .i64 y.seq) ∧ u'.cell? ⟨mb, mo + k * 4 + 2, none⟩ = some (.slice da2 dn2 dc2) ∧ u'.cell? ⟨mb, mo + k * 4 + 3, none⟩ = some (.slice ea2 en2 ec2)) (by kernel_rfl) ?_ (fun hHeld => ?_)
    ·(exact KE.out _ (Below.refl _ _).drew)
    simp only [List.size_toArray, List.length_cons, List.length_nil, Nat.zero_add, Nat.reduceAdd]
    refine tkA (i := 0) (v := ?_) rfl (by kernel_rfl) (fun _ _ _ h => h) (Or.inl ⟨by rfl, ?_⟩) hHeld ?_
    rotate_left
    ·(intro w' hSw; (try dsimp only at hSw); go_simp; try with_reducible rfl)
    simp only [List.getElem_toArray, List.getElem_cons_zero, Act.put, List.setIfInBounds_toArray, List.set_cons_zero, List.set_cons_succ]
    refine tkA (i := 1) (v := ?_) rfl (by kernel_rfl) (fun _ _ _ h => h) (Or.inl ⟨by rfl, ?_⟩) hHeld ?_
    rotate_left
    ·(intro w' hSw; (try dsimp only at hSw); go_simp; try with_reducible rfl)
    simp only [List.getElem_toArray, List.getElem_cons_zero, List.getElem_cons_succ, Act.put, List.setIfInBounds_toArray, List.set_cons_zero, List.set_cons_succ]
    refine tkA (i := 2) (v := ?_) rfl (by kernel_rfl) (fun _ _ _ h => h) (Or.inl ⟨by rfl, ?_⟩) hHeld ?_
    rotate_left
    ·(intro w' hSw; (try dsimp only at hSw); go_simp; try with_reducible rfl)
    simp only [List.getElem_toArray, List.getElem_cons_zero, List.getElem_cons_succ, Act.put, List.setIfInBounds_toArray, List.set_cons_zero, List.set_cons_succ]
    refine tkA (i := 3) (v := ?_) rfl (by kernel_rfl) (fun _ _ _ h => h) (Or.inl ⟨by rfl, ?_⟩) hHeld ?_
    rotate_left
    ·(intro w' hSw; (try dsimp only at hSw); go_simp; try with_reducible rfl)
    simp only [List.getElem_toArray, List.getElem_cons_zero, List.getElem_cons_succ, Act.put, List.setIfInBounds_toArray, List.set_cons_zero, List.set_cons_succ]
    refine tkA (i := 4) (v := ?_) rfl (by kernel_rfl) (fun _ _ _ h => h) (Or.inl ⟨by rfl, ?_⟩) hHeld ?_
    rotate_left
    ·(intro w' hSw; (try dsimp only at hSw); go_simp; try with_reducible rfl)
    simp only [List.getElem_toArray, List.getElem_cons_zero, List.getElem_cons_succ, Act.put, List.setIfInBounds_toArray, List.set_cons_zero, List.set_cons_succ]
    refine tkA (i := 5) (v := ?_) rfl (by kernel_rfl) (fun _ _ _ h => h) (Or.inl ⟨by rfl, ?_⟩) hHeld ?_
    rotate_left
    ·(intro w' hSw; (try dsimp only at hSw); go_simp; try with_reducible rfl)
    simp only [List.getElem_toArray, List.getElem_cons_zero, List.getElem_cons_succ, Act.put, List.setIfInBounds_toArray, List.set_cons_zero, List.set_cons_succ]
    refine tkA (i := 6) (v := ?_) rfl (by kernel_rfl) (fun _ _ _ h => h) (Or.inl ⟨by rfl, ?_⟩) hHeld ?_
    rotate_left
    ·(intro w' hSw; (try dsimp only at hSw); go_simp; try with_reducible rfl)
    simp only [List.getElem_toArray, List.getElem_cons_zero, List.getElem_cons_succ, Act.put, List.setIfInBounds_toArray, List.set_cons_zero, List.set_cons_succ]
    refine tkA (i := 7) (v := ?_) rfl (by kernel_rfl) (fun _ _ _ h => h) (Or.inl ⟨by rfl, ?_⟩) hHeld ?_
    rotate_left
    ·(intro w' hSw; (try dsimp only at hSw); go_simp; try with_reducible rfl)
    simp only [List.getElem_toArray, List.getElem_cons_zero, List.getElem_cons_succ, Act.put, List.setIfInBounds_toArray, List.set_cons_zero, List.set_cons_succ]
    refine wpAnyH_ready (rs := [8]) (by kernel_rfl) (by simp) ?_
    refine AllReadyH.cons rfl (fun K hK => ?_) AllReadyH.nil
    go_simp
    refine (KS.out _ hHeld.1).mono ?_
    rintro e s1 ⟨rfl, hb⟩
    refine hK.out _ _ (KE.out _ (holdC hHeld hb)) (fun hHeld => ?_)
    clear hK K hb
    refine tkA (i := 9) (v := ?_) rfl (by kernel_rfl) (fun _ _ _ h => h) (Or.inl ⟨by rfl, ?_⟩) hHeld ?_
    rotate_left
    ·(intro w' hSw; (try dsimp only at hSw); go_simp; try with_reducible rfl)
    simp only [List.getElem_toArray, List.getElem_cons_zero, List.getElem_cons_succ, Act.put, List.setIfInBounds_toArray, List.set_cons_zero, List.set_cons_succ]
    refine wpAnyH_done (by kernel_rfl) ?_ _
    have GZ : Hid (Below w.heap.size w _) := Lib.hid (GB.out.trans (hHeld.1.mono GB.out.size))
    clear hHeld
    cases r
    ·have HF := Lib.hid (AF.out fun e => by have := HR.out; rw [decide_eq_true e] at this; cases this)
     go_wp2_with fail
     go_ret
     exact ⟨by rw [HF.out]; rfl, GZ.out⟩
    ·have HA := Lib.hid (AN.out (of_decide_eq_true HR.out.symm))
     go_wp2_with fail
     go_roundw
     case rel => exact ⟨k + 1, by omega, by go_num, HA.out, GZ.out⟩
     case measure => simp [intOf]; omega
   ·obtain rfl : k = n := by omega
    have HA : Hid (decide (xs = ys) = true) := Lib.hid (decide_eq_true (same_all HNE.out fun j hj => A1.out j (by rw [HNN.out]; exact hj)))
    go_wp2_with fail
    go_ret
    exact ⟨by rw [HA.out]; rfl, GB.out⟩
 ·have HF : Hid (decide (xs = ys) = false) := Lib.hid (decide_eq_false fun e => hne (by rw [e]))
  have bne : ((xs.length : Int) != (ys.length : Int)) = true := by simp; omega
  clear hu hv
  go_enter Tryz.func18, Tryz.ntmps18
  go_wp2_with fail
  go_ret
  exact ⟨by rw [HF.out]; rfl, Below.refl _ _⟩

end Go.Proofs.YtmknpmamkjjiaaaGreat
