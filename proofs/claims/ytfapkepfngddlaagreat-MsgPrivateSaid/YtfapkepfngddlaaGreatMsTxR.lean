/- txn.Read, its answer in blocks of the call's own; the message reader's transactions, vec, zone. (Written by gen-mstxr.py.) -/
import Derived.Test.YtfapkepfngddlaaGreatMsParts
import Derived.Test.YtfapkepfngddlaaGreatTxUses
namespace Go.Proofs.YtfapkepfngddlaaGreat
open Go.RowKit Plain
set_option linter.unusedVariables false

def GivesReadJ (w : World) (res : Res PTxn) (e : Ending) (w' : World) : Prop := match res with
 | .ok t rest => ∃ u v, e = .returned (.tuple #[u, v, .int .i64 0]) ∧ vX w.heap.size w' u t ∧ By.Seq w' v rest ∧ Below w.heap.size w w'
 | .err k => ∃ u v, e = .returned (.tuple #[u, v, .int .i64 k]) ∧ IsTxn w' u default ∧ By.Seq w' v [] ∧ Below w.heap.size w w'
theorem vX_zero (B : Nat) (w : World) : vX B w (.agg #[.int .i64 0, .int .i64 0, .slice none 0 0, .slice none 0 0]) default := ⟨_, _, _, _, _, _, rfl, OwnE.nil _ _, OwnJ.nil _ _ _⟩
theorem st4_boxM {w : World} {g R : Nat} {s : Rb} {v0 v1 v2 v3 : Value} (h : MrBox w g s) (hR : g < R) : MrBox (st4 w R v0 v1 v2 v3) g s := (((h.store hR).store hR).store hR).store hR
theorem N0 {a b : Nat} (h : a + 2 ≤ b) : a ≤ b := by omega
set_option maxRecDepth 100000 in
set_option maxHeartbeats 8000000 in
theorem txreadJ {b : Value} {bs : Bytes} {w : World} (hb : By.Seq w b bs) (hl : bs.length ≤ 100000) (res : Res PTxn) (hr : txnC.get bs = res) : Calls Tryz.prog 146 #[b] w (GivesReadJ w res) := by
 obtain ⟨ba, bc, rfl, g1, g2, g0, hs⟩ := hb.parts
 have hbA : Below w.heap.size w (w.alloc (.cells #[.int .i64 0, .int .i64 0, .slice none 0 0, .slice none 0 0] 51)) := (Below.refl _ _).alloc (Nat.le_refl _) _
 have hbB : Below w.heap.size w ((w.alloc (.cells #[.int .i64 0, .int .i64 0, .slice none 0 0, .slice none 0 0] 51)).alloc (.cells #[.slice ba bs.length bc, .int .i64 0] 181)) := hbA.alloc hbA.size _
 have hbC : Below (w.heap.size + 1) (w.alloc (.cells #[.int .i64 0, .int .i64 0, .slice none 0 0, .slice none 0 0] 51)) ((w.alloc (.cells #[.int .i64 0, .int .i64 0, .slice none 0 0, .slice none 0 0] 51)).alloc (.cells #[.slice ba bs.length bc, .int .i64 0] 181)) := (Below.refl _ _).alloc (by simp) _
 have hX : RdBox ((w.alloc (.cells #[.int .i64 0, .int .i64 0, .slice none 0 0, .slice none 0 0] 51)).alloc (.cells #[.slice ba bs.length bc, .int .i64 0] 181)) (w.heap.size + 1) (bs, 0) := by
  refine ⟨ba, bc, ?_, hs.below hbB, fun hp ad he => ?_⟩
  ·have h := heap_alloc_new (w.alloc (.cells #[.int .i64 0, .int .i64 0, .slice none 0 0, .slice none 0 0] 51)) (.cells #[.slice ba bs.length bc, .int .i64 0] 181)
   rw [show (w.alloc (.cells #[.int .i64 0, .int .i64 0, .slice none 0 0, .slice none 0 0] 51)).heap.size = w.heap.size + 1 by simp] at h
   exact h
  ·obtain ⟨b', o', c', hv, -, -, -, hc⟩ := hs.spot hp
   simp only [Value.slice.injEq] at hv
   rw [hv.1] at he
   cases he
   have := World.block_lt_of_cell? w _ (hc 0 hp)
   show b' < w.heap.size + 1
   change b' < w.heap.size at this
   omega
 have KT := Lib.hid (rtxn_any hX hl)
 have RZ : Hid (((w.alloc (.cells #[.int .i64 0, .int .i64 0, .slice none 0 0, .slice none 0 0] 51)).alloc (.cells #[.slice ba bs.length bc, .int .i64 0] 181)).heap[w.heap.size]? = some (.cells #[.int .i64 0, .int .i64 0, .slice none 0 0, .slice none 0 0] 51 (0, 0))) := Lib.hid ((hbC.block w.heap.size (by omega)).trans (heap_alloc_new w _))
 have ZA : Hid (((w.alloc (.cells #[.int .i64 0, .int .i64 0, .slice none 0 0, .slice none 0 0] 51)).alloc (.cells #[.slice ba bs.length bc, .int .i64 0] 181)).heap.size = w.heap.size + 2) := Lib.hid (by simp)
 have GA := Lib.hid hbB
 have HE := Lib.hid (fun k (h : (rtxn (bs, 0)).2.2 = k) (hk : k ≠ 0) => read_err h hk)
 have HD := Lib.hid (fun h => read_done (b := bs) h)
 rw [hr] at HE HD
 have HBL : Hid ((rtxn (bs, 0)).2.1.length ≤ 100000) := Lib.hid (Nat.le_trans (shr_list shr_eff 8 _) (Nat.le_trans (le_t3 (bs, 0)) hl))
 clear hb hl hs hX hbA hbB hbC hr
 generalize rtxn (bs, 0) = q at *
 obtain ⟨x, rest, k⟩ := q
 generalize bs.length = bl at *
 go_enter Tryz.func146, Tryz.ntmps146
 go_upto_region 2 with fail
 generalize ((w.alloc (.cells #[.int .i64 0, .int .i64 0, .slice none 0 0, .slice none 0 0] 51)).alloc (.cells #[.slice ba bl bc, .int .i64 0] 181)) = wa at *
 go_wp2_with fail
 refine KT.out.mono ?_
 rintro e w1 ⟨v, rfl, ⟨da, dn, dc, ea, en, ec, rfl, hd, he⟩, hx, hbt⟩
 have RZ1 := Lib.hid ((hbt.block w.heap.size (by rw [ZA.out]; omega) (by omega)).trans RZ.out)
 have GB := Lib.hid (GA.out.trans (hbt.below.mono (by omega)))
 have Z1 : Hid (w.heap.size + 2 ≤ w1.heap.size) := Lib.hid (by have := hbt.size; rw [ZA.out] at this; exact this)
 rw [ZA.out] at hd he
 have hba := (Below.refl w1.heap.size w1).alloc (Nat.le_refl _) (.cells #[.int .i64 x.node, .int .i64 x.seq, .slice da dn dc, .slice ea en ec] 51)
 have D2 := Lib.hid (hd.below hba (Nat.le_refl _))
 have E2 := Lib.hid (he.below hba (Nat.le_refl _))
 have X2 := Lib.hid (hx.below hba)
 have RZ2 := Lib.hid ((hba.block w.heap.size (by have := Z1.out; omega)).trans RZ1.out)
 have G2 : Hid (Below w.heap.size w (w1.alloc (.cells #[.int .i64 x.node, .int .i64 x.seq, .slice da dn dc, .slice ea en ec] 51))) := Lib.hid (GB.out.alloc GB.out.size _)
 have Z2 : Hid (w.heap.size + 2 ≤ (w1.alloc (.cells #[.int .i64 x.node, .int .i64 x.seq, .slice da dn dc, .slice ea en ec] 51)).heap.size) := Lib.hid (by have := Z1.out; simp; omega)
 have T2 : Hid (∀ W, Below (w1.alloc (.cells #[.int .i64 x.node, .int .i64 x.seq, .slice da dn dc, .slice ea en ec] 51)).heap.size (w1.alloc (.cells #[.int .i64 x.node, .int .i64 x.seq, .slice da dn dc, .slice ea en ec] 51)) W → W.cell? ⟨w1.heap.size, 0, none⟩ = some (.int .i64 x.node) ∧ W.cell? ⟨w1.heap.size, 1, none⟩ = some (.int .i64 x.seq) ∧ W.cell? ⟨w1.heap.size, 2, none⟩ = some (.slice da dn dc) ∧ W.cell? ⟨w1.heap.size, 3, none⟩ = some (.slice ea en ec)) := Lib.hid (fun W h => by
  refine ⟨?_, ?_, ?_, ?_⟩
  ·exact (h.cell (p := ⟨w1.heap.size, 0, none⟩) (by simp)).trans (by simp)
  ·exact (h.cell (p := ⟨w1.heap.size, 1, none⟩) (by simp)).trans (by simp)
  ·exact (h.cell (p := ⟨w1.heap.size, 2, none⟩) (by simp)).trans (by simp)
  ·exact (h.cell (p := ⟨w1.heap.size, 3, none⟩) (by simp)).trans (by simp))
 clear hd he hx hbt hba KT RZ1 GB
 go_upto_region 3 with fail
 generalize (w1.alloc (.cells #[.int .i64 x.node, .int .i64 x.seq, .slice da dn dc, .slice ea en ec] 51)) = w2 at *
 generalize w1.heap.size = tb at *
 obtain ⟨ra, rn, rc, hrn, r1, r2, r0, hrh, hrs, -⟩ := X2.out.parts
 obtain ⟨x0, x1, -, -⟩ := rdb_cell hrh
 change rn = rest.length at hrn
 change By.Seq w2 (.slice ra rn rc) rest at hrs
 change w2.cell? ⟨w.heap.size + 1, 1, none⟩ = some (.int .i64 k) at x1
 have HRS := Lib.hid hrs
 have HRN := Lib.hid hrn
 have HX0 := Lib.hid x0
 clear hrs hrn hrh x0
 obtain ⟨⟨y0, y1, y2, y3⟩, f0, f1, f2, f3⟩ := st4_cells RZ2.out
 by_cases hk : k = 0
 rotate_left
 ·have hkb : (k != 0) = true := bne_iff_ne.2 hk
  obtain rfl : res = .err k := HE.out k rfl hk
  have FC := Lib.hid (st4_cells (st4_block (v0 := .int .i64 0) (v1 := .int .i64 0) (v2 := .slice none 0 0) (v3 := .slice none 0 0) RZ2.out)).1
  have FB := Lib.hid (st4_below (v0 := .int .i64 0) (v1 := .int .i64 0) (v2 := .slice none 0 0) (v3 := .slice none 0 0) G2.out (Nat.le_refl w.heap.size))
  unfold st4 at FC FB
  clear HE HD hk r0
  go_wp2_with fail
  go_region
  go_wp2_with fail
  obtain ⟨z0, z1, z2, z3⟩ := FC.out
  refine bodyPost_ret (v := .tuple #[.agg #[.int .i64 0, .int .i64 0, .slice none 0 0, .slice none 0 0], .slice none 0 0, .int .i64 k]) (by simp [results, Tryz.results146, go_sem, z0, z1, z2, z3]) rfl ?_
  exact ⟨_, _, rfl, txn_none _, By.Seq.nil _, FB.out.drew⟩
 ·subst hk
  have hkb : ((0 : Int) != 0) = false := by decide
  obtain ⟨hok, hres⟩ := HD.out rfl
  have FX := Lib.hid (fitTx_raw hok)
  have KF := Lib.hid (txformedP (w := w2) (v := .agg #[.int .i64 x.node, .int .i64 x.seq, .slice da dn dc, .slice ea en ec]) ⟨_, _, rfl, D2.out.seq, E2.out.own.seq⟩ FX.out _ rfl)
  have HRES := Lib.hid hres
  obtain ⟨t0, t1, t2, t3⟩ := T2.out w2 (Below.refl _ _)
  clear hres hok HE HD
  generalize tformedB x = r at *
  go_wp2_with fail
  refine KF.out.mono ?_
  rintro e w3 ⟨rfl, hb3⟩
  have RZ3 := Lib.hid ((hb3.block w.heap.size (by have := Z2.out; omega)).trans RZ2.out)
  have G3 := Lib.hid (G2.out.trans (hb3.mono G2.out.size))
  have Z3 : Hid (w.heap.size + 2 ≤ w3.heap.size) := Lib.hid (Nat.le_trans Z2.out hb3.size)
  cases r with
  | false =>
   obtain rfl : res = .err 2 := HRES.out
   clear hb3 y0 y1 y2 y3 f0 f1 f2 f3 t0 t1 t2 t3 KF x1 T2 HRES
   obtain ⟨⟨y0, y1, y2, y3⟩, f0, f1, f2, f3⟩ := st4_cells RZ3.out
   have FC := Lib.hid (st4_cells (st4_block (v0 := .int .i64 0) (v1 := .int .i64 0) (v2 := .slice none 0 0) (v3 := .slice none 0 0) RZ3.out)).1
   have FB := Lib.hid (st4_below (v0 := .int .i64 0) (v1 := .int .i64 0) (v2 := .slice none 0 0) (v3 := .slice none 0 0) G3.out (Nat.le_refl w.heap.size))
   unfold st4 at FC FB
   go_wp2_with fail
   obtain ⟨z0, z1, z2, z3⟩ := FC.out
   refine bodyPost_ret (v := .tuple #[.agg #[.int .i64 0, .int .i64 0, .slice none 0 0, .slice none 0 0], .slice none 0 0, .int .i64 2]) (by simp [results, Tryz.results146, go_sem, z0, z1, z2, z3]) rfl ?_
   exact ⟨_, _, rfl, txn_none _, By.Seq.nil _, FB.out⟩
  | true =>
   obtain rfl : res = .ok x rest := HRES.out
   have T3 : Hid (∀ W, Below w3.heap.size w3 W → W.cell? ⟨tb, 0, none⟩ = some (.int .i64 x.node) ∧ W.cell? ⟨tb, 1, none⟩ = some (.int .i64 x.seq) ∧ W.cell? ⟨tb, 2, none⟩ = some (.slice da dn dc) ∧ W.cell? ⟨tb, 3, none⟩ = some (.slice ea en ec)) := Lib.hid (fun W h => T2.out W (hb3.trans (h.mono hb3.size)))
   have X3 : Hid (∀ W, Below w3.heap.size w3 W → W.cell? ⟨w.heap.size + 1, 0, none⟩ = some (.slice ra rn rc)) := Lib.hid (fun W h => (h.cell (p := ⟨w.heap.size + 1, 0, none⟩) (show w.heap.size + 1 < w3.heap.size by have := Z3.out; omega)).trans ((hb3.cell (p := ⟨w.heap.size + 1, 0, none⟩) (show w.heap.size + 1 < w2.heap.size by have := Z2.out; omega)).trans HX0.out))
   have D3 := Lib.hid (D2.out.below hb3 (Nat.le_refl _))
   have E3 := Lib.hid (E2.out.below hb3 (Nat.le_refl _))
   have KE : Hid (∀ U, Below w3.heap.size w3 U → Below w.heap.size w3 U ∧ (U.cell? ⟨tb, 0, none⟩ = some (.int .i64 x.node) ∧ U.cell? ⟨tb, 1, none⟩ = some (.int .i64 x.seq) ∧ U.cell? ⟨tb, 2, none⟩ = some (.slice da dn dc) ∧ U.cell? ⟨tb, 3, none⟩ = some (.slice ea en ec)) ∧ U.cell? ⟨w.heap.size + 1, 0, none⟩ = some (.slice ra rn rc)) := Lib.hid (fun U h => ⟨h.mono (by have := Z3.out; omega), T3.out U h, X3.out U h⟩)
   have KC := Lib.hid (bclone_any (w := w3.drew) ((HRS.out.below hb3).below (Below.refl _ _).drew) (by have h : rest.length ≤ 100000 := HBL.out; omega) r0)
   have HTB : Hid (tb ≠ w.heap.size) := Lib.hid (by have := Z1.out; omega)
   clear hb3 y0 y1 y2 y3 f0 f1 f2 f3 t0 t1 t2 t3 KF x1 T2 HRES T3 X3 r0
   go_upto_region 7 with fail
   refine wp_region_held_drew (S := fun u' => Below w.heap.size w3 u' ∧ (u'.cell? ⟨tb, 0, none⟩ = some (.int .i64 x.node) ∧ u'.cell? ⟨tb, 1, none⟩ = some (.int .i64 x.seq) ∧ u'.cell? ⟨tb, 2, none⟩ = some (.slice da dn dc) ∧ u'.cell? ⟨tb, 3, none⟩ = some (.slice ea en ec)) ∧ u'.cell? ⟨w.heap.size + 1, 0, none⟩ = some (.slice ra rn rc)) (by kernel_rfl) ?_ (fun hHeld => ?_)
   ·(exact KE.out _ (Below.refl _ _).drew)
   simp only [List.size_toArray, List.length_cons, List.length_nil, Nat.zero_add, Nat.reduceAdd]
   refine tkB (i := 0) hHeld ?_
   refine tkB (i := 1) hHeld ?_
   refine tkB (i := 2) hHeld ?_
   refine wpAnyH_ready (rs := [3]) (by kernel_rfl) (by simp) ?_
   refine AllReadyH.cons rfl (fun K hK => ?_) AllReadyH.nil
   go_simp
   refine KC.out.mono ?_
   rintro e w4 ⟨v4, rfl, ho4, hb4⟩
   have B4 : Hid (Below w3.heap.size w3 w4) := Lib.hid (((Below.refl _ _).drew).trans hb4)
   obtain ⟨a4, c4, rfl, -, -, -, -⟩ := ho4.parts
   have O4 : Hid (By.Owns w3.heap.size w4 (.slice a4 rest.length c4) rest) := Lib.hid ho4
   refine hK.out _ _ (KE.out _ B4.out) (fun hHeld => ?_)
   clear hK K hb4 ho4 KC
   have RZ4 := Lib.hid ((B4.out.block w.heap.size (by have := Z3.out; omega)).trans RZ3.out)
   have G4 := Lib.hid (G3.out.trans (B4.out.mono (by have := G3.out.size; omega)))
   have Z4 : Hid (w.heap.size + 2 ≤ w4.heap.size) := Lib.hid (Nat.le_trans Z3.out B4.out.size)
   obtain ⟨⟨y0, y1, y2, y3⟩, f0, f1, f2, f3⟩ := st4_cells RZ4.out
   have FC := Lib.hid (st4_cells (st4_block (v0 := .int .i64 x.node) (v1 := .int .i64 x.seq) (v2 := .slice da dn dc) (v3 := .slice ea en ec) RZ4.out)).1
   have FB := Lib.hid (st4_below (v0 := .int .i64 x.node) (v1 := .int .i64 x.seq) (v2 := .slice da dn dc) (v3 := .slice ea en ec) G4.out (Nat.le_refl w.heap.size))
   have FT := Lib.hid (st4_bare w4 w.heap.size (.int .i64 x.node) (.int .i64 x.seq) (.slice da dn dc) (.slice ea en ec))
   have FD := Lib.hid ((D3.out.below B4.out (Nat.le_refl _)).but flat_int FT.out (by omega))
   have FE := Lib.hid ((E3.out.below B4.out (Nat.le_refl _)).but FT.out (by omega) (fun b hb e => by omega))
   have FV := Lib.hid (byOwns_but O4.out FT.out (by have := Z3.out; omega))
   have hcl : ∀ (p : Addr) (v : Value), p.block ≠ w.heap.size → w4.cell? p = some v → (st4 w4 w.heap.size (.int .i64 x.node) (.int .i64 x.seq) (.slice da dn dc) (.slice ea en ec)).cell? p = some v := fun p v hp h => (World.cell?_of_block (w := w4) (st4_other _ _ _ _ _ _ _ hp)).trans h
   have HS5 : Hid (Below w.heap.size w3 (st4 w4 w.heap.size (.int .i64 x.node) (.int .i64 x.seq) (.slice da dn dc) (.slice ea en ec)) ∧ ((st4 w4 w.heap.size (.int .i64 x.node) (.int .i64 x.seq) (.slice da dn dc) (.slice ea en ec)).cell? ⟨tb, 0, none⟩ = some (.int .i64 x.node) ∧ (st4 w4 w.heap.size (.int .i64 x.node) (.int .i64 x.seq) (.slice da dn dc) (.slice ea en ec)).cell? ⟨tb, 1, none⟩ = some (.int .i64 x.seq) ∧ (st4 w4 w.heap.size (.int .i64 x.node) (.int .i64 x.seq) (.slice da dn dc) (.slice ea en ec)).cell? ⟨tb, 2, none⟩ = some (.slice da dn dc) ∧ (st4 w4 w.heap.size (.int .i64 x.node) (.int .i64 x.seq) (.slice da dn dc) (.slice ea en ec)).cell? ⟨tb, 3, none⟩ = some (.slice ea en ec)) ∧ (st4 w4 w.heap.size (.int .i64 x.node) (.int .i64 x.seq) (.slice da dn dc) (.slice ea en ec)).cell? ⟨w.heap.size + 1, 0, none⟩ = some (.slice ra rn rc)) := Lib.hid ⟨st4_below hHeld.1 (Nat.le_refl _), ⟨hcl _ _ HTB.out hHeld.2.1.1, hcl _ _ HTB.out hHeld.2.1.2.1, hcl _ _ HTB.out hHeld.2.1.2.2.1, hcl _ _ HTB.out hHeld.2.1.2.2.2⟩, hcl _ _ (by show w.heap.size + 1 ≠ w.heap.size; omega) hHeld.2.2⟩
   clear FT hcl
   unfold st4 at FC FB FD FE FV HS5
   refine wpAnyH_ready (rs := [4]) (by kernel_rfl) (by simp) ?_
   refine AllReadyH.cons rfl (fun K hK => ?_) AllReadyH.nil
   go_simp
   refine hK.out _ _ HS5.out (fun hHeld => ?_)
   clear hK K
   refine tkB (i := 5) hHeld ?_
   refine tkB (i := 6) hHeld ?_
   refine wpAnyH_done (by kernel_rfl) ?_ _
   go_wp2_with fail
   obtain ⟨z0, z1, z2, z3⟩ := FC.out
   refine bodyPost_ret (v := .tuple #[.agg #[.int .i64 x.node, .int .i64 x.seq, .slice da dn dc, .slice ea en ec], .slice a4 rest.length c4, .int .i64 0]) (by simp [results, Tryz.results146, go_sem, z0, z1, z2, z3]) rfl ?_
   exact ⟨_, _, rfl, ⟨_, _, _, _, _, _, rfl, FD.out.mono (by omega), (FE.out.mono (by omega)).imp (fun b h => by omega)⟩, FV.out.seq, FB.out⟩

set_option maxRecDepth 100000 in
set_option maxHeartbeats 8000000 in
theorem mtake_txn {w : World} {g : Nat} {s : Rb} (hx : MrBox w g s) (hl : s.1.length ≤ 500000) : Calls Tryz.prog 145 #[.pointer (some ⟨g, 0, none⟩), .int .i64 8192, .func (.func 146) #[] #[]] w (GivesM (vX w.heap.size) w g (mdo txnC default s)) := by
 obtain ⟨r, k⟩ := s
 have HG := Lib.hid hx.lt
 have HNE : Hid (w.heap.size ≠ g) := Lib.hid (by have := hx.lt; omega)
 have hbA : Below w.heap.size w (w.alloc (.cells #[.int .i64 0, .int .i64 0, .slice none 0 0, .slice none 0 0] 51)) := (Below.refl _ _).alloc (Nat.le_refl _) _
 have hbB : Below w.heap.size w ((w.alloc (.cells #[.int .i64 0, .int .i64 0, .slice none 0 0, .slice none 0 0] 51)).alloc (.cells #[.int .i64 0, .int .i64 0, .slice none 0 0, .slice none 0 0] 51)) := hbA.alloc hbA.size _
 have hbC : Below (w.heap.size + 1) (w.alloc (.cells #[.int .i64 0, .int .i64 0, .slice none 0 0, .slice none 0 0] 51)) ((w.alloc (.cells #[.int .i64 0, .int .i64 0, .slice none 0 0, .slice none 0 0] 51)).alloc (.cells #[.int .i64 0, .int .i64 0, .slice none 0 0, .slice none 0 0] 51)) := (Below.refl _ _).alloc (by simp) _
 have XB := Lib.hid (hx.below hbB)
 have RAB : Hid (((w.alloc (.cells #[.int .i64 0, .int .i64 0, .slice none 0 0, .slice none 0 0] 51)).alloc (.cells #[.int .i64 0, .int .i64 0, .slice none 0 0, .slice none 0 0] 51)).heap[w.heap.size]? = some (.cells #[.int .i64 0, .int .i64 0, .slice none 0 0, .slice none 0 0] 51 (0, 0))) := Lib.hid ((hbC.block w.heap.size (by omega)).trans (heap_alloc_new w _))
 have RBB : Hid (((w.alloc (.cells #[.int .i64 0, .int .i64 0, .slice none 0 0, .slice none 0 0] 51)).alloc (.cells #[.int .i64 0, .int .i64 0, .slice none 0 0, .slice none 0 0] 51)).heap[w.heap.size + 1]? = some (.cells #[.int .i64 0, .int .i64 0, .slice none 0 0, .slice none 0 0] 51 (0, 0))) := Lib.hid (by
  have h := heap_alloc_new (w.alloc (.cells #[.int .i64 0, .int .i64 0, .slice none 0 0, .slice none 0 0] 51)) (.cells #[.int .i64 0, .int .i64 0, .slice none 0 0, .slice none 0 0] 51)
  rw [show (w.alloc (.cells #[.int .i64 0, .int .i64 0, .slice none 0 0, .slice none 0 0] 51)).heap.size = w.heap.size + 1 by simp] at h
  exact h)
 have ZB : Hid (((w.alloc (.cells #[.int .i64 0, .int .i64 0, .slice none 0 0, .slice none 0 0] 51)).alloc (.cells #[.int .i64 0, .int .i64 0, .slice none 0 0, .slice none 0 0] 51)).heap.size = w.heap.size + 2) := Lib.hid (by simp)
 have GB := Lib.hid (But.of hbB (Nat.le_of_lt hx.lt))
 clear hx hbA hbB hbC
 cases k with
 | true =>
  have HE := Lib.hid (mdo_past (c := txnC) (z := default) (b := r))
  go_enter Tryz.func145, Tryz.ntmps145
  go_upto_region 2 with fail
  generalize ((w.alloc (.cells #[.int .i64 0, .int .i64 0, .slice none 0 0, .slice none 0 0] 51)).alloc (.cells #[.int .i64 0, .int .i64 0, .slice none 0 0, .slice none 0 0] 51)) = wB at *
  obtain ⟨a0, n0, cc, hn0, h1, h2, h0, hh, hs, -⟩ := XB.out.parts
  obtain ⟨c0, c1, f0, f1⟩ := mrb_cell hh
  clear hs
  obtain ⟨⟨z0, z1, z2, z3⟩, -, -, -, -⟩ := st4_cells RBB.out
  obtain ⟨⟨y0, y1, y2, y3⟩, f4, f5, f6, f7⟩ := st4_cells RAB.out
  have FC := Lib.hid (st4_cells (st4_block (v0 := .int .i64 0) (v1 := .int .i64 0) (v2 := .slice none 0 0) (v3 := .slice none 0 0) RAB.out)).1
  have FG := Lib.hid (st4_but (v0 := .int .i64 0) (v1 := .int .i64 0) (v2 := .slice none 0 0) (v3 := .slice none 0 0) GB.out HG.out (Nat.le_refl w.heap.size))
  have FX := Lib.hid (st4_boxM (v0 := .int .i64 0) (v1 := .int .i64 0) (v2 := .slice none 0 0) (v3 := .slice none 0 0) XB.out HG.out)
  unfold st4 at FC FG FX
  go_wp2_with fail
  obtain ⟨g0, g1, g2, g3⟩ := FC.out
  refine bodyPost_ret (v := .agg #[.int .i64 0, .int .i64 0, .slice none 0 0, .slice none 0 0]) (by simp [results, Tryz.results145, go_sem, g0, g1, g2, g3]) rfl ?_
  rw [HE.out]
  exact ⟨_, rfl, vX_zero _ _, FX.out, FG.out⟩
 | false =>
  have eg : ∀ args w, (callFunc 146 args).run Tryz.prog w = .ok (.enter 146 args) w := enters_of Tryz.func146 (by kernel_rfl) rfl
  have HL : LocB txnC 8192 r := locB_txn r
  have e0 : ((0 : Int) != 0) = false := by decide
  have hlr : (r.take 8192).length ≤ 100000 := by
   have := List.length_take_le 8192 r
   omega
  have HL5 : Hid (r.length ≤ 500000) := Lib.hid hl
  go_enter Tryz.func145, Tryz.ntmps145
  go_upto_region 2 with fail
  generalize ((w.alloc (.cells #[.int .i64 0, .int .i64 0, .slice none 0 0, .slice none 0 0] 51)).alloc (.cells #[.int .i64 0, .int .i64 0, .slice none 0 0, .slice none 0 0] 51)) = wB at *
  obtain ⟨a0, n0, cc, hn0, h1, h2, h0, hh, hs, -⟩ := XB.out.parts
  obtain ⟨c0, c1, f0, f1⟩ := mrb_cell hh
  have KF := mfirst_any XB.out 8192 (by decide)
  clear hs hh
  cases hres : txnC.get (r.take 8192) with
  | err j =>
   have hj : j ≠ 0 := txnC.bad hres
   obtain ⟨j2, HL2⟩ := HL.2 _ hres
   have HE := Lib.hid (mdo_err (z := (default : PTxn)) HL2)
   have e1 : (j != 0) = true := bne_iff_ne.2 hj
   clear HL HL2
   go_wp2_with fail
   refine KF.mono ?_
   rintro e w1 ⟨a1, k1, c1x, -, rfl, hs1, hb⟩
   have KR := txreadJ hs1 hlr _ hres
   have HB := Lib.hid hb
   have HX1 := Lib.hid (XB.out.below hb)
   clear hs1 hb KF c0 c1 f0 f1
   go_upto_region 6 with (go_at_fn 146; refine KR.mono ?_; rintro e w2 ⟨u, v2, rfl, hu, hv, hb2⟩; obtain ⟨da, dn, dc, ea, en, ec, rfl, q1, q2⟩ := hu.parts; obtain ⟨ra, rn, rc, rfl, hrn, -, -, -⟩ := byParts hv)
   obtain rfl : rn = 0 := hrn
   obtain ⟨x, hxd⟩ : ∃ x : PTxn, default = x := ⟨_, rfl⟩
   rw [hxd]
   have HB2 : Hid (Below wB.heap.size wB (w2.alloc (.cells #[.int .i64 x.node, .int .i64 x.seq, .slice da dn dc, .slice ea en ec] 51))) := Lib.hid ((HB.out.trans (hb2.mono HB.out.size)).alloc (Nat.le_trans HB.out.size hb2.size) _)
   clear hb2 hu hv q1 q2 KR hxd
   generalize (w2.alloc (.cells #[.int .i64 x.node, .int .i64 x.seq, .slice da dn dc, .slice ea en ec] 51)) = w3 at *
   have X3 := Lib.hid (XB.out.below HB2.out)
   obtain ⟨a2, n2, c2, hn2, -, -, -, hh2, hs2, hl2⟩ := X3.out.parts
   have HL2 := Lib.hid hl2
   obtain ⟨d0, d1, f0, f1⟩ := mrb_cell hh2
   have hh2' := Lib.hid hh2
   have hs2' := Lib.hid hs2
   have HN := Lib.hid hn2
   clear hh2 hs2 hn2
   go_upto_region 8 with fail
   have hn3 : n2 = r.length := HN.out
   have X4 : Hid (MrBox (w3.setCell ⟨g, 1, none⟩ (.bool true)) g (r, true)) := Lib.hid (by subst hn3; exact mrBox_err hh2'.out hs2'.out HL2.out)
   have G4 : Hid (But g w (w3.setCell ⟨g, 1, none⟩ (.bool true))) := Lib.hid ((GB.out.trans (But.of HB2.out (by have := GB.out.size; have := HG.out; omega))).trans (But.set _ _ _ _))
   have RA4 := Lib.hid ((Below.heap_setCell w3 ⟨g, 1, none⟩ (.bool true) w.heap.size HNE.out).trans ((HB2.out.block w.heap.size (by rw [ZB.out]; omega)).trans RAB.out))
   have RB4 := Lib.hid ((Below.heap_setCell w3 ⟨g, 1, none⟩ (.bool true) (w.heap.size + 1) (by show w.heap.size + 1 ≠ g; have := HG.out; omega)).trans ((HB2.out.block (w.heap.size + 1) (by rw [ZB.out]; omega)).trans RBB.out))
   clear d0 d1 f0 f1
   generalize (w3.setCell ⟨g, 1, none⟩ (.bool true)) = w4 at *
   obtain ⟨⟨z0, z1, z2, z3⟩, -, -, -, -⟩ := st4_cells RB4.out
   obtain ⟨⟨y0, y1, y2, y3⟩, f4, f5, f6, f7⟩ := st4_cells RA4.out
   have FC := Lib.hid (st4_cells (st4_block (v0 := .int .i64 0) (v1 := .int .i64 0) (v2 := .slice none 0 0) (v3 := .slice none 0 0) RA4.out)).1
   have FG := Lib.hid (st4_but (v0 := .int .i64 0) (v1 := .int .i64 0) (v2 := .slice none 0 0) (v3 := .slice none 0 0) G4.out HG.out (Nat.le_refl w.heap.size))
   have FX := Lib.hid (st4_boxM (v0 := .int .i64 0) (v1 := .int .i64 0) (v2 := .slice none 0 0) (v3 := .slice none 0 0) X4.out HG.out)
   unfold st4 at FC FG FX
   go_wp2_with fail
   obtain ⟨g0, g1, g2, g3⟩ := FC.out
   refine bodyPost_ret (v := .agg #[.int .i64 0, .int .i64 0, .slice none 0 0, .slice none 0 0]) (by simp [results, Tryz.results145, go_sem, g0, g1, g2, g3]) rfl ?_
   rw [HE.out]
   exact ⟨_, rfl, vX_zero _ _, FX.out, FG.out⟩
  | ok x q =>
   obtain ⟨HL2, hq⟩ := HL.1 _ _ hres
   have HE := Lib.hid (mdo_ok (z := (default : PTxn)) HL2)
   obtain ⟨p, hp⟩ : ∃ p, p = min 8192 r.length - q.length := ⟨_, rfl⟩
   rw [← hp] at HE
   have hp0 : 0 < p := by omega
   have hpr : p ≤ r.length := by omega
   have HQ := Lib.hid hq
   have HP := Lib.hid hp
   clear HL HL2 hq hp
   go_wp2_with fail
   refine KF.mono ?_
   rintro e w1 ⟨a1, k1, c1x, hk1, rfl, hs1, hb⟩
   have KR := txreadJ hs1 hlr _ hres
   have HB := Lib.hid hb
   have HX1 := Lib.hid (XB.out.below hb)
   have HK1 := Lib.hid hk1
   have HW1 : Hid (w.heap.size + 2 ≤ w1.heap.size) := Lib.hid (by have := hb.size; rw [ZB.out] at this; exact this)
   clear hs1 hb KF c0 c1 f0 f1 hk1
   go_upto_region 6 with (go_at_fn 146; refine KR.mono ?_; rintro e w2 ⟨u, v2, rfl, ⟨da, dn, dc, ea, en, ec, rfl, q1, q2⟩, hv, hb2⟩; obtain ⟨ra, rn, rc, rfl, hrn, -, -, -⟩ := byParts hv)
   have hba := (Below.refl w2.heap.size w2).alloc (Nat.le_refl _) (.cells #[.int .i64 x.node, .int .i64 x.seq, .slice da dn dc, .slice ea en ec] 51)
   have HB2 : Hid (Below wB.heap.size wB (w2.alloc (.cells #[.int .i64 x.node, .int .i64 x.seq, .slice da dn dc, .slice ea en ec] 51))) := Lib.hid ((HB.out.trans (hb2.mono HB.out.size)).alloc (Nat.le_trans HB.out.size hb2.size) _)
   have D3 := Lib.hid (q1.below hba (Nat.le_refl _))
   have E3 := Lib.hid (q2.below hba (Nat.le_refl _))
   have RT3 : Hid ((w2.alloc (.cells #[.int .i64 x.node, .int .i64 x.seq, .slice da dn dc, .slice ea en ec] 51)).heap[w2.heap.size]? = some (.cells #[.int .i64 x.node, .int .i64 x.seq, .slice da dn dc, .slice ea en ec] 51 (0, 0))) := Lib.hid (heap_alloc_new _ _)
   have HTB : Hid (w1.heap.size ≤ w2.heap.size) := Lib.hid hb2.size
   have HRN := Lib.hid hrn
   clear hb2 hv q1 q2 KR hba hrn
   go_upto_region 9 with fail
   generalize (w2.alloc (.cells #[.int .i64 x.node, .int .i64 x.seq, .slice da dn dc, .slice ea en ec] 51)) = w3 at *
   generalize w2.heap.size = tb at *
   have HTG : Hid (tb ≠ g) := Lib.hid (by have := HTB.out; have := HW1.out; have := HG.out; omega)
   have HGT : Hid (g < w1.heap.size) := Lib.hid (by have := HW1.out; have := HG.out; omega)
   have ZT := HW1
   have X3 := Lib.hid (XB.out.below HB2.out)
   have HG3 : Hid (But g w w3) := Lib.hid (GB.out.trans (But.of HB2.out (by have := GB.out.size; have := HG.out; omega)))
   have RA3 := Lib.hid ((HB2.out.block w.heap.size (by rw [ZB.out]; omega)).trans RAB.out)
   obtain ⟨a2, n2, c2, hn2, g1, g2, g0, hh2, hs2, hl2⟩ := X3.out.parts
   have HL2 := Lib.hid hl2
   obtain ⟨d0, d1, f0, f1⟩ := mrb_cell hh2
   have hn3 : n2 = r.length := hn2
   subst hn3
   have hs3 := hs2
   obtain ⟨b2, o2, c2', hv, -, -, -, -⟩ := hs3.spot (by omega)
   simp only [Value.slice.injEq] at hv
   obtain ⟨rfl, -, rfl⟩ := hv
   have hd := hs2.from p hpr
   have hh2' := Lib.hid hh2
   have HD := Lib.hid hd
   have e2 : (k1 : Int) - (q.length : Int) = (p : Int) := by have h3 := HP.out; have h4 := HQ.out; have h5 : k1 = min 8192 r.length := HK1.out; omega
   have e3 : IntKind.i64.wrap ((k1 : Int) - (q.length : Int)) = (p : Int) := by rw [e2]; simp [IntKind.wrap, IntKind.bits, IntKind.signed]; omega
   have HLD : Hid ((r.drop p).length = r.length - p) := Lib.hid List.length_drop
   clear hh2 hs2 hs3 hd hn2 g0 e2 HRN
   generalize q.length = ql at *
   have p1 : (p : Int) ≤ (r.length : Int) := by omega
   have p2 : (r.length : Int) ≤ (c2 : Int) := by omega
   have p3 : (p : Int) ≤ (c2 : Int) := by omega
   have p4 : (0 : Int) ≤ (p : Int) := by omega
   by_cases hcp : c2 = p
   ·rw [if_pos hcp] at HD
    subst hcp
    have hpl : r.length = c2 := by omega
    rw [hpl, Nat.sub_self] at HD
    rw [hpl, Nat.sub_self] at HLD
    have HPL := Lib.hid hpl
    generalize r.length = n at *
    subst hpl
    have XX : MrBox (w3.setCell ⟨g, 0, none⟩ (.slice (some ⟨b2, o2, none⟩) 0 0)) g (r.drop n, false) := by
     have HR := mrBox_rest (r := r.drop n) (c' := 0) hh2'.out (by rw [HLD.out]; exact HD.out) (fun _ ad he => by cases he; exact HL2.out (by first | omega | (show 0 < r.length; omega)) ⟨b2, o2, none⟩ rfl)
     rw [HLD.out] at HR
     exact HR
    go_upto_region 10 with fail
    have X4 := Lib.hid XX
    have G4 := Lib.hid (HG3.out.trans (But.set _ _ 0 (.slice (some ⟨b2, o2, none⟩) 0 0)))
    have RA4 := Lib.hid ((Below.heap_setCell w3 ⟨g, 0, none⟩ (.slice (some ⟨b2, o2, none⟩) 0 0) w.heap.size HNE.out).trans RA3.out)
    have RT4 := Lib.hid ((Below.heap_setCell w3 ⟨g, 0, none⟩ (.slice (some ⟨b2, o2, none⟩) 0 0) tb HTG.out).trans RT3.out)
    have D4 := Lib.hid (D3.out.but flat_int (But.set g w3 0 (.slice (some ⟨b2, o2, none⟩) 0 0)) HGT.out)
    have E4 := Lib.hid (E3.out.but (But.set g w3 0 (.slice (some ⟨b2, o2, none⟩) 0 0)) HGT.out (fun b hb e => by have := HGT.out; omega))
    generalize (w3.setCell ⟨g, 0, none⟩ (.slice (some ⟨b2, o2, none⟩) 0 0)) = w4 at *
    obtain ⟨⟨z0, z1, z2, z3⟩, -, -, -, -⟩ := st4_cells RT4.out
    obtain ⟨⟨y0, y1, y2, y3⟩, f4, f5, f6, f7⟩ := st4_cells RA4.out
    have FC := Lib.hid (st4_cells (st4_block (v0 := .int .i64 x.node) (v1 := .int .i64 x.seq) (v2 := .slice da dn dc) (v3 := .slice ea en ec) RA4.out)).1
    have FG := Lib.hid (st4_but (v0 := .int .i64 x.node) (v1 := .int .i64 x.seq) (v2 := .slice da dn dc) (v3 := .slice ea en ec) G4.out HG.out (Nat.le_refl w.heap.size))
    have FX := Lib.hid (st4_boxM (v0 := .int .i64 x.node) (v1 := .int .i64 x.seq) (v2 := .slice da dn dc) (v3 := .slice ea en ec) X4.out HG.out)
    have FB := Lib.hid (st4_bare w4 w.heap.size (.int .i64 x.node) (.int .i64 x.seq) (.slice da dn dc) (.slice ea en ec))
    have FD := Lib.hid ((D4.out.but flat_int FB.out (by have := ZT.out; omega)).mono (N0 ZT.out))
    have FE := Lib.hid (((E4.out.but FB.out (by have := ZT.out; omega) (fun b hb e => by have := ZT.out; omega)).mono (N0 ZT.out)).imp fun b hb => Nat.le_trans (N0 ZT.out) hb)
    clear FB
    unfold st4 at FC FG FX FD FE
    go_wp2_with fail
    obtain ⟨g0, g1, g2, g3⟩ := FC.out
    refine bodyPost_ret (v := .agg #[.int .i64 x.node, .int .i64 x.seq, .slice da dn dc, .slice ea en ec]) (by simp [results, Tryz.results145, go_sem, g0, g1, g2, g3]) rfl ?_
    rw [HE.out]
    exact ⟨_, rfl, ⟨_, _, _, _, _, _, rfl, FD.out, FE.out⟩, FX.out, FG.out⟩
   ·rw [if_neg hcp] at HD
    have XX : MrBox (w3.setCell ⟨g, 0, none⟩ (.slice (some ⟨b2, o2 + p, none⟩) (r.length - p) (c2 - p))) g (r.drop p, false) := by
     have HR := mrBox_rest (r := r.drop p) (c' := c2 - p) hh2'.out (by rw [HLD.out]; exact HD.out) (fun _ ad he => by cases he; exact HL2.out (by first | omega | (show 0 < r.length; omega)) ⟨b2, o2, none⟩ rfl)
     rw [HLD.out] at HR
     exact HR
    go_upto_region 10 with fail
    have X4 := Lib.hid XX
    have G4 := Lib.hid (HG3.out.trans (But.set _ _ 0 (.slice (some ⟨b2, o2 + p, none⟩) (r.length - p) (c2 - p))))
    have RA4 := Lib.hid ((Below.heap_setCell w3 ⟨g, 0, none⟩ (.slice (some ⟨b2, o2 + p, none⟩) (r.length - p) (c2 - p)) w.heap.size HNE.out).trans RA3.out)
    have RT4 := Lib.hid ((Below.heap_setCell w3 ⟨g, 0, none⟩ (.slice (some ⟨b2, o2 + p, none⟩) (r.length - p) (c2 - p)) tb HTG.out).trans RT3.out)
    have D4 := Lib.hid (D3.out.but flat_int (But.set g w3 0 (.slice (some ⟨b2, o2 + p, none⟩) (r.length - p) (c2 - p))) HGT.out)
    have E4 := Lib.hid (E3.out.but (But.set g w3 0 (.slice (some ⟨b2, o2 + p, none⟩) (r.length - p) (c2 - p))) HGT.out (fun b hb e => by have := HGT.out; omega))
    generalize (w3.setCell ⟨g, 0, none⟩ (.slice (some ⟨b2, o2 + p, none⟩) (r.length - p) (c2 - p))) = w4 at *
    obtain ⟨⟨z0, z1, z2, z3⟩, -, -, -, -⟩ := st4_cells RT4.out
    obtain ⟨⟨y0, y1, y2, y3⟩, f4, f5, f6, f7⟩ := st4_cells RA4.out
    have FC := Lib.hid (st4_cells (st4_block (v0 := .int .i64 x.node) (v1 := .int .i64 x.seq) (v2 := .slice da dn dc) (v3 := .slice ea en ec) RA4.out)).1
    have FG := Lib.hid (st4_but (v0 := .int .i64 x.node) (v1 := .int .i64 x.seq) (v2 := .slice da dn dc) (v3 := .slice ea en ec) G4.out HG.out (Nat.le_refl w.heap.size))
    have FX := Lib.hid (st4_boxM (v0 := .int .i64 x.node) (v1 := .int .i64 x.seq) (v2 := .slice da dn dc) (v3 := .slice ea en ec) X4.out HG.out)
    have FB := Lib.hid (st4_bare w4 w.heap.size (.int .i64 x.node) (.int .i64 x.seq) (.slice da dn dc) (.slice ea en ec))
    have FD := Lib.hid ((D4.out.but flat_int FB.out (by have := ZT.out; omega)).mono (N0 ZT.out))
    have FE := Lib.hid (((E4.out.but FB.out (by have := ZT.out; omega) (fun b hb e => by have := ZT.out; omega)).mono (N0 ZT.out)).imp fun b hb => Nat.le_trans (N0 ZT.out) hb)
    clear FB
    unfold st4 at FC FG FX FD FE
    go_wp2_with fail
    obtain ⟨g0, g1, g2, g3⟩ := FC.out
    refine bodyPost_ret (v := .agg #[.int .i64 x.node, .int .i64 x.seq, .slice da dn dc, .slice ea en ec]) (by simp [results, Tryz.results145, go_sem, g0, g1, g2, g3]) rfl ?_
    rw [HE.out]
    exact ⟨_, rfl, ⟨_, _, _, _, _, _, rfl, FD.out, FE.out⟩, FX.out, FG.out⟩

set_option maxRecDepth 100000 in
set_option maxHeartbeats 4000000 in
theorem mtxn_any {w : World} {g : Nat} {s : Rb} (hx : MrBox w g s) (hl : s.1.length ≤ 500000) : Calls Tryz.prog 105 #[.pointer (some ⟨g, 0, none⟩)] w (GivesM (vX w.heap.size) w g (mtxn s)) := by
 have HG := Lib.hid hx.lt
 have HNE : Hid (w.heap.size ≠ g) := Lib.hid (by have := hx.lt; omega)
 have hba := (Below.refl w.heap.size w).alloc (Nat.le_refl _) (.cells #[.int .i64 0, .int .i64 0, .slice none 0 0, .slice none 0 0] 51)
 have K0 := Lib.hid (mtake_txn (hx.below hba) hl)
 have R0 : Hid ((w.alloc (.cells #[.int .i64 0, .int .i64 0, .slice none 0 0, .slice none 0 0] 51)).heap[w.heap.size]? = some (.cells #[.int .i64 0, .int .i64 0, .slice none 0 0, .slice none 0 0] 51 (0, 0))) := Lib.hid (heap_alloc_new _ _)
 have Z0 : Hid (w.heap.size < (w.alloc (.cells #[.int .i64 0, .int .i64 0, .slice none 0 0, .slice none 0 0] 51)).heap.size) := Lib.hid (by simp)
 have G0 : Hid (But g w (w.alloc (.cells #[.int .i64 0, .int .i64 0, .slice none 0 0, .slice none 0 0] 51))) := Lib.hid (But.of hba (Nat.le_of_lt hx.lt))
 have HR : Hid (mtxn s = mdo txnC default s) := Lib.hid rfl
 clear hx hl hba
 generalize mtxn s = res at *
 generalize mdo txnC default s = q at *
 obtain ⟨x, t⟩ := q
 go_enter Tryz.func105, Tryz.ntmps105
 go_upto_region 1 with fail
 generalize (w.alloc (.cells #[.int .i64 0, .int .i64 0, .slice none 0 0, .slice none 0 0] 51)) = w0 at *
 go_wp2_with fail
 refine K0.out.mono ?_
 rintro e w1 ⟨v, rfl, ⟨da, dn, dc, ea, en, ec, rfl, hd, he⟩, hx, hb⟩
 have R1 := Lib.hid ((hb.block _ Z0.out HNE.out).trans R0.out)
 have G1 := Lib.hid (G0.out.trans hb)
 have X1 := Lib.hid hx
 have D1 := Lib.hid hd
 have E1 := Lib.hid he
 clear hx hb K0 hd he
 obtain ⟨⟨y0, y1, y2, y3⟩, f4, f5, f6, f7⟩ := st4_cells R1.out
 have FC := Lib.hid (st4_cells (st4_block (v0 := .int .i64 x.node) (v1 := .int .i64 x.seq) (v2 := .slice da dn dc) (v3 := .slice ea en ec) R1.out)).1
 have FG := Lib.hid (st4_but (v0 := .int .i64 x.node) (v1 := .int .i64 x.seq) (v2 := .slice da dn dc) (v3 := .slice ea en ec) G1.out HG.out (Nat.le_refl w.heap.size))
 have FX := Lib.hid (st4_boxM (v0 := .int .i64 x.node) (v1 := .int .i64 x.seq) (v2 := .slice da dn dc) (v3 := .slice ea en ec) X1.out HG.out)
 have FB := Lib.hid (st4_bare w1 w.heap.size (.int .i64 x.node) (.int .i64 x.seq) (.slice da dn dc) (.slice ea en ec))
 have FD := Lib.hid ((D1.out.but flat_int FB.out Z0.out).mono (Nat.le_of_lt Z0.out))
 have FE := Lib.hid (((E1.out.but FB.out Z0.out (fun b hb e => by have := Z0.out; omega)).mono (Nat.le_of_lt Z0.out)).imp fun b hb => Nat.le_trans (Nat.le_of_lt Z0.out) hb)
 clear FB
 unfold st4 at FC FG FX FD FE
 go_wp2_with fail
 obtain ⟨g0, g1, g2, g3⟩ := FC.out
 refine bodyPost_ret (v := .agg #[.int .i64 x.node, .int .i64 x.seq, .slice da dn dc, .slice ea en ec]) (by simp [results, Tryz.results105, go_sem, g0, g1, g2, g3]) rfl ?_
 rw [HR.out]
 exact ⟨_, rfl, ⟨_, _, _, _, _, _, rfl, FD.out, FE.out⟩, FX.out, FG.out⟩

set_option maxRecDepth 100000 in
set_option maxHeartbeats 8000000 in
theorem mlist_txn {w : World} {g : Nat} {s : Rb} (hx : MrBox w g s) (hl : s.1.length ≤ 500000) (k : Nat) (hk : k ≤ 100000) : Calls Tryz.prog 104 #[.pointer (some ⟨g, 0, none⟩), .int .i64 k, .func (.func 105) #[.pointer (some ⟨g, 0, none⟩)] #[]] w (GivesM (fun W v l => OwnJ (fun b => w.heap.size ≤ b) LTxn w.heap.size W v l) w g (mlist mtxn k s)) := by
 have HG := Lib.hid hx.lt
 have K0 := Lib.hid (mcount_any hx hl k)
 have HC := Lib.hid (mcount_le k s)
 have HT0 := Lib.hid (Nat.le_trans (shrb_count k s) hl)
 have HR : Hid (mlist mtxn k s = mN mtxn (mcount k s).1 (mcount k s).2) := Lib.hid rfl
 have HK := Lib.hid hk
 have eg : ∀ args w, (callFunc 105 args).run Tryz.prog w = .ok (.enter 105 args) w := enters_of Tryz.func105 (by kernel_rfl) rfl
 clear hx hl hk
 generalize mlist mtxn k s = res at *
 generalize mcount k s = q0 at *
 obtain ⟨n, s0⟩ := q0
 go_enter Tryz.func104, Tryz.ntmps104
 go_wp2_with fail
 refine K0.out.mono ?_
 rintro e w1 ⟨v, rfl, hv, hx1, hb1⟩
 obtain rfl : v = .int .i64 n := hv
 have HX1 := Lib.hid hx1
 have HB1 := Lib.hid hb1
 have HN : Hid (n ≤ 100000) := Lib.hid (Nat.le_trans HC.out HK.out)
 clear hx1 hb1 K0
 go_wp2_with fail
 go_loopw [8] (fun z wr => ∃ (l : List PTxn) (j : Nat) (t : Rb), l.length + j = n ∧ Aside (res = (l ++ (mN mtxn j t).1, (mN mtxn j t).2)) ∧ Aside (t.1.length ≤ 500000) ∧ OwnJ (fun b => w.heap.size ≤ b) LTxn w.heap.size wr z l ∧ MrBox wr g t ∧ But g w wr) (fun z _ => n - lenOf z)
 case atStart => exact ⟨[], n, s0, by simp, by rw [List.nil_append]; exact HR.out, HT0.out, OwnJ.nil _ _ _, HX1.out, HB1.out⟩
 case round =>
  obtain ⟨l, j, t, hlj, HRL, HT, ho, hx, hb⟩ := hrel
  have HO := Lib.hid ho
  have HX := Lib.hid hx
  have HB := Lib.hid hb
  have HLJ := Lib.hid hlj
  obtain ⟨la, lc, rfl, h1, h2, -, -⟩ := ho.own.parts
  obtain ⟨ra, rn, rc, -, -, -, -, hh, -, -⟩ := hx.parts
  obtain ⟨x0, x1, -, -⟩ := mrb_cell hh
  clear ho hx hb hh
  obtain ⟨b, bad⟩ := t
  change wr.cell? ⟨g, 1, none⟩ = some (.bool bad) at x1
  obtain ⟨ll, hll⟩ : ∃ m, l.length = m := ⟨_, rfl⟩
  rw [hll] at hlj h1 HO
  have LL := Lib.hid hll
  have HNN := HN.out
  by_cases hlt : ll < n
  ·have hlt2 : (ll : Int) < (n : Int) := by omega
   cases bad with
   | true =>
    rw [hll]
    go_wp2_with fail
    go_ret
    rw [HRL.out, mN_bad, List.append_nil]
    exact ⟨_, rfl, HO.out, HX.out, HB.out⟩
   | false =>
    obtain ⟨i, rfl⟩ : ∃ i, j = i + 1 := ⟨j - 1, by omega⟩
    have HRM : Hid (res = (l ++ [(mtxn (b, false)).1] ++ (mN mtxn i (mtxn (b, false)).2).1, (mN mtxn i (mtxn (b, false)).2).2)) := Lib.hid (by rw [HRL.out, mN_more, List.append_assoc]; rfl)
    have HT1 := Lib.hid (Nat.le_trans (shrb_txn (b, false)) HT.out)
    have KN := Lib.hid (mtxn_any HX.out HT.out)
    clear HRL
    generalize mtxn (b, false) = q at *
    obtain ⟨x, t⟩ := q
    rw [hll]
    go_wp2_with (first
     | (go_at_fn 105; refine KN.out.mono ?_; rintro e w2 ⟨v, rfl, ⟨da, dn, dc, ea, en, ec, rfl, hd, he⟩, hx2, hb2⟩
        have O2 : Hid (OwnJ (fun b => w.heap.size ≤ b) LTxn w.heap.size w2 _ l) := Lib.hid (HO.out.but hb2 HG.out fun b hb e => by have := HG.out; omega)
        have N2 := Lib.hid (hd.new flat_int)
        have M2 := Lib.hid (he.sq fun b h1 _ => h1)
        have Zr := Lib.hid HB.out.size
        have Z2 := Lib.hid hb2.size
        have OL := Lib.hid HO.out.lt
        have G2 := Lib.hid (HB.out.trans hb2)
        have X2 := Lib.hid hx2
        clear hx2 hb2 KN hd he)
     | (at_builtin; refine wpList_append_elJ (fun b => w.heap.size ≤ b) LTxn rfl (.tmp 23) (.tmp 26) rfl w.heap.size rfl (O2.out.alloc _) rfl (one_txnN (x := x) (N := w.heap.size) N2.out M2.out (fun k hk => (OL.out k hk).2) Z2.out Zr.out) (fun _ _ h => h) (by rw [LL.out]; simp; omega) (by have := G2.out.size; simp; omega) ?_))
    intro v' w5 ho' hgr _
    have O5 := Lib.hid ho'
    have G5 := Lib.hid ((G2.out.alloc HG.out _).grown hgr HG.out (fun j hj => (O2.out.lt j hj).1))
    have X5 := Lib.hid ((X2.out.below ((Below.refl _ _).alloc (Nat.le_refl _) _)).grown hgr (fun j hj => Nat.lt_of_lt_of_le HG.out (O2.out.lt j hj).1))
    obtain ⟨na, nc, hnv, hn1, hn2⟩ : ∃ na nc, v' = .slice na (ll + 1) nc ∧ (ll + 1 : Int) ≤ (nc : Int) ∧ (nc : Int) ≤ 9223372036854775807 := by
     obtain ⟨a, c, e, k1, k2, -⟩ := ho'.own.parts
     rw [List.length_append, LL.out] at e k1
     exact ⟨a, c, e, by simp at k1; omega, by omega⟩
    clear ho' hgr x0 x1
    subst hnv
    go_wp2_with fail
    go_roundw
    case rel => exact ⟨l ++ [x], i, t, by rw [List.length_append, LL.out]; simp; omega, HRM.out, HT1.out, O5.out, X5.out, G5.out⟩
    case measure => simp [lenOf] <;> omega
  ·have hlt2 : ¬ (ll : Int) < (n : Int) := by omega
   obtain rfl : j = 0 := by omega
   rw [hll]
   go_wp2_with fail
   go_ret
   rw [HRL.out, mN_zero, List.append_nil]
   exact ⟨_, rfl, HO.out, HX.out, HB.out⟩

set_option maxRecDepth 100000 in
set_option maxHeartbeats 2000000 in
theorem mvec_any {w : World} {g : Nat} {s : Rb} (hx : MrBox w g s) (hl : s.1.length ≤ 500000) : Calls Tryz.prog 100 #[.pointer (some ⟨g, 0, none⟩)] w (GivesM (fun W v l => OwnE LInt w.heap.size W v l) w g (mlist mnum 8 s)) := by
 have K := Lib.hid (mlist_num hx hl 8 (by decide))
 clear hx hl
 generalize mlist mnum 8 s = q at *
 go_enter Tryz.func100, Tryz.ntmps100
 go_wp2_with fail
 refine K.out.mono ?_
 rintro e w1 ⟨v, rfl, hv, hx, hb⟩
 have HV := Lib.hid hv
 have HX := Lib.hid hx
 have HB := Lib.hid hb
 clear hv hx hb K
 go_wp2_with fail
 go_ret
 exact ⟨_, rfl, HV.out, HX.out, HB.out⟩

set_option maxRecDepth 100000 in
set_option maxHeartbeats 2000000 in
theorem mzone_any {w : World} {g : Nat} {s : Rb} (hx : MrBox w g s) (hl : s.1.length ≤ 500000) : Calls Tryz.prog 101 #[.pointer (some ⟨g, 0, none⟩)] w (GivesM (fun W v l => OwnE LStr w.heap.size W v l) w g (mlist mtext 8 s)) := by
 have K := Lib.hid (mlist_text hx hl 8 (by decide))
 clear hx hl
 generalize mlist mtext 8 s = q at *
 go_enter Tryz.func101, Tryz.ntmps101
 go_wp2_with fail
 refine K.out.mono ?_
 rintro e w1 ⟨v, rfl, hv, hx, hb⟩
 have HV := Lib.hid hv
 have HX := Lib.hid hx
 have HB := Lib.hid hb
 clear hv hx hb K
 go_wp2_with fail
 go_ret
 exact ⟨_, rfl, HV.out, HX.out, HB.out⟩
end Go.Proofs.YtfapkepfngddlaaGreat
