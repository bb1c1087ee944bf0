/- What the program's own compare of dots leaves. What the program's own isDot, areDrops and Formed of effects leave. (Written by gen-eform.py.) What the program's own Formed of effects leaves. What the program's own Right of effects leaves. (Written by gen-eright.py.) -/
import Derived.Test.YtmknpmamkjjiaaaGreatEMades
import Derived.Test.YtmknpmamkjjiaaaGreatISets
import Derived.Test.YtmknpmamkjjiaaaGreatShelf
import Derived.Deep.RegionHeld3
import Derived.Test.YtmknpmamkjjiaaaGreatIKeyF
import Derived.Deep.QuietTactic
import Derived.BigQuiet
namespace Go.Proofs.YtmknpmamkjjiaaaGreat
open Go.RowKit Plain
set_option linter.unusedVariables false

theorem two_cells (w : World) (X Y : Array Value) (t u : TypeId) (i : Nat) :
  ((w.alloc (.cells X t)).alloc (.cells Y u)).cell? ⟨w.heap.size, i, none⟩ = X[i]? ∧ ((w.alloc (.cells X t)).alloc (.cells Y u)).cell? ⟨w.heap.size + 1, i, none⟩ = Y[i]? := by
 have s1 : (w.alloc (.cells X t)).heap.size = w.heap.size + 1 := by simp
 have h1 := World.cell?_alloc_new w X t i
 have h2 := World.cell?_alloc_new (w.alloc (.cells X t)) Y u i
 rw [s1] at h2
 have b2 := (Below.refl (w.heap.size + 1) (w.alloc (.cells X t))).alloc (by rw [s1]; exact Nat.le_refl _) (.cells Y u)
 exact ⟨(b2.cell (p := ⟨w.heap.size, i, none⟩) (show w.heap.size < w.heap.size + 1 by omega)).trans h1, h2⟩
set_option maxRecDepth 100000 in
set_option maxHeartbeats 8000000 in
/-- compare -/
theorem ecompare_any (a b : PDot) (w : World) : Calls Tryz.prog 72 #[.agg #[.int .i64 a.node, .int .i64 a.seq, .int .i64 a.pos], .agg #[.int .i64 b.node, .int .i64 b.seq, .int .i64 b.pos]] w fun e w' => e = .returned (.int .i64 (dcmp a b)) ∧ Below w.heap.size w w' := by
 have HX : Hid (DotAt ((w.alloc (.cells #[.int .i64 a.node, .int .i64 a.seq, .int .i64 a.pos] 54)).alloc (.cells #[.int .i64 b.node, .int .i64 b.seq, .int .i64 b.pos] 54)) w.heap.size 0 a) := Lib.hid ⟨(two_cells w _ _ _ _ 0).1, (two_cells w _ _ _ _ 1).1, (two_cells w _ _ _ _ 2).1⟩
 have HY : Hid (DotAt ((w.alloc (.cells #[.int .i64 a.node, .int .i64 a.seq, .int .i64 a.pos] 54)).alloc (.cells #[.int .i64 b.node, .int .i64 b.seq, .int .i64 b.pos] 54)) (w.heap.size + 1) 0 b) := Lib.hid ⟨(two_cells w _ _ _ _ 0).2, (two_cells w _ _ _ _ 1).2, (two_cells w _ _ _ _ 2).2⟩
 have HB : Hid (Below w.heap.size w ((w.alloc (.cells #[.int .i64 a.node, .int .i64 a.seq, .int .i64 a.pos] 54)).alloc (.cells #[.int .i64 b.node, .int .i64 b.seq, .int .i64 b.pos] 54))) := Lib.hid (((Below.refl _ _).alloc (Nat.le_refl _) _).alloc (by simp) _)
 have K3 := Lib.hid (fun W => Tryz.cmp_Compare_int_f82 a.node b.node W)
 have K4 := Lib.hid (fun W => Tryz.cmp_Compare_int_f82 a.seq b.seq W)
 have K5 := Lib.hid (fun W => Tryz.cmp_Compare_int_f82 a.pos b.pos W)
 have HI : Hid (dcmp a b = firstNZ (dcmps a b)) := Lib.hid rfl
 rw [HI.out]
 unfold dcmps
 clear HI
 generalize Lib.compareInt a.node b.node = r0 at *
 generalize Lib.compareInt a.seq b.seq = r1 at *
 generalize Lib.compareInt a.pos b.pos = r2 at *
 obtain ⟨r, hr⟩ : ∃ r, firstNZ [r0, r1, r2] = r := ⟨_, rfl⟩
 rw [hr]
 have HR := Lib.hid hr
 clear hr
 go_enter Tryz.func72, Tryz.ntmps72
 go_upto_region 1 with fail
 generalize ((w.alloc (.cells #[.int .i64 a.node, .int .i64 a.seq, .int .i64 a.pos] 54)).alloc (.cells #[.int .i64 b.node, .int .i64 b.seq, .int .i64 b.pos] 54)) = W2 at *
 have KO := Lib.hid (ior_any [r0, r1, r2] 3 W2.heap.size (W2.alloc (.cells #[.int .i64 r0, .int .i64 r1, .int .i64 r2] 3)).drew rfl (by omega) (fun j hj => by
  have e : (W2.alloc (.cells #[.int .i64 r0, .int .i64 r1, .int .i64 r2] 3)).drew.cell? ⟨W2.heap.size, j, none⟩ = (#[.int .i64 r0, .int .i64 r1, .int .i64 r2] : Array Value)[j]? := World.cell?_alloc_new W2 #[.int .i64 r0, .int .i64 r1, .int .i64 r2] 3 j
  rw [e]
  match j, hj with
  | 0, _ => rfl
  | 1, _ => rfl
  | 2, _ => rfl))
 rw [HR.out] at KO
 have KE : Hid (∀ u, Below W2.heap.size W2 u → (u.cell? ⟨w.heap.size, 0, none⟩ = some (.int .i64 a.node) ∧ u.cell? ⟨w.heap.size, 1, none⟩ = some (.int .i64 a.seq) ∧ u.cell? ⟨w.heap.size, 2, none⟩ = some (.int .i64 a.pos)) ∧ (u.cell? ⟨w.heap.size + 1, 0, none⟩ = some (.int .i64 b.node) ∧ u.cell? ⟨w.heap.size + 1, 1, none⟩ = some (.int .i64 b.seq) ∧ u.cell? ⟨w.heap.size + 1, 2, none⟩ = some (.int .i64 b.pos))) := Lib.hid (fun u hu => by
  obtain ⟨c0, c1, c2⟩ := HX.out.below hu HX.out.lt
  obtain ⟨d0, d1, d2⟩ := HY.out.below hu HY.out.lt
  simp only [Nat.zero_add] at c1 c2 d1 d2
  exact ⟨⟨c0, c1, c2⟩, ⟨d0, d1, d2⟩⟩)
 generalize a.node = xnode at *
 generalize a.seq = xseq at *
 generalize a.pos = xpos at *
 generalize b.node = ynode at *
 generalize b.seq = yseq at *
 generalize b.pos = ypos at *
 go_region_held3 (fun u => (u.cell? ⟨w.heap.size, 0, none⟩ = some (.int .i64 xnode) ∧ u.cell? ⟨w.heap.size, 1, none⟩ = some (.int .i64 xseq) ∧ u.cell? ⟨w.heap.size, 2, none⟩ = some (.int .i64 xpos)) ∧ (u.cell? ⟨w.heap.size + 1, 0, none⟩ = some (.int .i64 ynode) ∧ u.cell? ⟨w.heap.size + 1, 1, none⟩ = some (.int .i64 yseq) ∧ u.cell? ⟨w.heap.size + 1, 2, none⟩ = some (.int .i64 ypos)))
  (first | (exact KE.out _ (Below.refl _ _).drew) | (exact KE.out _ ((Below.refl _ _).alloc (Nat.le_refl _) _).drew))
  (first
   | (go_at_call 82; (with_reducible refine (K3.out _).mono ?_); rintro e w' ⟨rfl, rfl⟩)
   | (go_at_call 82; (with_reducible refine (K4.out _).mono ?_); rintro e w' ⟨rfl, rfl⟩)
   | (go_at_call 82; (with_reducible refine (K5.out _).mono ?_); rintro e w' ⟨rfl, rfl⟩)
   | (go_at_call 81; (with_reducible refine KO.out.mono ?_); rintro e w' ⟨rfl, rfl⟩))
 go_wp2_with fail
 go_ret
 exact ⟨rfl, (HB.out.alloc HB.out.size _).drew⟩
end Go.Proofs.YtmknpmamkjjiaaaGreat
namespace Go.Proofs.YtmknpmamkjjiaaaGreat
open Go.RowKit Plain
set_option linter.unusedVariables false

def dotI (d : PDot) : PItem := ⟨[97], [], 1, [], 0, d⟩
set_option maxRecDepth 100000 in
set_option maxHeartbeats 2000000 in
/-- isDot -/
theorem eisDot_any (d : PDot) (w : World) : Calls Tryz.prog 71 #[.agg #[.int .i64 d.node, .int .i64 d.seq, .int .i64 d.pos]] w (GivesB w (dotB d)) := by
 have K : Hid (∀ W, Calls Tryz.prog 53 #[.agg #[.string ⟨#[97]⟩, .string ⟨#[]⟩, .int .i64 1, .string ⟨#[]⟩, .int .i64 0, .int .i64 d.node, .int .i64 d.seq, .int .i64 d.pos]] W (GivesB W (dotB d))) := Lib.hid (fun W => by
  have := iformed_any (dotI d) W
  rw [show formedB (dotI d) = dotB d from ask_dot d] at this
  exact this)
 have DB : Hid (DotAt (w.alloc (.cells #[.int .i64 d.node, .int .i64 d.seq, .int .i64 d.pos] 54)) w.heap.size 0 d) := Lib.hid ⟨by simp, by simp, by simp⟩
 have G := Lib.hid ((Below.refl w.heap.size w).alloc (Nat.le_refl _) (.cells #[.int .i64 d.node, .int .i64 d.seq, .int .i64 d.pos] 54))
 generalize dotB d = r at *
 go_enter Tryz.func71, Tryz.ntmps71
 go_upto_region 1 with fail
 generalize (w.alloc (.cells #[.int .i64 d.node, .int .i64 d.seq, .int .i64 d.pos] 54)) = w1 at *
 obtain ⟨c0, c1, c2⟩ := DB.out
 simp only [Nat.zero_add] at c1 c2
 go_wp2_with fail
 refine (K.out _).mono ?_
 rintro e w2 ⟨rfl, hb⟩
 have G2 := Lib.hid (G.out.trans (hb.mono G.out.size))
 clear hb c0 c1 c2
 go_wp2_with fail
 go_ret
 exact ⟨rfl, G2.out⟩

set_option maxRecDepth 100000 in
set_option maxHeartbeats 16000000 in
/-- areDrops -/
theorem eare_any {v : Value} {ds : List PDot} {w : World} (hv : SeqE LDot w v ds) :
  Calls Tryz.prog 54 #[v] w (GivesB w (areB ds)) := by
 have HBI := Lib.hid (dropsB_iff (l := ds))
 have HA0 : Hid (areB ds = (decide (ds.length ≤ 64) && dropsB ds)) := Lib.hid rfl
 obtain ⟨a, cap, rfl, g1, g2, g0, h⟩ := hv.parts
 have HS := Lib.hid h
 clear hv h g0
 obtain ⟨n, hN⟩ : ∃ n, ds.length = n := ⟨_, rfl⟩
 rw [hN] at g1 HS HBI HA0 ⊢
 have LN := Lib.hid hN
 clear hN
 generalize areB ds = r at *
 by_cases hn : n ≤ 64
 rotate_left
 ·have hn1 : (64 : Int) < (n : Int) := by omega
  rw [decide_eq_false hn, Bool.false_and] at HA0
  obtain rfl := HA0.out
  clear hn
  go_enter Tryz.func54, Tryz.ntmps54
  go_wp2_with fail
  go_ret
  exact ⟨rfl, Below.refl _ _⟩
 have hn1 : ¬ (64 : Int) < (n : Int) := by omega
 rw [decide_eq_true hn, Bool.true_and] at HA0
 have HY : Hid ((∀ j, j < n → dotB (ds.getD j default) = true ∧ (0 < j → dlessB (ds.getD (j - 1) default) (ds.getD j default) = true)) → r = true) := Lib.hid (fun h => by rw [HA0.out]; exact HBI.out.2 h)
 have HN1 : Hid (∀ j, j < n → dotB (ds.getD j default) = false → r = false) := Lib.hid (fun j hj h => by
  rw [HA0.out, Bool.eq_false_iff]
  intro e
  have := (HBI.out.1 e j hj).1
  rw [h] at this
  cases this)
 have HN2 : Hid (∀ j, j < n → 0 < j → dlessB (ds.getD (j - 1) default) (ds.getD j default) = false → r = false) := Lib.hid (fun j hj hp h => by
  rw [HA0.out, Bool.eq_false_iff]
  intro e
  have := (HBI.out.1 e j hj).2 hp
  rw [h] at this
  cases this)
 clear HBI HA0
 go_enter Tryz.func54, Tryz.ntmps54
 go_wp2_with fail
 go_loopw [3, 10] (fun _ i wr => ∃ k : Nat, k ≤ n ∧ i = .int .i64 k ∧ (∀ j, j < k → dotB (ds.getD j default) = true ∧ (0 < j → dlessB (ds.getD (j - 1) default) (ds.getD j default) = true)) ∧ Below w.heap.size w wr) (fun _ i _ => n - (intOf i).toNat)
 case atStart => exact ⟨0, Nat.zero_le _, rfl, fun j hj => absurd hj (by omega), Below.refl _ _⟩
 case round =>
  obtain ⟨k, hk, rfl, hall, hb⟩ := hrel
  have HA := Lib.hid hall
  have HB0 := Lib.hid hb
  clear hall hb
  by_cases hlt : k < n
  ·obtain ⟨b, o, c, hv, -, -, -, hc⟩ := dots_spot (HS.out.below HB0.out) (by rw [LN.out]; omega)
   rw [LN.out] at hv
   simp only [Value.slice.injEq] at hv
   obtain ⟨rfl, -, rfl⟩ := hv
   have HN1K := Lib.hid (HN1.out k hlt)
   have HN2K := Lib.hid (HN2.out k hlt)
   have HAK : Hid (dotB (ds.getD k default) = true → (0 < k → dlessB (ds.getD (k - 1) default) (ds.getD k default) = true) → ∀ j, j < k + 1 → dotB (ds.getD j default) = true ∧ (0 < j → dlessB (ds.getD (j - 1) default) (ds.getD j default) = true)) := Lib.hid (fun h1 h2 j hj => by
    by_cases e : j = k
    ·rw [e]; exact ⟨h1, h2⟩
    ·exact HA.out j (by omega))
   have DX := Lib.hid (hc k (by rw [LN.out]; exact hlt))
   have KD0 := Lib.hid (fun W => eisDot_any (ds.getD k default) W)
   by_cases h0 : k = 0
   ·subst h0
    have HXK : Hid (dotB (ds.getD 0 default) = true → ∀ j, j < 0 + 1 → dotB (ds.getD j default) = true ∧ (0 < j → dlessB (ds.getD (j - 1) default) (ds.getD j default) = true)) := Lib.hid (fun h => HAK.out h (fun k => absurd k (by omega)))
    clear hc HAK
    generalize ds.getD 0 default = d at *
    have B1 := (Below.refl wr.heap.size wr).alloc (Nat.le_refl _) (.cells #[.int .i64 d.node, .int .i64 d.seq, .int .i64 d.pos] 54)
    have HB : Hid (Below w.heap.size w (wr.alloc (.cells #[.int .i64 d.node, .int .i64 d.seq, .int .i64 d.pos] 54))) := Lib.hid (HB0.out.trans (B1.mono HB0.out.size))
    have DB : Hid (DotAt (wr.alloc (.cells #[.int .i64 d.node, .int .i64 d.seq, .int .i64 d.pos] 54)) wr.heap.size 0 d) := Lib.hid ⟨by simp, by simp, by simp⟩
    clear B1
    obtain ⟨c0, c1, c2⟩ := DX.out
    simp only [Nat.zero_mul, Nat.add_zero] at c0 c1 c2
    go_upto_region 6 with fail
    clear c0 c1 c2
    generalize (wr.alloc (.cells #[.int .i64 d.node, .int .i64 d.seq, .int .i64 d.pos] 54)) = wb at *
    have KE : Hid (∀ u, Below wb.heap.size wb u → Below wb.heap.size wb u ∧ (u.cell? ⟨wr.heap.size, 0, none⟩ = some (.int .i64 d.node) ∧ u.cell? ⟨wr.heap.size, 1, none⟩ = some (.int .i64 d.seq) ∧ u.cell? ⟨wr.heap.size, 2, none⟩ = some (.int .i64 d.pos))) := Lib.hid (fun u hu => ⟨hu, by
     obtain ⟨c0, c1, c2⟩ := DB.out.below hu DB.out.lt
     simp only [Nat.zero_add] at c1 c2
     exact ⟨c0, c1, c2⟩⟩)
    cases hd : dotB d with
    | false =>
     have KD := KD0
     rw [hd] at KD
     obtain rfl : r = false := HN1K.out hd
     clear hd
     refine wp_region_held_drew (S := fun u' => Below wb.heap.size wb u' ∧ (u'.cell? ⟨wr.heap.size, 0, none⟩ = some (.int .i64 d.node) ∧ u'.cell? ⟨wr.heap.size, 1, none⟩ = some (.int .i64 d.seq) ∧ u'.cell? ⟨wr.heap.size, 2, none⟩ = some (.int .i64 d.pos))) (by kernel_rfl) ?_ (fun hHeld => ?_)
     ·(exact KE.out _ (Below.refl _ _).drew)
     simp only [List.size_toArray, List.length_cons, List.length_nil, Nat.zero_add, Nat.reduceAdd]
     refine tkA (i := 0) (v := ?_) rfl (by kernel_rfl) (fun _ _ _ h => h) (Or.inl ⟨by rfl, ?_⟩) hHeld ?_
     rotate_left
     ·(intro w' hSw; (try dsimp only at hSw); go_simp; try with_reducible rfl)
     simp only [List.getElem_toArray, List.getElem_cons_zero, Act.put, List.setIfInBounds_toArray, List.set_cons_zero, List.set_cons_succ]
     refine wpAnyH_ready (rs := [1]) (by kernel_rfl) (by simp) ?_
     refine AllReadyH.cons rfl (fun K hK => ?_) AllReadyH.nil
     go_simp
     refine (KD.out _).mono ?_
     rintro e s1 ⟨rfl, hb⟩
     refine hK.out _ _ (KE.out _ (holdC hHeld hb)) (fun hHeld => ?_)
     clear hK K hb
     refine tkA (i := 2) (v := ?_) rfl (by kernel_rfl) (fun _ _ _ h => h) (Or.inl ⟨by rfl, ?_⟩) hHeld ?_
     rotate_left
     ·(intro w' hSw; (try dsimp only at hSw); go_simp; try with_reducible rfl)
     simp only [List.getElem_toArray, List.getElem_cons_zero, List.getElem_cons_succ, Act.put, List.setIfInBounds_toArray, List.set_cons_zero, List.set_cons_succ]
     refine tkA (i := 3) (v := ?_) rfl (by kernel_rfl) (fun _ _ _ h => h) (Or.inl ⟨by rfl, ?_⟩) hHeld ?_
     rotate_left
     ·(intro w' hSw; (try dsimp only at hSw); go_simp; try with_reducible rfl)
     simp only [List.getElem_toArray, List.getElem_cons_zero, List.getElem_cons_succ, Act.put, List.setIfInBounds_toArray, List.set_cons_zero, List.set_cons_succ]
     refine tkA (i := 4) (v := undef) rfl (by kernel_rfl) (fun _ _ _ h => h) (Or.inr ⟨by rfl, rfl⟩) hHeld ?_
     simp only [List.getElem_toArray, List.getElem_cons_zero, List.getElem_cons_succ, Act.put, List.setIfInBounds_toArray, List.set_cons_zero, List.set_cons_succ]
     refine tkA (i := 5) (v := undef) rfl (by kernel_rfl) (fun _ _ _ h => h) (Or.inr ⟨by rfl, rfl⟩) hHeld ?_
     simp only [List.getElem_toArray, List.getElem_cons_zero, List.getElem_cons_succ, Act.put, List.setIfInBounds_toArray, List.set_cons_zero, List.set_cons_succ]
     refine tkA (i := 6) (v := undef) rfl (by kernel_rfl) (fun _ _ _ h => h) (Or.inr ⟨by rfl, rfl⟩) hHeld ?_
     simp only [List.getElem_toArray, List.getElem_cons_zero, List.getElem_cons_succ, Act.put, List.setIfInBounds_toArray, List.set_cons_zero, List.set_cons_succ]
     refine tkA (i := 7) (v := undef) rfl (by kernel_rfl) (fun _ _ _ h => h) (Or.inr ⟨by rfl, rfl⟩) hHeld ?_
     simp only [List.getElem_toArray, List.getElem_cons_zero, List.getElem_cons_succ, Act.put, List.setIfInBounds_toArray, List.set_cons_zero, List.set_cons_succ]
     refine tkA (i := 8) (v := undef) rfl (by kernel_rfl) (fun _ _ _ h => h) (Or.inr ⟨by rfl, rfl⟩) hHeld ?_
     simp only [List.getElem_toArray, List.getElem_cons_zero, List.getElem_cons_succ, Act.put, List.setIfInBounds_toArray, List.set_cons_zero, List.set_cons_succ]
     refine tkA (i := 9) (v := undef) rfl (by kernel_rfl) (fun _ _ _ h => h) (Or.inr ⟨by rfl, rfl⟩) hHeld ?_
     simp only [List.getElem_toArray, List.getElem_cons_zero, List.getElem_cons_succ, Act.put, List.setIfInBounds_toArray, List.set_cons_zero, List.set_cons_succ]
     refine tkA (i := 10) (v := undef) rfl (by kernel_rfl) (fun _ _ _ h => h) (Or.inr ⟨by rfl, rfl⟩) hHeld ?_
     simp only [List.getElem_toArray, List.getElem_cons_zero, List.getElem_cons_succ, Act.put, List.setIfInBounds_toArray, List.set_cons_zero, List.set_cons_succ]
     refine tkA (i := 11) (v := undef) rfl (by kernel_rfl) (fun _ _ _ h => h) (Or.inr ⟨by rfl, rfl⟩) hHeld ?_
     simp only [List.getElem_toArray, List.getElem_cons_zero, List.getElem_cons_succ, Act.put, List.setIfInBounds_toArray, List.set_cons_zero, List.set_cons_succ]
     refine tkA (i := 12) (v := undef) rfl (by kernel_rfl) (fun _ _ _ h => h) (Or.inr ⟨by rfl, rfl⟩) hHeld ?_
     simp only [List.getElem_toArray, List.getElem_cons_zero, List.getElem_cons_succ, Act.put, List.setIfInBounds_toArray, List.set_cons_zero, List.set_cons_succ]
     refine tkA (i := 13) (v := undef) rfl (by kernel_rfl) (fun _ _ _ h => h) (Or.inr ⟨by rfl, rfl⟩) hHeld ?_
     simp only [List.getElem_toArray, List.getElem_cons_zero, List.getElem_cons_succ, Act.put, List.setIfInBounds_toArray, List.set_cons_zero, List.set_cons_succ]
     refine tkA (i := 14) (v := undef) rfl (by kernel_rfl) (fun _ _ _ h => h) (Or.inr ⟨by rfl, rfl⟩) hHeld ?_
     simp only [List.getElem_toArray, List.getElem_cons_zero, List.getElem_cons_succ, Act.put, List.setIfInBounds_toArray, List.set_cons_zero, List.set_cons_succ]
     refine tkA (i := 15) (v := undef) rfl (by kernel_rfl) (fun _ _ _ h => h) (Or.inr ⟨by rfl, rfl⟩) hHeld ?_
     simp only [List.getElem_toArray, List.getElem_cons_zero, List.getElem_cons_succ, Act.put, List.setIfInBounds_toArray, List.set_cons_zero, List.set_cons_succ]
     refine tkA (i := 16) (v := ?_) rfl (by kernel_rfl) (fun _ _ _ h => h) (Or.inl ⟨by rfl, ?_⟩) hHeld ?_
     rotate_left
     ·(intro w' hSw; (try dsimp only at hSw); go_simp; try with_reducible rfl)
     simp only [List.getElem_toArray, List.getElem_cons_zero, List.getElem_cons_succ, Act.put, List.setIfInBounds_toArray, List.set_cons_zero, List.set_cons_succ]
     refine wpAnyH_done (by kernel_rfl) ?_ _
     have GJ : Hid (Below w.heap.size w s1) := Lib.hid (HB.out.trans (hHeld.1.mono HB.out.size))
     clear hHeld
     go_wp2_with fail
     go_ret
     exact ⟨rfl, GJ.out⟩
    | true =>
     have KD := KD0
     rw [hd] at KD
     have HX := Lib.hid (HXK.out hd)
     clear hd
     refine wp_region_held_drew (S := fun u' => Below wb.heap.size wb u' ∧ (u'.cell? ⟨wr.heap.size, 0, none⟩ = some (.int .i64 d.node) ∧ u'.cell? ⟨wr.heap.size, 1, none⟩ = some (.int .i64 d.seq) ∧ u'.cell? ⟨wr.heap.size, 2, none⟩ = some (.int .i64 d.pos))) (by kernel_rfl) ?_ (fun hHeld => ?_)
     ·(exact KE.out _ (Below.refl _ _).drew)
     simp only [List.size_toArray, List.length_cons, List.length_nil, Nat.zero_add, Nat.reduceAdd]
     refine tkA (i := 0) (v := ?_) rfl (by kernel_rfl) (fun _ _ _ h => h) (Or.inl ⟨by rfl, ?_⟩) hHeld ?_
     rotate_left
     ·(intro w' hSw; (try dsimp only at hSw); go_simp; try with_reducible rfl)
     simp only [List.getElem_toArray, List.getElem_cons_zero, Act.put, List.setIfInBounds_toArray, List.set_cons_zero, List.set_cons_succ]
     refine wpAnyH_ready (rs := [1]) (by kernel_rfl) (by simp) ?_
     refine AllReadyH.cons rfl (fun K hK => ?_) AllReadyH.nil
     go_simp
     refine (KD.out _).mono ?_
     rintro e s1 ⟨rfl, hb⟩
     refine hK.out _ _ (KE.out _ (holdC hHeld hb)) (fun hHeld => ?_)
     clear hK K hb
     refine tkA (i := 2) (v := ?_) rfl (by kernel_rfl) (fun _ _ _ h => h) (Or.inl ⟨by rfl, ?_⟩) hHeld ?_
     rotate_left
     ·(intro w' hSw; (try dsimp only at hSw); go_simp; try with_reducible rfl)
     simp only [List.getElem_toArray, List.getElem_cons_zero, List.getElem_cons_succ, Act.put, List.setIfInBounds_toArray, List.set_cons_zero, List.set_cons_succ]
     refine tkA (i := 3) (v := ?_) rfl (by kernel_rfl) (fun _ _ _ h => h) (Or.inl ⟨by rfl, ?_⟩) hHeld ?_
     rotate_left
     ·(intro w' hSw; (try dsimp only at hSw); go_simp; try with_reducible rfl)
     simp only [List.getElem_toArray, List.getElem_cons_zero, List.getElem_cons_succ, Act.put, List.setIfInBounds_toArray, List.set_cons_zero, List.set_cons_succ]
     refine tkA (i := 4) (v := ?_) rfl (by kernel_rfl) (fun _ _ _ h => h) (Or.inl ⟨by rfl, ?_⟩) hHeld ?_
     rotate_left
     ·(intro w' hSw; (try dsimp only at hSw); go_simp; try with_reducible rfl)
     simp only [List.getElem_toArray, List.getElem_cons_zero, List.getElem_cons_succ, Act.put, List.setIfInBounds_toArray, List.set_cons_zero, List.set_cons_succ]
     refine tkA (i := 5) (v := ?_) rfl (by kernel_rfl) (fun _ _ _ h => h) (Or.inl ⟨by rfl, ?_⟩) hHeld ?_
     rotate_left
     ·(intro w' hSw; (try dsimp only at hSw); go_simp; try with_reducible rfl)
     simp only [List.getElem_toArray, List.getElem_cons_zero, List.getElem_cons_succ, Act.put, List.setIfInBounds_toArray, List.set_cons_zero, List.set_cons_succ]
     refine tkA (i := 6) (v := ?_) rfl (by kernel_rfl) (fun _ _ _ h => h) (Or.inl ⟨by rfl, ?_⟩) hHeld ?_
     rotate_left
     ·(intro w' hSw; (try dsimp only at hSw); go_simp; try with_reducible rfl)
     simp only [List.getElem_toArray, List.getElem_cons_zero, List.getElem_cons_succ, Act.put, List.setIfInBounds_toArray, List.set_cons_zero, List.set_cons_succ]
     refine tkA (i := 7) (v := undef) rfl (by kernel_rfl) (fun _ _ _ h => h) (Or.inr ⟨by rfl, rfl⟩) hHeld ?_
     simp only [List.getElem_toArray, List.getElem_cons_zero, List.getElem_cons_succ, Act.put, List.setIfInBounds_toArray, List.set_cons_zero, List.set_cons_succ]
     refine tkA (i := 8) (v := undef) rfl (by kernel_rfl) (fun _ _ _ h => h) (Or.inr ⟨by rfl, rfl⟩) hHeld ?_
     simp only [List.getElem_toArray, List.getElem_cons_zero, List.getElem_cons_succ, Act.put, List.setIfInBounds_toArray, List.set_cons_zero, List.set_cons_succ]
     refine tkA (i := 9) (v := undef) rfl (by kernel_rfl) (fun _ _ _ h => h) (Or.inr ⟨by rfl, rfl⟩) hHeld ?_
     simp only [List.getElem_toArray, List.getElem_cons_zero, List.getElem_cons_succ, Act.put, List.setIfInBounds_toArray, List.set_cons_zero, List.set_cons_succ]
     refine tkA (i := 10) (v := undef) rfl (by kernel_rfl) (fun _ _ _ h => h) (Or.inr ⟨by rfl, rfl⟩) hHeld ?_
     simp only [List.getElem_toArray, List.getElem_cons_zero, List.getElem_cons_succ, Act.put, List.setIfInBounds_toArray, List.set_cons_zero, List.set_cons_succ]
     refine tkA (i := 11) (v := undef) rfl (by kernel_rfl) (fun _ _ _ h => h) (Or.inr ⟨by rfl, rfl⟩) hHeld ?_
     simp only [List.getElem_toArray, List.getElem_cons_zero, List.getElem_cons_succ, Act.put, List.setIfInBounds_toArray, List.set_cons_zero, List.set_cons_succ]
     refine tkA (i := 12) (v := undef) rfl (by kernel_rfl) (fun _ _ _ h => h) (Or.inr ⟨by rfl, rfl⟩) hHeld ?_
     simp only [List.getElem_toArray, List.getElem_cons_zero, List.getElem_cons_succ, Act.put, List.setIfInBounds_toArray, List.set_cons_zero, List.set_cons_succ]
     refine tkA (i := 13) (v := undef) rfl (by kernel_rfl) (fun _ _ _ h => h) (Or.inr ⟨by rfl, rfl⟩) hHeld ?_
     simp only [List.getElem_toArray, List.getElem_cons_zero, List.getElem_cons_succ, Act.put, List.setIfInBounds_toArray, List.set_cons_zero, List.set_cons_succ]
     refine tkA (i := 14) (v := undef) rfl (by kernel_rfl) (fun _ _ _ h => h) (Or.inr ⟨by rfl, rfl⟩) hHeld ?_
     simp only [List.getElem_toArray, List.getElem_cons_zero, List.getElem_cons_succ, Act.put, List.setIfInBounds_toArray, List.set_cons_zero, List.set_cons_succ]
     refine tkA (i := 15) (v := ?_) rfl (by kernel_rfl) (fun _ _ _ h => h) (Or.inl ⟨by rfl, ?_⟩) hHeld ?_
     rotate_left
     ·(intro w' hSw; (try dsimp only at hSw); go_simp; try with_reducible rfl)
     simp only [List.getElem_toArray, List.getElem_cons_zero, List.getElem_cons_succ, Act.put, List.setIfInBounds_toArray, List.set_cons_zero, List.set_cons_succ]
     refine tkA (i := 16) (v := ?_) rfl (by kernel_rfl) (fun _ _ _ h => h) (Or.inl ⟨by rfl, ?_⟩) hHeld ?_
     rotate_left
     ·(intro w' hSw; (try dsimp only at hSw); go_simp; try with_reducible rfl)
     simp only [List.getElem_toArray, List.getElem_cons_zero, List.getElem_cons_succ, Act.put, List.setIfInBounds_toArray, List.set_cons_zero, List.set_cons_succ]
     refine wpAnyH_done (by kernel_rfl) ?_ _
     have GJ : Hid (Below w.heap.size w s1) := Lib.hid (HB.out.trans (hHeld.1.mono HB.out.size))
     clear hHeld
     go_wp2_with fail
     go_roundw
     case rel => exact ⟨0 + 1, by omega, by go_num, HX.out, GJ.out⟩
     case measure => simp [intOf]; omega
   ·obtain ⟨p, rfl⟩ : ∃ p, k = p + 1 := ⟨k - 1, by omega⟩
    have DY := Lib.hid (hc p (by rw [LN.out]; omega))
    have KC0 := Lib.hid (fun W => ecompare_any (ds.getD p default) (ds.getD (p + 1) default) W)
    have HGE := Lib.hid (dcmp_ge (ds.getD p default) (ds.getD (p + 1) default))
    replace HN2K : Hid (dlessB (ds.getD p default) (ds.getD (p + 1) default) = false → r = false) := Lib.hid (fun h => HN2K.out (by omega) h)
    have HXK : Hid (dotB (ds.getD (p + 1) default) = true → dlessB (ds.getD p default) (ds.getD (p + 1) default) = true → ∀ j, j < p + 1 + 1 → dotB (ds.getD j default) = true ∧ (0 < j → dlessB (ds.getD (j - 1) default) (ds.getD j default) = true)) := Lib.hid (fun h g => HAK.out h (fun _ => g))
    clear hc HAK
    generalize ds.getD (p + 1) default = d at *
    generalize ds.getD p default = y at *
    have B1 := (Below.refl wr.heap.size wr).alloc (Nat.le_refl _) (.cells #[.int .i64 d.node, .int .i64 d.seq, .int .i64 d.pos] 54)
    have HB : Hid (Below w.heap.size w (wr.alloc (.cells #[.int .i64 d.node, .int .i64 d.seq, .int .i64 d.pos] 54))) := Lib.hid (HB0.out.trans (B1.mono HB0.out.size))
    have DB : Hid (DotAt (wr.alloc (.cells #[.int .i64 d.node, .int .i64 d.seq, .int .i64 d.pos] 54)) wr.heap.size 0 d) := Lib.hid ⟨by simp, by simp, by simp⟩
    have DP : Hid (DotAt (wr.alloc (.cells #[.int .i64 d.node, .int .i64 d.seq, .int .i64 d.pos] 54)) b (o + p * 3) y) := Lib.hid (DY.out.below B1 DY.out.lt)
    clear B1
    have q1 : (0 : Int) < (p : Int) + 1 := by omega
    have q2 : IntKind.i64.wrap ((p : Int) + 1 - 1) = (p : Int) := by rw [show (p : Int) + 1 - 1 = p by omega]; exact IntWalk.i64_in _ (by omega)
    have q4 : IntKind.i64.wrap (p : Int) = (p : Int) := IntWalk.i64_in _ (by omega)
    have q3 : (p : Int) < (n : Int) := by omega
    obtain ⟨c0, c1, c2⟩ := DX.out
    go_upto_region 6 with fail
    clear c0 c1 c2
    generalize (wr.alloc (.cells #[.int .i64 d.node, .int .i64 d.seq, .int .i64 d.pos] 54)) = wb at *
    have KE : Hid (∀ u, Below wb.heap.size wb u → Below wb.heap.size wb u ∧ (u.cell? ⟨wr.heap.size, 0, none⟩ = some (.int .i64 d.node) ∧ u.cell? ⟨wr.heap.size, 1, none⟩ = some (.int .i64 d.seq) ∧ u.cell? ⟨wr.heap.size, 2, none⟩ = some (.int .i64 d.pos)) ∧ (u.cell? ⟨b, o + p * 3, none⟩ = some (.int .i64 y.node) ∧ u.cell? ⟨b, o + p * 3 + 1, none⟩ = some (.int .i64 y.seq) ∧ u.cell? ⟨b, o + p * 3 + 2, none⟩ = some (.int .i64 y.pos))) := Lib.hid (fun u hu => ⟨hu, by
     obtain ⟨c0, c1, c2⟩ := DB.out.below hu DB.out.lt
     simp only [Nat.zero_add] at c1 c2
     obtain ⟨d0, d1, d2⟩ := DP.out.below hu DP.out.lt
     exact ⟨⟨c0, c1, c2⟩, ⟨d0, d1, d2⟩⟩⟩)
    cases hd : dotB d with
    | false =>
     have KD := KD0
     rw [hd] at KD
     obtain rfl : r = false := HN1K.out hd
     clear hd
     refine wp_region_held_drew (S := fun u' => Below wb.heap.size wb u' ∧ (u'.cell? ⟨wr.heap.size, 0, none⟩ = some (.int .i64 d.node) ∧ u'.cell? ⟨wr.heap.size, 1, none⟩ = some (.int .i64 d.seq) ∧ u'.cell? ⟨wr.heap.size, 2, none⟩ = some (.int .i64 d.pos)) ∧ (u'.cell? ⟨b, o + p * 3, none⟩ = some (.int .i64 y.node) ∧ u'.cell? ⟨b, o + p * 3 + 1, none⟩ = some (.int .i64 y.seq) ∧ u'.cell? ⟨b, o + p * 3 + 2, none⟩ = some (.int .i64 y.pos))) (by kernel_rfl) ?_ (fun hHeld => ?_)
     ·(exact KE.out _ (Below.refl _ _).drew)
     simp only [List.size_toArray, List.length_cons, List.length_nil, Nat.zero_add, Nat.reduceAdd]
     refine tkA (i := 0) (v := ?_) rfl (by kernel_rfl) (fun _ _ _ h => h) (Or.inl ⟨by rfl, ?_⟩) hHeld ?_
     rotate_left
     ·(intro w' hSw; (try dsimp only at hSw); go_simp; try with_reducible rfl)
     simp only [List.getElem_toArray, List.getElem_cons_zero, Act.put, List.setIfInBounds_toArray, List.set_cons_zero, List.set_cons_succ]
     refine wpAnyH_ready (rs := [1]) (by kernel_rfl) (by simp) ?_
     refine AllReadyH.cons rfl (fun K hK => ?_) AllReadyH.nil
     go_simp
     refine (KD.out _).mono ?_
     rintro e s1 ⟨rfl, hb⟩
     refine hK.out _ _ (KE.out _ (holdC hHeld hb)) (fun hHeld => ?_)
     clear hK K hb
     refine tkA (i := 2) (v := ?_) rfl (by kernel_rfl) (fun _ _ _ h => h) (Or.inl ⟨by rfl, ?_⟩) hHeld ?_
     rotate_left
     ·(intro w' hSw; (try dsimp only at hSw); go_simp; try with_reducible rfl)
     simp only [List.getElem_toArray, List.getElem_cons_zero, List.getElem_cons_succ, Act.put, List.setIfInBounds_toArray, List.set_cons_zero, List.set_cons_succ]
     refine tkA (i := 3) (v := ?_) rfl (by kernel_rfl) (fun _ _ _ h => h) (Or.inl ⟨by rfl, ?_⟩) hHeld ?_
     rotate_left
     ·(intro w' hSw; (try dsimp only at hSw); go_simp; try with_reducible rfl)
     simp only [List.getElem_toArray, List.getElem_cons_zero, List.getElem_cons_succ, Act.put, List.setIfInBounds_toArray, List.set_cons_zero, List.set_cons_succ]
     refine tkA (i := 4) (v := undef) rfl (by kernel_rfl) (fun _ _ _ h => h) (Or.inr ⟨by rfl, rfl⟩) hHeld ?_
     simp only [List.getElem_toArray, List.getElem_cons_zero, List.getElem_cons_succ, Act.put, List.setIfInBounds_toArray, List.set_cons_zero, List.set_cons_succ]
     refine tkA (i := 5) (v := undef) rfl (by kernel_rfl) (fun _ _ _ h => h) (Or.inr ⟨by rfl, rfl⟩) hHeld ?_
     simp only [List.getElem_toArray, List.getElem_cons_zero, List.getElem_cons_succ, Act.put, List.setIfInBounds_toArray, List.set_cons_zero, List.set_cons_succ]
     refine tkA (i := 6) (v := undef) rfl (by kernel_rfl) (fun _ _ _ h => h) (Or.inr ⟨by rfl, rfl⟩) hHeld ?_
     simp only [List.getElem_toArray, List.getElem_cons_zero, List.getElem_cons_succ, Act.put, List.setIfInBounds_toArray, List.set_cons_zero, List.set_cons_succ]
     refine tkA (i := 7) (v := undef) rfl (by kernel_rfl) (fun _ _ _ h => h) (Or.inr ⟨by rfl, rfl⟩) hHeld ?_
     simp only [List.getElem_toArray, List.getElem_cons_zero, List.getElem_cons_succ, Act.put, List.setIfInBounds_toArray, List.set_cons_zero, List.set_cons_succ]
     refine tkA (i := 8) (v := undef) rfl (by kernel_rfl) (fun _ _ _ h => h) (Or.inr ⟨by rfl, rfl⟩) hHeld ?_
     simp only [List.getElem_toArray, List.getElem_cons_zero, List.getElem_cons_succ, Act.put, List.setIfInBounds_toArray, List.set_cons_zero, List.set_cons_succ]
     refine tkA (i := 9) (v := undef) rfl (by kernel_rfl) (fun _ _ _ h => h) (Or.inr ⟨by rfl, rfl⟩) hHeld ?_
     simp only [List.getElem_toArray, List.getElem_cons_zero, List.getElem_cons_succ, Act.put, List.setIfInBounds_toArray, List.set_cons_zero, List.set_cons_succ]
     refine tkA (i := 10) (v := undef) rfl (by kernel_rfl) (fun _ _ _ h => h) (Or.inr ⟨by rfl, rfl⟩) hHeld ?_
     simp only [List.getElem_toArray, List.getElem_cons_zero, List.getElem_cons_succ, Act.put, List.setIfInBounds_toArray, List.set_cons_zero, List.set_cons_succ]
     refine tkA (i := 11) (v := undef) rfl (by kernel_rfl) (fun _ _ _ h => h) (Or.inr ⟨by rfl, rfl⟩) hHeld ?_
     simp only [List.getElem_toArray, List.getElem_cons_zero, List.getElem_cons_succ, Act.put, List.setIfInBounds_toArray, List.set_cons_zero, List.set_cons_succ]
     refine tkA (i := 12) (v := undef) rfl (by kernel_rfl) (fun _ _ _ h => h) (Or.inr ⟨by rfl, rfl⟩) hHeld ?_
     simp only [List.getElem_toArray, List.getElem_cons_zero, List.getElem_cons_succ, Act.put, List.setIfInBounds_toArray, List.set_cons_zero, List.set_cons_succ]
     refine tkA (i := 13) (v := undef) rfl (by kernel_rfl) (fun _ _ _ h => h) (Or.inr ⟨by rfl, rfl⟩) hHeld ?_
     simp only [List.getElem_toArray, List.getElem_cons_zero, List.getElem_cons_succ, Act.put, List.setIfInBounds_toArray, List.set_cons_zero, List.set_cons_succ]
     refine tkA (i := 14) (v := undef) rfl (by kernel_rfl) (fun _ _ _ h => h) (Or.inr ⟨by rfl, rfl⟩) hHeld ?_
     simp only [List.getElem_toArray, List.getElem_cons_zero, List.getElem_cons_succ, Act.put, List.setIfInBounds_toArray, List.set_cons_zero, List.set_cons_succ]
     refine tkA (i := 15) (v := undef) rfl (by kernel_rfl) (fun _ _ _ h => h) (Or.inr ⟨by rfl, rfl⟩) hHeld ?_
     simp only [List.getElem_toArray, List.getElem_cons_zero, List.getElem_cons_succ, Act.put, List.setIfInBounds_toArray, List.set_cons_zero, List.set_cons_succ]
     refine tkA (i := 16) (v := ?_) rfl (by kernel_rfl) (fun _ _ _ h => h) (Or.inl ⟨by rfl, ?_⟩) hHeld ?_
     rotate_left
     ·(intro w' hSw; (try dsimp only at hSw); go_simp; try with_reducible rfl)
     simp only [List.getElem_toArray, List.getElem_cons_zero, List.getElem_cons_succ, Act.put, List.setIfInBounds_toArray, List.set_cons_zero, List.set_cons_succ]
     refine wpAnyH_done (by kernel_rfl) ?_ _
     have GJ : Hid (Below w.heap.size w s1) := Lib.hid (HB.out.trans (hHeld.1.mono HB.out.size))
     clear hHeld
     go_wp2_with fail
     go_ret
     exact ⟨rfl, GJ.out⟩
    | true =>
     have KD := KD0
     rw [hd] at KD
     have KC := KC0
     generalize dcmp y d = cv at *
     cases hl : dlessB y d with
     | false =>
      obtain rfl : r = false := HN2K.out hl
      have t1 := HGE.out
      rw [hl] at t1
      clear hd hl
      refine wp_region_held_drew (S := fun u' => Below wb.heap.size wb u' ∧ (u'.cell? ⟨wr.heap.size, 0, none⟩ = some (.int .i64 d.node) ∧ u'.cell? ⟨wr.heap.size, 1, none⟩ = some (.int .i64 d.seq) ∧ u'.cell? ⟨wr.heap.size, 2, none⟩ = some (.int .i64 d.pos)) ∧ (u'.cell? ⟨b, o + p * 3, none⟩ = some (.int .i64 y.node) ∧ u'.cell? ⟨b, o + p * 3 + 1, none⟩ = some (.int .i64 y.seq) ∧ u'.cell? ⟨b, o + p * 3 + 2, none⟩ = some (.int .i64 y.pos))) (by kernel_rfl) ?_ (fun hHeld => ?_)
      ·(exact KE.out _ (Below.refl _ _).drew)
      simp only [List.size_toArray, List.length_cons, List.length_nil, Nat.zero_add, Nat.reduceAdd]
      refine tkA (i := 0) (v := ?_) rfl (by kernel_rfl) (fun _ _ _ h => h) (Or.inl ⟨by rfl, ?_⟩) hHeld ?_
      rotate_left
      ·(intro w' hSw; (try dsimp only at hSw); go_simp; try with_reducible rfl)
      simp only [List.getElem_toArray, List.getElem_cons_zero, Act.put, List.setIfInBounds_toArray, List.set_cons_zero, List.set_cons_succ]
      refine wpAnyH_ready (rs := [1]) (by kernel_rfl) (by simp) ?_
      refine AllReadyH.cons rfl (fun K hK => ?_) AllReadyH.nil
      go_simp
      refine (KD.out _).mono ?_
      rintro e s1 ⟨rfl, hb⟩
      refine hK.out _ _ (KE.out _ (holdC hHeld hb)) (fun hHeld => ?_)
      clear hK K hb
      refine tkA (i := 2) (v := ?_) rfl (by kernel_rfl) (fun _ _ _ h => h) (Or.inl ⟨by rfl, ?_⟩) hHeld ?_
      rotate_left
      ·(intro w' hSw; (try dsimp only at hSw); go_simp; try with_reducible rfl)
      simp only [List.getElem_toArray, List.getElem_cons_zero, List.getElem_cons_succ, Act.put, List.setIfInBounds_toArray, List.set_cons_zero, List.set_cons_succ]
      refine tkA (i := 3) (v := ?_) rfl (by kernel_rfl) (fun _ _ _ h => h) (Or.inl ⟨by rfl, ?_⟩) hHeld ?_
      rotate_left
      ·(intro w' hSw; (try dsimp only at hSw); go_simp; try with_reducible rfl)
      simp only [List.getElem_toArray, List.getElem_cons_zero, List.getElem_cons_succ, Act.put, List.setIfInBounds_toArray, List.set_cons_zero, List.set_cons_succ]
      refine tkA (i := 4) (v := ?_) rfl (by kernel_rfl) (fun _ _ _ h => h) (Or.inl ⟨by rfl, ?_⟩) hHeld ?_
      rotate_left
      ·(intro w' hSw; (try dsimp only at hSw); go_simp; try with_reducible rfl)
      simp only [List.getElem_toArray, List.getElem_cons_zero, List.getElem_cons_succ, Act.put, List.setIfInBounds_toArray, List.set_cons_zero, List.set_cons_succ]
      refine tkA (i := 5) (v := ?_) rfl (by kernel_rfl) (fun _ _ _ h => h) (Or.inl ⟨by rfl, ?_⟩) hHeld ?_
      rotate_left
      ·(intro w' hSw; (try dsimp only at hSw); go_simp; try with_reducible rfl)
      simp only [List.getElem_toArray, List.getElem_cons_zero, List.getElem_cons_succ, Act.put, List.setIfInBounds_toArray, List.set_cons_zero, List.set_cons_succ]
      refine tkA (i := 6) (v := ?_) rfl (by kernel_rfl) (fun _ _ _ h => h) (Or.inl ⟨by rfl, ?_⟩) hHeld ?_
      rotate_left
      ·(intro w' hSw; (try dsimp only at hSw); go_simp; try with_reducible rfl)
      simp only [List.getElem_toArray, List.getElem_cons_zero, List.getElem_cons_succ, Act.put, List.setIfInBounds_toArray, List.set_cons_zero, List.set_cons_succ]
      refine tkA (i := 7) (v := ?_) rfl (by kernel_rfl) (fun _ _ _ h => h) (Or.inl ⟨by rfl, ?_⟩) hHeld ?_
      rotate_left
      ·(intro w' hSw; (try dsimp only at hSw); go_simp; try with_reducible rfl)
      simp only [List.getElem_toArray, List.getElem_cons_zero, List.getElem_cons_succ, Act.put, List.setIfInBounds_toArray, List.set_cons_zero, List.set_cons_succ]
      refine tkA (i := 8) (v := ?_) rfl (by kernel_rfl) (fun _ _ _ h => h) (Or.inl ⟨by rfl, ?_⟩) hHeld ?_
      rotate_left
      ·(intro w' hSw; (try dsimp only at hSw); go_simp; try with_reducible rfl)
      simp only [List.getElem_toArray, List.getElem_cons_zero, List.getElem_cons_succ, Act.put, List.setIfInBounds_toArray, List.set_cons_zero, List.set_cons_succ]
      refine tkA (i := 9) (v := ?_) rfl (by kernel_rfl) (fun _ _ _ h => h) (Or.inl ⟨by rfl, ?_⟩) hHeld ?_
      rotate_left
      ·(intro w' hSw; (try dsimp only at hSw); go_simp; try with_reducible rfl)
      simp only [List.getElem_toArray, List.getElem_cons_zero, List.getElem_cons_succ, Act.put, List.setIfInBounds_toArray, List.set_cons_zero, List.set_cons_succ]
      refine tkA (i := 10) (v := ?_) rfl (by kernel_rfl) (fun _ _ _ h => h) (Or.inl ⟨by rfl, ?_⟩) hHeld ?_
      rotate_left
      ·(intro w' hSw; (try dsimp only at hSw); go_simp; try with_reducible rfl)
      simp only [List.getElem_toArray, List.getElem_cons_zero, List.getElem_cons_succ, Act.put, List.setIfInBounds_toArray, List.set_cons_zero, List.set_cons_succ]
      refine tkA (i := 11) (v := ?_) rfl (by kernel_rfl) (fun _ _ _ h => h) (Or.inl ⟨by rfl, ?_⟩) hHeld ?_
      rotate_left
      ·(intro w' hSw; (try dsimp only at hSw); go_simp; try with_reducible rfl)
      simp only [List.getElem_toArray, List.getElem_cons_zero, List.getElem_cons_succ, Act.put, List.setIfInBounds_toArray, List.set_cons_zero, List.set_cons_succ]
      refine tkA (i := 12) (v := ?_) rfl (by kernel_rfl) (fun _ _ _ h => h) (Or.inl ⟨by rfl, ?_⟩) hHeld ?_
      rotate_left
      ·(intro w' hSw; (try dsimp only at hSw); go_simp; try with_reducible rfl)
      simp only [List.getElem_toArray, List.getElem_cons_zero, List.getElem_cons_succ, Act.put, List.setIfInBounds_toArray, List.set_cons_zero, List.set_cons_succ]
      refine wpAnyH_ready (rs := [13]) (by kernel_rfl) (by simp) ?_
      refine AllReadyH.cons rfl (fun K hK => ?_) AllReadyH.nil
      go_simp
      refine (KC.out _).mono ?_
      rintro e s2 ⟨rfl, hb⟩
      refine hK.out _ _ (KE.out _ (holdC hHeld hb)) (fun hHeld => ?_)
      clear hK K hb
      refine tkA (i := 14) (v := ?_) rfl (by kernel_rfl) (fun _ _ _ h => h) (Or.inl ⟨by rfl, ?_⟩) hHeld ?_
      rotate_left
      ·(intro w' hSw; (try dsimp only at hSw); go_simp; try with_reducible rfl)
      simp only [List.getElem_toArray, List.getElem_cons_zero, List.getElem_cons_succ, Act.put, List.setIfInBounds_toArray, List.set_cons_zero, List.set_cons_succ]
      refine tkA (i := 15) (v := ?_) rfl (by kernel_rfl) (fun _ _ _ h => h) (Or.inl ⟨by rfl, ?_⟩) hHeld ?_
      rotate_left
      ·(intro w' hSw; (try dsimp only at hSw); go_simp; try with_reducible rfl)
      simp only [List.getElem_toArray, List.getElem_cons_zero, List.getElem_cons_succ, Act.put, List.setIfInBounds_toArray, List.set_cons_zero, List.set_cons_succ]
      refine tkA (i := 16) (v := ?_) rfl (by kernel_rfl) (fun _ _ _ h => h) (Or.inl ⟨by rfl, ?_⟩) hHeld ?_
      rotate_left
      ·(intro w' hSw; (try dsimp only at hSw); go_simp; try with_reducible rfl)
      simp only [List.getElem_toArray, List.getElem_cons_zero, List.getElem_cons_succ, Act.put, List.setIfInBounds_toArray, List.set_cons_zero, List.set_cons_succ]
      refine wpAnyH_done (by kernel_rfl) ?_ _
      have GJ : Hid (Below w.heap.size w s2) := Lib.hid (HB.out.trans (hHeld.1.mono HB.out.size))
      clear hHeld
      go_wp2_with fail
      go_ret
      exact ⟨rfl, GJ.out⟩
     | true =>
      have HX := Lib.hid (HXK.out hd hl)
      have t1 := HGE.out
      rw [hl] at t1
      clear hd hl
      refine wp_region_held_drew (S := fun u' => Below wb.heap.size wb u' ∧ (u'.cell? ⟨wr.heap.size, 0, none⟩ = some (.int .i64 d.node) ∧ u'.cell? ⟨wr.heap.size, 1, none⟩ = some (.int .i64 d.seq) ∧ u'.cell? ⟨wr.heap.size, 2, none⟩ = some (.int .i64 d.pos)) ∧ (u'.cell? ⟨b, o + p * 3, none⟩ = some (.int .i64 y.node) ∧ u'.cell? ⟨b, o + p * 3 + 1, none⟩ = some (.int .i64 y.seq) ∧ u'.cell? ⟨b, o + p * 3 + 2, none⟩ = some (.int .i64 y.pos))) (by kernel_rfl) ?_ (fun hHeld => ?_)
      ·(exact KE.out _ (Below.refl _ _).drew)
      simp only [List.size_toArray, List.length_cons, List.length_nil, Nat.zero_add, Nat.reduceAdd]
      refine tkA (i := 0) (v := ?_) rfl (by kernel_rfl) (fun _ _ _ h => h) (Or.inl ⟨by rfl, ?_⟩) hHeld ?_
      rotate_left
      ·(intro w' hSw; (try dsimp only at hSw); go_simp; try with_reducible rfl)
      simp only [List.getElem_toArray, List.getElem_cons_zero, Act.put, List.setIfInBounds_toArray, List.set_cons_zero, List.set_cons_succ]
      refine wpAnyH_ready (rs := [1]) (by kernel_rfl) (by simp) ?_
      refine AllReadyH.cons rfl (fun K hK => ?_) AllReadyH.nil
      go_simp
      refine (KD.out _).mono ?_
      rintro e s1 ⟨rfl, hb⟩
      refine hK.out _ _ (KE.out _ (holdC hHeld hb)) (fun hHeld => ?_)
      clear hK K hb
      refine tkA (i := 2) (v := ?_) rfl (by kernel_rfl) (fun _ _ _ h => h) (Or.inl ⟨by rfl, ?_⟩) hHeld ?_
      rotate_left
      ·(intro w' hSw; (try dsimp only at hSw); go_simp; try with_reducible rfl)
      simp only [List.getElem_toArray, List.getElem_cons_zero, List.getElem_cons_succ, Act.put, List.setIfInBounds_toArray, List.set_cons_zero, List.set_cons_succ]
      refine tkA (i := 3) (v := ?_) rfl (by kernel_rfl) (fun _ _ _ h => h) (Or.inl ⟨by rfl, ?_⟩) hHeld ?_
      rotate_left
      ·(intro w' hSw; (try dsimp only at hSw); go_simp; try with_reducible rfl)
      simp only [List.getElem_toArray, List.getElem_cons_zero, List.getElem_cons_succ, Act.put, List.setIfInBounds_toArray, List.set_cons_zero, List.set_cons_succ]
      refine tkA (i := 4) (v := ?_) rfl (by kernel_rfl) (fun _ _ _ h => h) (Or.inl ⟨by rfl, ?_⟩) hHeld ?_
      rotate_left
      ·(intro w' hSw; (try dsimp only at hSw); go_simp; try with_reducible rfl)
      simp only [List.getElem_toArray, List.getElem_cons_zero, List.getElem_cons_succ, Act.put, List.setIfInBounds_toArray, List.set_cons_zero, List.set_cons_succ]
      refine tkA (i := 5) (v := ?_) rfl (by kernel_rfl) (fun _ _ _ h => h) (Or.inl ⟨by rfl, ?_⟩) hHeld ?_
      rotate_left
      ·(intro w' hSw; (try dsimp only at hSw); go_simp; try with_reducible rfl)
      simp only [List.getElem_toArray, List.getElem_cons_zero, List.getElem_cons_succ, Act.put, List.setIfInBounds_toArray, List.set_cons_zero, List.set_cons_succ]
      refine tkA (i := 6) (v := ?_) rfl (by kernel_rfl) (fun _ _ _ h => h) (Or.inl ⟨by rfl, ?_⟩) hHeld ?_
      rotate_left
      ·(intro w' hSw; (try dsimp only at hSw); go_simp; try with_reducible rfl)
      simp only [List.getElem_toArray, List.getElem_cons_zero, List.getElem_cons_succ, Act.put, List.setIfInBounds_toArray, List.set_cons_zero, List.set_cons_succ]
      refine tkA (i := 7) (v := ?_) rfl (by kernel_rfl) (fun _ _ _ h => h) (Or.inl ⟨by rfl, ?_⟩) hHeld ?_
      rotate_left
      ·(intro w' hSw; (try dsimp only at hSw); go_simp; try with_reducible rfl)
      simp only [List.getElem_toArray, List.getElem_cons_zero, List.getElem_cons_succ, Act.put, List.setIfInBounds_toArray, List.set_cons_zero, List.set_cons_succ]
      refine tkA (i := 8) (v := ?_) rfl (by kernel_rfl) (fun _ _ _ h => h) (Or.inl ⟨by rfl, ?_⟩) hHeld ?_
      rotate_left
      ·(intro w' hSw; (try dsimp only at hSw); go_simp; try with_reducible rfl)
      simp only [List.getElem_toArray, List.getElem_cons_zero, List.getElem_cons_succ, Act.put, List.setIfInBounds_toArray, List.set_cons_zero, List.set_cons_succ]
      refine tkA (i := 9) (v := ?_) rfl (by kernel_rfl) (fun _ _ _ h => h) (Or.inl ⟨by rfl, ?_⟩) hHeld ?_
      rotate_left
      ·(intro w' hSw; (try dsimp only at hSw); go_simp; try with_reducible rfl)
      simp only [List.getElem_toArray, List.getElem_cons_zero, List.getElem_cons_succ, Act.put, List.setIfInBounds_toArray, List.set_cons_zero, List.set_cons_succ]
      refine tkA (i := 10) (v := ?_) rfl (by kernel_rfl) (fun _ _ _ h => h) (Or.inl ⟨by rfl, ?_⟩) hHeld ?_
      rotate_left
      ·(intro w' hSw; (try dsimp only at hSw); go_simp; try with_reducible rfl)
      simp only [List.getElem_toArray, List.getElem_cons_zero, List.getElem_cons_succ, Act.put, List.setIfInBounds_toArray, List.set_cons_zero, List.set_cons_succ]
      refine tkA (i := 11) (v := ?_) rfl (by kernel_rfl) (fun _ _ _ h => h) (Or.inl ⟨by rfl, ?_⟩) hHeld ?_
      rotate_left
      ·(intro w' hSw; (try dsimp only at hSw); go_simp; try with_reducible rfl)
      simp only [List.getElem_toArray, List.getElem_cons_zero, List.getElem_cons_succ, Act.put, List.setIfInBounds_toArray, List.set_cons_zero, List.set_cons_succ]
      refine tkA (i := 12) (v := ?_) rfl (by kernel_rfl) (fun _ _ _ h => h) (Or.inl ⟨by rfl, ?_⟩) hHeld ?_
      rotate_left
      ·(intro w' hSw; (try dsimp only at hSw); go_simp; try with_reducible rfl)
      simp only [List.getElem_toArray, List.getElem_cons_zero, List.getElem_cons_succ, Act.put, List.setIfInBounds_toArray, List.set_cons_zero, List.set_cons_succ]
      refine wpAnyH_ready (rs := [13]) (by kernel_rfl) (by simp) ?_
      refine AllReadyH.cons rfl (fun K hK => ?_) AllReadyH.nil
      go_simp
      refine (KC.out _).mono ?_
      rintro e s2 ⟨rfl, hb⟩
      refine hK.out _ _ (KE.out _ (holdC hHeld hb)) (fun hHeld => ?_)
      clear hK K hb
      refine tkA (i := 14) (v := ?_) rfl (by kernel_rfl) (fun _ _ _ h => h) (Or.inl ⟨by rfl, ?_⟩) hHeld ?_
      rotate_left
      ·(intro w' hSw; (try dsimp only at hSw); go_simp; try with_reducible rfl)
      simp only [List.getElem_toArray, List.getElem_cons_zero, List.getElem_cons_succ, Act.put, List.setIfInBounds_toArray, List.set_cons_zero, List.set_cons_succ]
      refine tkA (i := 15) (v := ?_) rfl (by kernel_rfl) (fun _ _ _ h => h) (Or.inl ⟨by rfl, ?_⟩) hHeld ?_
      rotate_left
      ·(intro w' hSw; (try dsimp only at hSw); go_simp; try with_reducible rfl)
      simp only [List.getElem_toArray, List.getElem_cons_zero, List.getElem_cons_succ, Act.put, List.setIfInBounds_toArray, List.set_cons_zero, List.set_cons_succ]
      refine tkA (i := 16) (v := ?_) rfl (by kernel_rfl) (fun _ _ _ h => h) (Or.inl ⟨by rfl, ?_⟩) hHeld ?_
      rotate_left
      ·(intro w' hSw; (try dsimp only at hSw); go_simp; try with_reducible rfl)
      simp only [List.getElem_toArray, List.getElem_cons_zero, List.getElem_cons_succ, Act.put, List.setIfInBounds_toArray, List.set_cons_zero, List.set_cons_succ]
      refine wpAnyH_done (by kernel_rfl) ?_ _
      have GJ : Hid (Below w.heap.size w s2) := Lib.hid (HB.out.trans (hHeld.1.mono HB.out.size))
      clear hHeld
      go_wp2_with fail
      go_roundw
      case rel => exact ⟨p + 1 + 1, by omega, by go_num, HX.out, GJ.out⟩
      case measure => simp [intOf]; omega
  ·obtain rfl : k = n := by omega
   obtain rfl : r = true := HY.out HA.out
   go_wp2_with fail
   go_ret
   exact ⟨rfl, HB0.out⟩
end Go.Proofs.YtmknpmamkjjiaaaGreat
namespace Go.Proofs.YtmknpmamkjjiaaaGreat
open Go.RowKit Plain
set_option linter.unusedVariables false

theorem effAt_box (w : World) (x : PEff) (a : Option Addr) (n c : Nat) : EffAt (w.alloc (.cells #[.int .i64 x.pos, .string (bt x.key), .string (bt x.field), .int .i64 x.kind, .string (bt x.elem), .int .i64 x.n, .slice a n c] 61)) w.heap.size 0 x (.slice a n c) := ⟨by simp, by simp, by simp, by simp, by simp, by simp, by simp⟩
theorem EffAt.zero {w : World} {b : Nat} {x : PEff} {dv : Value} (h : EffAt w b 0 x dv) : w.cell? ⟨b, 0, none⟩ = some (.int .i64 x.pos) ∧ w.cell? ⟨b, 1, none⟩ = some (.string (bt x.key)) ∧ w.cell? ⟨b, 2, none⟩ = some (.string (bt x.field)) ∧ w.cell? ⟨b, 3, none⟩ = some (.int .i64 x.kind) ∧ w.cell? ⟨b, 4, none⟩ = some (.string (bt x.elem)) ∧ w.cell? ⟨b, 5, none⟩ = some (.int .i64 x.n) ∧ w.cell? ⟨b, 6, none⟩ = some dv := by
 obtain ⟨c0, c1, c2, c3, c4, c5, c6⟩ := h
 simp only [Nat.zero_add] at c1 c2 c3 c4 c5 c6
 exact ⟨c0, c1, c2, c3, c4, c5, c6⟩
theorem ItemAt.zero {w : World} {b : Nat} {x : PItem} (h : ItemAt w b 0 x) : w.cell? ⟨b, 0, none⟩ = some (.string (bt x.key)) ∧ w.cell? ⟨b, 1, none⟩ = some (.string (bt x.field)) ∧ w.cell? ⟨b, 2, none⟩ = some (.int .i64 x.kind) ∧ w.cell? ⟨b, 3, none⟩ = some (.string (bt x.elem)) ∧ w.cell? ⟨b, 4, none⟩ = some (.int .i64 x.n) ∧ w.cell? ⟨b, 5, none⟩ = some (.int .i64 x.dot.node) ∧ w.cell? ⟨b, 6, none⟩ = some (.int .i64 x.dot.seq) ∧ w.cell? ⟨b, 7, none⟩ = some (.int .i64 x.dot.pos) := by
 obtain ⟨c0, c1, c2, c3, c4, c5, c6, c7⟩ := h
 simp only [Nat.zero_add] at c1 c2 c3 c4 c5 c6 c7
 exact ⟨c0, c1, c2, c3, c4, c5, c6, c7⟩
theorem itemAt_box (w : World) (x : PItem) : ItemAt (w.alloc (.cells #[.string (bt x.key), .string (bt x.field), .int .i64 x.kind, .string (bt x.elem), .int .i64 x.n, .int .i64 x.dot.node, .int .i64 x.dot.seq, .int .i64 x.dot.pos] 79)) w.heap.size 0 x := ⟨by simp, by simp, by simp, by simp, by simp, by simp, by simp, by simp⟩
/-- an item whose Kind is stored anew -/
theorem ItemAt.kind {w : World} {b : Nat} {x : PItem} (h : ItemAt w b 0 x) (k : Int) : ItemAt (w.setCell ⟨b, 2, none⟩ (.int .i64 k)) b 0 ⟨x.key, x.field, k, x.elem, x.n, x.dot⟩ := by
 obtain ⟨c0, c1, c2, c3, c4, c5, c6, c7⟩ := h
 simp only [Nat.zero_add] at c1 c2 c3 c4 c5 c6 c7
 exact ⟨(World.cell?_setCell_other _ _ _ _ (by simp)).trans c0, (World.cell?_setCell_other _ _ _ _ (by simp)).trans c1, World.cell?_setCell_same _ _ _ c2, (World.cell?_setCell_other _ _ _ _ (by simp)).trans c3, (World.cell?_setCell_other _ _ _ _ (by simp)).trans c4, (World.cell?_setCell_other _ _ _ _ (by simp)).trans c5, (World.cell?_setCell_other _ _ _ _ (by simp)).trans c6, (World.cell?_setCell_other _ _ _ _ (by simp)).trans c7⟩

set_option maxRecDepth 100000 in
set_option maxHeartbeats 8000000 in
/-- Formed -/
theorem eformed_any (node seq : Int) (x : PEff) {a : Option Addr} {n c : Nat} {w : World} (hs : SeqE LDot w (.slice a n c) x.drops) :
  Calls Tryz.prog 41 #[.int .i64 node, .int .i64 seq, .agg #[.int .i64 x.pos, .string (bt x.key), .string (bt x.field), .int .i64 x.kind, .string (bt x.elem), .int .i64 x.n, .slice a n c]] w (GivesB w (eformedB node seq x)) := by
 have E1 := Lib.hid (effAt_box w x a n c)
 have G1 := Lib.hid ((Below.refl w.heap.size w).alloc (Nat.le_refl _) (.cells #[.int .i64 x.pos, .string (bt x.key), .string (bt x.field), .int .i64 x.kind, .string (bt x.elem), .int .i64 x.n, .slice a n c] 61))
 have HS1 := Lib.hid (hs.below_alloc (.cells #[.int .i64 x.pos, .string (bt x.key), .string (bt x.field), .int .i64 x.kind, .string (bt x.elem), .int .i64 x.n, .slice a n c] 61))
 have KM := Lib.hid (fun W => emade_any node seq x a n c W)
 have KF : Hid (∀ (y : PItem) W, Calls Tryz.prog 53 #[.agg #[.string (bt y.key), .string (bt y.field), .int .i64 y.kind, .string (bt y.elem), .int .i64 y.n, .int .i64 y.dot.node, .int .i64 y.dot.seq, .int .i64 y.dot.pos]] W (GivesB W (formedB y))) := Lib.hid (fun y W => iformed_any y W)
 have HD := Lib.hid hs.dims.1
 have t1 := nil_eq x.elem
 have F1 := Lib.hid (fun h1 h2 h3 => eformed_zero (node := node) (seq := seq) (e := x) h1 h2 h3)
 have F2 := Lib.hid (fun h1 h2 => eformed_bare (node := node) (seq := seq) (e := x) h1 h2)
 have F3 := Lib.hid (fun h1 h2 => eformed_idle (node := node) (seq := seq) (e := x) h1 h2)
 have F4 := Lib.hid (fun h => eformed_made (node := node) (seq := seq) (e := x) h)
 clear hs
 generalize eformedB node seq x = r at *
 go_enter Tryz.func41, Tryz.ntmps41
 go_upto_region 1 with fail
 generalize (w.alloc (.cells #[.int .i64 x.pos, .string (bt x.key), .string (bt x.field), .int .i64 x.kind, .string (bt x.elem), .int .i64 x.n, .slice a n c] 61)) = w1 at *
 obtain ⟨e0, e1, e2, e3, e4, e5, e6⟩ := E1.out.zero
 go_wp2_with fail
 refine (KM.out _).mono ?_
 rintro e w2 ⟨rfl, hb⟩
 have G2 := Lib.hid (G1.out.trans (hb.mono G1.out.size))
 have E2 := Lib.hid (E1.out.below hb E1.out.lt)
 have HS2 := Lib.hid (HS1.out.below hb)
 clear hb e0 e1 e2 e3 e4 e5 e6 HS1 E1 KM
 have B3 := (Below.refl w2.heap.size w2).alloc (Nat.le_refl _) (.cells #[.string (bt x.key), .string (bt x.field), .int .i64 x.kind, .string (bt x.elem), .int .i64 x.n, .int .i64 node, .int .i64 seq, .int .i64 x.pos] 79)
 have G3 : Hid (Below w.heap.size w (w2.alloc (.cells #[.string (bt x.key), .string (bt x.field), .int .i64 x.kind, .string (bt x.elem), .int .i64 x.n, .int .i64 node, .int .i64 seq, .int .i64 x.pos] 79))) := Lib.hid (G2.out.trans (B3.mono G2.out.size))
 have E3 := Lib.hid (E2.out.below B3 E2.out.lt)
 have HS3 := Lib.hid (HS2.out.below B3)
 have I3 : Hid (ItemAt (w2.alloc (.cells #[.string (bt x.key), .string (bt x.field), .int .i64 x.kind, .string (bt x.elem), .int .i64 x.n, .int .i64 node, .int .i64 seq, .int .i64 x.pos] 79)) w2.heap.size 0 (madeI node seq x)) := Lib.hid (itemAt_box w2 (madeI node seq x))
 have Z3 : Hid ((w2.alloc (.cells #[.string (bt x.key), .string (bt x.field), .int .i64 x.kind, .string (bt x.elem), .int .i64 x.n, .int .i64 node, .int .i64 seq, .int .i64 x.pos] 79)).frozen? ⟨w2.heap.size, 2, none⟩ = false) := Lib.hid (by simp)
 have N3 : Hid (w.heap.size < w2.heap.size) := Lib.hid (E2.out.lt)
 have NW : Hid (w.heap.size ≤ w2.heap.size) := Lib.hid G2.out.size
 have B3' := Lib.hid B3
 have HSO : Hid (∀ W, Below w2.heap.size w2 W → SeqE LDot W (.slice a n c) x.drops) := Lib.hid (fun W hb => HS2.out.below hb)
 clear B3 E2 HS2
 go_upto_region 2 with fail
 generalize (w2.alloc (.cells #[.string (bt x.key), .string (bt x.field), .int .i64 x.kind, .string (bt x.elem), .int .i64 x.n, .int .i64 node, .int .i64 seq, .int .i64 x.pos] 79)) = w3 at *
 obtain ⟨e0, e1, e2, e3, e4, e5, e6⟩ := E3.out.zero
 obtain ⟨c0, c1, c2, c3, c4, c5, c6, c7⟩ := I3.out.zero
 by_cases hk : x.kind = 0
 ·have q1 : (x.kind == 0) = true := by simp [hk]
  by_cases he : x.elem.length = 0
  ·rw [decide_eq_true he] at t1
   by_cases hn : x.drops.length = 0
   ·obtain rfl : r = false := F3.out hk hn
    have q2 : ((n : Int) == 0) = true := by rw [← HD.out, hn]; rfl
    clear hk he hn F1 F2 F3 F4
    go_wp2_with fail
    go_ret
    exact ⟨rfl, G3.out⟩
   ·have q2 : ((n : Int) == 0) = false := by rw [← HD.out]; exact beq_false_of_ne (by omega)
    have FF := F1.out hk he (by omega)
    have KA : ∀ W, Calls Tryz.prog 53 #[.agg #[.string (bt x.key), .string (bt x.field), .int .i64 1, .string (bt x.elem), .int .i64 x.n, .int .i64 node, .int .i64 seq, .int .i64 x.pos]] W (GivesB W (formedB (askI node seq x))) := KF.out (askI node seq x)
    have z3 := Z3.out
    clear hk he hn F1 F2 F3 F4 KF c0 c1 c3 c4 c5 c6 c7
    have I5 : Hid (ItemAt (w3.setCell ⟨w2.heap.size, 2, none⟩ (.int .i64 1)) w2.heap.size 0 (askI node seq x)) := Lib.hid (I3.out.kind 1)
    have B5 : Below w2.heap.size w3 (w3.setCell ⟨w2.heap.size, 2, none⟩ (.int .i64 1)) := (Below.refl w2.heap.size w3).setCell (Nat.le_refl _) _
    have G5 : Hid (Below w.heap.size w (w3.setCell ⟨w2.heap.size, 2, none⟩ (.int .i64 1))) := Lib.hid (G3.out.setCell NW.out _)
    have E5 : Hid (EffAt (w3.setCell ⟨w2.heap.size, 2, none⟩ (.int .i64 1)) w.heap.size 0 x (.slice a n c)) := Lib.hid (E3.out.below B5 N3.out)
    have HS5 : Hid (SeqE LDot (w3.setCell ⟨w2.heap.size, 2, none⟩ (.int .i64 1)) (.slice a n c) x.drops) := Lib.hid (HSO.out _ (B3'.out.trans B5))
    clear B5
    go_upto_region 6 with fail
    generalize (w3.setCell ⟨w2.heap.size, 2, none⟩ (.int .i64 1)) = w5 at *
    obtain ⟨d0, d1, d2, d3, d4, d5, d6, d7⟩ := (show w5.cell? ⟨w2.heap.size, 0, none⟩ = some (.string (bt x.key)) ∧ w5.cell? ⟨w2.heap.size, 1, none⟩ = some (.string (bt x.field)) ∧ w5.cell? ⟨w2.heap.size, 2, none⟩ = some (.int .i64 1) ∧ w5.cell? ⟨w2.heap.size, 3, none⟩ = some (.string (bt x.elem)) ∧ w5.cell? ⟨w2.heap.size, 4, none⟩ = some (.int .i64 x.n) ∧ w5.cell? ⟨w2.heap.size, 5, none⟩ = some (.int .i64 node) ∧ w5.cell? ⟨w2.heap.size, 6, none⟩ = some (.int .i64 seq) ∧ w5.cell? ⟨w2.heap.size, 7, none⟩ = some (.int .i64 x.pos) from I5.out.zero)
    clear e0 e1 e2 e3 e4 e5 e6 c2 z3
    obtain ⟨e0, e1, e2, e3, e4, e5, e6⟩ := E5.out.zero
    cases hf : formedB (askI node seq x) with
    | false =>
     rw [hf] at KA
     obtain rfl : r = false := by rw [FF, hf, Bool.false_and]
     clear FF
     clear hf e0 e1 e2 e3 e4 e5 e6
     go_wp2_with fail
     refine (KA _).mono ?_
     rintro e w6 ⟨rfl, hb⟩
     have G6 := Lib.hid (G5.out.trans (hb.mono G5.out.size))
     clear hb d0 d1 d2 d3 d4 d5 d6 d7
     go_wp2_with fail
     go_ret
     exact ⟨rfl, G6.out⟩
    | true =>
     rw [hf] at KA
     have HR := Lib.hid (show r = areB x.drops by rw [FF, hf, Bool.true_and])
     clear FF
     clear hf
     go_wp2_with fail
     refine (KA _).mono ?_
     rintro e w6 ⟨rfl, hb⟩
     have G6 := Lib.hid (G5.out.trans (hb.mono G5.out.size))
     have KD := eare_any (HS5.out.below hb)
     have m6 := (hb.cell (World.block_lt_of_cell? w5 _ e6)).trans e6
     clear hb d0 d1 d2 d3 d4 d5 d6 d7 e0 e1 e2 e3 e4 e5 e6
     rw [← HR.out] at KD
     go_wp2_with fail
     refine KD.mono ?_
     rintro e w7 ⟨rfl, hb⟩
     have G7 := Lib.hid (G6.out.trans (hb.mono G6.out.size))
     clear hb m6 KD
     go_wp2_with fail
     go_ret
     exact ⟨rfl, G7.out⟩
  ·rw [decide_eq_false he] at t1
   obtain rfl : r = false := F2.out hk he
   clear hk he F1 F2 F3 F4
   go_wp2_with fail
   go_ret
   exact ⟨rfl, G3.out⟩
 ·have q1 : (x.kind == 0) = false := by simp [hk]
  have FF := F4.out hk
  have KA : ∀ W, Calls Tryz.prog 53 #[.agg #[.string (bt x.key), .string (bt x.field), .int .i64 x.kind, .string (bt x.elem), .int .i64 x.n, .int .i64 node, .int .i64 seq, .int .i64 x.pos]] W (GivesB W (formedB (madeI node seq x))) := KF.out (madeI node seq x)
  have KD := eare_any HS3.out
  clear hk F1 F2 F3 F4 KF e0 e1 e2 e4 e5
  cases hf : formedB (madeI node seq x) with
  | false =>
   rw [hf] at KA
   obtain rfl : r = false := by rw [FF, hf, Bool.false_and]
   clear FF
   clear hf
   go_wp2_with fail
   refine (KA _).mono ?_
   rintro e w5 ⟨rfl, hb⟩
   have G5 := Lib.hid (G3.out.trans (hb.mono G3.out.size))
   clear hb c0 c1 c2 c3 c4 c5 c6 c7
   go_wp2_with fail
   go_ret
   exact ⟨rfl, G5.out⟩
  | true =>
   rw [hf] at KA
   have HR := Lib.hid (show r = areB x.drops by rw [FF, hf, Bool.true_and])
   clear FF
   clear hf
   go_wp2_with fail
   refine (KA _).mono ?_
   rintro e w5 ⟨rfl, hb⟩
   have G5 := Lib.hid (G3.out.trans (hb.mono G3.out.size))
   have KD := eare_any (HS3.out.below hb)
   have m6 := (hb.cell (World.block_lt_of_cell? w3 _ e6)).trans e6
   clear hb c0 c1 c2 c3 c4 c5 c6 c7 e3 e6
   rw [← HR.out] at KD
   go_wp2_with fail
   refine KD.mono ?_
   rintro e w6 ⟨rfl, hb⟩
   have G6 := Lib.hid (G5.out.trans (hb.mono G5.out.size))
   clear hb m6 KD
   go_wp2_with fail
   go_ret
   exact ⟨rfl, G6.out⟩
end Go.Proofs.YtmknpmamkjjiaaaGreat
namespace Go.Proofs.YtmknpmamkjjiaaaGreat
open Go.RowKit Plain
set_option linter.unusedVariables false

set_option maxRecDepth 100000 in
set_option maxHeartbeats 16000000 in
/-- Right -/
theorem eright_any (node seq : Int) {v : Value} {l : List PEff} {w : World} (hv : SeqE LEff w v l) (hn : l.length ≤ 1000000) (hd : ∀ e ∈ l, e.drops.length ≤ 1000000) :
  Calls Tryz.prog 30 #[.int .i64 node, .int .i64 seq, v] w (GivesB w (rightB node seq l)) := by
 have HI := Lib.hid (rightB_iff (node := node) (seq := seq) (l := l))
 have HDM := Lib.hid (fun k hk => hd _ (mem_defE (l := l) (k := k) hk))
 obtain ⟨a, cap, rfl, g1, g2, g0, h⟩ := hv.parts
 have HS := Lib.hid h
 clear hv h g0 hd
 obtain ⟨n, hN⟩ : ∃ n, l.length = n := ⟨_, rfl⟩
 rw [hN] at g1 hn HS HI HDM ⊢
 have LN := Lib.hid hN
 clear hN
 generalize rightB node seq l = r at *
 have HY : Hid ((∀ j, j < n → (0 < j → (l.getD (j - 1) default).pos < (l.getD j default).pos) ∧ eformedB node seq (l.getD j default) = true ∧ (l.getD j default).drops.any (unmadeB node seq (l.getD j default).pos) = false) → r = true) := Lib.hid (fun h => HI.out.2 fun j hj => ⟨(h j hj).1, (h j hj).2.1, by rw [past_any, (h j hj).2.2]; rfl⟩)
 have HN1 : Hid (∀ j, j < n → eformedB node seq (l.getD j default) = false → r = false) := Lib.hid (fun j hj h => by
  rw [Bool.eq_false_iff]
  intro e
  have := (HI.out.1 e j hj).2.1
  rw [h] at this
  cases this)
 have HN2 : Hid (∀ j, j < n → (l.getD j default).drops.any (unmadeB node seq (l.getD j default).pos) = true → r = false) := Lib.hid (fun j hj h => by
  rw [Bool.eq_false_iff]
  intro e
  have := (HI.out.1 e j hj).2.2
  rw [past_any, h] at this
  cases this)
 have HN3 : Hid (∀ j, j < n → 0 < j → ¬ (l.getD (j - 1) default).pos < (l.getD j default).pos → r = false) := Lib.hid (fun j hj hp h => by
  rw [Bool.eq_false_iff]
  intro e
  exact h ((HI.out.1 e j hj).1 hp))
 clear HI
 go_enter Tryz.func30, Tryz.ntmps30
 go_wp2_with fail
 go_loopw [7, 11] (fun _ i wr => ∃ k : Nat, k ≤ n ∧ i = .int .i64 k ∧ (∀ j, j < k → (0 < j → (l.getD (j - 1) default).pos < (l.getD j default).pos) ∧ eformedB node seq (l.getD j default) = true ∧ (l.getD j default).drops.any (unmadeB node seq (l.getD j default).pos) = false) ∧ Below w.heap.size w wr) (fun _ i _ => n - (intOf i).toNat)
 case atStart => exact ⟨0, Nat.zero_le _, rfl, fun j hj => absurd hj (by omega), Below.refl _ _⟩
 case round =>
  obtain ⟨k, hk, rfl, hall, hb⟩ := hrel
  have HA := Lib.hid hall
  have HB0 := Lib.hid hb
  clear hall hb
  by_cases hlt : k < n
  ·obtain ⟨b, o, c, hv, -, -, -, hc⟩ := effs_spot (HS.out.below HB0.out) (by rw [LN.out]; omega)
   rw [LN.out] at hv
   simp only [Value.slice.injEq] at hv
   obtain ⟨rfl, -, rfl⟩ := hv
   have HNF := Lib.hid (HN1.out k hlt)
   have HNP := Lib.hid (HN2.out k hlt)
   have HNR := Lib.hid (HN3.out k hlt)
   have HAK : Hid ((0 < k → (l.getD (k - 1) default).pos < (l.getD k default).pos) → eformedB node seq (l.getD k default) = true → (l.getD k default).drops.any (unmadeB node seq (l.getD k default).pos) = false → (∀ j, j < k + 1 → (0 < j → (l.getD (j - 1) default).pos < (l.getD j default).pos) ∧ eformedB node seq (l.getD j default) = true ∧ (l.getD j default).drops.any (unmadeB node seq (l.getD j default).pos) = false)) := Lib.hid (fun h1 h2 h3 j hj => by
    by_cases e : j = k
    ·rw [e]; exact ⟨h1, h2, h3⟩
    ·exact HA.out j (by omega))
   have HM := Lib.hid (HDM.out k hlt)
   obtain ⟨dv, EX0, hsd⟩ := hc k (by rw [LN.out]; exact hlt)
   obtain ⟨da, dc, rfl, -, -, -, hsd⟩ := hsd.parts
   have EX := Lib.hid EX0
   clear EX0
   by_cases h0 : k = 0
   ·subst h0
    have HXK := Lib.hid (HAK.out (fun k => absurd k (by omega)))
    clear hc HAK HNR
    generalize l.getD 0 default = x at *
    have KU0 := Lib.hid (fun (W : World) (a : Option Addr) (n c : Nat) (hs : SeqE LDot W (.slice a n c) x.drops) => eunmade_any node seq x hs HM.out)
    generalize x.drops.length = m at *
    have B1 := (Below.refl wr.heap.size wr).alloc (Nat.le_refl _) (.cells #[.int .i64 x.pos, .string (bt x.key), .string (bt x.field), .int .i64 x.kind, .string (bt x.elem), .int .i64 x.n, .slice da m dc] 61)
    have HB : Hid (Below w.heap.size w (wr.alloc (.cells #[.int .i64 x.pos, .string (bt x.key), .string (bt x.field), .int .i64 x.kind, .string (bt x.elem), .int .i64 x.n, .slice da m dc] 61))) := Lib.hid (HB0.out.trans (B1.mono HB0.out.size))
    have EB : Hid (EffAt (wr.alloc (.cells #[.int .i64 x.pos, .string (bt x.key), .string (bt x.field), .int .i64 x.kind, .string (bt x.elem), .int .i64 x.n, .slice da m dc] 61)) wr.heap.size 0 x (.slice da m dc)) := Lib.hid (effAt_box wr x da m dc)
    have SB : Hid (SeqE LDot (wr.alloc (.cells #[.int .i64 x.pos, .string (bt x.key), .string (bt x.field), .int .i64 x.kind, .string (bt x.elem), .int .i64 x.n, .slice da m dc] 61)) (.slice da m dc) x.drops) := Lib.hid (hsd.below_alloc _)
    clear B1 hsd
    obtain ⟨c0, c1, c2, c3, c4, c5, c6⟩ := EX.out
    simp only [Nat.zero_mul, Nat.add_zero] at c0 c1 c2 c3 c4 c5 c6
    go_upto_region 4 with fail
    clear c0 c1 c2 c3 c4 c5 c6
    generalize (wr.alloc (.cells #[.int .i64 x.pos, .string (bt x.key), .string (bt x.field), .int .i64 x.kind, .string (bt x.elem), .int .i64 x.n, .slice da m dc] 61)) = wb at *
    obtain ⟨c0, c1, c2, c3, c4, c5, c6⟩ := EB.out.zero
    go_quiet (fail)
    have W4 := Lib.hid (below_drewN HB.out nq)
    have S4 := Lib.hid (SB.out.drawn nq)
    have E4 := Lib.hid (EB.out.below (below_drewN (Below.refl wb.heap.size wb) nq) EB.out.lt)
    clear c0 c1 c2 c3 c4 c5 c6
    generalize wb.drewN nq = w4 at *
    obtain ⟨c0, c1, c2, c3, c4, c5, c6⟩ := E4.out.zero
    have KF := eformed_any node seq x S4.out
    cases hf : eformedB node seq x with
    | false =>
     rw [hf] at KF
     obtain rfl : r = false := HNF.out hf
     clear hf
     go_wp2_with fail
     refine KF.mono ?_
     rintro e w5 ⟨rfl, hb⟩
     have G5 := Lib.hid (W4.out.trans (hb.mono W4.out.size))
     clear hb c0 c1 c2 c3 c4 c5 c6 KF
     go_wp2_with fail
     go_ret
     exact ⟨rfl, G5.out⟩
    | true =>
     rw [hf] at KF
     go_wp2_with fail
     refine KF.mono ?_
     rintro e w5 ⟨rfl, hb⟩
     have G5 := Lib.hid (W4.out.trans (hb.mono W4.out.size))
     have E5 := Lib.hid (E4.out.below hb E4.out.lt)
     have KU := KU0.out _ _ _ _ (S4.out.below hb)
     clear hb c0 c1 c2 c3 c4 c5 c6 KF
     obtain ⟨c0, c1, c2, c3, c4, c5, c6⟩ := E5.out.zero
     cases hu : x.drops.any (unmadeB node seq x.pos) with
     | true =>
      rw [hu] at KU
      obtain rfl : r = false := HNP.out hu
      clear hu hf
      go_wp2_with fail
      refine KU.mono ?_
      rintro e w6 ⟨rfl, hb⟩
      have G6 := Lib.hid (G5.out.trans (hb.mono G5.out.size))
      clear hb c0 c1 c2 c3 c4 c5 c6 KU
      go_wp2_with fail
      go_ret
      exact ⟨rfl, G6.out⟩
     | false =>
      rw [hu] at KU
      have HX := Lib.hid (HXK.out hf hu)
      clear hu hf
      go_wp2_with fail
      refine KU.mono ?_
      rintro e w6 ⟨rfl, hb⟩
      have G6 := Lib.hid (G5.out.trans (hb.mono G5.out.size))
      clear hb c0 c1 c2 c3 c4 c5 c6 KU
      go_wp2_with fail
      go_roundw
      case rel => exact ⟨0 + 1, by omega, by go_num, HX.out, G6.out⟩
      case measure => simp [intOf]; omega
   ·obtain ⟨p, rfl⟩ : ∃ p, k = p + 1 := ⟨k - 1, by omega⟩
    obtain ⟨dv', EY0, -⟩ := hc p (by rw [LN.out]; omega)
    have EY := Lib.hid EY0
    clear EY0
    replace HNR : Hid (¬ (l.getD p default).pos < (l.getD (p + 1) default).pos → r = false) := Lib.hid (fun h => HNR.out (by omega) (by rw [Nat.add_sub_cancel]; omega))
    have HXP : Hid ((l.getD p default).pos < (l.getD (p + 1) default).pos → eformedB node seq (l.getD (p + 1) default) = true → (l.getD (p + 1) default).drops.any (unmadeB node seq (l.getD (p + 1) default).pos) = false → (∀ j, j < p + 1 + 1 → (0 < j → (l.getD (j - 1) default).pos < (l.getD j default).pos) ∧ eformedB node seq (l.getD j default) = true ∧ (l.getD j default).drops.any (unmadeB node seq (l.getD j default).pos) = false)) := Lib.hid (fun h => HAK.out (fun _ => h))
    clear hc HAK
    generalize l.getD (p + 1) default = x at *
    generalize l.getD p default = y at *
    have KU0 := Lib.hid (fun (W : World) (a : Option Addr) (n c : Nat) (hs : SeqE LDot W (.slice a n c) x.drops) => eunmade_any node seq x hs HM.out)
    generalize x.drops.length = m at *
    have B1 := (Below.refl wr.heap.size wr).alloc (Nat.le_refl _) (.cells #[.int .i64 x.pos, .string (bt x.key), .string (bt x.field), .int .i64 x.kind, .string (bt x.elem), .int .i64 x.n, .slice da m dc] 61)
    have HB : Hid (Below w.heap.size w (wr.alloc (.cells #[.int .i64 x.pos, .string (bt x.key), .string (bt x.field), .int .i64 x.kind, .string (bt x.elem), .int .i64 x.n, .slice da m dc] 61))) := Lib.hid (HB0.out.trans (B1.mono HB0.out.size))
    have EB : Hid (EffAt (wr.alloc (.cells #[.int .i64 x.pos, .string (bt x.key), .string (bt x.field), .int .i64 x.kind, .string (bt x.elem), .int .i64 x.n, .slice da m dc] 61)) wr.heap.size 0 x (.slice da m dc)) := Lib.hid (effAt_box wr x da m dc)
    have SB : Hid (SeqE LDot (wr.alloc (.cells #[.int .i64 x.pos, .string (bt x.key), .string (bt x.field), .int .i64 x.kind, .string (bt x.elem), .int .i64 x.n, .slice da m dc] 61)) (.slice da m dc) x.drops) := Lib.hid (hsd.below_alloc _)
    have EP : Hid ((wr.alloc (.cells #[.int .i64 x.pos, .string (bt x.key), .string (bt x.field), .int .i64 x.kind, .string (bt x.elem), .int .i64 x.n, .slice da m dc] 61)).cell? ⟨b, o + p * 7, none⟩ = some (.int .i64 y.pos)) := Lib.hid ((B1.cell (p := ⟨b, o + p * 7, none⟩) EY.out.lt).trans EY.out.c0)
    clear B1 hsd
    have q1 : (0 : Int) < (p : Int) + 1 := by omega
    have q2 : IntKind.i64.wrap ((p : Int) + 1 - 1) = (p : Int) := by rw [show (p : Int) + 1 - 1 = p by omega]; exact IntWalk.i64_in _ (by omega)
    have q4 : IntKind.i64.wrap (p : Int) = (p : Int) := IntWalk.i64_in _ (by omega)
    have q3 : (p : Int) < (n : Int) := by omega
    obtain ⟨c0, c1, c2, c3, c4, c5, c6⟩ := EX.out
    go_upto_region 4 with fail
    clear c0 c1 c2 c3 c4 c5 c6
    generalize (wr.alloc (.cells #[.int .i64 x.pos, .string (bt x.key), .string (bt x.field), .int .i64 x.kind, .string (bt x.elem), .int .i64 x.n, .slice da m dc] 61)) = wb at *
    obtain ⟨c0, c1, c2, c3, c4, c5, c6⟩ := EB.out.zero
    have yp := EP.out
    by_cases hr : y.pos < x.pos
    ·have HXK := Lib.hid (HXP.out hr)
     have hr1 : ¬ x.pos ≤ y.pos := by omega
     clear hr
     go_quiet (fail)
     clear yp hr1
     have W4 := Lib.hid (below_drewN HB.out nq)
     have S4 := Lib.hid (SB.out.drawn nq)
     have E4 := Lib.hid (EB.out.below (below_drewN (Below.refl wb.heap.size wb) nq) EB.out.lt)
     clear c0 c1 c2 c3 c4 c5 c6
     generalize wb.drewN nq = w4 at *
     obtain ⟨c0, c1, c2, c3, c4, c5, c6⟩ := E4.out.zero
     have KF := eformed_any node seq x S4.out
     cases hf : eformedB node seq x with
     | false =>
      rw [hf] at KF
      obtain rfl : r = false := HNF.out hf
      clear hf
      go_wp2_with fail
      refine KF.mono ?_
      rintro e w5 ⟨rfl, hb⟩
      have G5 := Lib.hid (W4.out.trans (hb.mono W4.out.size))
      clear hb c0 c1 c2 c3 c4 c5 c6 KF
      go_wp2_with fail
      go_ret
      exact ⟨rfl, G5.out⟩
     | true =>
      rw [hf] at KF
      go_wp2_with fail
      refine KF.mono ?_
      rintro e w5 ⟨rfl, hb⟩
      have G5 := Lib.hid (W4.out.trans (hb.mono W4.out.size))
      have E5 := Lib.hid (E4.out.below hb E4.out.lt)
      have KU := KU0.out _ _ _ _ (S4.out.below hb)
      clear hb c0 c1 c2 c3 c4 c5 c6 KF
      obtain ⟨c0, c1, c2, c3, c4, c5, c6⟩ := E5.out.zero
      cases hu : x.drops.any (unmadeB node seq x.pos) with
      | true =>
       rw [hu] at KU
       obtain rfl : r = false := HNP.out hu
       clear hu hf
       go_wp2_with fail
       refine KU.mono ?_
       rintro e w6 ⟨rfl, hb⟩
       have G6 := Lib.hid (G5.out.trans (hb.mono G5.out.size))
       clear hb c0 c1 c2 c3 c4 c5 c6 KU
       go_wp2_with fail
       go_ret
       exact ⟨rfl, G6.out⟩
      | false =>
       rw [hu] at KU
       have HX := Lib.hid (HXK.out hf hu)
       clear hu hf
       go_wp2_with fail
       refine KU.mono ?_
       rintro e w6 ⟨rfl, hb⟩
       have G6 := Lib.hid (G5.out.trans (hb.mono G5.out.size))
       clear hb c0 c1 c2 c3 c4 c5 c6 KU
       go_wp2_with fail
       go_roundw
       case rel => exact ⟨p + 1 + 1, by omega, by go_num, HX.out, G6.out⟩
       case measure => simp [intOf]; omega
    ·obtain rfl : r = false := HNR.out hr
     have hr1 : x.pos ≤ y.pos := by omega
     clear hr
     go_quiet (fail)
     go_wp2_with fail
     go_ret
     exact ⟨rfl, below_drewN HB.out _⟩
  ·obtain rfl : k = n := by omega
   obtain rfl : r = true := HY.out HA.out
   go_wp2_with fail
   go_ret
   exact ⟨rfl, HB0.out⟩
end Go.Proofs.YtmknpmamkjjiaaaGreat
