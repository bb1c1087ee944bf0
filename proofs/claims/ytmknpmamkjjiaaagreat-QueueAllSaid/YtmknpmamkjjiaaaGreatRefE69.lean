/- What the document's own Heard of effects leaves. What the document's own may, Ahead and Made of effects leave. What the document's own Formed of effects leaves. (Written by gen-refform.py.) What the document's own Right of effects leaves. (Written by gen-refright.py.) -/
import Derived.Test.YtmknpmamkjjiaaaGreatEHeard
import Derived.Test.YtmknpmamkjjiaaaGreatVcAll
import Derived.Test.YtmknpmamkjjiaaaGreatEDos
import Derived.Test.YtmknpmamkjjiaaaGreatISets
import Derived.Test.YtmknpmamkjjiaaaGreatRefZs
import Derived.Test.YtmknpmamkjjiaaaGreatEqI
import Derived.Deep.QuietTactic
import Derived.Deep.Cut
import Derived.Test.YtmknpmamkjjiaaaGreatEForms
import Derived.Test.YtmknpmamkjjiaaaGreatRefSs
import Derived.Deep.RegionHeld3
import Derived.BigQuiet
namespace Go.Proofs.YtmknpmamkjjiaaaGreat
open Go.RowKit Plain
set_option linter.unusedVariables false

theorem rheard_all {l : List PEff} {node seq : Int} {v : List Int} (h : ∀ a, a < l.length → ∀ j, j < (l.getD a default).drops.length → heard1 node seq v ((l.getD a default).drops.getD j default) = true) : heardB l node seq v = true := by
 unfold heardB
 rw [List.all_eq_true]
 intro e he
 obtain ⟨a, ha, rfl⟩ := List.getElem_of_mem he
 have h1 := h a ha
 rw [show l.getD a default = l[a] by simp [List.getD, List.getElem?_eq_getElem ha]] at h1
 rw [List.all_eq_true]
 intro d hd
 obtain ⟨j, hj, rfl⟩ := List.getElem_of_mem hd
 have h2 := h1 j hj
 rwa [show (l[a]).drops.getD j default = (l[a]).drops[j] by simp [List.getD, List.getElem?_eq_getElem hj]] at h2
theorem rheard_not {l : List PEff} {node seq : Int} {v : List Int} {a j : Nat} (ha : a < l.length) (hj : j < (l.getD a default).drops.length) (h : heard1 node seq v ((l.getD a default).drops.getD j default) = false) : heardB l node seq v = false := by
 cases e : heardB l node seq v with
 | false => rfl
 | true =>
  unfold heardB at e
  rw [List.all_eq_true] at e
  have h1 := e (l.getD a default) (mem_defE ha)
  rw [List.all_eq_true] at h1
  have h2 := h1 ((l.getD a default).drops.getD j default) (mem_def hj)
  rw [h2] at h
  cases h

set_option maxRecDepth 100000 in
set_option maxHeartbeats 4000000 in
/-- Heard -/
theorem rheardE_any (node seq : Int) {u v : Value} {l : List PEff} {xs : List Int} {w : World} (hu : SeqE LEff w u l) (hv : SeqI w v xs) (hd : ∀ e ∈ l, e.drops.length ≤ 1000000) :
  Calls Tryz.prog 35 #[u, .int .i64 node, .int .i64 seq, v] w (GivesB w (heardB l node seq xs)) := by
 have HDM := Lib.hid (fun k hk => hd _ (mem_defE (l := l) (k := k) hk))
 have HA := Lib.hid (fun h => rheard_all (l := l) (node := node) (seq := seq) (v := xs) h)
 have HN := Lib.hid (fun a (ha : a < l.length) j (hj : j < (l.getD a default).drops.length) h => rheard_not (l := l) (node := node) (seq := seq) (v := xs) ha hj h)
 generalize heardB l node seq xs = r at *
 obtain ⟨a, cap, rfl, g1, g2, g0, h⟩ := hu.parts
 obtain ⟨av, cv, rfl, gv1, gv2, gv0, hv'⟩ := hv.parts
 have KV := Lib.hid (fun (W : World) (hb : Below w.heap.size w W) (p : Int) (m : Nat) => vc_rat_any (hv'.below (below_drewN hb m)) p)
 generalize xs.length = nv at *
 obtain ⟨n, hN⟩ : ∃ n, l.length = n := ⟨_, rfl⟩
 rw [hN] at g1 HDM HA HN h ⊢
 have LN := Lib.hid hN
 have HS := Lib.hid h
 clear hu hv h hv' g0 gv0 hN hd
 go_enter Tryz.func35, Tryz.ntmps35
 go_wp2_with fail
 go_loopw [9, 10, 11, 12] (fun i _ _ _ wr => ∃ k : Nat, k ≤ n ∧ i = .int .i64 k ∧ (∀ a, a < k → ∀ j, j < (l.getD a default).drops.length → heard1 node seq xs ((l.getD a default).drops.getD j default) = true) ∧ Below w.heap.size w wr) (fun i _ _ _ _ => n - (intOf i).toNat)
 case atStart => exact ⟨0, Nat.zero_le _, rfl, fun j hj => absurd hj (by omega), Below.refl _ _⟩
 case round =>
  obtain ⟨k, hk, rfl, hall, hb⟩ := hrel
  have HALL := Lib.hid hall
  have HB := Lib.hid hb
  clear hall hb
  by_cases hlt : k < n
  ·obtain ⟨b, o, c, hv, -, -, -, hc⟩ := effs_spot HS.out (by rw [LN.out]; omega)
   rw [LN.out] at hv
   simp only [Value.slice.injEq] at hv
   obtain ⟨rfl, -, rfl⟩ := hv
   obtain ⟨dv, EX, SD0⟩ := hc k (by rw [LN.out]; exact hlt)
   have EA := Lib.hid EX
   have hl := HDM.out k hlt
   have HNK := Lib.hid (HN.out k hlt)
   have HX : Hid ((∀ j, j < (l.getD k default).drops.length → heard1 node seq xs ((l.getD k default).drops.getD j default) = true) → ∀ a, a < k + 1 → ∀ j, j < (l.getD a default).drops.length → heard1 node seq xs ((l.getD a default).drops.getD j default) = true) := Lib.hid (fun h a ha => by
    by_cases e : a = k
    ·rw [e]; exact h
    ·exact HALL.out a (by omega))
   clear hc EX
   generalize l.getD k default = x at *
   obtain ⟨da, dc, rfl, gd1, gd2, gd0, SD1⟩ := SD0.parts
   have SD := Lib.hid SD1
   clear SD0 SD1 gd0
   obtain ⟨ds, hds⟩ : ∃ ds, x.drops = ds := ⟨_, rfl⟩
   rw [hds] at EA hl HNK HX gd1 SD
   clear hds
   obtain ⟨m, hM⟩ : ∃ m, ds.length = m := ⟨_, rfl⟩
   rw [hM] at EA hl HNK HX gd1 SD
   have LM := Lib.hid hM
   clear hM
   go_wp2_with fail
   go_loopw [10, 11, 12] (fun i _ _ wr => ∃ q : Nat, q ≤ m ∧ i = .int .i64 q ∧ (∀ j, j < q → heard1 node seq xs (ds.getD j default) = true) ∧ Below w.heap.size w wr) (fun i _ _ _ => m - (intOf i).toNat)
   case atStart => exact ⟨0, Nat.zero_le _, rfl, fun j hj => absurd hj (by omega), HB.out⟩
   case round =>
    obtain ⟨q, hq, rfl, hall, hb⟩ := hrel
    have HQA := Lib.hid hall
    have HQB := Lib.hid hb
    clear hall hb
    obtain ⟨c0, c1, c2, c3, c4, c5, c6⟩ := EA.out.below HQB.out EA.out.lt
    by_cases hqm : q < m
    ·obtain ⟨b2, o2, c2', hv, -, -, -, hc⟩ := dots_spot SD.out (by rw [LM.out]; omega)
     rw [LM.out] at hv
     simp only [Value.slice.injEq] at hv
     obtain ⟨rfl, -, rfl⟩ := hv
     have DA := Lib.hid (hc q (by rw [LM.out]; exact hqm))
     clear hc
     have HNQ := Lib.hid (HNK.out q hqm)
     have HXQ : Hid (heard1 node seq xs (ds.getD q default) = true → ∀ j, j < q + 1 → heard1 node seq xs (ds.getD j default) = true) := Lib.hid (fun h j hj => by
      by_cases e : j = q
      ·rw [e]; exact h
      ·exact HQA.out j (by omega))
     generalize ds.getD q default = d at *
     obtain ⟨d0, d1, d2⟩ := DA.out.below HQB.out DA.out.lt
     have B1 := (Below.refl wr.heap.size wr).alloc (Nat.le_refl _) (.cells #[.int .i64 d.node, .int .i64 d.seq, .int .i64 d.pos] 54)
     have HB2 : Hid (Below w.heap.size w (wr.alloc (.cells #[.int .i64 d.node, .int .i64 d.seq, .int .i64 d.pos] 54))) := Lib.hid (HQB.out.trans (B1.mono HQB.out.size))
     have DB : Hid (DotAt (wr.alloc (.cells #[.int .i64 d.node, .int .i64 d.seq, .int .i64 d.pos] 54)) wr.heap.size 0 d) := Lib.hid ⟨by simp, by simp, by simp⟩
     clear B1
     go_upto_region 8 with fail
     clear c0 c1 c2 c3 c4 c5 c6 d0 d1 d2
     generalize (wr.alloc (.cells #[.int .i64 d.node, .int .i64 d.seq, .int .i64 d.pos] 54)) = wb at *
     obtain ⟨d0, d1, d2⟩ := DB.out
     simp only [Nat.zero_add] at d1 d2
     have KA := Lib.hid (KV.out wb HB2.out d.node)
     have HE : Hid (heard1 node seq xs d = ((decide (d.node = node) && decide (d.seq = seq)) || (decide (1 ≤ d.seq) && decide (d.seq ≤ saysI xs d.node)))) := Lib.hid rfl
     generalize saysI xs d.node = sx at *
     generalize heard1 node seq xs d = hr at *
     by_cases h1 : d.node = node
     ·have e1 : (d.node == node) = true := by simp [h1]
      have f1 := decide_eq_true h1
      by_cases h2 : d.seq = seq
      ·have e2 : (d.seq == seq) = true := by simp [h2]
       have f2 := decide_eq_true h2
       have HU := Lib.hid (HXQ.out (HE.out.trans (by rw [f1, f2]; simp)))
       clear HE HXQ HNQ h1 h2
       go_wp2_with fail
       go_quiet ((first | (go_at_call 25; exact quiet_left (KA.out _))))
       go_wp2_with fail
       go_roundw
       case rel => exact ⟨q + 1, by omega, by go_num, HU.out, below_drewN HB2.out _⟩
       case measure => simp [intOf]; omega
      ·have e2 : (d.seq == seq) = false := by simp [h2]
       have f2 := decide_eq_false h2
       by_cases h3 : d.seq < 1
       ·have e3 : decide (d.seq < 1) = true := decide_eq_true h3
        have e4 : decide (1 ≤ d.seq) = false := decide_eq_false (by omega)
        clear h3
        obtain rfl : r = false := HNQ.out (HE.out.trans (by rw [f1, f2, e4]; simp))
        clear HE HXQ HNQ h1 h2
        go_wp2_with fail
        go_quiet ((first | (go_at_call 25; exact quiet_left (KA.out _))))
        go_wp2_with fail
        go_ret
        exact ⟨rfl, below_drewN HB2.out _⟩
       ·have e3 : decide (d.seq < 1) = false := decide_eq_false h3
        have e4 : decide (1 ≤ d.seq) = true := decide_eq_true (by omega)
        clear h3
        by_cases h5 : sx < d.seq
        ·have e5 : decide (sx < d.seq) = true := decide_eq_true h5
         have e6 : decide (d.seq ≤ sx) = false := decide_eq_false (by omega)
         clear h5
         obtain rfl : r = false := HNQ.out (HE.out.trans (by rw [f1, f2, e4, e6]; simp))
         clear HE HXQ HNQ h1 h2
         go_wp2_with fail
         go_quiet ((first | (go_at_call 25; exact quiet_left (KA.out _))))
         go_wp2_with fail
         go_ret
         exact ⟨rfl, below_drewN HB2.out _⟩
        ·have e5 : decide (sx < d.seq) = false := decide_eq_false h5
         have e6 : decide (d.seq ≤ sx) = true := decide_eq_true (by omega)
         clear h5
         have HU := Lib.hid (HXQ.out (HE.out.trans (by rw [f1, f2, e4, e6]; simp)))
         clear HE HXQ HNQ h1 h2
         go_wp2_with fail
         go_quiet ((first | (go_at_call 25; exact quiet_left (KA.out _))))
         go_wp2_with fail
         go_roundw
         case rel => exact ⟨q + 1, by omega, by go_num, HU.out, below_drewN HB2.out _⟩
         case measure => simp [intOf]; omega
     ·have e1 : (d.node == node) = false := by simp [h1]
      have f1 := decide_eq_false h1
      have h2 : True := trivial
      by_cases h3 : d.seq < 1
      ·have e3 : decide (d.seq < 1) = true := decide_eq_true h3
       have e4 : decide (1 ≤ d.seq) = false := decide_eq_false (by omega)
       clear h3
       obtain rfl : r = false := HNQ.out (HE.out.trans (by rw [f1, e4]; simp))
       clear HE HXQ HNQ h1 h2
       go_wp2_with fail
       go_quiet ((first | (go_at_call 25; exact quiet_left (KA.out _))))
       go_wp2_with fail
       go_ret
       exact ⟨rfl, below_drewN HB2.out _⟩
      ·have e3 : decide (d.seq < 1) = false := decide_eq_false h3
       have e4 : decide (1 ≤ d.seq) = true := decide_eq_true (by omega)
       clear h3
       by_cases h5 : sx < d.seq
       ·have e5 : decide (sx < d.seq) = true := decide_eq_true h5
        have e6 : decide (d.seq ≤ sx) = false := decide_eq_false (by omega)
        clear h5
        obtain rfl : r = false := HNQ.out (HE.out.trans (by rw [f1, e4, e6]; simp))
        clear HE HXQ HNQ h1 h2
        go_wp2_with fail
        go_quiet ((first | (go_at_call 25; exact quiet_left (KA.out _))))
        go_wp2_with fail
        go_ret
        exact ⟨rfl, below_drewN HB2.out _⟩
       ·have e5 : decide (sx < d.seq) = false := decide_eq_false h5
        have e6 : decide (d.seq ≤ sx) = true := decide_eq_true (by omega)
        clear h5
        have HU := Lib.hid (HXQ.out (HE.out.trans (by rw [f1, e4, e6]; simp)))
        clear HE HXQ HNQ h1 h2
        go_wp2_with fail
        go_quiet ((first | (go_at_call 25; exact quiet_left (KA.out _))))
        go_wp2_with fail
        go_roundw
        case rel => exact ⟨q + 1, by omega, by go_num, HU.out, below_drewN HB2.out _⟩
        case measure => simp [intOf]; omega
    ·obtain rfl : q = m := by omega
     have HU := Lib.hid (HX.out HQA.out)
     go_wp2_with fail
     go_roundw
     case rel => exact ⟨k + 1, by omega, by go_num, HU.out, HQB.out⟩
     case measure => simp [intOf]; omega
  ·obtain rfl : k = n := by omega
   obtain rfl : r = true := HA.out HALL.out
   go_wp2_with fail
   go_ret
   exact ⟨rfl, HB.out⟩
end Go.Proofs.YtmknpmamkjjiaaaGreat
namespace Go.Proofs.YtmknpmamkjjiaaaGreat
open Go.RowKit Plain
set_option linter.unusedVariables false

set_option maxRecDepth 100000 in
set_option maxHeartbeats 2000000 in
/-- may -/
theorem rmay_any (d : PDot) (w : World) : Calls Tryz.prog 61 #[.agg #[.int .i64 d.node, .int .i64 d.seq, .int .i64 d.pos]] w (GivesB w (dotB d)) := by
 have K : Hid (∀ W, Calls Tryz.prog 63 #[.agg #[.string ⟨#[97]⟩, .string ⟨#[]⟩, .int .i64 1, .string ⟨#[]⟩, .int .i64 0, .int .i64 d.node, .int .i64 d.seq, .int .i64 d.pos]] W (GivesB W (dotB d))) := Lib.hid (fun W => by
  have := rformed_any (dotI d) W (by simp [dotI]) (by simp [dotI])
  rw [show formedB (dotI d) = dotB d from ask_dot d] at this
  exact this)
 have DB : Hid (DotAt (w.alloc (.cells #[.int .i64 d.node, .int .i64 d.seq, .int .i64 d.pos] 54)) w.heap.size 0 d) := Lib.hid ⟨by simp, by simp, by simp⟩
 have G := Lib.hid ((Below.refl w.heap.size w).alloc (Nat.le_refl _) (.cells #[.int .i64 d.node, .int .i64 d.seq, .int .i64 d.pos] 54))
 generalize dotB d = r at *
 go_enter Tryz.func61, Tryz.ntmps61
 go_upto_region 1 with fail
 generalize (w.alloc (.cells #[.int .i64 d.node, .int .i64 d.seq, .int .i64 d.pos] 54)) = w1 at *
 obtain ⟨c0, c1, c2⟩ := DB.out
 simp only [Nat.zero_add] at c1 c2
 go_wp2_with fail
 refine (K.out _).mono ?_
 rintro e w2 ⟨rfl, hb⟩
 have G2 := Lib.hid (G.out.trans (hb.mono G.out.size))
 clear hb c0 c1 c2
 go_wp2_with fail
 go_ret
 exact ⟨rfl, G2.out⟩

set_option maxRecDepth 100000 in
set_option maxHeartbeats 2000000 in
/-- Ahead -/
theorem rahead_any (a b : PDot) (w : World) : Calls Tryz.prog 62 #[.agg #[.int .i64 a.node, .int .i64 a.seq, .int .i64 a.pos], .agg #[.int .i64 b.node, .int .i64 b.seq, .int .i64 b.pos]] w (GivesB w (dlessB a b)) := by
 have B1 := (Below.refl w.heap.size w).alloc (Nat.le_refl _) (.cells #[.int .i64 a.node, .int .i64 a.seq, .int .i64 a.pos] 54)
 have B2 := (Below.refl (w.alloc (.cells #[.int .i64 a.node, .int .i64 a.seq, .int .i64 a.pos] 54)).heap.size (w.alloc (.cells #[.int .i64 a.node, .int .i64 a.seq, .int .i64 a.pos] 54))).alloc (Nat.le_refl _) (.cells #[.int .i64 b.node, .int .i64 b.seq, .int .i64 b.pos] 54)
 have DA0 : DotAt (w.alloc (.cells #[.int .i64 a.node, .int .i64 a.seq, .int .i64 a.pos] 54)) w.heap.size 0 a := ⟨by simp, by simp, by simp⟩
 have DA := Lib.hid (DA0.below B2 DA0.lt)
 have DB : Hid (DotAt ((w.alloc (.cells #[.int .i64 a.node, .int .i64 a.seq, .int .i64 a.pos] 54)).alloc (.cells #[.int .i64 b.node, .int .i64 b.seq, .int .i64 b.pos] 54)) (w.heap.size + 1) 0 b) := Lib.hid (by
  have hs : w.heap.size + 1 = (w.alloc (.cells #[.int .i64 a.node, .int .i64 a.seq, .int .i64 a.pos] 54)).heap.size := by simp
  rw [hs]
  exact ⟨World.cell?_alloc_new (w.alloc (.cells #[.int .i64 a.node, .int .i64 a.seq, .int .i64 a.pos] 54)) _ _ 0, World.cell?_alloc_new (w.alloc (.cells #[.int .i64 a.node, .int .i64 a.seq, .int .i64 a.pos] 54)) _ _ 1, World.cell?_alloc_new (w.alloc (.cells #[.int .i64 a.node, .int .i64 a.seq, .int .i64 a.pos] 54)) _ _ 2⟩)
 have G : Hid (Below w.heap.size w ((w.alloc (.cells #[.int .i64 a.node, .int .i64 a.seq, .int .i64 a.pos] 54)).alloc (.cells #[.int .i64 b.node, .int .i64 b.seq, .int .i64 b.pos] 54))) := Lib.hid (B1.trans (B2.mono B1.size))
 clear B1 B2 DA0
 by_cases h1 : a.node = b.node
 rotate_left
 ·have e1 : (a.node != b.node) = true := bne_iff_ne.2 h1
  have hE : dlessB a b = decide (a.node < b.node) := by unfold dlessB; simp [h1]
  rw [hE]
  clear h1 hE
  go_enter Tryz.func62, Tryz.ntmps62
  go_upto_region 1 with fail
  generalize ((w.alloc (.cells #[.int .i64 a.node, .int .i64 a.seq, .int .i64 a.pos] 54)).alloc (.cells #[.int .i64 b.node, .int .i64 b.seq, .int .i64 b.pos] 54)) = w1 at *
  obtain ⟨c0, c1, c2⟩ := DA.out
  obtain ⟨d0, d1, d2⟩ := DB.out
  simp only [Nat.zero_add] at c1 c2 d1 d2
  go_wp2_with fail
  go_ret
  exact ⟨rfl, G.out⟩
 have e1 : (a.node != b.node) = false := by simp [h1]
 by_cases h2 : a.seq = b.seq
 rotate_left
 ·have e2 : (a.seq != b.seq) = true := bne_iff_ne.2 h2
  have hE : dlessB a b = decide (a.seq < b.seq) := by unfold dlessB; simp [h1, h2]
  rw [hE]
  clear h1 h2 hE
  go_enter Tryz.func62, Tryz.ntmps62
  go_upto_region 1 with fail
  generalize ((w.alloc (.cells #[.int .i64 a.node, .int .i64 a.seq, .int .i64 a.pos] 54)).alloc (.cells #[.int .i64 b.node, .int .i64 b.seq, .int .i64 b.pos] 54)) = w1 at *
  obtain ⟨c0, c1, c2⟩ := DA.out
  obtain ⟨d0, d1, d2⟩ := DB.out
  simp only [Nat.zero_add] at c1 c2 d1 d2
  go_wp2_with fail
  go_ret
  exact ⟨rfl, G.out⟩
 have e2 : (a.seq != b.seq) = false := by simp [h2]
 have hE : dlessB a b = decide (a.pos < b.pos) := by unfold dlessB; simp [h1, h2]
 rw [hE]
 clear h1 h2 hE
 go_enter Tryz.func62, Tryz.ntmps62
 go_upto_region 1 with fail
 generalize ((w.alloc (.cells #[.int .i64 a.node, .int .i64 a.seq, .int .i64 a.pos] 54)).alloc (.cells #[.int .i64 b.node, .int .i64 b.seq, .int .i64 b.pos] 54)) = w1 at *
 obtain ⟨c0, c1, c2⟩ := DA.out
 obtain ⟨d0, d1, d2⟩ := DB.out
 simp only [Nat.zero_add] at c1 c2 d1 d2
 go_wp2_with fail
 go_ret
 exact ⟨rfl, G.out⟩

set_option maxRecDepth 100000 in
set_option maxHeartbeats 2000000 in
/-- Made -/
theorem rmade_any (node seq : Int) (x : PEff) (a : Option Addr) (n c : Nat) (w : World) :
  Calls Tryz.prog 64 #[.int .i64 node, .int .i64 seq, .agg #[.int .i64 x.pos, .string (bt x.key), .string (bt x.field), .int .i64 x.kind, .string (bt x.elem), .int .i64 x.n, .slice a n c]] w fun e w' => e = .returned (.agg #[.string (bt x.key), .string (bt x.field), .int .i64 x.kind, .string (bt x.elem), .int .i64 x.n, .int .i64 node, .int .i64 seq, .int .i64 x.pos]) ∧ Below w.heap.size w w' := by
 go_enter Tryz.func64, Tryz.ntmps64
 go_wp2_with fail
 refine bodyPost_ret (v := .agg #[.string (bt x.key), .string (bt x.field), .int .i64 x.kind, .string (bt x.elem), .int .i64 x.n, .int .i64 node, .int .i64 seq, .int .i64 x.pos]) (by simp [results, Tryz.results64, go_sem]) rfl ⟨rfl, ?_⟩
 exact ((Below.refl _ _).alloc (Nat.le_refl _) _).alloc (by simp) _
end Go.Proofs.YtmknpmamkjjiaaaGreat
namespace Go.Proofs.YtmknpmamkjjiaaaGreat
open Go.RowKit Plain
set_option linter.unusedVariables false

set_option maxRecDepth 100000 in
set_option maxHeartbeats 16000000 in
/-- Formed -/
theorem rformedE_any (node seq : Int) (x : PEff) {a : Option Addr} {n c : Nat} {w : World} (hs : SeqE LDot w (.slice a n c) x.drops) (l1 : x.key.length ≤ 9223372036854775807) (l2 : x.field.length ≤ 9223372036854775807) :
  Calls Tryz.prog 48 #[.int .i64 node, .int .i64 seq, .agg #[.int .i64 x.pos, .string (bt x.key), .string (bt x.field), .int .i64 x.kind, .string (bt x.elem), .int .i64 x.n, .slice a n c]] w (GivesB w (eformedB node seq x)) := by
 have E1 := Lib.hid (effAt_box w x a n c)
 have G1 := Lib.hid ((Below.refl w.heap.size w).alloc (Nat.le_refl _) (.cells #[.int .i64 x.pos, .string (bt x.key), .string (bt x.field), .int .i64 x.kind, .string (bt x.elem), .int .i64 x.n, .slice a n c] 61))
 have HS1 := Lib.hid (hs.below_alloc (.cells #[.int .i64 x.pos, .string (bt x.key), .string (bt x.field), .int .i64 x.kind, .string (bt x.elem), .int .i64 x.n, .slice a n c] 61))
 have KM := Lib.hid (fun W => rmade_any node seq x a n c W)
 have KF : Hid (∀ W, Calls Tryz.prog 63 #[.agg #[.string (bt x.key), .string (bt x.field), .int .i64 x.kind, .string (bt x.elem), .int .i64 x.n, .int .i64 node, .int .i64 seq, .int .i64 x.pos]] W (GivesB W (formedB (madeI node seq x)))) := Lib.hid (fun W => rformed_any (madeI node seq x) W l1 l2)
 have KK := Lib.hid (fun W => rkey_any x.key l1 W)
 have KP := Lib.hid (fun W => rprefix_any x.field l2 W)
 have KY := Lib.hid (fun W => rmay_any ⟨node, seq, x.pos⟩ W)
 have HD := Lib.hid hs.dims.1
 have t1 := nil_eq x.elem
 have HR : Hid (eformedB node seq x = (decide (x.drops.length ≤ 64) && (dropsB x.drops && makesB node seq x))) := Lib.hid rfl
 have HZ : Hid (x.kind = 0 → makesB node seq x = (decide (0 < x.drops.length) && (decide (x.elem.length = 0) && (decide (x.n = 0) && (keyB x.key && (prefixB x.field && dotB ⟨node, seq, x.pos⟩)))))) := Lib.hid (fun h => by unfold makesB; rw [if_pos h])
 have HM : Hid (¬ x.kind = 0 → makesB node seq x = formedB (madeI node seq x)) := Lib.hid (fun h => by unfold makesB; rw [if_neg h])
 have HBI := Lib.hid (dropsB_iff (l := x.drops))
 have g1 : n ≤ 9223372036854775807 := by have := hs.dims; omega
 generalize formedB (madeI node seq x) = rf at *
 generalize dotB ⟨node, seq, x.pos⟩ = ry at *
 generalize makesB node seq x = mk at *
 generalize eformedB node seq x = r at *
 obtain ⟨ds, hds⟩ : ∃ ds, x.drops = ds := ⟨_, rfl⟩
 rw [hds] at HS1 HD HR HZ HBI
 have HN0 : Hid (ds.length = n) := Lib.hid HD.out
 rw [HN0.out] at HR HZ HBI
 clear hs hds l1 l2 HD
 go_enter Tryz.func48, Tryz.ntmps48
 go_upto_region 1 with fail
 generalize (w.alloc (.cells #[.int .i64 x.pos, .string (bt x.key), .string (bt x.field), .int .i64 x.kind, .string (bt x.elem), .int .i64 x.n, .slice a n c] 61)) = w1 at *
 obtain ⟨e0, e1, e2, e3, e4, e5, e6⟩ := E1.out.zero
 by_cases hn : n ≤ 64
 rotate_left
 ·have hn1 : (64 : Int) < (n : Int) := by omega
  obtain rfl : r = false := by rw [HR.out, decide_eq_false hn]; rfl
  clear hn t1
  go_wp2_with fail
  go_ret
  exact ⟨rfl, G1.out⟩
 have hn1 : ¬ (64 : Int) < (n : Int) := by omega
 replace HR : Hid (r = (dropsB ds && mk)) := Lib.hid (by rw [HR.out, decide_eq_true hn]; rfl)
 have HY : Hid ((∀ j, j < n → dotB (ds.getD j default) = true ∧ (0 < j → dlessB (ds.getD (j - 1) default) (ds.getD j default) = true)) → r = mk) := Lib.hid (fun h => by rw [HR.out, HBI.out.2 h]; rfl)
 have HN1 : Hid (∀ j, j < n → dotB (ds.getD j default) = false → r = false) := Lib.hid (fun j hj h => by
  rw [HR.out]
  have : dropsB ds = false := by
   rw [Bool.eq_false_iff]
   intro e
   have := (HBI.out.1 e j hj).1
   rw [h] at this
   cases this
  rw [this]; rfl)
 have HN2 : Hid (∀ j, j < n → 0 < j → dlessB (ds.getD (j - 1) default) (ds.getD j default) = false → r = false) := Lib.hid (fun j hj hp h => by
  rw [HR.out]
  have : dropsB ds = false := by
   rw [Bool.eq_false_iff]
   intro e
   have := (HBI.out.1 e j hj).2 hp
   rw [h] at this
   cases this
  rw [this]; rfl)
 clear HBI HR
 have T1 := Lib.hid t1
 clear t1
 go_wp2_with fail
 clear e0 e1 e2 e3 e4 e5 e6
 go_loopw [7] (fun i wr => ∃ k : Nat, k ≤ n ∧ i = .int .i64 k ∧ (∀ j, j < k → dotB (ds.getD j default) = true ∧ (0 < j → dlessB (ds.getD (j - 1) default) (ds.getD j default) = true)) ∧ Below w1.heap.size w1 wr) (fun i _ => n - (intOf i).toNat)
 case atStart => exact ⟨0, Nat.zero_le _, rfl, fun j hj => absurd hj (by omega), Below.refl _ _⟩
 case round =>
  obtain ⟨k, hk, rfl, hall, hb⟩ := hrel
  have HA := Lib.hid hall
  have HB := Lib.hid hb
  clear hall hb
  have ER := Lib.hid (E1.out.below HB.out E1.out.lt)
  obtain ⟨e0, e1, e2, e3, e4, e5, e6⟩ := ER.out.zero
  by_cases hlt : k < n
  ·obtain ⟨b, o, c', hv, -, -, -, hc⟩ := dots_spot (HS1.out.below HB.out) (by rw [HN0.out]; omega)
   rw [HN0.out] at hv
   simp only [Value.slice.injEq] at hv
   obtain ⟨rfl, -, rfl⟩ := hv
   have HN1K := Lib.hid (HN1.out k hlt)
   have HN2K := Lib.hid (HN2.out k hlt)
   have HAK : Hid (dotB (ds.getD k default) = true → (0 < k → dlessB (ds.getD (k - 1) default) (ds.getD k default) = true) → ∀ j, j < k + 1 → dotB (ds.getD j default) = true ∧ (0 < j → dlessB (ds.getD (j - 1) default) (ds.getD j default) = true)) := Lib.hid (fun h1 h2 j hj => by
    by_cases e : j = k
    ·rw [e]; exact ⟨h1, h2⟩
    ·exact HA.out j (by omega))
   have DX := Lib.hid (hc k (by rw [HN0.out]; exact hlt))
   have KD0 := Lib.hid (fun W => rmay_any (ds.getD k default) W)
   by_cases h0 : k = 0
   ·subst h0
    have HXK : Hid (dotB (ds.getD 0 default) = true → ∀ j, j < 0 + 1 → dotB (ds.getD j default) = true ∧ (0 < j → dlessB (ds.getD (j - 1) default) (ds.getD j default) = true)) := Lib.hid (fun h => HAK.out h (fun k => absurd k (by omega)))
    clear hc HAK
    generalize ds.getD 0 default = d at *
    have KE : Hid (∀ u, Below wr.heap.size wr u → (Below wr.heap.size wr u ∧ (u.cell? ⟨w.heap.size, 6, none⟩ = some (.slice (some ⟨b, o, none⟩) n c)) ∧ (u.cell? ⟨b, o, none⟩ = some (.int .i64 d.node) ∧ u.cell? ⟨b, o + 1, none⟩ = some (.int .i64 d.seq) ∧ u.cell? ⟨b, o + 2, none⟩ = some (.int .i64 d.pos)))) := Lib.hid (fun u hu => ⟨hu, (ER.out.below hu ER.out.lt).zero.2.2.2.2.2.2, by
     obtain ⟨c0, c1, c2⟩ := DX.out.below hu DX.out.lt
     simp only [Nat.zero_mul, Nat.add_zero] at c0 c1 c2
     exact ⟨c0, c1, c2⟩⟩)
    go_upto_region 6 with fail
    clear e0 e1 e2 e3 e4 e5 e6
    cases hd : dotB d with
    | false =>
     have KD := KD0
     rw [hd] at KD
     obtain rfl : r = false := HN1K.out hd
     clear hd
     refine wp_region_held_drew (S := fun u' => Below wr.heap.size wr u' ∧ (u'.cell? ⟨w.heap.size, 6, none⟩ = some (.slice (some ⟨b, o, none⟩) n c)) ∧ (u'.cell? ⟨b, o, none⟩ = some (.int .i64 d.node) ∧ u'.cell? ⟨b, o + 1, none⟩ = some (.int .i64 d.seq) ∧ u'.cell? ⟨b, o + 2, none⟩ = some (.int .i64 d.pos))) (by kernel_rfl) ?_ (fun hHeld => ?_)
     ·(exact KE.out _ (Below.refl _ _).drew)
     simp only [List.size_toArray, List.length_cons, List.length_nil, Nat.zero_add, Nat.reduceAdd]
     refine tkA (i := 0) (v := ?_) rfl (by kernel_rfl) (fun _ _ _ h => h) (Or.inl ⟨by rfl, ?_⟩) hHeld ?_
     rotate_left
     ·(intro w' hSw; (try dsimp only at hSw); go_simp; try with_reducible rfl)
     simp only [List.getElem_toArray, List.getElem_cons_zero, Act.put, List.setIfInBounds_toArray, List.set_cons_zero, List.set_cons_succ]
     refine tkA (i := 1) (v := ?_) rfl (by kernel_rfl) (fun _ _ _ h => h) (Or.inl ⟨by rfl, ?_⟩) hHeld ?_
     rotate_left
     ·(intro w' hSw; (try dsimp only at hSw); go_simp; try with_reducible rfl)
     simp only [List.getElem_toArray, List.getElem_cons_zero, List.getElem_cons_succ, Act.put, List.setIfInBounds_toArray, List.set_cons_zero, List.set_cons_succ]
     refine tkA (i := 2) (v := ?_) rfl (by kernel_rfl) (fun _ _ _ h => h) (Or.inl ⟨by rfl, ?_⟩) hHeld ?_
     rotate_left
     ·(intro w' hSw; (try dsimp only at hSw); go_simp; try with_reducible rfl)
     simp only [List.getElem_toArray, List.getElem_cons_zero, List.getElem_cons_succ, Act.put, List.setIfInBounds_toArray, List.set_cons_zero, List.set_cons_succ]
     refine tkA (i := 3) (v := ?_) rfl (by kernel_rfl) (fun _ _ _ h => h) (Or.inl ⟨by rfl, ?_⟩) hHeld ?_
     rotate_left
     ·(intro w' hSw; (try dsimp only at hSw); go_simp; try with_reducible rfl)
     simp only [List.getElem_toArray, List.getElem_cons_zero, List.getElem_cons_succ, Act.put, List.setIfInBounds_toArray, List.set_cons_zero, List.set_cons_succ]
     refine tkA (i := 4) (v := ?_) rfl (by kernel_rfl) (fun _ _ _ h => h) (Or.inl ⟨by rfl, ?_⟩) hHeld ?_
     rotate_left
     ·(intro w' hSw; (try dsimp only at hSw); go_simp; try with_reducible rfl)
     simp only [List.getElem_toArray, List.getElem_cons_zero, List.getElem_cons_succ, Act.put, List.setIfInBounds_toArray, List.set_cons_zero, List.set_cons_succ]
     refine wpAnyH_ready (rs := [5]) (by kernel_rfl) (by simp) ?_
     refine AllReadyH.cons rfl (fun K hK => ?_) AllReadyH.nil
     go_simp
     refine (KD.out _).mono ?_
     rintro e s1 ⟨rfl, hb⟩
     refine hK.out _ _ (KE.out _ (holdC hHeld hb)) (fun hHeld => ?_)
     clear hK K hb
     refine tkA (i := 6) (v := ?_) rfl (by kernel_rfl) (fun _ _ _ h => h) (Or.inl ⟨by rfl, ?_⟩) hHeld ?_
     rotate_left
     ·(intro w' hSw; (try dsimp only at hSw); go_simp; try with_reducible rfl)
     simp only [List.getElem_toArray, List.getElem_cons_zero, List.getElem_cons_succ, Act.put, List.setIfInBounds_toArray, List.set_cons_zero, List.set_cons_succ]
     refine tkA (i := 7) (v := ?_) rfl (by kernel_rfl) (fun _ _ _ h => h) (Or.inl ⟨by rfl, ?_⟩) hHeld ?_
     rotate_left
     ·(intro w' hSw; (try dsimp only at hSw); go_simp; try with_reducible rfl)
     simp only [List.getElem_toArray, List.getElem_cons_zero, List.getElem_cons_succ, Act.put, List.setIfInBounds_toArray, List.set_cons_zero, List.set_cons_succ]
     refine tkA (i := 8) (v := undef) rfl (by kernel_rfl) (fun _ _ _ h => h) (Or.inr ⟨by rfl, rfl⟩) hHeld ?_
     simp only [List.getElem_toArray, List.getElem_cons_zero, List.getElem_cons_succ, Act.put, List.setIfInBounds_toArray, List.set_cons_zero, List.set_cons_succ]
     refine tkA (i := 9) (v := undef) rfl (by kernel_rfl) (fun _ _ _ h => h) (Or.inr ⟨by rfl, rfl⟩) hHeld ?_
     simp only [List.getElem_toArray, List.getElem_cons_zero, List.getElem_cons_succ, Act.put, List.setIfInBounds_toArray, List.set_cons_zero, List.set_cons_succ]
     refine tkA (i := 10) (v := undef) rfl (by kernel_rfl) (fun _ _ _ h => h) (Or.inr ⟨by rfl, rfl⟩) hHeld ?_
     simp only [List.getElem_toArray, List.getElem_cons_zero, List.getElem_cons_succ, Act.put, List.setIfInBounds_toArray, List.set_cons_zero, List.set_cons_succ]
     refine tkA (i := 11) (v := undef) rfl (by kernel_rfl) (fun _ _ _ h => h) (Or.inr ⟨by rfl, rfl⟩) hHeld ?_
     simp only [List.getElem_toArray, List.getElem_cons_zero, List.getElem_cons_succ, Act.put, List.setIfInBounds_toArray, List.set_cons_zero, List.set_cons_succ]
     refine tkA (i := 12) (v := undef) rfl (by kernel_rfl) (fun _ _ _ h => h) (Or.inr ⟨by rfl, rfl⟩) hHeld ?_
     simp only [List.getElem_toArray, List.getElem_cons_zero, List.getElem_cons_succ, Act.put, List.setIfInBounds_toArray, List.set_cons_zero, List.set_cons_succ]
     refine tkA (i := 13) (v := undef) rfl (by kernel_rfl) (fun _ _ _ h => h) (Or.inr ⟨by rfl, rfl⟩) hHeld ?_
     simp only [List.getElem_toArray, List.getElem_cons_zero, List.getElem_cons_succ, Act.put, List.setIfInBounds_toArray, List.set_cons_zero, List.set_cons_succ]
     refine tkA (i := 14) (v := undef) rfl (by kernel_rfl) (fun _ _ _ h => h) (Or.inr ⟨by rfl, rfl⟩) hHeld ?_
     simp only [List.getElem_toArray, List.getElem_cons_zero, List.getElem_cons_succ, Act.put, List.setIfInBounds_toArray, List.set_cons_zero, List.set_cons_succ]
     refine tkA (i := 15) (v := undef) rfl (by kernel_rfl) (fun _ _ _ h => h) (Or.inr ⟨by rfl, rfl⟩) hHeld ?_
     simp only [List.getElem_toArray, List.getElem_cons_zero, List.getElem_cons_succ, Act.put, List.setIfInBounds_toArray, List.set_cons_zero, List.set_cons_succ]
     refine tkA (i := 16) (v := undef) rfl (by kernel_rfl) (fun _ _ _ h => h) (Or.inr ⟨by rfl, rfl⟩) hHeld ?_
     simp only [List.getElem_toArray, List.getElem_cons_zero, List.getElem_cons_succ, Act.put, List.setIfInBounds_toArray, List.set_cons_zero, List.set_cons_succ]
     refine tkA (i := 17) (v := undef) rfl (by kernel_rfl) (fun _ _ _ h => h) (Or.inr ⟨by rfl, rfl⟩) hHeld ?_
     simp only [List.getElem_toArray, List.getElem_cons_zero, List.getElem_cons_succ, Act.put, List.setIfInBounds_toArray, List.set_cons_zero, List.set_cons_succ]
     refine tkA (i := 18) (v := undef) rfl (by kernel_rfl) (fun _ _ _ h => h) (Or.inr ⟨by rfl, rfl⟩) hHeld ?_
     simp only [List.getElem_toArray, List.getElem_cons_zero, List.getElem_cons_succ, Act.put, List.setIfInBounds_toArray, List.set_cons_zero, List.set_cons_succ]
     refine tkA (i := 19) (v := undef) rfl (by kernel_rfl) (fun _ _ _ h => h) (Or.inr ⟨by rfl, rfl⟩) hHeld ?_
     simp only [List.getElem_toArray, List.getElem_cons_zero, List.getElem_cons_succ, Act.put, List.setIfInBounds_toArray, List.set_cons_zero, List.set_cons_succ]
     refine tkA (i := 20) (v := undef) rfl (by kernel_rfl) (fun _ _ _ h => h) (Or.inr ⟨by rfl, rfl⟩) hHeld ?_
     simp only [List.getElem_toArray, List.getElem_cons_zero, List.getElem_cons_succ, Act.put, List.setIfInBounds_toArray, List.set_cons_zero, List.set_cons_succ]
     refine tkA (i := 21) (v := undef) rfl (by kernel_rfl) (fun _ _ _ h => h) (Or.inr ⟨by rfl, rfl⟩) hHeld ?_
     simp only [List.getElem_toArray, List.getElem_cons_zero, List.getElem_cons_succ, Act.put, List.setIfInBounds_toArray, List.set_cons_zero, List.set_cons_succ]
     refine tkA (i := 22) (v := undef) rfl (by kernel_rfl) (fun _ _ _ h => h) (Or.inr ⟨by rfl, rfl⟩) hHeld ?_
     simp only [List.getElem_toArray, List.getElem_cons_zero, List.getElem_cons_succ, Act.put, List.setIfInBounds_toArray, List.set_cons_zero, List.set_cons_succ]
     refine tkA (i := 23) (v := undef) rfl (by kernel_rfl) (fun _ _ _ h => h) (Or.inr ⟨by rfl, rfl⟩) hHeld ?_
     simp only [List.getElem_toArray, List.getElem_cons_zero, List.getElem_cons_succ, Act.put, List.setIfInBounds_toArray, List.set_cons_zero, List.set_cons_succ]
     refine tkA (i := 24) (v := undef) rfl (by kernel_rfl) (fun _ _ _ h => h) (Or.inr ⟨by rfl, rfl⟩) hHeld ?_
     simp only [List.getElem_toArray, List.getElem_cons_zero, List.getElem_cons_succ, Act.put, List.setIfInBounds_toArray, List.set_cons_zero, List.set_cons_succ]
     refine tkA (i := 25) (v := ?_) rfl (by kernel_rfl) (fun _ _ _ h => h) (Or.inl ⟨by rfl, ?_⟩) hHeld ?_
     rotate_left
     ·(intro w' hSw; (try dsimp only at hSw); go_simp; try with_reducible rfl)
     simp only [List.getElem_toArray, List.getElem_cons_zero, List.getElem_cons_succ, Act.put, List.setIfInBounds_toArray, List.set_cons_zero, List.set_cons_succ]
     refine wpAnyH_done (by kernel_rfl) ?_ _
     have GJ : Hid (Below w1.heap.size w1 s1) := Lib.hid (HB.out.trans (hHeld.1.mono HB.out.size))
     clear hHeld
     go_wp2_with fail
     go_ret
     exact ⟨rfl, G1.out.trans (GJ.out.mono G1.out.size)⟩
    | true =>
     have KD := KD0
     rw [hd] at KD
     have HX := Lib.hid (HXK.out hd)
     clear hd
     refine wp_region_held_drew (S := fun u' => Below wr.heap.size wr u' ∧ (u'.cell? ⟨w.heap.size, 6, none⟩ = some (.slice (some ⟨b, o, none⟩) n c)) ∧ (u'.cell? ⟨b, o, none⟩ = some (.int .i64 d.node) ∧ u'.cell? ⟨b, o + 1, none⟩ = some (.int .i64 d.seq) ∧ u'.cell? ⟨b, o + 2, none⟩ = some (.int .i64 d.pos))) (by kernel_rfl) ?_ (fun hHeld => ?_)
     ·(exact KE.out _ (Below.refl _ _).drew)
     simp only [List.size_toArray, List.length_cons, List.length_nil, Nat.zero_add, Nat.reduceAdd]
     refine tkA (i := 0) (v := ?_) rfl (by kernel_rfl) (fun _ _ _ h => h) (Or.inl ⟨by rfl, ?_⟩) hHeld ?_
     rotate_left
     ·(intro w' hSw; (try dsimp only at hSw); go_simp; try with_reducible rfl)
     simp only [List.getElem_toArray, List.getElem_cons_zero, Act.put, List.setIfInBounds_toArray, List.set_cons_zero, List.set_cons_succ]
     refine tkA (i := 1) (v := ?_) rfl (by kernel_rfl) (fun _ _ _ h => h) (Or.inl ⟨by rfl, ?_⟩) hHeld ?_
     rotate_left
     ·(intro w' hSw; (try dsimp only at hSw); go_simp; try with_reducible rfl)
     simp only [List.getElem_toArray, List.getElem_cons_zero, List.getElem_cons_succ, Act.put, List.setIfInBounds_toArray, List.set_cons_zero, List.set_cons_succ]
     refine tkA (i := 2) (v := ?_) rfl (by kernel_rfl) (fun _ _ _ h => h) (Or.inl ⟨by rfl, ?_⟩) hHeld ?_
     rotate_left
     ·(intro w' hSw; (try dsimp only at hSw); go_simp; try with_reducible rfl)
     simp only [List.getElem_toArray, List.getElem_cons_zero, List.getElem_cons_succ, Act.put, List.setIfInBounds_toArray, List.set_cons_zero, List.set_cons_succ]
     refine tkA (i := 3) (v := ?_) rfl (by kernel_rfl) (fun _ _ _ h => h) (Or.inl ⟨by rfl, ?_⟩) hHeld ?_
     rotate_left
     ·(intro w' hSw; (try dsimp only at hSw); go_simp; try with_reducible rfl)
     simp only [List.getElem_toArray, List.getElem_cons_zero, List.getElem_cons_succ, Act.put, List.setIfInBounds_toArray, List.set_cons_zero, List.set_cons_succ]
     refine tkA (i := 4) (v := ?_) rfl (by kernel_rfl) (fun _ _ _ h => h) (Or.inl ⟨by rfl, ?_⟩) hHeld ?_
     rotate_left
     ·(intro w' hSw; (try dsimp only at hSw); go_simp; try with_reducible rfl)
     simp only [List.getElem_toArray, List.getElem_cons_zero, List.getElem_cons_succ, Act.put, List.setIfInBounds_toArray, List.set_cons_zero, List.set_cons_succ]
     refine wpAnyH_ready (rs := [5]) (by kernel_rfl) (by simp) ?_
     refine AllReadyH.cons rfl (fun K hK => ?_) AllReadyH.nil
     go_simp
     refine (KD.out _).mono ?_
     rintro e s1 ⟨rfl, hb⟩
     refine hK.out _ _ (KE.out _ (holdC hHeld hb)) (fun hHeld => ?_)
     clear hK K hb
     refine tkA (i := 6) (v := ?_) rfl (by kernel_rfl) (fun _ _ _ h => h) (Or.inl ⟨by rfl, ?_⟩) hHeld ?_
     rotate_left
     ·(intro w' hSw; (try dsimp only at hSw); go_simp; try with_reducible rfl)
     simp only [List.getElem_toArray, List.getElem_cons_zero, List.getElem_cons_succ, Act.put, List.setIfInBounds_toArray, List.set_cons_zero, List.set_cons_succ]
     refine tkA (i := 7) (v := ?_) rfl (by kernel_rfl) (fun _ _ _ h => h) (Or.inl ⟨by rfl, ?_⟩) hHeld ?_
     rotate_left
     ·(intro w' hSw; (try dsimp only at hSw); go_simp; try with_reducible rfl)
     simp only [List.getElem_toArray, List.getElem_cons_zero, List.getElem_cons_succ, Act.put, List.setIfInBounds_toArray, List.set_cons_zero, List.set_cons_succ]
     refine tkA (i := 8) (v := ?_) rfl (by kernel_rfl) (fun _ _ _ h => h) (Or.inl ⟨by rfl, ?_⟩) hHeld ?_
     rotate_left
     ·(intro w' hSw; (try dsimp only at hSw); go_simp; try with_reducible rfl)
     simp only [List.getElem_toArray, List.getElem_cons_zero, List.getElem_cons_succ, Act.put, List.setIfInBounds_toArray, List.set_cons_zero, List.set_cons_succ]
     refine tkA (i := 9) (v := ?_) rfl (by kernel_rfl) (fun _ _ _ h => h) (Or.inl ⟨by rfl, ?_⟩) hHeld ?_
     rotate_left
     ·(intro w' hSw; (try dsimp only at hSw); go_simp; try with_reducible rfl)
     simp only [List.getElem_toArray, List.getElem_cons_zero, List.getElem_cons_succ, Act.put, List.setIfInBounds_toArray, List.set_cons_zero, List.set_cons_succ]
     refine tkA (i := 10) (v := ?_) rfl (by kernel_rfl) (fun _ _ _ h => h) (Or.inl ⟨by rfl, ?_⟩) hHeld ?_
     rotate_left
     ·(intro w' hSw; (try dsimp only at hSw); go_simp; try with_reducible rfl)
     simp only [List.getElem_toArray, List.getElem_cons_zero, List.getElem_cons_succ, Act.put, List.setIfInBounds_toArray, List.set_cons_zero, List.set_cons_succ]
     refine tkA (i := 11) (v := undef) rfl (by kernel_rfl) (fun _ _ _ h => h) (Or.inr ⟨by rfl, rfl⟩) hHeld ?_
     simp only [List.getElem_toArray, List.getElem_cons_zero, List.getElem_cons_succ, Act.put, List.setIfInBounds_toArray, List.set_cons_zero, List.set_cons_succ]
     refine tkA (i := 12) (v := undef) rfl (by kernel_rfl) (fun _ _ _ h => h) (Or.inr ⟨by rfl, rfl⟩) hHeld ?_
     simp only [List.getElem_toArray, List.getElem_cons_zero, List.getElem_cons_succ, Act.put, List.setIfInBounds_toArray, List.set_cons_zero, List.set_cons_succ]
     refine tkA (i := 13) (v := undef) rfl (by kernel_rfl) (fun _ _ _ h => h) (Or.inr ⟨by rfl, rfl⟩) hHeld ?_
     simp only [List.getElem_toArray, List.getElem_cons_zero, List.getElem_cons_succ, Act.put, List.setIfInBounds_toArray, List.set_cons_zero, List.set_cons_succ]
     refine tkA (i := 14) (v := undef) rfl (by kernel_rfl) (fun _ _ _ h => h) (Or.inr ⟨by rfl, rfl⟩) hHeld ?_
     simp only [List.getElem_toArray, List.getElem_cons_zero, List.getElem_cons_succ, Act.put, List.setIfInBounds_toArray, List.set_cons_zero, List.set_cons_succ]
     refine tkA (i := 15) (v := undef) rfl (by kernel_rfl) (fun _ _ _ h => h) (Or.inr ⟨by rfl, rfl⟩) hHeld ?_
     simp only [List.getElem_toArray, List.getElem_cons_zero, List.getElem_cons_succ, Act.put, List.setIfInBounds_toArray, List.set_cons_zero, List.set_cons_succ]
     refine tkA (i := 16) (v := undef) rfl (by kernel_rfl) (fun _ _ _ h => h) (Or.inr ⟨by rfl, rfl⟩) hHeld ?_
     simp only [List.getElem_toArray, List.getElem_cons_zero, List.getElem_cons_succ, Act.put, List.setIfInBounds_toArray, List.set_cons_zero, List.set_cons_succ]
     refine tkA (i := 17) (v := undef) rfl (by kernel_rfl) (fun _ _ _ h => h) (Or.inr ⟨by rfl, rfl⟩) hHeld ?_
     simp only [List.getElem_toArray, List.getElem_cons_zero, List.getElem_cons_succ, Act.put, List.setIfInBounds_toArray, List.set_cons_zero, List.set_cons_succ]
     refine tkA (i := 18) (v := undef) rfl (by kernel_rfl) (fun _ _ _ h => h) (Or.inr ⟨by rfl, rfl⟩) hHeld ?_
     simp only [List.getElem_toArray, List.getElem_cons_zero, List.getElem_cons_succ, Act.put, List.setIfInBounds_toArray, List.set_cons_zero, List.set_cons_succ]
     refine tkA (i := 19) (v := undef) rfl (by kernel_rfl) (fun _ _ _ h => h) (Or.inr ⟨by rfl, rfl⟩) hHeld ?_
     simp only [List.getElem_toArray, List.getElem_cons_zero, List.getElem_cons_succ, Act.put, List.setIfInBounds_toArray, List.set_cons_zero, List.set_cons_succ]
     refine tkA (i := 20) (v := undef) rfl (by kernel_rfl) (fun _ _ _ h => h) (Or.inr ⟨by rfl, rfl⟩) hHeld ?_
     simp only [List.getElem_toArray, List.getElem_cons_zero, List.getElem_cons_succ, Act.put, List.setIfInBounds_toArray, List.set_cons_zero, List.set_cons_succ]
     refine tkA (i := 21) (v := undef) rfl (by kernel_rfl) (fun _ _ _ h => h) (Or.inr ⟨by rfl, rfl⟩) hHeld ?_
     simp only [List.getElem_toArray, List.getElem_cons_zero, List.getElem_cons_succ, Act.put, List.setIfInBounds_toArray, List.set_cons_zero, List.set_cons_succ]
     refine tkA (i := 22) (v := undef) rfl (by kernel_rfl) (fun _ _ _ h => h) (Or.inr ⟨by rfl, rfl⟩) hHeld ?_
     simp only [List.getElem_toArray, List.getElem_cons_zero, List.getElem_cons_succ, Act.put, List.setIfInBounds_toArray, List.set_cons_zero, List.set_cons_succ]
     refine tkA (i := 23) (v := undef) rfl (by kernel_rfl) (fun _ _ _ h => h) (Or.inr ⟨by rfl, rfl⟩) hHeld ?_
     simp only [List.getElem_toArray, List.getElem_cons_zero, List.getElem_cons_succ, Act.put, List.setIfInBounds_toArray, List.set_cons_zero, List.set_cons_succ]
     refine tkA (i := 24) (v := ?_) rfl (by kernel_rfl) (fun _ _ _ h => h) (Or.inl ⟨by rfl, ?_⟩) hHeld ?_
     rotate_left
     ·(intro w' hSw; (try dsimp only at hSw); go_simp; try with_reducible rfl)
     simp only [List.getElem_toArray, List.getElem_cons_zero, List.getElem_cons_succ, Act.put, List.setIfInBounds_toArray, List.set_cons_zero, List.set_cons_succ]
     refine tkA (i := 25) (v := ?_) rfl (by kernel_rfl) (fun _ _ _ h => h) (Or.inl ⟨by rfl, ?_⟩) hHeld ?_
     rotate_left
     ·(intro w' hSw; (try dsimp only at hSw); go_simp; try with_reducible rfl)
     simp only [List.getElem_toArray, List.getElem_cons_zero, List.getElem_cons_succ, Act.put, List.setIfInBounds_toArray, List.set_cons_zero, List.set_cons_succ]
     refine wpAnyH_done (by kernel_rfl) ?_ _
     have GJ : Hid (Below w1.heap.size w1 s1) := Lib.hid (HB.out.trans (hHeld.1.mono HB.out.size))
     clear hHeld
     go_wp2_with fail
     go_roundw
     case rel => exact ⟨0 + 1, by omega, by go_num, HX.out, GJ.out⟩
     case measure => simp [intOf]; omega
   ·obtain ⟨p, rfl⟩ : ∃ p, k = p + 1 := ⟨k - 1, by omega⟩
    have DY := Lib.hid (hc p (by rw [HN0.out]; omega))
    have KC0 := Lib.hid (fun W => rahead_any (ds.getD p default) (ds.getD (p + 1) default) W)
    replace HN2K : Hid (dlessB (ds.getD p default) (ds.getD (p + 1) default) = false → r = false) := Lib.hid (fun h => HN2K.out (by omega) h)
    have HXK : Hid (dotB (ds.getD (p + 1) default) = true → dlessB (ds.getD p default) (ds.getD (p + 1) default) = true → ∀ j, j < p + 1 + 1 → dotB (ds.getD j default) = true ∧ (0 < j → dlessB (ds.getD (j - 1) default) (ds.getD j default) = true)) := Lib.hid (fun h g => HAK.out h (fun _ => g))
    clear hc HAK
    generalize ds.getD (p + 1) default = d at *
    generalize ds.getD p default = y at *
    have q1 : (0 : Int) < (p : Int) + 1 := by omega
    have q5 : (0 : Int) ≤ (p : Int) + 1 := by omega
    have q6 : ((p : Int) + 1).toNat = p + 1 := by omega
    have q7 : (p : Int) + 1 < (n : Int) := by omega
    have q2 : IntKind.i64.wrap ((p : Int) + 1 - 1) = (p : Int) := by rw [show (p : Int) + 1 - 1 = p by omega]; exact IntWalk.i64_in _ (by omega)
    have q4 : IntKind.i64.wrap (p : Int) = (p : Int) := IntWalk.i64_in _ (by omega)
    have q3 : (p : Int) < (n : Int) := by omega
    have KE : Hid (∀ u, Below wr.heap.size wr u → (Below wr.heap.size wr u ∧ (u.cell? ⟨w.heap.size, 6, none⟩ = some (.slice (some ⟨b, o, none⟩) n c)) ∧ (u.cell? ⟨b, o + (p + 1) * 3, none⟩ = some (.int .i64 d.node) ∧ u.cell? ⟨b, o + (p + 1) * 3 + 1, none⟩ = some (.int .i64 d.seq) ∧ u.cell? ⟨b, o + (p + 1) * 3 + 2, none⟩ = some (.int .i64 d.pos)) ∧ (u.cell? ⟨b, o + p * 3, none⟩ = some (.int .i64 y.node) ∧ u.cell? ⟨b, o + p * 3 + 1, none⟩ = some (.int .i64 y.seq) ∧ u.cell? ⟨b, o + p * 3 + 2, none⟩ = some (.int .i64 y.pos)))) := Lib.hid (fun u hu => ⟨hu, (ER.out.below hu ER.out.lt).zero.2.2.2.2.2.2, (by have h := DX.out.below hu DX.out.lt; exact ⟨h.c0, h.c1, h.c2⟩), (by have h := DY.out.below hu DY.out.lt; exact ⟨h.c0, h.c1, h.c2⟩)⟩)
    go_upto_region 6 with fail
    clear e0 e1 e2 e3 e4 e5 e6
    cases hd : dotB d with
    | false =>
     have KD := KD0
     rw [hd] at KD
     obtain rfl : r = false := HN1K.out hd
     clear hd
     refine wp_region_held_drew (S := fun u' => Below wr.heap.size wr u' ∧ (u'.cell? ⟨w.heap.size, 6, none⟩ = some (.slice (some ⟨b, o, none⟩) n c)) ∧ (u'.cell? ⟨b, o + (p + 1) * 3, none⟩ = some (.int .i64 d.node) ∧ u'.cell? ⟨b, o + (p + 1) * 3 + 1, none⟩ = some (.int .i64 d.seq) ∧ u'.cell? ⟨b, o + (p + 1) * 3 + 2, none⟩ = some (.int .i64 d.pos)) ∧ (u'.cell? ⟨b, o + p * 3, none⟩ = some (.int .i64 y.node) ∧ u'.cell? ⟨b, o + p * 3 + 1, none⟩ = some (.int .i64 y.seq) ∧ u'.cell? ⟨b, o + p * 3 + 2, none⟩ = some (.int .i64 y.pos))) (by kernel_rfl) ?_ (fun hHeld => ?_)
     ·(exact KE.out _ (Below.refl _ _).drew)
     simp only [List.size_toArray, List.length_cons, List.length_nil, Nat.zero_add, Nat.reduceAdd]
     refine tkA (i := 0) (v := ?_) rfl (by kernel_rfl) (fun _ _ _ h => h) (Or.inl ⟨by rfl, ?_⟩) hHeld ?_
     rotate_left
     ·(intro w' hSw; (try dsimp only at hSw); go_simp; try with_reducible rfl)
     simp only [List.getElem_toArray, List.getElem_cons_zero, Act.put, List.setIfInBounds_toArray, List.set_cons_zero, List.set_cons_succ]
     refine tkA (i := 1) (v := ?_) rfl (by kernel_rfl) (fun _ _ _ h => h) (Or.inl ⟨by rfl, ?_⟩) hHeld ?_
     rotate_left
     ·(intro w' hSw; (try dsimp only at hSw); go_simp; try with_reducible rfl)
     simp only [List.getElem_toArray, List.getElem_cons_zero, List.getElem_cons_succ, Act.put, List.setIfInBounds_toArray, List.set_cons_zero, List.set_cons_succ]
     refine tkA (i := 2) (v := ?_) rfl (by kernel_rfl) (fun _ _ _ h => h) (Or.inl ⟨by rfl, ?_⟩) hHeld ?_
     rotate_left
     ·(intro w' hSw; (try dsimp only at hSw); go_simp; try with_reducible rfl)
     simp only [List.getElem_toArray, List.getElem_cons_zero, List.getElem_cons_succ, Act.put, List.setIfInBounds_toArray, List.set_cons_zero, List.set_cons_succ]
     refine tkA (i := 3) (v := ?_) rfl (by kernel_rfl) (fun _ _ _ h => h) (Or.inl ⟨by rfl, ?_⟩) hHeld ?_
     rotate_left
     ·(intro w' hSw; (try dsimp only at hSw); go_simp; try with_reducible rfl)
     simp only [List.getElem_toArray, List.getElem_cons_zero, List.getElem_cons_succ, Act.put, List.setIfInBounds_toArray, List.set_cons_zero, List.set_cons_succ]
     refine tkA (i := 4) (v := ?_) rfl (by kernel_rfl) (fun _ _ _ h => h) (Or.inl ⟨by rfl, ?_⟩) hHeld ?_
     rotate_left
     ·(intro w' hSw; (try dsimp only at hSw); go_simp; try with_reducible rfl)
     simp only [List.getElem_toArray, List.getElem_cons_zero, List.getElem_cons_succ, Act.put, List.setIfInBounds_toArray, List.set_cons_zero, List.set_cons_succ]
     refine wpAnyH_ready (rs := [5]) (by kernel_rfl) (by simp) ?_
     refine AllReadyH.cons rfl (fun K hK => ?_) AllReadyH.nil
     go_simp
     refine (KD.out _).mono ?_
     rintro e s1 ⟨rfl, hb⟩
     refine hK.out _ _ (KE.out _ (holdC hHeld hb)) (fun hHeld => ?_)
     clear hK K hb
     refine tkA (i := 6) (v := ?_) rfl (by kernel_rfl) (fun _ _ _ h => h) (Or.inl ⟨by rfl, ?_⟩) hHeld ?_
     rotate_left
     ·(intro w' hSw; (try dsimp only at hSw); go_simp; try with_reducible rfl)
     simp only [List.getElem_toArray, List.getElem_cons_zero, List.getElem_cons_succ, Act.put, List.setIfInBounds_toArray, List.set_cons_zero, List.set_cons_succ]
     refine tkA (i := 7) (v := ?_) rfl (by kernel_rfl) (fun _ _ _ h => h) (Or.inl ⟨by rfl, ?_⟩) hHeld ?_
     rotate_left
     ·(intro w' hSw; (try dsimp only at hSw); go_simp; try with_reducible rfl)
     simp only [List.getElem_toArray, List.getElem_cons_zero, List.getElem_cons_succ, Act.put, List.setIfInBounds_toArray, List.set_cons_zero, List.set_cons_succ]
     refine tkA (i := 8) (v := undef) rfl (by kernel_rfl) (fun _ _ _ h => h) (Or.inr ⟨by rfl, rfl⟩) hHeld ?_
     simp only [List.getElem_toArray, List.getElem_cons_zero, List.getElem_cons_succ, Act.put, List.setIfInBounds_toArray, List.set_cons_zero, List.set_cons_succ]
     refine tkA (i := 9) (v := undef) rfl (by kernel_rfl) (fun _ _ _ h => h) (Or.inr ⟨by rfl, rfl⟩) hHeld ?_
     simp only [List.getElem_toArray, List.getElem_cons_zero, List.getElem_cons_succ, Act.put, List.setIfInBounds_toArray, List.set_cons_zero, List.set_cons_succ]
     refine tkA (i := 10) (v := undef) rfl (by kernel_rfl) (fun _ _ _ h => h) (Or.inr ⟨by rfl, rfl⟩) hHeld ?_
     simp only [List.getElem_toArray, List.getElem_cons_zero, List.getElem_cons_succ, Act.put, List.setIfInBounds_toArray, List.set_cons_zero, List.set_cons_succ]
     refine tkA (i := 11) (v := undef) rfl (by kernel_rfl) (fun _ _ _ h => h) (Or.inr ⟨by rfl, rfl⟩) hHeld ?_
     simp only [List.getElem_toArray, List.getElem_cons_zero, List.getElem_cons_succ, Act.put, List.setIfInBounds_toArray, List.set_cons_zero, List.set_cons_succ]
     refine tkA (i := 12) (v := undef) rfl (by kernel_rfl) (fun _ _ _ h => h) (Or.inr ⟨by rfl, rfl⟩) hHeld ?_
     simp only [List.getElem_toArray, List.getElem_cons_zero, List.getElem_cons_succ, Act.put, List.setIfInBounds_toArray, List.set_cons_zero, List.set_cons_succ]
     refine tkA (i := 13) (v := undef) rfl (by kernel_rfl) (fun _ _ _ h => h) (Or.inr ⟨by rfl, rfl⟩) hHeld ?_
     simp only [List.getElem_toArray, List.getElem_cons_zero, List.getElem_cons_succ, Act.put, List.setIfInBounds_toArray, List.set_cons_zero, List.set_cons_succ]
     refine tkA (i := 14) (v := undef) rfl (by kernel_rfl) (fun _ _ _ h => h) (Or.inr ⟨by rfl, rfl⟩) hHeld ?_
     simp only [List.getElem_toArray, List.getElem_cons_zero, List.getElem_cons_succ, Act.put, List.setIfInBounds_toArray, List.set_cons_zero, List.set_cons_succ]
     refine tkA (i := 15) (v := undef) rfl (by kernel_rfl) (fun _ _ _ h => h) (Or.inr ⟨by rfl, rfl⟩) hHeld ?_
     simp only [List.getElem_toArray, List.getElem_cons_zero, List.getElem_cons_succ, Act.put, List.setIfInBounds_toArray, List.set_cons_zero, List.set_cons_succ]
     refine tkA (i := 16) (v := undef) rfl (by kernel_rfl) (fun _ _ _ h => h) (Or.inr ⟨by rfl, rfl⟩) hHeld ?_
     simp only [List.getElem_toArray, List.getElem_cons_zero, List.getElem_cons_succ, Act.put, List.setIfInBounds_toArray, List.set_cons_zero, List.set_cons_succ]
     refine tkA (i := 17) (v := undef) rfl (by kernel_rfl) (fun _ _ _ h => h) (Or.inr ⟨by rfl, rfl⟩) hHeld ?_
     simp only [List.getElem_toArray, List.getElem_cons_zero, List.getElem_cons_succ, Act.put, List.setIfInBounds_toArray, List.set_cons_zero, List.set_cons_succ]
     refine tkA (i := 18) (v := undef) rfl (by kernel_rfl) (fun _ _ _ h => h) (Or.inr ⟨by rfl, rfl⟩) hHeld ?_
     simp only [List.getElem_toArray, List.getElem_cons_zero, List.getElem_cons_succ, Act.put, List.setIfInBounds_toArray, List.set_cons_zero, List.set_cons_succ]
     refine tkA (i := 19) (v := undef) rfl (by kernel_rfl) (fun _ _ _ h => h) (Or.inr ⟨by rfl, rfl⟩) hHeld ?_
     simp only [List.getElem_toArray, List.getElem_cons_zero, List.getElem_cons_succ, Act.put, List.setIfInBounds_toArray, List.set_cons_zero, List.set_cons_succ]
     refine tkA (i := 20) (v := undef) rfl (by kernel_rfl) (fun _ _ _ h => h) (Or.inr ⟨by rfl, rfl⟩) hHeld ?_
     simp only [List.getElem_toArray, List.getElem_cons_zero, List.getElem_cons_succ, Act.put, List.setIfInBounds_toArray, List.set_cons_zero, List.set_cons_succ]
     refine tkA (i := 21) (v := undef) rfl (by kernel_rfl) (fun _ _ _ h => h) (Or.inr ⟨by rfl, rfl⟩) hHeld ?_
     simp only [List.getElem_toArray, List.getElem_cons_zero, List.getElem_cons_succ, Act.put, List.setIfInBounds_toArray, List.set_cons_zero, List.set_cons_succ]
     refine tkA (i := 22) (v := undef) rfl (by kernel_rfl) (fun _ _ _ h => h) (Or.inr ⟨by rfl, rfl⟩) hHeld ?_
     simp only [List.getElem_toArray, List.getElem_cons_zero, List.getElem_cons_succ, Act.put, List.setIfInBounds_toArray, List.set_cons_zero, List.set_cons_succ]
     refine tkA (i := 23) (v := undef) rfl (by kernel_rfl) (fun _ _ _ h => h) (Or.inr ⟨by rfl, rfl⟩) hHeld ?_
     simp only [List.getElem_toArray, List.getElem_cons_zero, List.getElem_cons_succ, Act.put, List.setIfInBounds_toArray, List.set_cons_zero, List.set_cons_succ]
     refine tkA (i := 24) (v := undef) rfl (by kernel_rfl) (fun _ _ _ h => h) (Or.inr ⟨by rfl, rfl⟩) hHeld ?_
     simp only [List.getElem_toArray, List.getElem_cons_zero, List.getElem_cons_succ, Act.put, List.setIfInBounds_toArray, List.set_cons_zero, List.set_cons_succ]
     refine tkA (i := 25) (v := ?_) rfl (by kernel_rfl) (fun _ _ _ h => h) (Or.inl ⟨by rfl, ?_⟩) hHeld ?_
     rotate_left
     ·(intro w' hSw; (try dsimp only at hSw); go_simp; try with_reducible rfl)
     simp only [List.getElem_toArray, List.getElem_cons_zero, List.getElem_cons_succ, Act.put, List.setIfInBounds_toArray, List.set_cons_zero, List.set_cons_succ]
     refine wpAnyH_done (by kernel_rfl) ?_ _
     have GJ : Hid (Below w1.heap.size w1 s1) := Lib.hid (HB.out.trans (hHeld.1.mono HB.out.size))
     clear hHeld
     go_wp2_with fail
     go_ret
     exact ⟨rfl, G1.out.trans (GJ.out.mono G1.out.size)⟩
    | true =>
     have KD := KD0
     rw [hd] at KD
     cases hl : dlessB y d with
     | false =>
      have KC := KC0
      rw [hl] at KC
      obtain rfl : r = false := HN2K.out hl
      clear hd hl
      refine wp_region_held_drew (S := fun u' => Below wr.heap.size wr u' ∧ (u'.cell? ⟨w.heap.size, 6, none⟩ = some (.slice (some ⟨b, o, none⟩) n c)) ∧ (u'.cell? ⟨b, o + (p + 1) * 3, none⟩ = some (.int .i64 d.node) ∧ u'.cell? ⟨b, o + (p + 1) * 3 + 1, none⟩ = some (.int .i64 d.seq) ∧ u'.cell? ⟨b, o + (p + 1) * 3 + 2, none⟩ = some (.int .i64 d.pos)) ∧ (u'.cell? ⟨b, o + p * 3, none⟩ = some (.int .i64 y.node) ∧ u'.cell? ⟨b, o + p * 3 + 1, none⟩ = some (.int .i64 y.seq) ∧ u'.cell? ⟨b, o + p * 3 + 2, none⟩ = some (.int .i64 y.pos))) (by kernel_rfl) ?_ (fun hHeld => ?_)
      ·(exact KE.out _ (Below.refl _ _).drew)
      simp only [List.size_toArray, List.length_cons, List.length_nil, Nat.zero_add, Nat.reduceAdd]
      refine tkA (i := 0) (v := ?_) rfl (by kernel_rfl) (fun _ _ _ h => h) (Or.inl ⟨by rfl, ?_⟩) hHeld ?_
      rotate_left
      ·(intro w' hSw; (try dsimp only at hSw); go_simp; try with_reducible rfl)
      simp only [List.getElem_toArray, List.getElem_cons_zero, Act.put, List.setIfInBounds_toArray, List.set_cons_zero, List.set_cons_succ]
      refine tkA (i := 1) (v := ?_) rfl (by kernel_rfl) (fun _ _ _ h => h) (Or.inl ⟨by rfl, ?_⟩) hHeld ?_
      rotate_left
      ·(intro w' hSw; (try dsimp only at hSw); go_simp; try with_reducible rfl)
      simp only [List.getElem_toArray, List.getElem_cons_zero, List.getElem_cons_succ, Act.put, List.setIfInBounds_toArray, List.set_cons_zero, List.set_cons_succ]
      refine tkA (i := 2) (v := ?_) rfl (by kernel_rfl) (fun _ _ _ h => h) (Or.inl ⟨by rfl, ?_⟩) hHeld ?_
      rotate_left
      ·(intro w' hSw; (try dsimp only at hSw); go_simp; try with_reducible rfl)
      simp only [List.getElem_toArray, List.getElem_cons_zero, List.getElem_cons_succ, Act.put, List.setIfInBounds_toArray, List.set_cons_zero, List.set_cons_succ]
      refine tkA (i := 3) (v := ?_) rfl (by kernel_rfl) (fun _ _ _ h => h) (Or.inl ⟨by rfl, ?_⟩) hHeld ?_
      rotate_left
      ·(intro w' hSw; (try dsimp only at hSw); go_simp; try with_reducible rfl)
      simp only [List.getElem_toArray, List.getElem_cons_zero, List.getElem_cons_succ, Act.put, List.setIfInBounds_toArray, List.set_cons_zero, List.set_cons_succ]
      refine tkA (i := 4) (v := ?_) rfl (by kernel_rfl) (fun _ _ _ h => h) (Or.inl ⟨by rfl, ?_⟩) hHeld ?_
      rotate_left
      ·(intro w' hSw; (try dsimp only at hSw); go_simp; try with_reducible rfl)
      simp only [List.getElem_toArray, List.getElem_cons_zero, List.getElem_cons_succ, Act.put, List.setIfInBounds_toArray, List.set_cons_zero, List.set_cons_succ]
      refine wpAnyH_ready (rs := [5]) (by kernel_rfl) (by simp) ?_
      refine AllReadyH.cons rfl (fun K hK => ?_) AllReadyH.nil
      go_simp
      refine (KD.out _).mono ?_
      rintro e s1 ⟨rfl, hb⟩
      refine hK.out _ _ (KE.out _ (holdC hHeld hb)) (fun hHeld => ?_)
      clear hK K hb
      refine tkA (i := 6) (v := ?_) rfl (by kernel_rfl) (fun _ _ _ h => h) (Or.inl ⟨by rfl, ?_⟩) hHeld ?_
      rotate_left
      ·(intro w' hSw; (try dsimp only at hSw); go_simp; try with_reducible rfl)
      simp only [List.getElem_toArray, List.getElem_cons_zero, List.getElem_cons_succ, Act.put, List.setIfInBounds_toArray, List.set_cons_zero, List.set_cons_succ]
      refine tkA (i := 7) (v := ?_) rfl (by kernel_rfl) (fun _ _ _ h => h) (Or.inl ⟨by rfl, ?_⟩) hHeld ?_
      rotate_left
      ·(intro w' hSw; (try dsimp only at hSw); go_simp; try with_reducible rfl)
      simp only [List.getElem_toArray, List.getElem_cons_zero, List.getElem_cons_succ, Act.put, List.setIfInBounds_toArray, List.set_cons_zero, List.set_cons_succ]
      refine tkA (i := 8) (v := ?_) rfl (by kernel_rfl) (fun _ _ _ h => h) (Or.inl ⟨by rfl, ?_⟩) hHeld ?_
      rotate_left
      ·(intro w' hSw; (try dsimp only at hSw); go_simp; try with_reducible rfl)
      simp only [List.getElem_toArray, List.getElem_cons_zero, List.getElem_cons_succ, Act.put, List.setIfInBounds_toArray, List.set_cons_zero, List.set_cons_succ]
      refine tkA (i := 9) (v := ?_) rfl (by kernel_rfl) (fun _ _ _ h => h) (Or.inl ⟨by rfl, ?_⟩) hHeld ?_
      rotate_left
      ·(intro w' hSw; (try dsimp only at hSw); go_simp; try with_reducible rfl)
      simp only [List.getElem_toArray, List.getElem_cons_zero, List.getElem_cons_succ, Act.put, List.setIfInBounds_toArray, List.set_cons_zero, List.set_cons_succ]
      refine tkA (i := 10) (v := ?_) rfl (by kernel_rfl) (fun _ _ _ h => h) (Or.inl ⟨by rfl, ?_⟩) hHeld ?_
      rotate_left
      ·(intro w' hSw; (try dsimp only at hSw); go_simp; try with_reducible rfl)
      simp only [List.getElem_toArray, List.getElem_cons_zero, List.getElem_cons_succ, Act.put, List.setIfInBounds_toArray, List.set_cons_zero, List.set_cons_succ]
      refine tkA (i := 11) (v := ?_) rfl (by kernel_rfl) (fun _ _ _ h => h) (Or.inl ⟨by rfl, ?_⟩) hHeld ?_
      rotate_left
      ·(intro w' hSw; (try dsimp only at hSw); go_simp; try with_reducible rfl)
      simp only [List.getElem_toArray, List.getElem_cons_zero, List.getElem_cons_succ, Act.put, List.setIfInBounds_toArray, List.set_cons_zero, List.set_cons_succ]
      refine tkA (i := 12) (v := ?_) rfl (by kernel_rfl) (fun _ _ _ h => h) (Or.inl ⟨by rfl, ?_⟩) hHeld ?_
      rotate_left
      ·(intro w' hSw; (try dsimp only at hSw); go_simp; try with_reducible rfl)
      simp only [List.getElem_toArray, List.getElem_cons_zero, List.getElem_cons_succ, Act.put, List.setIfInBounds_toArray, List.set_cons_zero, List.set_cons_succ]
      refine tkA (i := 13) (v := ?_) rfl (by kernel_rfl) (fun _ _ _ h => h) (Or.inl ⟨by rfl, ?_⟩) hHeld ?_
      rotate_left
      ·(intro w' hSw; (try dsimp only at hSw); go_simp; try with_reducible rfl)
      simp only [List.getElem_toArray, List.getElem_cons_zero, List.getElem_cons_succ, Act.put, List.setIfInBounds_toArray, List.set_cons_zero, List.set_cons_succ]
      refine tkA (i := 14) (v := ?_) rfl (by kernel_rfl) (fun _ _ _ h => h) (Or.inl ⟨by rfl, ?_⟩) hHeld ?_
      rotate_left
      ·(intro w' hSw; (try dsimp only at hSw); go_simp; try with_reducible rfl)
      simp only [List.getElem_toArray, List.getElem_cons_zero, List.getElem_cons_succ, Act.put, List.setIfInBounds_toArray, List.set_cons_zero, List.set_cons_succ]
      refine tkA (i := 15) (v := ?_) rfl (by kernel_rfl) (fun _ _ _ h => h) (Or.inl ⟨by rfl, ?_⟩) hHeld ?_
      rotate_left
      ·(intro w' hSw; (try dsimp only at hSw); go_simp; try with_reducible rfl)
      simp only [List.getElem_toArray, List.getElem_cons_zero, List.getElem_cons_succ, Act.put, List.setIfInBounds_toArray, List.set_cons_zero, List.set_cons_succ]
      refine tkA (i := 16) (v := ?_) rfl (by kernel_rfl) (fun _ _ _ h => h) (Or.inl ⟨by rfl, ?_⟩) hHeld ?_
      rotate_left
      ·(intro w' hSw; (try dsimp only at hSw); go_simp; try with_reducible rfl)
      simp only [List.getElem_toArray, List.getElem_cons_zero, List.getElem_cons_succ, Act.put, List.setIfInBounds_toArray, List.set_cons_zero, List.set_cons_succ]
      refine tkA (i := 17) (v := ?_) rfl (by kernel_rfl) (fun _ _ _ h => h) (Or.inl ⟨by rfl, ?_⟩) hHeld ?_
      rotate_left
      ·(intro w' hSw; (try dsimp only at hSw); go_simp; try with_reducible rfl)
      simp only [List.getElem_toArray, List.getElem_cons_zero, List.getElem_cons_succ, Act.put, List.setIfInBounds_toArray, List.set_cons_zero, List.set_cons_succ]
      refine tkA (i := 18) (v := ?_) rfl (by kernel_rfl) (fun _ _ _ h => h) (Or.inl ⟨by rfl, ?_⟩) hHeld ?_
      rotate_left
      ·(intro w' hSw; (try dsimp only at hSw); go_simp; try with_reducible rfl)
      simp only [List.getElem_toArray, List.getElem_cons_zero, List.getElem_cons_succ, Act.put, List.setIfInBounds_toArray, List.set_cons_zero, List.set_cons_succ]
      refine tkA (i := 19) (v := ?_) rfl (by kernel_rfl) (fun _ _ _ h => h) (Or.inl ⟨by rfl, ?_⟩) hHeld ?_
      rotate_left
      ·(intro w' hSw; (try dsimp only at hSw); go_simp; try with_reducible rfl)
      simp only [List.getElem_toArray, List.getElem_cons_zero, List.getElem_cons_succ, Act.put, List.setIfInBounds_toArray, List.set_cons_zero, List.set_cons_succ]
      refine tkA (i := 20) (v := ?_) rfl (by kernel_rfl) (fun _ _ _ h => h) (Or.inl ⟨by rfl, ?_⟩) hHeld ?_
      rotate_left
      ·(intro w' hSw; (try dsimp only at hSw); go_simp; try with_reducible rfl)
      simp only [List.getElem_toArray, List.getElem_cons_zero, List.getElem_cons_succ, Act.put, List.setIfInBounds_toArray, List.set_cons_zero, List.set_cons_succ]
      refine tkA (i := 21) (v := ?_) rfl (by kernel_rfl) (fun _ _ _ h => h) (Or.inl ⟨by rfl, ?_⟩) hHeld ?_
      rotate_left
      ·(intro w' hSw; (try dsimp only at hSw); go_simp; try with_reducible rfl)
      simp only [List.getElem_toArray, List.getElem_cons_zero, List.getElem_cons_succ, Act.put, List.setIfInBounds_toArray, List.set_cons_zero, List.set_cons_succ]
      refine wpAnyH_ready (rs := [22]) (by kernel_rfl) (by simp) ?_
      refine AllReadyH.cons rfl (fun K hK => ?_) AllReadyH.nil
      go_simp
      refine (KC.out _).mono ?_
      rintro e s2 ⟨rfl, hb⟩
      refine hK.out _ _ (KE.out _ (holdC hHeld hb)) (fun hHeld => ?_)
      clear hK K hb
      refine tkA (i := 23) (v := ?_) rfl (by kernel_rfl) (fun _ _ _ h => h) (Or.inl ⟨by rfl, ?_⟩) hHeld ?_
      rotate_left
      ·(intro w' hSw; (try dsimp only at hSw); go_simp; try with_reducible rfl)
      simp only [List.getElem_toArray, List.getElem_cons_zero, List.getElem_cons_succ, Act.put, List.setIfInBounds_toArray, List.set_cons_zero, List.set_cons_succ]
      refine tkA (i := 24) (v := ?_) rfl (by kernel_rfl) (fun _ _ _ h => h) (Or.inl ⟨by rfl, ?_⟩) hHeld ?_
      rotate_left
      ·(intro w' hSw; (try dsimp only at hSw); go_simp; try with_reducible rfl)
      simp only [List.getElem_toArray, List.getElem_cons_zero, List.getElem_cons_succ, Act.put, List.setIfInBounds_toArray, List.set_cons_zero, List.set_cons_succ]
      refine tkA (i := 25) (v := ?_) rfl (by kernel_rfl) (fun _ _ _ h => h) (Or.inl ⟨by rfl, ?_⟩) hHeld ?_
      rotate_left
      ·(intro w' hSw; (try dsimp only at hSw); go_simp; try with_reducible rfl)
      simp only [List.getElem_toArray, List.getElem_cons_zero, List.getElem_cons_succ, Act.put, List.setIfInBounds_toArray, List.set_cons_zero, List.set_cons_succ]
      refine wpAnyH_done (by kernel_rfl) ?_ _
      have GJ : Hid (Below w1.heap.size w1 s2) := Lib.hid (HB.out.trans (hHeld.1.mono HB.out.size))
      clear hHeld
      go_wp2_with fail
      go_ret
      exact ⟨rfl, G1.out.trans (GJ.out.mono G1.out.size)⟩
     | true =>
      have KC := KC0
      rw [hl] at KC
      have HX := Lib.hid (HXK.out hd hl)
      clear hd hl
      refine wp_region_held_drew (S := fun u' => Below wr.heap.size wr u' ∧ (u'.cell? ⟨w.heap.size, 6, none⟩ = some (.slice (some ⟨b, o, none⟩) n c)) ∧ (u'.cell? ⟨b, o + (p + 1) * 3, none⟩ = some (.int .i64 d.node) ∧ u'.cell? ⟨b, o + (p + 1) * 3 + 1, none⟩ = some (.int .i64 d.seq) ∧ u'.cell? ⟨b, o + (p + 1) * 3 + 2, none⟩ = some (.int .i64 d.pos)) ∧ (u'.cell? ⟨b, o + p * 3, none⟩ = some (.int .i64 y.node) ∧ u'.cell? ⟨b, o + p * 3 + 1, none⟩ = some (.int .i64 y.seq) ∧ u'.cell? ⟨b, o + p * 3 + 2, none⟩ = some (.int .i64 y.pos))) (by kernel_rfl) ?_ (fun hHeld => ?_)
      ·(exact KE.out _ (Below.refl _ _).drew)
      simp only [List.size_toArray, List.length_cons, List.length_nil, Nat.zero_add, Nat.reduceAdd]
      refine tkA (i := 0) (v := ?_) rfl (by kernel_rfl) (fun _ _ _ h => h) (Or.inl ⟨by rfl, ?_⟩) hHeld ?_
      rotate_left
      ·(intro w' hSw; (try dsimp only at hSw); go_simp; try with_reducible rfl)
      simp only [List.getElem_toArray, List.getElem_cons_zero, Act.put, List.setIfInBounds_toArray, List.set_cons_zero, List.set_cons_succ]
      refine tkA (i := 1) (v := ?_) rfl (by kernel_rfl) (fun _ _ _ h => h) (Or.inl ⟨by rfl, ?_⟩) hHeld ?_
      rotate_left
      ·(intro w' hSw; (try dsimp only at hSw); go_simp; try with_reducible rfl)
      simp only [List.getElem_toArray, List.getElem_cons_zero, List.getElem_cons_succ, Act.put, List.setIfInBounds_toArray, List.set_cons_zero, List.set_cons_succ]
      refine tkA (i := 2) (v := ?_) rfl (by kernel_rfl) (fun _ _ _ h => h) (Or.inl ⟨by rfl, ?_⟩) hHeld ?_
      rotate_left
      ·(intro w' hSw; (try dsimp only at hSw); go_simp; try with_reducible rfl)
      simp only [List.getElem_toArray, List.getElem_cons_zero, List.getElem_cons_succ, Act.put, List.setIfInBounds_toArray, List.set_cons_zero, List.set_cons_succ]
      refine tkA (i := 3) (v := ?_) rfl (by kernel_rfl) (fun _ _ _ h => h) (Or.inl ⟨by rfl, ?_⟩) hHeld ?_
      rotate_left
      ·(intro w' hSw; (try dsimp only at hSw); go_simp; try with_reducible rfl)
      simp only [List.getElem_toArray, List.getElem_cons_zero, List.getElem_cons_succ, Act.put, List.setIfInBounds_toArray, List.set_cons_zero, List.set_cons_succ]
      refine tkA (i := 4) (v := ?_) rfl (by kernel_rfl) (fun _ _ _ h => h) (Or.inl ⟨by rfl, ?_⟩) hHeld ?_
      rotate_left
      ·(intro w' hSw; (try dsimp only at hSw); go_simp; try with_reducible rfl)
      simp only [List.getElem_toArray, List.getElem_cons_zero, List.getElem_cons_succ, Act.put, List.setIfInBounds_toArray, List.set_cons_zero, List.set_cons_succ]
      refine wpAnyH_ready (rs := [5]) (by kernel_rfl) (by simp) ?_
      refine AllReadyH.cons rfl (fun K hK => ?_) AllReadyH.nil
      go_simp
      refine (KD.out _).mono ?_
      rintro e s1 ⟨rfl, hb⟩
      refine hK.out _ _ (KE.out _ (holdC hHeld hb)) (fun hHeld => ?_)
      clear hK K hb
      refine tkA (i := 6) (v := ?_) rfl (by kernel_rfl) (fun _ _ _ h => h) (Or.inl ⟨by rfl, ?_⟩) hHeld ?_
      rotate_left
      ·(intro w' hSw; (try dsimp only at hSw); go_simp; try with_reducible rfl)
      simp only [List.getElem_toArray, List.getElem_cons_zero, List.getElem_cons_succ, Act.put, List.setIfInBounds_toArray, List.set_cons_zero, List.set_cons_succ]
      refine tkA (i := 7) (v := ?_) rfl (by kernel_rfl) (fun _ _ _ h => h) (Or.inl ⟨by rfl, ?_⟩) hHeld ?_
      rotate_left
      ·(intro w' hSw; (try dsimp only at hSw); go_simp; try with_reducible rfl)
      simp only [List.getElem_toArray, List.getElem_cons_zero, List.getElem_cons_succ, Act.put, List.setIfInBounds_toArray, List.set_cons_zero, List.set_cons_succ]
      refine tkA (i := 8) (v := ?_) rfl (by kernel_rfl) (fun _ _ _ h => h) (Or.inl ⟨by rfl, ?_⟩) hHeld ?_
      rotate_left
      ·(intro w' hSw; (try dsimp only at hSw); go_simp; try with_reducible rfl)
      simp only [List.getElem_toArray, List.getElem_cons_zero, List.getElem_cons_succ, Act.put, List.setIfInBounds_toArray, List.set_cons_zero, List.set_cons_succ]
      refine tkA (i := 9) (v := ?_) rfl (by kernel_rfl) (fun _ _ _ h => h) (Or.inl ⟨by rfl, ?_⟩) hHeld ?_
      rotate_left
      ·(intro w' hSw; (try dsimp only at hSw); go_simp; try with_reducible rfl)
      simp only [List.getElem_toArray, List.getElem_cons_zero, List.getElem_cons_succ, Act.put, List.setIfInBounds_toArray, List.set_cons_zero, List.set_cons_succ]
      refine tkA (i := 10) (v := ?_) rfl (by kernel_rfl) (fun _ _ _ h => h) (Or.inl ⟨by rfl, ?_⟩) hHeld ?_
      rotate_left
      ·(intro w' hSw; (try dsimp only at hSw); go_simp; try with_reducible rfl)
      simp only [List.getElem_toArray, List.getElem_cons_zero, List.getElem_cons_succ, Act.put, List.setIfInBounds_toArray, List.set_cons_zero, List.set_cons_succ]
      refine tkA (i := 11) (v := ?_) rfl (by kernel_rfl) (fun _ _ _ h => h) (Or.inl ⟨by rfl, ?_⟩) hHeld ?_
      rotate_left
      ·(intro w' hSw; (try dsimp only at hSw); go_simp; try with_reducible rfl)
      simp only [List.getElem_toArray, List.getElem_cons_zero, List.getElem_cons_succ, Act.put, List.setIfInBounds_toArray, List.set_cons_zero, List.set_cons_succ]
      refine tkA (i := 12) (v := ?_) rfl (by kernel_rfl) (fun _ _ _ h => h) (Or.inl ⟨by rfl, ?_⟩) hHeld ?_
      rotate_left
      ·(intro w' hSw; (try dsimp only at hSw); go_simp; try with_reducible rfl)
      simp only [List.getElem_toArray, List.getElem_cons_zero, List.getElem_cons_succ, Act.put, List.setIfInBounds_toArray, List.set_cons_zero, List.set_cons_succ]
      refine tkA (i := 13) (v := ?_) rfl (by kernel_rfl) (fun _ _ _ h => h) (Or.inl ⟨by rfl, ?_⟩) hHeld ?_
      rotate_left
      ·(intro w' hSw; (try dsimp only at hSw); go_simp; try with_reducible rfl)
      simp only [List.getElem_toArray, List.getElem_cons_zero, List.getElem_cons_succ, Act.put, List.setIfInBounds_toArray, List.set_cons_zero, List.set_cons_succ]
      refine tkA (i := 14) (v := ?_) rfl (by kernel_rfl) (fun _ _ _ h => h) (Or.inl ⟨by rfl, ?_⟩) hHeld ?_
      rotate_left
      ·(intro w' hSw; (try dsimp only at hSw); go_simp; try with_reducible rfl)
      simp only [List.getElem_toArray, List.getElem_cons_zero, List.getElem_cons_succ, Act.put, List.setIfInBounds_toArray, List.set_cons_zero, List.set_cons_succ]
      refine tkA (i := 15) (v := ?_) rfl (by kernel_rfl) (fun _ _ _ h => h) (Or.inl ⟨by rfl, ?_⟩) hHeld ?_
      rotate_left
      ·(intro w' hSw; (try dsimp only at hSw); go_simp; try with_reducible rfl)
      simp only [List.getElem_toArray, List.getElem_cons_zero, List.getElem_cons_succ, Act.put, List.setIfInBounds_toArray, List.set_cons_zero, List.set_cons_succ]
      refine tkA (i := 16) (v := ?_) rfl (by kernel_rfl) (fun _ _ _ h => h) (Or.inl ⟨by rfl, ?_⟩) hHeld ?_
      rotate_left
      ·(intro w' hSw; (try dsimp only at hSw); go_simp; try with_reducible rfl)
      simp only [List.getElem_toArray, List.getElem_cons_zero, List.getElem_cons_succ, Act.put, List.setIfInBounds_toArray, List.set_cons_zero, List.set_cons_succ]
      refine tkA (i := 17) (v := ?_) rfl (by kernel_rfl) (fun _ _ _ h => h) (Or.inl ⟨by rfl, ?_⟩) hHeld ?_
      rotate_left
      ·(intro w' hSw; (try dsimp only at hSw); go_simp; try with_reducible rfl)
      simp only [List.getElem_toArray, List.getElem_cons_zero, List.getElem_cons_succ, Act.put, List.setIfInBounds_toArray, List.set_cons_zero, List.set_cons_succ]
      refine tkA (i := 18) (v := ?_) rfl (by kernel_rfl) (fun _ _ _ h => h) (Or.inl ⟨by rfl, ?_⟩) hHeld ?_
      rotate_left
      ·(intro w' hSw; (try dsimp only at hSw); go_simp; try with_reducible rfl)
      simp only [List.getElem_toArray, List.getElem_cons_zero, List.getElem_cons_succ, Act.put, List.setIfInBounds_toArray, List.set_cons_zero, List.set_cons_succ]
      refine tkA (i := 19) (v := ?_) rfl (by kernel_rfl) (fun _ _ _ h => h) (Or.inl ⟨by rfl, ?_⟩) hHeld ?_
      rotate_left
      ·(intro w' hSw; (try dsimp only at hSw); go_simp; try with_reducible rfl)
      simp only [List.getElem_toArray, List.getElem_cons_zero, List.getElem_cons_succ, Act.put, List.setIfInBounds_toArray, List.set_cons_zero, List.set_cons_succ]
      refine tkA (i := 20) (v := ?_) rfl (by kernel_rfl) (fun _ _ _ h => h) (Or.inl ⟨by rfl, ?_⟩) hHeld ?_
      rotate_left
      ·(intro w' hSw; (try dsimp only at hSw); go_simp; try with_reducible rfl)
      simp only [List.getElem_toArray, List.getElem_cons_zero, List.getElem_cons_succ, Act.put, List.setIfInBounds_toArray, List.set_cons_zero, List.set_cons_succ]
      refine tkA (i := 21) (v := ?_) rfl (by kernel_rfl) (fun _ _ _ h => h) (Or.inl ⟨by rfl, ?_⟩) hHeld ?_
      rotate_left
      ·(intro w' hSw; (try dsimp only at hSw); go_simp; try with_reducible rfl)
      simp only [List.getElem_toArray, List.getElem_cons_zero, List.getElem_cons_succ, Act.put, List.setIfInBounds_toArray, List.set_cons_zero, List.set_cons_succ]
      refine wpAnyH_ready (rs := [22]) (by kernel_rfl) (by simp) ?_
      refine AllReadyH.cons rfl (fun K hK => ?_) AllReadyH.nil
      go_simp
      refine (KC.out _).mono ?_
      rintro e s2 ⟨rfl, hb⟩
      refine hK.out _ _ (KE.out _ (holdC hHeld hb)) (fun hHeld => ?_)
      clear hK K hb
      refine tkA (i := 23) (v := ?_) rfl (by kernel_rfl) (fun _ _ _ h => h) (Or.inl ⟨by rfl, ?_⟩) hHeld ?_
      rotate_left
      ·(intro w' hSw; (try dsimp only at hSw); go_simp; try with_reducible rfl)
      simp only [List.getElem_toArray, List.getElem_cons_zero, List.getElem_cons_succ, Act.put, List.setIfInBounds_toArray, List.set_cons_zero, List.set_cons_succ]
      refine tkA (i := 24) (v := ?_) rfl (by kernel_rfl) (fun _ _ _ h => h) (Or.inl ⟨by rfl, ?_⟩) hHeld ?_
      rotate_left
      ·(intro w' hSw; (try dsimp only at hSw); go_simp; try with_reducible rfl)
      simp only [List.getElem_toArray, List.getElem_cons_zero, List.getElem_cons_succ, Act.put, List.setIfInBounds_toArray, List.set_cons_zero, List.set_cons_succ]
      refine tkA (i := 25) (v := ?_) rfl (by kernel_rfl) (fun _ _ _ h => h) (Or.inl ⟨by rfl, ?_⟩) hHeld ?_
      rotate_left
      ·(intro w' hSw; (try dsimp only at hSw); go_simp; try with_reducible rfl)
      simp only [List.getElem_toArray, List.getElem_cons_zero, List.getElem_cons_succ, Act.put, List.setIfInBounds_toArray, List.set_cons_zero, List.set_cons_succ]
      refine wpAnyH_done (by kernel_rfl) ?_ _
      have GJ : Hid (Below w1.heap.size w1 s2) := Lib.hid (HB.out.trans (hHeld.1.mono HB.out.size))
      clear hHeld
      go_wp2_with fail
      go_roundw
      case rel => exact ⟨p + 1 + 1, by omega, by go_num, HX.out, GJ.out⟩
      case measure => simp [intOf]; omega
  ·obtain rfl : k = n := by omega
   obtain rfl : r = mk := HY.out HA.out
   have t1 := T1.out
   have GW : Hid (Below w.heap.size w wr) := Lib.hid (G1.out.trans (HB.out.mono G1.out.size))
   by_cases hk : x.kind = 0
   rotate_left
   ·have q1 : (x.kind != 0) = true := bne_iff_ne.2 hk
    obtain rfl := HM.out hk
    clear hk t1
    go_wp2_with fail
    refine (KM.out _).mono ?_
    rintro e w2 ⟨rfl, hb⟩
    have G2 := Lib.hid (GW.out.trans (hb.mono GW.out.size))
    clear hb e0 e1 e2 e3 e4 e5 e6
    go_wp2_with fail
    refine (KF.out _).mono ?_
    rintro e w3 ⟨rfl, hb⟩
    have G3 := Lib.hid (G2.out.trans (hb.mono G2.out.size))
    clear hb
    go_wp2_with fail
    go_ret
    exact ⟨rfl, G3.out⟩
   have q1 : (x.kind != 0) = false := by simp [hk]
   have HZ1 := Lib.hid (HZ.out hk)
   clear hk
   by_cases h0 : 0 < k
   rotate_left
   ·have h1 : ¬ (0 : Int) < (k : Int) := by omega
    obtain rfl : r = false := by rw [HZ1.out, decide_eq_false h0]; rfl
    clear h0 t1
    go_wp2_with fail
    go_ret
    exact ⟨rfl, GW.out⟩
   have h1 : (0 : Int) < (k : Int) := by omega
   replace HZ1 := Lib.hid (HZ1.out.trans (by rw [decide_eq_true h0, Bool.true_and]))
   clear h0
   by_cases he : x.elem.length = 0
   rotate_left
   ·rw [decide_eq_false he] at t1
    obtain rfl : r = false := by rw [HZ1.out, decide_eq_false he]; rfl
    clear he
    go_wp2_with fail
    go_ret
    exact ⟨rfl, GW.out⟩
   rw [decide_eq_true he] at t1
   replace HZ1 := Lib.hid (HZ1.out.trans (by rw [decide_eq_true he, Bool.true_and]))
   clear he
   by_cases hN : x.n = 0
   rotate_left
   ·have q2 : (x.n == 0) = false := by simp [hN]
    obtain rfl : r = false := by rw [HZ1.out, decide_eq_false hN]; rfl
    clear hN
    go_wp2_with fail
    go_ret
    exact ⟨rfl, GW.out⟩
   have q2 : (x.n == 0) = true := by simp [hN]
   replace HZ1 := Lib.hid (HZ1.out.trans (by rw [decide_eq_true hN, Bool.true_and]))
   clear hN
   cases hkb : keyB x.key with
   | false =>
    obtain rfl : r = false := by rw [HZ1.out, hkb]; rfl
    rw [hkb] at KK
    clear hkb
    go_wp2_with fail
    refine (KK.out _).mono ?_
    rintro e w2 ⟨rfl, rfl⟩
    go_wp2_with fail
    go_ret
    exact ⟨rfl, GW.out⟩
   | true =>
    replace HZ1 := Lib.hid (HZ1.out.trans (by rw [hkb, Bool.true_and]))
    rw [hkb] at KK
    clear hkb
    cases hpb : prefixB x.field with
    | false =>
     obtain rfl : r = false := by rw [HZ1.out, hpb]; rfl
     rw [hpb] at KP
     clear hpb
     go_wp2_with fail
     refine (KK.out _).mono ?_
     rintro e w2 ⟨rfl, rfl⟩
     go_wp2_with fail
     refine (KP.out _).mono ?_
     rintro e w2 ⟨rfl, rfl⟩
     go_wp2_with fail
     go_ret
     exact ⟨rfl, GW.out⟩
    | true =>
     obtain rfl : r = ry := by rw [HZ1.out, hpb]; rfl
     rw [hpb] at KP
     clear hpb
     go_wp2_with fail
     refine (KK.out _).mono ?_
     rintro e w2 ⟨rfl, rfl⟩
     go_wp2_with fail
     refine (KP.out _).mono ?_
     rintro e w2 ⟨rfl, rfl⟩
     go_wp2_with fail
     refine (KY.out _).mono ?_
     rintro e w2 ⟨rfl, hb⟩
     have G2 := Lib.hid (GW.out.trans (hb.mono GW.out.size))
     clear hb e0 e1 e2 e3 e4 e5 e6
     go_wp2_with fail
     go_ret
     exact ⟨rfl, G2.out⟩
end Go.Proofs.YtmknpmamkjjiaaaGreat
namespace Go.Proofs.YtmknpmamkjjiaaaGreat
open Go.RowKit Plain
set_option linter.unusedVariables false

def hit1 (node seq pos : Int) (d : PDot) : Bool := decide (d.node = node) && (decide (d.seq = seq) && decide (pos ≤ d.pos))
theorem past_all {node seq : Int} {x : PEff} (h : ∀ j, j < x.drops.length → hit1 node seq x.pos (x.drops.getD j default) = false) : pastB node seq x = true := by
 unfold pastB
 rw [List.all_eq_true]
 intro d hd
 obtain ⟨j, hj, rfl⟩ := List.getElem_of_mem hd
 have h1 := h j hj
 rw [show x.drops.getD j default = x.drops[j] by simp [List.getD, List.getElem?_eq_getElem hj]] at h1
 unfold hit1 at h1
 rw [h1]; rfl
theorem past_not {node seq : Int} {x : PEff} {j : Nat} (hj : j < x.drops.length) (h : hit1 node seq x.pos (x.drops.getD j default) = true) : pastB node seq x = false := by
 cases e : pastB node seq x with
 | false => rfl
 | true =>
  unfold pastB at e
  rw [List.all_eq_true] at e
  have h1 := e (x.drops.getD j default) (mem_def hj)
  unfold hit1 at h
  rw [h] at h1
  cases h1

set_option maxRecDepth 100000 in
set_option maxHeartbeats 16000000 in
/-- Right -/
theorem rrightE_any (node seq : Int) {v : Value} {l : List PEff} {w : World} (hv : SeqE LEff w v l) (hd : ∀ e ∈ l, e.drops.length ≤ 1000000) (hx : ∀ e ∈ l, e.key.length ≤ 9223372036854775807 ∧ e.field.length ≤ 9223372036854775807) :
  Calls Tryz.prog 34 #[.int .i64 node, .int .i64 seq, v] w (GivesB w (rightB node seq l)) := by
 have HI := Lib.hid (rightB_iff (node := node) (seq := seq) (l := l))
 have HDM := Lib.hid (fun k hk => hd _ (mem_defE (l := l) (k := k) hk))
 have HXM := Lib.hid (fun k hk => hx _ (mem_defE (l := l) (k := k) hk))
 obtain ⟨a, cap, rfl, g1, g2, g0, h⟩ := hv.parts
 have HS := Lib.hid h
 clear hv h g0 hd hx
 obtain ⟨n, hN⟩ : ∃ n, l.length = n := ⟨_, rfl⟩
 rw [hN] at g1 HS HI HDM HXM ⊢
 have LN := Lib.hid hN
 clear hN
 generalize rightB node seq l = r at *
 have HY : Hid ((∀ j, j < n → (0 < j → (l.getD (j - 1) default).pos < (l.getD j default).pos) ∧ eformedB node seq (l.getD j default) = true ∧ pastB node seq (l.getD j default) = true) → r = true) := Lib.hid (fun h => HI.out.2 h)
 have HN1 : Hid (∀ j, j < n → eformedB node seq (l.getD j default) = false → r = false) := Lib.hid (fun j hj h => by
  rw [Bool.eq_false_iff]
  intro e
  have := (HI.out.1 e j hj).2.1
  rw [h] at this
  cases this)
 have HN2 : Hid (∀ j, j < n → pastB node seq (l.getD j default) = false → r = false) := Lib.hid (fun j hj h => by
  rw [Bool.eq_false_iff]
  intro e
  have := (HI.out.1 e j hj).2.2
  rw [h] at this
  cases this)
 have HN3 : Hid (∀ j, j < n → 0 < j → ¬ (l.getD (j - 1) default).pos < (l.getD j default).pos → r = false) := Lib.hid (fun j hj hp h => by
  rw [Bool.eq_false_iff]
  intro e
  exact h ((HI.out.1 e j hj).1 hp))
 clear HI
 go_enter Tryz.func34, Tryz.ntmps34
 go_wp2_with fail
 go_loopw [7, 8, 9] (fun i _ _ wr => ∃ k : Nat, k ≤ n ∧ i = .int .i64 k ∧ (∀ j, j < k → (0 < j → (l.getD (j - 1) default).pos < (l.getD j default).pos) ∧ eformedB node seq (l.getD j default) = true ∧ pastB node seq (l.getD j default) = true) ∧ Below w.heap.size w wr) (fun i _ _ _ => n - (intOf i).toNat)
 case atStart => exact ⟨0, Nat.zero_le _, rfl, fun j hj => absurd hj (by omega), Below.refl _ _⟩
 case round =>
  obtain ⟨k, hk, rfl, hall, hb⟩ := hrel
  have HA := Lib.hid hall
  have HB := Lib.hid hb
  clear hall hb
  by_cases hlt : k < n
  ·obtain ⟨b, o, c, hv, -, -, -, hc⟩ := effs_spot HS.out (by rw [LN.out]; omega)
   rw [LN.out] at hv
   simp only [Value.slice.injEq] at hv
   obtain ⟨rfl, -, rfl⟩ := hv
   have HNF := Lib.hid (HN1.out k hlt)
   have HNP := Lib.hid (HN2.out k hlt)
   have HNR := Lib.hid (HN3.out k hlt)
   have HAK : Hid ((0 < k → (l.getD (k - 1) default).pos < (l.getD k default).pos) → eformedB node seq (l.getD k default) = true → pastB node seq (l.getD k default) = true → (∀ j, j < k + 1 → (0 < j → (l.getD (j - 1) default).pos < (l.getD j default).pos) ∧ eformedB node seq (l.getD j default) = true ∧ pastB node seq (l.getD j default) = true)) := Lib.hid (fun h1 h2 h3 j hj => by
    by_cases e : j = k
    ·rw [e]; exact ⟨h1, h2, h3⟩
    ·exact HA.out j (by omega))
   have hm0 := HDM.out k hlt
   have HXX := Lib.hid (HXM.out k hlt)
   obtain ⟨dv, EX0, hsd⟩ := hc k (by rw [LN.out]; exact hlt)
   obtain ⟨da, dc, rfl, gd1, gd2, -, hsd⟩ := hsd.parts
   have EA := Lib.hid EX0
   have SD := Lib.hid hsd
   have KF := Lib.hid (fun (W : World) (hW : Below w.heap.size w W) => rformedE_any node seq (l.getD k default) (hsd.below hW) HXX.out.1 HXX.out.2)
   clear EX0 hsd
   have HPA := Lib.hid (past_all (node := node) (seq := seq) (x := l.getD k default))
   have HPN := Lib.hid (fun j (hj : j < (l.getD k default).drops.length) h => past_not (node := node) (seq := seq) hj h)
   have YC : Hid (∀ p, k = p + 1 → ∃ y : PEff, l.getD p default = y ∧ ∀ W, Below w.heap.size w W → W.cell? ⟨b, o + p * 7, none⟩ = some (.int .i64 y.pos)) := Lib.hid (fun p hp => ⟨_, rfl, fun W hW => by
    obtain ⟨dv', EY, -⟩ := hc p (by rw [LN.out]; omega)
    exact (EY.below hW EY.lt).c0⟩)
   clear hc
   obtain ⟨x, hx⟩ : ∃ x, l.getD k default = x := ⟨_, rfl⟩
   have HLX := Lib.hid hx
   rw [hx] at HNF HNP HNR HAK hm0 EA SD KF HPA HPN gd1
   clear hx HXX
   obtain ⟨ds, hds⟩ : ∃ ds, x.drops = ds := ⟨_, rfl⟩
   rw [hds] at EA SD KF HPA HPN hm0 gd1
   clear hds
   obtain ⟨m, hM⟩ : ∃ m, ds.length = m := ⟨_, rfl⟩
   rw [hM] at EA SD KF HPA HPN hm0 gd1
   have LM := Lib.hid hM
   clear hM
   obtain ⟨c0, c1, c2, c3, c4, c5, c6⟩ := EA.out.below HB.out EA.out.lt
   have K := KF.out _ HB.out
   cases hf : eformedB node seq x with
   | false =>
    rw [hf] at K
    obtain rfl : r = false := HNF.out hf
    clear hf
    go_wp2_with fail
    refine K.mono ?_
    rintro e w2 ⟨rfl, hb⟩
    have G2 := Lib.hid (HB.out.trans (hb.mono HB.out.size))
    clear hb c0 c1 c2 c3 c4 c5 c6 K
    go_wp2_with fail
    go_ret
    exact ⟨rfl, G2.out⟩
   | true =>
    rw [hf] at K
    have HFX := Lib.hid hf
    clear hf
    go_wp2_with fail
    refine K.mono ?_
    rintro e w2 ⟨rfl, hb⟩
    have G2 := Lib.hid (HB.out.trans (hb.mono HB.out.size))
    clear hb c0 c1 c2 c3 c4 c5 c6 K
    by_cases h0 : k = 0
    ·subst h0
     have HX := Lib.hid (fun h => HAK.out (fun k => absurd k (by omega)) HFX.out h)
     clear HAK HNR YC
     go_wp2_with fail
     go_quiet (fail)
     have W4 := Lib.hid (below_drewN G2.out nq)
     generalize w2.drewN nq = w4 at *
     go_wp2_with fail
     go_loopw [8, 9] (fun i _ wr => ∃ q : Nat, q ≤ m ∧ i = .int .i64 q ∧ (∀ j, j < q → hit1 node seq x.pos (ds.getD j default) = false) ∧ Below w.heap.size w wr) (fun i _ _ => m - (intOf i).toNat)
     case atStart => exact ⟨0, Nat.zero_le _, rfl, fun j hj => absurd hj (by omega), W4.out⟩
     case round =>
      obtain ⟨q, hq, rfl, hall, hb⟩ := hrel
      have HQA := Lib.hid hall
      have HQB := Lib.hid hb
      clear hall hb
      obtain ⟨c0, c1, c2, c3, c4, c5, c6⟩ := EA.out.below HQB.out EA.out.lt
      simp only [Nat.zero_mul, Nat.add_zero] at c0 c1 c2 c3 c4 c5 c6
      by_cases hqm : q < m
      ·obtain ⟨b2, o2, c2', hv, -, -, -, hc⟩ := dots_spot SD.out (by rw [LM.out]; omega)
       rw [LM.out] at hv
       simp only [Value.slice.injEq] at hv
       obtain ⟨rfl, -, rfl⟩ := hv
       have DA := Lib.hid (hc q (by rw [LM.out]; exact hqm))
       clear hc
       have HNQ := Lib.hid (fun h => HNP.out (HPN.out q hqm h))
       have HXQ : Hid (hit1 node seq x.pos (ds.getD q default) = false → ∀ j, j < q + 1 → hit1 node seq x.pos (ds.getD j default) = false) := Lib.hid (fun h j hj => by
        by_cases e : j = q
        ·rw [e]; exact h
        ·exact HQA.out j (by omega))
       generalize ds.getD q default = d at *
       obtain ⟨d0, d1, d2⟩ := DA.out.below HQB.out DA.out.lt
       have B1 := (Below.refl wr.heap.size wr).alloc (Nat.le_refl _) (.cells #[.int .i64 d.node, .int .i64 d.seq, .int .i64 d.pos] 54)
       have HB2 : Hid (Below w.heap.size w (wr.alloc (.cells #[.int .i64 d.node, .int .i64 d.seq, .int .i64 d.pos] 54))) := Lib.hid (HQB.out.trans (B1.mono HQB.out.size))
       have DB : Hid (DotAt (wr.alloc (.cells #[.int .i64 d.node, .int .i64 d.seq, .int .i64 d.pos] 54)) wr.heap.size 0 d) := Lib.hid ⟨by simp, by simp, by simp⟩
       clear B1
       go_upto_region 12 with fail
       clear c0 c1 c2 c3 c4 c5 c6 d0 d1 d2
       generalize (wr.alloc (.cells #[.int .i64 d.node, .int .i64 d.seq, .int .i64 d.pos] 54)) = wb at *
       obtain ⟨d0, d1, d2⟩ := DB.out
       simp only [Nat.zero_add] at d1 d2
       obtain ⟨c0, c1, c2, c3, c4, c5, c6⟩ := EA.out.below HB2.out EA.out.lt
       simp only [Nat.zero_mul, Nat.add_zero] at c0 c1 c2 c3 c4 c5 c6
       clear c1 c2 c3 c4 c5 c6
       have HE : Hid (hit1 node seq x.pos d = (decide (d.node = node) && (decide (d.seq = seq) && decide (x.pos ≤ d.pos)))) := Lib.hid rfl
       generalize hit1 node seq x.pos d = hr at *
       by_cases h1 : d.node = node
       rotate_left
       ·have e1 : (d.node == node) = false := by simp [h1]
        have f1 := decide_eq_false h1
        have HU := Lib.hid (HXQ.out (HE.out.trans (by rw [f1]; rfl)))
        clear HE HXQ HNQ h1
        go_wp2_with fail
        go_quiet (fail)
        go_wp2_with fail
        go_roundw
        case rel => exact ⟨q + 1, by omega, by go_num, HU.out, below_drewN HB2.out _⟩
        case measure => simp [intOf]; omega
       have e1 : (d.node == node) = true := by simp [h1]
       have f1 := decide_eq_true h1
       by_cases h2 : d.seq = seq
       rotate_left
       ·have e2 : (d.seq == seq) = false := by simp [h2]
        have f2 := decide_eq_false h2
        clear h2
        have HU := Lib.hid (HXQ.out (HE.out.trans (by rw [f1, f2]; rfl)))
        clear HE HXQ HNQ h1
        go_wp2_with fail
        go_quiet (fail)
        go_wp2_with fail
        go_roundw
        case rel => exact ⟨q + 1, by omega, by go_num, HU.out, below_drewN HB2.out _⟩
        case measure => simp [intOf]; omega
       have e2 : (d.seq == seq) = true := by simp [h2]
       have f2 := decide_eq_true h2
       clear h2
       by_cases h3 : x.pos ≤ d.pos
       rotate_left
       ·have f3 := decide_eq_false h3
        clear h3
        have HU := Lib.hid (HXQ.out (HE.out.trans (by rw [f1, f2, f3]; rfl)))
        clear HE HXQ HNQ h1
        go_wp2_with fail
        go_quiet (fail)
        go_wp2_with fail
        go_roundw
        case rel => exact ⟨q + 1, by omega, by go_num, HU.out, below_drewN HB2.out _⟩
        case measure => simp [intOf]; omega
       have f3 := decide_eq_true h3
       clear h3
       obtain rfl : r = false := HNQ.out (HE.out.trans (by rw [f1, f2, f3]; rfl))
       clear HE HXQ HNQ h1
       go_wp2_with fail
       go_quiet (fail)
       go_wp2_with fail
       go_ret
       exact ⟨rfl, below_drewN HB2.out _⟩
      ·obtain rfl : q = m := by omega
       have HU := Lib.hid (HX.out (HPA.out HQA.out))
       go_wp2_with fail
       go_roundw
       case rel => exact ⟨0 + 1, by omega, by go_num, HU.out, HQB.out⟩
       case measure => simp [intOf]; omega
    ·obtain ⟨p, rfl⟩ : ∃ p, k = p + 1 := ⟨k - 1, by omega⟩
     obtain ⟨y, hy, hyc⟩ := YC.out p rfl
     replace HNR : Hid (¬ y.pos < x.pos → r = false) := Lib.hid (fun h => HNR.out (by omega) (by rw [Nat.add_sub_cancel, hy]; omega))
     replace HAK : Hid (y.pos < x.pos → pastB node seq x = true → (∀ j, j < p + 1 + 1 → (0 < j → (l.getD (j - 1) default).pos < (l.getD j default).pos) ∧ eformedB node seq (l.getD j default) = true ∧ pastB node seq (l.getD j default) = true)) := Lib.hid (fun h g => HAK.out (fun _ => by rw [Nat.add_sub_cancel, hy]; exact h) HFX.out g)
     have y0 := hyc w2 G2.out
     clear hy hyc YC
     have q1 : (0 : Int) < (p : Int) + 1 := by omega
     have q5 : (0 : Int) ≤ (p : Int) + 1 := by omega
     have q6 : ((p : Int) + 1).toNat = p + 1 := by omega
     have q7 : (p : Int) + 1 < (n : Int) := by omega
     have q3 : (p : Int) < (n : Int) := by omega
     have q2 : IntKind.i64.wrap ((p : Int) + 1 - 1) = (p : Int) := by rw [show (p : Int) + 1 - 1 = p by omega]; exact IntWalk.i64_in _ (by omega)
     have q4 : IntKind.i64.wrap (p : Int) = (p : Int) := IntWalk.i64_in _ (by omega)
     obtain ⟨c0, c1, c2, c3, c4, c5, c6⟩ := EA.out.below G2.out EA.out.lt
     clear c1 c2 c3 c4 c5 c6
     by_cases hle : x.pos ≤ y.pos
     ·have f0 := decide_eq_true hle
      obtain rfl : r = false := HNR.out (by omega)
      clear hle
      go_wp2_with fail
      go_quiet (fail)
      go_wp2_with fail
      go_ret
      exact ⟨rfl, below_drewN G2.out _⟩
     have f0 := decide_eq_false hle
     have HX := Lib.hid (fun h => HAK.out (by omega) h)
     clear hle HAK HNR
     go_wp2_with fail
     go_quiet (fail)
     clear c0 y0 f0 q1 q2 q3 q4 q5 q6 q7
     have W4 := Lib.hid (below_drewN G2.out nq)
     generalize w2.drewN nq = w4 at *
     go_wp2_with fail
     go_loopw [8, 9] (fun i _ wr => ∃ q : Nat, q ≤ m ∧ i = .int .i64 q ∧ (∀ j, j < q → hit1 node seq x.pos (ds.getD j default) = false) ∧ Below w.heap.size w wr) (fun i _ _ => m - (intOf i).toNat)
     case atStart => exact ⟨0, Nat.zero_le _, rfl, fun j hj => absurd hj (by omega), W4.out⟩
     case round =>
      obtain ⟨q, hq, rfl, hall, hb⟩ := hrel
      have HQA := Lib.hid hall
      have HQB := Lib.hid hb
      clear hall hb
      obtain ⟨c0, c1, c2, c3, c4, c5, c6⟩ := EA.out.below HQB.out EA.out.lt
      by_cases hqm : q < m
      ·obtain ⟨b2, o2, c2', hv, -, -, -, hc⟩ := dots_spot SD.out (by rw [LM.out]; omega)
       rw [LM.out] at hv
       simp only [Value.slice.injEq] at hv
       obtain ⟨rfl, -, rfl⟩ := hv
       have DA := Lib.hid (hc q (by rw [LM.out]; exact hqm))
       clear hc
       have HNQ := Lib.hid (fun h => HNP.out (HPN.out q hqm h))
       have HXQ : Hid (hit1 node seq x.pos (ds.getD q default) = false → ∀ j, j < q + 1 → hit1 node seq x.pos (ds.getD j default) = false) := Lib.hid (fun h j hj => by
        by_cases e : j = q
        ·rw [e]; exact h
        ·exact HQA.out j (by omega))
       generalize ds.getD q default = d at *
       obtain ⟨d0, d1, d2⟩ := DA.out.below HQB.out DA.out.lt
       have B1 := (Below.refl wr.heap.size wr).alloc (Nat.le_refl _) (.cells #[.int .i64 d.node, .int .i64 d.seq, .int .i64 d.pos] 54)
       have HB2 : Hid (Below w.heap.size w (wr.alloc (.cells #[.int .i64 d.node, .int .i64 d.seq, .int .i64 d.pos] 54))) := Lib.hid (HQB.out.trans (B1.mono HQB.out.size))
       have DB : Hid (DotAt (wr.alloc (.cells #[.int .i64 d.node, .int .i64 d.seq, .int .i64 d.pos] 54)) wr.heap.size 0 d) := Lib.hid ⟨by simp, by simp, by simp⟩
       clear B1
       go_upto_region 12 with fail
       clear c0 c1 c2 c3 c4 c5 c6 d0 d1 d2
       generalize (wr.alloc (.cells #[.int .i64 d.node, .int .i64 d.seq, .int .i64 d.pos] 54)) = wb at *
       obtain ⟨d0, d1, d2⟩ := DB.out
       simp only [Nat.zero_add] at d1 d2
       obtain ⟨c0, c1, c2, c3, c4, c5, c6⟩ := EA.out.below HB2.out EA.out.lt
       clear c1 c2 c3 c4 c5 c6
       have HE : Hid (hit1 node seq x.pos d = (decide (d.node = node) && (decide (d.seq = seq) && decide (x.pos ≤ d.pos)))) := Lib.hid rfl
       generalize hit1 node seq x.pos d = hr at *
       by_cases h1 : d.node = node
       rotate_left
       ·have e1 : (d.node == node) = false := by simp [h1]
        have f1 := decide_eq_false h1
        have HU := Lib.hid (HXQ.out (HE.out.trans (by rw [f1]; rfl)))
        clear HE HXQ HNQ h1
        go_wp2_with fail
        go_quiet (fail)
        go_wp2_with fail
        go_roundw
        case rel => exact ⟨q + 1, by omega, by go_num, HU.out, below_drewN HB2.out _⟩
        case measure => simp [intOf]; omega
       have e1 : (d.node == node) = true := by simp [h1]
       have f1 := decide_eq_true h1
       by_cases h2 : d.seq = seq
       rotate_left
       ·have e2 : (d.seq == seq) = false := by simp [h2]
        have f2 := decide_eq_false h2
        clear h2
        have HU := Lib.hid (HXQ.out (HE.out.trans (by rw [f1, f2]; rfl)))
        clear HE HXQ HNQ h1
        go_wp2_with fail
        go_quiet (fail)
        go_wp2_with fail
        go_roundw
        case rel => exact ⟨q + 1, by omega, by go_num, HU.out, below_drewN HB2.out _⟩
        case measure => simp [intOf]; omega
       have e2 : (d.seq == seq) = true := by simp [h2]
       have f2 := decide_eq_true h2
       clear h2
       by_cases h3 : x.pos ≤ d.pos
       rotate_left
       ·have f3 := decide_eq_false h3
        clear h3
        have HU := Lib.hid (HXQ.out (HE.out.trans (by rw [f1, f2, f3]; rfl)))
        clear HE HXQ HNQ h1
        go_wp2_with fail
        go_quiet (fail)
        go_wp2_with fail
        go_roundw
        case rel => exact ⟨q + 1, by omega, by go_num, HU.out, below_drewN HB2.out _⟩
        case measure => simp [intOf]; omega
       have f3 := decide_eq_true h3
       clear h3
       obtain rfl : r = false := HNQ.out (HE.out.trans (by rw [f1, f2, f3]; rfl))
       clear HE HXQ HNQ h1
       go_wp2_with fail
       go_quiet (fail)
       go_wp2_with fail
       go_ret
       exact ⟨rfl, below_drewN HB2.out _⟩
      ·obtain rfl : q = m := by omega
       have HU := Lib.hid (HX.out (HPA.out HQA.out))
       go_wp2_with fail
       go_roundw
       case rel => exact ⟨p + 1 + 1, by omega, by go_num, HU.out, HQB.out⟩
       case measure => simp [intOf]; omega
  ·obtain rfl : k = n := by omega
   obtain rfl : r = true := HY.out HA.out
   go_wp2_with fail
   go_ret
   exact ⟨rfl, HB.out⟩
end Go.Proofs.YtmknpmamkjjiaaaGreat
