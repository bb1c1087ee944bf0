/- What the document's own Norm of items leaves. (Written by gen-refnorm.py.) -/
import Derived.Test.YtfapkepfngddlaaGreatRefIs
import Derived.Deep.RegionHeld3
set_option maxRecDepth 100000
set_option maxHeartbeats 64000000
namespace Go.Proofs.YtfapkepfngddlaaGreat
open Go.RowKit Plain
set_option linter.unusedVariables false
def badB (xs : List PItem) (k j : Nat) : Bool := decide ((xs.getD j default).dot = (xs.getD k default).dot) && (lessB (xs.getD j default) (xs.getD k default) || (decide (xs.getD j default = xs.getD k default) && decide (j < k)))
def fstTo (xs : List PItem) (k m : Nat) : Bool := (List.range m).all fun j => !badB xs k j
theorem fstTo_zero (xs : List PItem) (k : Nat) : fstTo xs k 0 = true := rfl
theorem fstTo_next (xs : List PItem) (k m : Nat) : fstTo xs k (m + 1) = (fstTo xs k m && !badB xs k m) := by
 unfold fstTo;rw [List.range_succ, List.all_append];simp
theorem fst_true {xs : List PItem} {k : Nat} (hk : k < xs.length) (h : fstTo xs k xs.length = true) : firstOf xs (xs.getD k default) = true ∧ xs.getD k default ∉ xs.take k := by
 unfold fstTo at h;rw [List.all_eq_true] at h;refine ⟨firstOf_iff.2 fun y hy e hl => ?_, fun hm => ?_⟩
 ·obtain ⟨j, hj, rfl⟩ := List.getElem_of_mem hy
  have := h j (List.mem_range.2 hj);rw [show xs[j] = xs.getD j default by simp [List.getD, List.getElem?_eq_getElem hj]] at e hl;unfold badB lessB at this;rw [decide_eq_true e, decide_eq_true hl] at this;simp at this
 ·obtain ⟨j, hj, e⟩ := List.getElem_of_mem hm
  rw [List.length_take] at hj;rw [List.getElem_take] at e;have := h j (List.mem_range.2 (by omega));rw [show xs[j] = xs.getD j default by simp [List.getD, List.getElem?_eq_getElem (show j < xs.length by omega)]] at e;unfold badB at this;rw [e, decide_eq_true rfl, decide_eq_true rfl, decide_eq_true (show j < k by omega)] at this;simp at this
theorem fst_false {xs : List PItem} {k : Nat} (hk : k < xs.length) (h : fstTo xs k xs.length = false) : firstOf xs (xs.getD k default) = false ∨ xs.getD k default ∈ xs.take k := by
 rcases Classical.em (xs.getD k default ∈ xs.take k) with g | g
 ·exact .inr g
 ·refine .inl ?_
  rw [Bool.eq_false_iff];intro hf;rw [firstOf_iff] at hf;have : fstTo xs k xs.length = true := by
   unfold fstTo;rw [List.all_eq_true];intro j hj;have hj' := List.mem_range.1 hj;unfold badB lessB
   by_cases e : (xs.getD j default).dot = (xs.getD k default).dot
   ·have h1 := hf _ (mem_def hj') e
    rw [decide_eq_false h1]
    by_cases e2 : xs.getD j default = xs.getD k default
    ·by_cases e3 : j < k
     ·exfalso
      apply g
      rw [← e2, show xs.getD j default = (xs.take k)[j]'(by rw [List.length_take]; omega) by rw [List.getElem_take]; simp [List.getD, List.getElem?_eq_getElem hj']];exact List.getElem_mem _
     ·rw [decide_eq_false e3]; simp
    ·rw [decide_eq_false e2]; simp
   ·rw [decide_eq_false e]; rfl
  rw [this] at h;exact absurd h (by decide)
def upTo (xs : List PItem) (k : Nat) : List PItem := onceR iless ((xs.take k).filter (firstOf xs))
theorem upTo_all (xs : List PItem) : upTo xs xs.length = inorm xs := by unfold upTo; rw [List.take_length]; rfl
theorem upTo_len (xs : List PItem) (k : Nat) : (upTo xs k).length ≤ k := by
 unfold upTo;have := onceR_len (r := iless) ((xs.take k).filter (firstOf xs));have := List.length_filter_le (firstOf xs) (xs.take k);rw [List.length_take] at this;omega
theorem upTo_ris (xs : List PItem) (k : Nat) : Ris iless (upTo xs k) := ris_onceR sto_item _
theorem upTo_mem {xs : List PItem} {k : Nat} {x : PItem} (h : x ∈ upTo xs k) : x ∈ xs.take k := (List.mem_filter.1 ((mem_onceR x _).1 h)).1
theorem upTo_yes {xs : List PItem} {k : Nat} (hk : k < xs.length) (h : fstTo xs k xs.length = true) : upTo xs (k + 1) = insR iless (xs.getD k default) (upTo xs k) := by
 obtain ⟨h1, -⟩ := fst_true hk h;refine ris_ext sto_item (upTo_ris xs _) (ris_insR sto_item _ (upTo_ris xs k)) fun t => ?_
 unfold upTo;rw [mem_insR, mem_onceR, mem_onceR, takeG hk, List.filter_append, List.mem_append];simp only [List.filter_cons, h1, if_true, List.filter_nil, List.mem_singleton]
 exact Or.comm
theorem upTo_no {xs : List PItem} {k : Nat} (hk : k < xs.length) (h : fstTo xs k xs.length = false) : upTo xs (k + 1) = upTo xs k := by
 unfold upTo;rw [takeG hk, List.filter_append]
 rcases fst_false hk h with g | g
 ·rw [List.filter_cons, if_neg (by rw [g]; decide), List.filter_nil, List.append_nil]
 ·refine onceR_ext sto_item fun t => ?_
  rw [List.mem_append];refine ⟨fun e => e.elim id fun e => ?_, .inl⟩;obtain ⟨e1, e2⟩ := List.mem_filter.1 e;rw [List.mem_singleton.1 e1] at e2 ⊢;exact List.mem_filter.2 ⟨g, e2⟩
theorem rnormI_any {u : Value} {xs : List PItem} {w : World} (hu : SeqE LItem w u xs) (hn : xs.length ≤ 1000000) :
  Calls Tryz.prog 37 #[u] w (MadeE LItem w (inorm xs)) := by
 rw [← upTo_all];obtain ⟨a, cap, rfl, g1, g2, g0, h⟩ := hu.parts;have HS := zH h;have UL := zH (upTo_len xs);have UR := zH (upTo_ris xs);have UM := zH (fun k x h => upTo_mem (xs := xs) (k := k) (x := x) h);have UY := zH (fun k hk h => upTo_yes (xs := xs) (k := k) hk h);have UN := zH (fun k hk h => upTo_no (xs := xs) (k := k) hk h);have FT := zH (fun k hk h => fst_true (xs := xs) (k := k) hk h);have FN := zH (fstTo_next xs);have F0 := zH (fstTo_zero xs);have KL0 := zH (fun (W : World) (y x : PItem) => rless_any y x W);have KP := zH (fun (W : World) (v : Value) (ys : List PItem) (h : SeqE LItem W v ys) (hl : ys.length ≤ 1000000) (x : PItem) hr hx => rput_any h hl x hr hx);have U0 : Hid (upTo xs 0 = []) := zH rfl;obtain ⟨n, hN⟩ : ∃ n, xs.length = n := ⟨_, rfl⟩;rw [hN] at HS UY UN FT g1 hn ⊢;have LN := zH hN;clear hu h g0 hN;generalize upTo xs = U at *;go_enter Tryz.func37, Tryz.ntmps37
 go_wp2_with fail
 go_loopw [3, 4, 5, 6] (fun v i _ _ wr => ∃ k : Nat, k ≤ n ∧ i = .int .i64 k ∧ OwnE LItem w.heap.size wr v (U k) ∧ Below w.heap.size w wr) (fun _ i _ _ _ => n - (intOf i).toNat)
 case atStart => exact ⟨0, Nat.zero_le _, rfl, by rw [U0.out]; exact OwnE.nil _ _, Below.refl _ _⟩
 case round =>
  obtain ⟨k, hk, rfl, ho, hb⟩ := hrel;have HB0 := zH hb;have hul := UL.out k;obtain ⟨M, hM⟩ : ∃ M, (U k).length = M := ⟨_, rfl⟩;obtain ⟨av, cv, rfl, v1, v2, ho2⟩ := ho.at M hM;have HO0 := zH ho2;have HM := zH hM;rw [hM] at hul;clear ho ho2 hb hM
  rename World => wo
  by_cases hlt : k < n
  ·have HK : Hid (k < xs.length) := zH (by rw [LN.out]; exact hlt)
   have FNK := zH (FN.out k);have F0K := zH (F0.out k);have UYK := zH (UY.out k hlt);have UNK := zH (UN.out k hlt);have FTK := zH (FT.out k hlt);go_wp2_with fail
   go_loopw [5, 6] (fun f i wr => ∃ j : Nat, j ≤ n ∧ i = .int .i64 j ∧ f = .bool (fstTo xs k j) ∧ Below w.heap.size w wr ∧ OwnE LItem w.heap.size wr (.slice av M cv) (U k)) (fun _ i _ => n - (intOf i).toNat)
   case atStart => exact ⟨0, Nat.zero_le _, rfl, by rw [F0K.out], HB0.out, HO0.out⟩
   case round =>
    obtain ⟨j, hj, rfl, rfl, hb, ho⟩ := hrel;have HB := zH hb;have HO := zH ho;clear hb ho
    by_cases hjl : j < n
    ·obtain ⟨b, o, c, hv, -, -, -, hc⟩ := items_spot (HS.out.below HB.out) (by rw [LN.out]; omega)
     rw [LN.out] at hv;simp only [Value.slice.injEq] at hv
     obtain ⟨rfl, -, rfl⟩ := hv;have IY := zH (hc j (by rw [LN.out]; exact hjl));have IX := zH (hc k HK.out);have FNJ := zH (FNK.out j);have BD : Hid (badB xs k j = (decide ((xs.getD j default).dot = (xs.getD k default).dot) && (lessB (xs.getD j default) (xs.getD k default) || (decide (xs.getD j default = xs.getD k default) && decide (j < k))))) := zH rfl;clear hc;generalize xs.getD j default = y at *;generalize xs.getD k default = x at *;have KE : Hid (∀ u, Below wr.heap.size wr u → Below wr.heap.size wr u ∧ (u.cell? ⟨b, o + j * 8, none⟩ = some (.string (bt y.key)) ∧ u.cell? ⟨b, o + j * 8 + 1, none⟩ = some (.string (bt y.field)) ∧ u.cell? ⟨b, o + j * 8 + 2, none⟩ = some (.int .i64 y.kind) ∧ u.cell? ⟨b, o + j * 8 + 3, none⟩ = some (.string (bt y.elem)) ∧ u.cell? ⟨b, o + j * 8 + 4, none⟩ = some (.int .i64 y.n) ∧ u.cell? ⟨b, o + j * 8 + 5, none⟩ = some (.int .i64 y.dot.node) ∧ u.cell? ⟨b, o + j * 8 + 6, none⟩ = some (.int .i64 y.dot.seq) ∧ u.cell? ⟨b, o + j * 8 + 7, none⟩ = some (.int .i64 y.dot.pos)) ∧ (u.cell? ⟨b, o + k * 8, none⟩ = some (.string (bt x.key)) ∧ u.cell? ⟨b, o + k * 8 + 1, none⟩ = some (.string (bt x.field)) ∧ u.cell? ⟨b, o + k * 8 + 2, none⟩ = some (.int .i64 x.kind) ∧ u.cell? ⟨b, o + k * 8 + 3, none⟩ = some (.string (bt x.elem)) ∧ u.cell? ⟨b, o + k * 8 + 4, none⟩ = some (.int .i64 x.n) ∧ u.cell? ⟨b, o + k * 8 + 5, none⟩ = some (.int .i64 x.dot.node) ∧ u.cell? ⟨b, o + k * 8 + 6, none⟩ = some (.int .i64 x.dot.seq) ∧ u.cell? ⟨b, o + k * 8 + 7, none⟩ = some (.int .i64 x.dot.pos))) := zH (fun u hu => ⟨hu, by
      obtain ⟨c0, c1, c2, c3, c4, c5, c6, c7⟩ := IY.out.below hu IY.out.lt;obtain ⟨d0, d1, d2, d3, d4, d5, d6, d7⟩ := IX.out.below hu IX.out.lt;exact ⟨⟨c0, c1, c2, c3, c4, c5, c6, c7⟩, ⟨d0, d1, d2, d3, d4, d5, d6, d7⟩⟩⟩)
     generalize fstTo xs k j = f at *;generalize badB xs k j = bd at *;have hq := eql_dot y.dot x.dot
     by_cases he : y.dot = x.dot
     ·rw [decide_eq_true he] at hq BD
      clear he;have KL := zH (fun W => KL0.out W y x)
      cases hl : lessB y x with
      | true =>
       rw [hl] at KL BD;have HN : Hid (fstTo xs k (j + 1) = false) := zH (by rw [FNJ.out, BD.out]; simp);clear hl;go_wp2_with fail
       refine wp_region_held_drew (S := fun u' => Below wr.heap.size wr u' ∧ (u'.cell? ⟨b, o + j * 8, none⟩ = some (.string (bt y.key)) ∧ u'.cell? ⟨b, o + j * 8 + 1, none⟩ = some (.string (bt y.field)) ∧ u'.cell? ⟨b, o + j * 8 + 2, none⟩ = some (.int .i64 y.kind) ∧ u'.cell? ⟨b, o + j * 8 + 3, none⟩ = some (.string (bt y.elem)) ∧ u'.cell? ⟨b, o + j * 8 + 4, none⟩ = some (.int .i64 y.n) ∧ u'.cell? ⟨b, o + j * 8 + 5, none⟩ = some (.int .i64 y.dot.node) ∧ u'.cell? ⟨b, o + j * 8 + 6, none⟩ = some (.int .i64 y.dot.seq) ∧ u'.cell? ⟨b, o + j * 8 + 7, none⟩ = some (.int .i64 y.dot.pos)) ∧ (u'.cell? ⟨b, o + k * 8, none⟩ = some (.string (bt x.key)) ∧ u'.cell? ⟨b, o + k * 8 + 1, none⟩ = some (.string (bt x.field)) ∧ u'.cell? ⟨b, o + k * 8 + 2, none⟩ = some (.int .i64 x.kind) ∧ u'.cell? ⟨b, o + k * 8 + 3, none⟩ = some (.string (bt x.elem)) ∧ u'.cell? ⟨b, o + k * 8 + 4, none⟩ = some (.int .i64 x.n) ∧ u'.cell? ⟨b, o + k * 8 + 5, none⟩ = some (.int .i64 x.dot.node) ∧ u'.cell? ⟨b, o + k * 8 + 6, none⟩ = some (.int .i64 x.dot.seq) ∧ u'.cell? ⟨b, o + k * 8 + 7, none⟩ = some (.int .i64 x.dot.pos))) (by kernel_rfl) ?_ (fun hHeld => ?_)
       ·(exact KE.out _ (Below.refl _ _).drew)
       simp only [zS, Nat.zero_add, Nat.reduceAdd]
       refine tkB 0 hHeld ?_;refine tkB 1 hHeld ?_;refine tkB 2 hHeld ?_;refine tkB 3 hHeld ?_;refine tkB 4 hHeld ?_;refine tkB 5 hHeld ?_;refine tkB 6 hHeld ?_;refine tkB 7 hHeld ?_;refine tkB 8 hHeld ?_;refine tkB 9 hHeld ?_;refine tkB 10 hHeld ?_;refine tkB 11 hHeld ?_;refine tkB 12 hHeld ?_;refine tkB 13 hHeld ?_;refine tkB 14 hHeld ?_;refine tkB 15 hHeld ?_;refine tkB 16 hHeld ?_;refine tkB 17 hHeld ?_;refine tkB 18 hHeld ?_;refine tkB 19 hHeld ?_;refine rd 20 fun K hK => ?_
       go_simp
       refine (KL.out _).mono ?_;rintro e s1 ⟨rfl, hb⟩;refine hK.out _ _ (KE.out _ (holdC hHeld hb)) (fun hHeld => ?_);clear hK K hb;refine tkB 21 hHeld ?_;refine tkS 22 hHeld ?_;refine tkS 23 hHeld ?_;refine tkS 24 hHeld ?_;refine tkS 25 hHeld ?_;refine tkS 26 hHeld ?_;refine tkS 27 hHeld ?_;refine tkS 28 hHeld ?_;refine tkS 29 hHeld ?_;refine tkS 30 hHeld ?_;refine tkS 31 hHeld ?_;refine tkS 32 hHeld ?_;refine tkS 33 hHeld ?_;refine tkS 34 hHeld ?_;refine tkS 35 hHeld ?_;refine tkB 36 hHeld ?_;refine tkB 37 hHeld ?_;refine wpAnyH_done (by kernel_rfl) ?_ _;have GJ : Hid (Below w.heap.size w s1) := zH (HB.out.trans (hHeld.1.mono HB.out.size));have OJ := zH (HO.out.below hHeld.1 (Nat.le_refl _));clear hHeld;go_wp2_with fail
       go_roundw
       case rel => exact ⟨j + 1, by omega, by go_num, by rw [HN.out], GJ.out, OJ.out⟩
       case measure => simp [intOf]; omega
      | false =>
       rw [hl] at KL BD;clear hl;have hq2 := eql_item y x
       by_cases hx : y = x
       ·rw [decide_eq_true hx] at hq2 BD
        clear hx;have HN : Hid (fstTo xs k (j + 1) = (f && !decide (j < k))) := zH (by rw [FNJ.out, BD.out]; simp)
        by_cases hjk : j < k
        ·have hjz : (j : Int) < (k : Int) := by omega
         rw [decide_eq_true hjk] at HN;clear hjk;replace HN : Hid (fstTo xs k (j + 1) = false) := zH (by rw [HN.out]; simp);go_wp2_with fail
         refine wp_region_held_drew (S := fun u' => Below wr.heap.size wr u' ∧ (u'.cell? ⟨b, o + j * 8, none⟩ = some (.string (bt y.key)) ∧ u'.cell? ⟨b, o + j * 8 + 1, none⟩ = some (.string (bt y.field)) ∧ u'.cell? ⟨b, o + j * 8 + 2, none⟩ = some (.int .i64 y.kind) ∧ u'.cell? ⟨b, o + j * 8 + 3, none⟩ = some (.string (bt y.elem)) ∧ u'.cell? ⟨b, o + j * 8 + 4, none⟩ = some (.int .i64 y.n) ∧ u'.cell? ⟨b, o + j * 8 + 5, none⟩ = some (.int .i64 y.dot.node) ∧ u'.cell? ⟨b, o + j * 8 + 6, none⟩ = some (.int .i64 y.dot.seq) ∧ u'.cell? ⟨b, o + j * 8 + 7, none⟩ = some (.int .i64 y.dot.pos)) ∧ (u'.cell? ⟨b, o + k * 8, none⟩ = some (.string (bt x.key)) ∧ u'.cell? ⟨b, o + k * 8 + 1, none⟩ = some (.string (bt x.field)) ∧ u'.cell? ⟨b, o + k * 8 + 2, none⟩ = some (.int .i64 x.kind) ∧ u'.cell? ⟨b, o + k * 8 + 3, none⟩ = some (.string (bt x.elem)) ∧ u'.cell? ⟨b, o + k * 8 + 4, none⟩ = some (.int .i64 x.n) ∧ u'.cell? ⟨b, o + k * 8 + 5, none⟩ = some (.int .i64 x.dot.node) ∧ u'.cell? ⟨b, o + k * 8 + 6, none⟩ = some (.int .i64 x.dot.seq) ∧ u'.cell? ⟨b, o + k * 8 + 7, none⟩ = some (.int .i64 x.dot.pos))) (by kernel_rfl) ?_ (fun hHeld => ?_)
         ·(exact KE.out _ (Below.refl _ _).drew)
         simp only [zS, Nat.zero_add, Nat.reduceAdd]
         refine tkB 0 hHeld ?_;refine tkB 1 hHeld ?_;refine tkB 2 hHeld ?_;refine tkB 3 hHeld ?_;refine tkB 4 hHeld ?_;refine tkB 5 hHeld ?_;refine tkB 6 hHeld ?_;refine tkB 7 hHeld ?_;refine tkB 8 hHeld ?_;refine tkB 9 hHeld ?_;refine tkB 10 hHeld ?_;refine tkB 11 hHeld ?_;refine tkB 12 hHeld ?_;refine tkB 13 hHeld ?_;refine tkB 14 hHeld ?_;refine tkB 15 hHeld ?_;refine tkB 16 hHeld ?_;refine tkB 17 hHeld ?_;refine tkB 18 hHeld ?_;refine tkB 19 hHeld ?_;refine rd 20 fun K hK => ?_
         go_simp
         refine (KL.out _).mono ?_;rintro e s1 ⟨rfl, hb⟩;refine hK.out _ _ (KE.out _ (holdC hHeld hb)) (fun hHeld => ?_);clear hK K hb;refine tkB 21 hHeld ?_;refine tkB 22 hHeld ?_;refine tkB 23 hHeld ?_;refine tkB 24 hHeld ?_;refine tkB 25 hHeld ?_;refine tkB 26 hHeld ?_;refine tkB 27 hHeld ?_;refine tkB 28 hHeld ?_;refine tkB 29 hHeld ?_;refine tkB 30 hHeld ?_;refine tkB 31 hHeld ?_;refine tkB 32 hHeld ?_;refine tkB 33 hHeld ?_;refine tkB 34 hHeld ?_;refine tkB 35 hHeld ?_;refine tkB 36 hHeld ?_;refine tkB 37 hHeld ?_;refine wpAnyH_done (by kernel_rfl) ?_ _;have GJ : Hid (Below w.heap.size w s1) := zH (HB.out.trans (hHeld.1.mono HB.out.size));have OJ := zH (HO.out.below hHeld.1 (Nat.le_refl _));clear hHeld;go_wp2_with fail
         go_roundw
         case rel => exact ⟨j + 1, by omega, by go_num, by rw [HN.out], GJ.out, OJ.out⟩
         case measure => simp [intOf]; omega
        ·have hjz : ¬ (j : Int) < (k : Int) := by omega
         rw [decide_eq_false hjk] at HN;clear hjk;replace HN : Hid (fstTo xs k (j + 1) = f) := zH (by rw [HN.out]; simp);go_wp2_with fail
         refine wp_region_held_drew (S := fun u' => Below wr.heap.size wr u' ∧ (u'.cell? ⟨b, o + j * 8, none⟩ = some (.string (bt y.key)) ∧ u'.cell? ⟨b, o + j * 8 + 1, none⟩ = some (.string (bt y.field)) ∧ u'.cell? ⟨b, o + j * 8 + 2, none⟩ = some (.int .i64 y.kind) ∧ u'.cell? ⟨b, o + j * 8 + 3, none⟩ = some (.string (bt y.elem)) ∧ u'.cell? ⟨b, o + j * 8 + 4, none⟩ = some (.int .i64 y.n) ∧ u'.cell? ⟨b, o + j * 8 + 5, none⟩ = some (.int .i64 y.dot.node) ∧ u'.cell? ⟨b, o + j * 8 + 6, none⟩ = some (.int .i64 y.dot.seq) ∧ u'.cell? ⟨b, o + j * 8 + 7, none⟩ = some (.int .i64 y.dot.pos)) ∧ (u'.cell? ⟨b, o + k * 8, none⟩ = some (.string (bt x.key)) ∧ u'.cell? ⟨b, o + k * 8 + 1, none⟩ = some (.string (bt x.field)) ∧ u'.cell? ⟨b, o + k * 8 + 2, none⟩ = some (.int .i64 x.kind) ∧ u'.cell? ⟨b, o + k * 8 + 3, none⟩ = some (.string (bt x.elem)) ∧ u'.cell? ⟨b, o + k * 8 + 4, none⟩ = some (.int .i64 x.n) ∧ u'.cell? ⟨b, o + k * 8 + 5, none⟩ = some (.int .i64 x.dot.node) ∧ u'.cell? ⟨b, o + k * 8 + 6, none⟩ = some (.int .i64 x.dot.seq) ∧ u'.cell? ⟨b, o + k * 8 + 7, none⟩ = some (.int .i64 x.dot.pos))) (by kernel_rfl) ?_ (fun hHeld => ?_)
         ·(exact KE.out _ (Below.refl _ _).drew)
         simp only [zS, Nat.zero_add, Nat.reduceAdd]
         refine tkB 0 hHeld ?_;refine tkB 1 hHeld ?_;refine tkB 2 hHeld ?_;refine tkB 3 hHeld ?_;refine tkB 4 hHeld ?_;refine tkB 5 hHeld ?_;refine tkB 6 hHeld ?_;refine tkB 7 hHeld ?_;refine tkB 8 hHeld ?_;refine tkB 9 hHeld ?_;refine tkB 10 hHeld ?_;refine tkB 11 hHeld ?_;refine tkB 12 hHeld ?_;refine tkB 13 hHeld ?_;refine tkB 14 hHeld ?_;refine tkB 15 hHeld ?_;refine tkB 16 hHeld ?_;refine tkB 17 hHeld ?_;refine tkB 18 hHeld ?_;refine tkB 19 hHeld ?_;refine rd 20 fun K hK => ?_
         go_simp
         refine (KL.out _).mono ?_;rintro e s1 ⟨rfl, hb⟩;refine hK.out _ _ (KE.out _ (holdC hHeld hb)) (fun hHeld => ?_);clear hK K hb;refine tkB 21 hHeld ?_;refine tkB 22 hHeld ?_;refine tkB 23 hHeld ?_;refine tkB 24 hHeld ?_;refine tkB 25 hHeld ?_;refine tkB 26 hHeld ?_;refine tkB 27 hHeld ?_;refine tkB 28 hHeld ?_;refine tkB 29 hHeld ?_;refine tkB 30 hHeld ?_;refine tkB 31 hHeld ?_;refine tkB 32 hHeld ?_;refine tkB 33 hHeld ?_;refine tkB 34 hHeld ?_;refine tkB 35 hHeld ?_;refine tkB 36 hHeld ?_;refine tkB 37 hHeld ?_;refine wpAnyH_done (by kernel_rfl) ?_ _;have GJ : Hid (Below w.heap.size w s1) := zH (HB.out.trans (hHeld.1.mono HB.out.size));have OJ := zH (HO.out.below hHeld.1 (Nat.le_refl _));clear hHeld;go_wp2_with fail
         go_roundw
         case rel => exact ⟨j + 1, by omega, by go_num, by rw [HN.out], GJ.out, OJ.out⟩
         case measure => simp [intOf]; omega
       ·rw [decide_eq_false hx] at hq2 BD
        clear hx;have HN : Hid (fstTo xs k (j + 1) = f) := zH (by rw [FNJ.out, BD.out]; simp);go_wp2_with fail
        refine wp_region_held_drew (S := fun u' => Below wr.heap.size wr u' ∧ (u'.cell? ⟨b, o + j * 8, none⟩ = some (.string (bt y.key)) ∧ u'.cell? ⟨b, o + j * 8 + 1, none⟩ = some (.string (bt y.field)) ∧ u'.cell? ⟨b, o + j * 8 + 2, none⟩ = some (.int .i64 y.kind) ∧ u'.cell? ⟨b, o + j * 8 + 3, none⟩ = some (.string (bt y.elem)) ∧ u'.cell? ⟨b, o + j * 8 + 4, none⟩ = some (.int .i64 y.n) ∧ u'.cell? ⟨b, o + j * 8 + 5, none⟩ = some (.int .i64 y.dot.node) ∧ u'.cell? ⟨b, o + j * 8 + 6, none⟩ = some (.int .i64 y.dot.seq) ∧ u'.cell? ⟨b, o + j * 8 + 7, none⟩ = some (.int .i64 y.dot.pos)) ∧ (u'.cell? ⟨b, o + k * 8, none⟩ = some (.string (bt x.key)) ∧ u'.cell? ⟨b, o + k * 8 + 1, none⟩ = some (.string (bt x.field)) ∧ u'.cell? ⟨b, o + k * 8 + 2, none⟩ = some (.int .i64 x.kind) ∧ u'.cell? ⟨b, o + k * 8 + 3, none⟩ = some (.string (bt x.elem)) ∧ u'.cell? ⟨b, o + k * 8 + 4, none⟩ = some (.int .i64 x.n) ∧ u'.cell? ⟨b, o + k * 8 + 5, none⟩ = some (.int .i64 x.dot.node) ∧ u'.cell? ⟨b, o + k * 8 + 6, none⟩ = some (.int .i64 x.dot.seq) ∧ u'.cell? ⟨b, o + k * 8 + 7, none⟩ = some (.int .i64 x.dot.pos))) (by kernel_rfl) ?_ (fun hHeld => ?_)
        ·(exact KE.out _ (Below.refl _ _).drew)
        simp only [zS, Nat.zero_add, Nat.reduceAdd]
        refine tkB 0 hHeld ?_;refine tkB 1 hHeld ?_;refine tkB 2 hHeld ?_;refine tkB 3 hHeld ?_;refine tkB 4 hHeld ?_;refine tkB 5 hHeld ?_;refine tkB 6 hHeld ?_;refine tkB 7 hHeld ?_;refine tkB 8 hHeld ?_;refine tkB 9 hHeld ?_;refine tkB 10 hHeld ?_;refine tkB 11 hHeld ?_;refine tkB 12 hHeld ?_;refine tkB 13 hHeld ?_;refine tkB 14 hHeld ?_;refine tkB 15 hHeld ?_;refine tkB 16 hHeld ?_;refine tkB 17 hHeld ?_;refine tkB 18 hHeld ?_;refine tkB 19 hHeld ?_;refine rd 20 fun K hK => ?_
        go_simp
        refine (KL.out _).mono ?_;rintro e s1 ⟨rfl, hb⟩;refine hK.out _ _ (KE.out _ (holdC hHeld hb)) (fun hHeld => ?_);clear hK K hb;refine tkB 21 hHeld ?_;refine tkB 22 hHeld ?_;refine tkB 23 hHeld ?_;refine tkB 24 hHeld ?_;refine tkB 25 hHeld ?_;refine tkB 26 hHeld ?_;refine tkB 27 hHeld ?_;refine tkB 28 hHeld ?_;refine tkB 29 hHeld ?_;refine tkB 30 hHeld ?_;refine tkB 31 hHeld ?_;refine tkS 32 hHeld ?_;refine tkS 33 hHeld ?_;refine tkS 34 hHeld ?_;refine tkB 35 hHeld ?_;refine tkB 36 hHeld ?_;refine tkB 37 hHeld ?_;refine wpAnyH_done (by kernel_rfl) ?_ _;have GJ : Hid (Below w.heap.size w s1) := zH (HB.out.trans (hHeld.1.mono HB.out.size));have OJ := zH (HO.out.below hHeld.1 (Nat.le_refl _));clear hHeld;go_wp2_with fail
        go_roundw
        case rel => exact ⟨j + 1, by omega, by go_num, by rw [HN.out], GJ.out, OJ.out⟩
        case measure => simp [intOf]; omega
     ·rw [decide_eq_false he] at hq BD
      clear he;have HN : Hid (fstTo xs k (j + 1) = f) := zH (by rw [FNJ.out, BD.out]; simp);obtain ⟨c0, c1, c2, c3, c4, c5, c6, c7⟩ := IY.out;obtain ⟨d0, d1, d2, d3, d4, d5, d6, d7⟩ := IX.out;go_wp2_with fail
      go_quiet (fail)
      go_wp2_with fail
      go_roundw
      case rel => exact ⟨j + 1, by omega, by go_num, by rw [HN.out], below_drewN HB.out _, HO.out.drawn _⟩
      case measure => simp [intOf]; omega
    ·obtain rfl : j = n := by omega
     obtain ⟨b, o, c, hv, -, -, -, hc⟩ := items_spot (HS.out.below HB.out) (by rw [LN.out]; omega);rw [LN.out] at hv;simp only [Value.slice.injEq] at hv
     obtain ⟨rfl, -, rfl⟩ := hv;obtain ⟨c0, c1, c2, c3, c4, c5, c6, c7⟩ := hc k HK.out;clear hc
     cases hf : fstTo xs k j with
     | true =>
      have hy := UYK.out hf;have hx := (FTK.out hf).2;have K := KP.out wr _ _ HO.out.seq (by rw [HM.out]; omega) (xs.getD k default) (UR.out k) (fun h => hx (UM.out k _ h));rw [← hy] at K;clear hy hx hf;rw [itv_eq2] at K;generalize xs.getD k default = x at *;go_wp2_with fail
      refine K.mono ?_;rintro e w2 ⟨v2, rfl, ho, hb⟩;have O2 := zH (ho.mono HB.out.size);have G2 := zH (HB.out.trans (hb.mono HB.out.size));clear ho hb K;go_wp2_with fail
      go_roundw
      case rel => exact ⟨k + 1, by omega, by go_num, O2.out, G2.out⟩
      case measure => simp [intOf]; omega
     | false =>
      have O2 : Hid (OwnE LItem w.heap.size wr (.slice av M cv) (U (k + 1))) := zH (by rw [UNK.out hf]; exact HO.out);clear hf;go_wp2_with fail
      go_roundw
      case rel => exact ⟨k + 1, by omega, by go_num, O2.out, HB.out⟩
      case measure => simp [intOf]; omega
  ·obtain rfl : k = n := by omega
   go_wp2_with fail
   go_ret
   exact ⟨_, rfl, HO0.out, HB0.out⟩
end Go.Proofs.YtfapkepfngddlaaGreat
