/- What the program's own Keys and Under of items leave, and the function that Under hands to those. What the program's own Under of items leaves, and the function that it hands to those. What the program's own isField, isDot, fits and Formed of an item leave: a walk for each way through their tests. (Written by gen-form.py.) -/
import Derived.Test.YtmknpmamkjjiaaaGreatISets
import Derived.Test.YtmknpmamkjjiaaaGreatRefSs
import Derived.IntWalk
import Derived.Test.YtmknpmamkjjiaaaGreatShelf
import Derived.Test.YtmknpmamkjjiaaaGreatGives
import Derived.Sort.Grow
import Derived.Deep.RegionHeld3
import Derived.Deep.Cut
import Derived.Test.YtmknpmamkjjiaaaGreatElSorts
import Derived.Test.YtmknpmamkjjiaaaGreatZIs
import Derived.Deep.QuietTactic
import Derived.BigQuiet
namespace Go.Proofs.YtmknpmamkjjiaaaGreat
open Go.RowKit Plain
set_option linter.unusedVariables false

theorem drawnT {B : Nat} {w : World} {v : Value} {xs : List Txt} (h : OwnsT B w v xs) (n : Nat) : OwnsT B (w.drewN n) v xs := h.below (below_drewN (Below.refl _ _) n) (Nat.le_refl _)
theorem keyNew_zero (xs : List PItem) : keyNew xs 0 = true := rfl
theorem keyNew_succ (xs : List PItem) (p : Nat) : keyNew xs (p + 1) = !decide ((xs.getD (p + 1) default).key = (xs.getD p default).key) := by
 unfold keyNew
 rw [decide_eq_false (by omega : ¬ p + 1 = 0), Bool.false_or]
 rfl
set_option maxRecDepth 100000 in
set_option maxHeartbeats 4000000 in
/-- Keys -/
theorem ikeys_any {u : Value} {xs : List PItem} {w : World} (hu : SeqE LItem w u xs) (hx : xs.length ≤ 1000000) : Calls Tryz.prog 57 #[u] w (GivesT w (ikeys xs)) := by
 have HE := Lib.hid (keys_way xs)
 rw [← HE.out]
 obtain ⟨a, cap, rfl, g1, g2, g0, h⟩ := hu.parts
 have HS := Lib.hid h
 obtain ⟨n, hN⟩ : ∃ n, xs.length = n := ⟨_, rfl⟩
 rw [hN] at hx g1 ⊢
 have LN := Lib.hid hN
 have HLK := Lib.hid (keysUpTo_len xs n)
 clear hu h g0 hN HE
 go_enter Tryz.func57, Tryz.ntmps57
 go_wp2_with fail
 go_loopw [3, 4, 8] (fun z _ i wr => ∃ k : Nat, k ≤ n ∧ i = .int .i64 k ∧ OwnsT w.heap.size wr z (keysUpTo xs k) ∧ Below w.heap.size w wr) (fun _ _ i _ => n - (intOf i).toNat)
 case atStart => exact ⟨0, Nat.zero_le _, rfl, OwnsT.nil _ _, Below.refl _ _⟩
 case round =>
  obtain ⟨k, hk, rfl, ho, hb⟩ := hrel
  have HB := Lib.hid hb
  have hl := keysUpTo_len xs k
  obtain ⟨M, hM⟩ : ∃ M, (keysUpTo xs k).length = M := ⟨_, rfl⟩
  obtain ⟨a2, c2, rfl, g3, g4, ho2⟩ := ho.at M hM
  have HO := Lib.hid ho2
  have HM := Lib.hid hM
  rw [hM] at hl
  clear ho ho2 hb hM
  by_cases hlt : k < n
  ·have HK : Hid (k < xs.length) := Lib.hid (by rw [LN.out]; exact hlt)
   obtain ⟨b, o, c, hv, -, -, -, hc⟩ := items_spot (HS.out.below HB.out) (by rw [LN.out]; omega)
   rw [LN.out] at hv
   simp only [Value.slice.injEq] at hv
   obtain ⟨rfl, -, rfl⟩ := hv
   have IX := Lib.hid (hc k HK.out)
   have S1 := Lib.hid (fun (W : World) => SeqT.one W (xs.getD k default).key)
   unfold tv at S1
   have PY := Lib.hid (fun h => keysUpTo_yes (xs := xs) (k := k) h)
   have PN := Lib.hid (fun h => keysUpTo_no (xs := xs) (k := k) h)
   by_cases h0 : k = 0
   ·subst h0
    have HY := Lib.hid (PY.out (keyNew_zero xs))
    clear hc PY PN
    generalize xs.getD 0 default = x at *
    have O1 := Lib.hid (HO.out.alloc (.cells #[.string (bt x.key), .string (bt x.field), .int .i64 x.kind, .string (bt x.elem), .int .i64 x.n, .int .i64 x.dot.node, .int .i64 x.dot.seq, .int .i64 x.dot.pos] 79))
    have G1 := Lib.hid (HB.out.alloc HB.out.size (.cells #[.string (bt x.key), .string (bt x.field), .int .i64 x.kind, .string (bt x.elem), .int .i64 x.n, .int .i64 x.dot.node, .int .i64 x.dot.seq, .int .i64 x.dot.pos] 79))
    have IB : Hid (ItemAt (wr.alloc (.cells #[.string (bt x.key), .string (bt x.field), .int .i64 x.kind, .string (bt x.elem), .int .i64 x.n, .int .i64 x.dot.node, .int .i64 x.dot.seq, .int .i64 x.dot.pos] 79)) wr.heap.size 0 x) := Lib.hid ⟨by simp, by simp, by simp, by simp, by simp, by simp, by simp, by simp⟩
    obtain ⟨c0, c1, c2, c3, c4, c5, c6, c7⟩ := IX.out
    simp only [Nat.zero_mul, Nat.add_zero] at c0 c1 c2 c3 c4 c5 c6 c7
    go_upto_region 5 with fail
    clear c0 c1 c2 c3 c4 c5 c6 c7
    generalize (wr.alloc (.cells #[.string (bt x.key), .string (bt x.field), .int .i64 x.kind, .string (bt x.elem), .int .i64 x.n, .int .i64 x.dot.node, .int .i64 x.dot.seq, .int .i64 x.dot.pos] 79)) = wb at *
    obtain ⟨d0, d1, d2, d3, d4, d5, d6, d7⟩ := IB.out
    simp only [Nat.zero_add] at d1 d2 d3 d4 d5 d6 d7
    go_quiet (fail)
    go_wp2_with (at_builtin; refine wpList_append_texts rfl (.tmp 26) (.tmp 29) rfl w.heap.size rfl ((drawnT O1.out _).alloc _) rfl (S1.out _) (by rw [HM.out]; simp <;> omega) (by have := G1.out.size; simp; omega) ?_)
    intro v' w2 ho' hgr _
    have O2 := Lib.hid ho'
    have G2 : Hid (Below w.heap.size w w2) := Lib.hid (((below_drewN G1.out _).alloc G1.out.size _).grown hgr (by have := G1.out.size; simp; omega) (fun j hj => (O1.out.lt j hj).1))
    clear ho' hgr
    rw [← HY.out] at O2
    go_wp2_with fail
    go_roundw
    case rel => exact ⟨0 + 1, by omega, by go_num, O2.out, G2.out⟩
    case measure => simp [intOf]; omega
   ·obtain ⟨p, rfl⟩ : ∃ p, k = p + 1 := ⟨k - 1, by omega⟩
    have IY := Lib.hid (hc p (by rw [LN.out]; omega))
    have HKN := Lib.hid (keyNew_succ xs p)
    have t1 := text_eq (xs.getD (p + 1) default).key (xs.getD p default).key
    clear hc
    generalize xs.getD (p + 1) default = x at *
    generalize xs.getD p default = y at *
    have O1 := Lib.hid (HO.out.alloc (.cells #[.string (bt x.key), .string (bt x.field), .int .i64 x.kind, .string (bt x.elem), .int .i64 x.n, .int .i64 x.dot.node, .int .i64 x.dot.seq, .int .i64 x.dot.pos] 79))
    have G1 := Lib.hid (HB.out.alloc HB.out.size (.cells #[.string (bt x.key), .string (bt x.field), .int .i64 x.kind, .string (bt x.elem), .int .i64 x.n, .int .i64 x.dot.node, .int .i64 x.dot.seq, .int .i64 x.dot.pos] 79))
    have IB : Hid (ItemAt (wr.alloc (.cells #[.string (bt x.key), .string (bt x.field), .int .i64 x.kind, .string (bt x.elem), .int .i64 x.n, .int .i64 x.dot.node, .int .i64 x.dot.seq, .int .i64 x.dot.pos] 79)) wr.heap.size 0 x) := Lib.hid ⟨by simp, by simp, by simp, by simp, by simp, by simp, by simp, by simp⟩
    have IY2 : Hid (ItemAt (wr.alloc (.cells #[.string (bt x.key), .string (bt x.field), .int .i64 x.kind, .string (bt x.elem), .int .i64 x.n, .int .i64 x.dot.node, .int .i64 x.dot.seq, .int .i64 x.dot.pos] 79)) b (o + p * 8) y) := Lib.hid (IY.out.below ((Below.refl wr.heap.size wr).alloc (Nat.le_refl _) _) IY.out.lt)
    have q0 : (((p + 1 : Nat) : Int) == 0) = false := by simp; omega
    have q1 : ((p : Int) + 1 == 0) = false := by simp; omega
    have q2 : IntKind.i64.wrap ((p : Int) + 1 - 1) = (p : Int) := by rw [show (p : Int) + 1 - 1 = p by omega]; exact IntWalk.i64_in _ (by omega)
    obtain ⟨c0, c1, c2, c3, c4, c5, c6, c7⟩ := IX.out
    go_upto_region 5 with fail
    clear c0 c1 c2 c3 c4 c5 c6 c7
    generalize (wr.alloc (.cells #[.string (bt x.key), .string (bt x.field), .int .i64 x.kind, .string (bt x.elem), .int .i64 x.n, .int .i64 x.dot.node, .int .i64 x.dot.seq, .int .i64 x.dot.pos] 79)) = wb at *
    obtain ⟨d0, d1, d2, d3, d4, d5, d6, d7⟩ := IB.out
    simp only [Nat.zero_add] at d1 d2 d3 d4 d5 d6 d7
    obtain ⟨y0, -⟩ := IY2.out
    cases hcv : decide (x.key = y.key) with
    | true =>
     rw [hcv] at t1 HKN
     have HY := Lib.hid (PN.out HKN.out)
     clear hcv PY PN
     rw [← HY.out] at O1
     go_quiet (fail)
     go_wp2_with fail
     go_roundw
     case rel => exact ⟨p + 1 + 1, by omega, by go_num, drawnT O1.out _, below_drewN G1.out _⟩
     case measure => simp [intOf]; omega
    | false =>
     rw [hcv] at t1 HKN
     have HY := Lib.hid (PY.out HKN.out)
     clear hcv PY PN
     go_quiet (fail)
     go_wp2_with (at_builtin; refine wpList_append_texts rfl (.tmp 26) (.tmp 29) rfl w.heap.size rfl ((drawnT O1.out _).alloc _) rfl (S1.out _) (by rw [HM.out]; simp <;> omega) (by have := G1.out.size; simp; omega) ?_)
     intro v' w2 ho' hgr _
     have O2 := Lib.hid ho'
     have G2 : Hid (Below w.heap.size w w2) := Lib.hid (((below_drewN G1.out _).alloc G1.out.size _).grown hgr (by have := G1.out.size; simp; omega) (fun j hj => (O1.out.lt j hj).1))
     clear ho' hgr
     rw [← HY.out] at O2
     go_wp2_with fail
     go_roundw
     case rel => exact ⟨p + 1 + 1, by omega, by go_num, O2.out, G2.out⟩
     case measure => simp [intOf]; omega
  ·obtain rfl : k = n := by omega
   have KS := sort_texts HO.out HB.out HB.out.size (by rw [HM.out]; omega)
   generalize keysUpTo xs k = L at *
   go_wp2_with fail
   refine KS.mono ?_
   rintro e w2 ⟨rfl, hb, K⟩
   go_wp2_with fail
   refine K.mono ?_
   rintro e w3 ⟨u3, rfl, hr, hb3⟩
   have O := Lib.hid hr.seq
   have G := Lib.hid hb3
   obtain ⟨a3, c3, rfl, -⟩ := hr.seq.parts
   clear hr hb3 hb K KS
   go_wp2_with fail
   go_ret
   exact ⟨_, rfl, O.out, G.out⟩
end Go.Proofs.YtmknpmamkjjiaaaGreat
namespace Go.Proofs.YtmknpmamkjjiaaaGreat
open Go.RowKit Plain
set_option linter.unusedVariables false

theorem found_iff {zs : List Txt} (hr : Rising zs) {s : Txt} {k : Nat} (h1 : ∀ j, j < k → zs.getD j [] < s) (h2 : ∀ j, k ≤ j → j < zs.length → ¬ zs.getD j [] < s) : decide (k < zs.length ∧ zs.getD k [] = s) = decide (s ∈ zs) := by
 refine decide_eq_decide.2 ⟨fun ⟨g1, g2⟩ => by rw [← g2]; exact mem_getD g1, fun h => ?_⟩
 obtain ⟨j, hj, e⟩ := mem_at h
 have hkj : k ≤ j := Nat.not_lt.1 fun g => by have := h1 j g; rw [e] at this; exact lt_irrefl s this
 have hkl : k < zs.length := by omega
 refine ⟨hkl, ?_⟩
 by_cases he : k = j
 ·rw [he]; exact e
 ·have h3 := List.pairwise_iff_getElem.1 hr k j hkl hj (by omega)
  have h4 : zs.getD k [] < zs.getD j [] := by simpa [List.getD, List.getElem?_eq_getElem hkl, List.getElem?_eq_getElem hj] using h3
  rw [e] at h4
  exact absurd h4 (h2 k (Nat.le_refl _) hkl)
theorem entersUnder : ∀ args w, (callFunc 77 args).run Tryz.prog w = .ok (.enter 77 args) w := enters_of Tryz.func77 (by kernel_rfl) rfl
set_option maxRecDepth 100000 in
set_option maxHeartbeats 2000000 in
theorem givesUnder (x : PItem) {zv : Value} {zs : List Txt} (g : Nat) (W : World) (hc : W.cell? ⟨g, 0, none⟩ = some zv) (hv : SeqT W zv zs) (hr : Rising zs) (hn : zs.length ≤ 1000000) :
  Calls Tryz.prog 77 (#[itv x] ++ #[.pointer (some ⟨g, 0, none⟩)]) W fun e W' => e = .returned (.bool (!decide (x.key ∈ zs))) ∧ Below W.heap.size W W' := by
 show Calls Tryz.prog 77 #[.agg #[.string (bt x.key), .string (bt x.field), .int .i64 x.kind, .string (bt x.elem), .int .i64 x.n, .int .i64 x.dot.node, .int .i64 x.dot.seq, .int .i64 x.dot.pos], .pointer (some ⟨g, 0, none⟩)] W _
 have hb1 := (Below.refl W.heap.size W).alloc (Nat.le_refl _) (.cells #[.string (bt x.key), .string (bt x.field), .int .i64 x.kind, .string (bt x.elem), .int .i64 x.n, .int .i64 x.dot.node, .int .i64 x.dot.seq, .int .i64 x.dot.pos] 79)
 have hlt := World.block_lt_of_cell? W ⟨g, 0, none⟩ hc
 have hc1 := (hb1.cell (p := ⟨g, 0, none⟩) hlt).trans hc
 obtain ⟨k, -, h1, h2, K⟩ := search_texts (hv.below hb1) hr hn x.key
 rw [found_iff hr h1 h2] at K
 have IB : Hid (ItemAt (W.alloc (.cells #[.string (bt x.key), .string (bt x.field), .int .i64 x.kind, .string (bt x.elem), .int .i64 x.n, .int .i64 x.dot.node, .int .i64 x.dot.seq, .int .i64 x.dot.pos] 79)) W.heap.size 0 x) := Lib.hid ⟨by simp, by simp, by simp, by simp, by simp, by simp, by simp, by simp⟩
 have HB := Lib.hid hb1
 obtain ⟨a, cap, rfl, -⟩ := hv.parts
 clear hc hv h1 h2 hb1 hlt hr hn
 generalize decide (x.key ∈ zs) = r at *
 generalize zs.length = n at *
 go_enter Tryz.func77, Tryz.ntmps77
 go_upto_region 1 with fail
 generalize (W.alloc (.cells #[.string (bt x.key), .string (bt x.field), .int .i64 x.kind, .string (bt x.elem), .int .i64 x.n, .int .i64 x.dot.node, .int .i64 x.dot.seq, .int .i64 x.dot.pos] 79)) = wb at *
 obtain ⟨c0, c1, c2, c3, c4, c5, c6, c7⟩ := IB.out
 simp only [Nat.zero_add] at c1 c2 c3 c4 c5 c6 c7
 go_wp2_with fail
 refine K.mono ?_
 rintro e w2 ⟨rfl, q, rfl⟩
 have G := Lib.hid (below_drewN HB.out q)
 clear c0 c1 c2 c3 c4 c5 c6 c7 K
 go_wp2_with fail
 go_ret
 exact ⟨rfl, G.out⟩

set_option maxRecDepth 100000 in
set_option maxHeartbeats 2000000 in
/-- Under -/
theorem iunder_any {u v : Value} {xs : List PItem} {zs : List Txt} {w : World} (hu : SeqE LItem w u xs) (hv : SeqT w v zs) (hn : xs.length ≤ 1000000) (hz : zs.length ≤ 1000000) :
  Calls Tryz.prog 58 #[u, v] w (MadeE LItem w (iunder xs zs)) := by
 have KK := ikeys_any hu hn
 have HKL := ikeys_len xs
 have KW := Lib.hid (fun (W : World) (kv : Value) (hb : Below w.heap.size w W) (hs : SeqT W kv (ikeys xs)) => zwithout_any hs (hv.below hb) (by omega : (ikeys xs).length ≤ 1000000) hz)
 have HR : Hid (Rising (without (ikeys xs) zs)) := Lib.hid (rising_once _)
 have HWL : Hid ((without (ikeys xs) zs).length ≤ 1000000) := Lib.hid (by have := without_len (ikeys xs) zs; omega)
 have HE : Hid (pickK (fun j => !decide ((xs.getD j default).key ∈ without (ikeys xs) zs)) xs xs.length = iunder xs zs) := Lib.hid (by
  rw [pickK_cong (g := fun j => covers zs (xs.getD j default).key) xs xs.length (fun j hj => under_way (mem_def hj))]
  exact pickK_all (fun x : PItem => covers zs x.key) xs)
 have HP := Lib.hid (fun (W : World) (g : Nat) (zv : Value) (hb : Below w.heap.size w W) (hc : W.cell? ⟨g, 0, none⟩ = some zv) (hs : SeqT W zv (without (ikeys xs) zs)) =>
  ithose_any (row := none) (hu.below hb).old hn (fun j => !decide ((xs.getD j default).key ∈ without (ikeys xs) zs)) (fun _ W' => Below W.heap.size W W') 77 #[.pointer (some ⟨g, 0, none⟩)] entersUnder (fun j hj => by cases hj) (fun k W' W'' h g => h.trans g)
   (fun k W' hk h _ => (givesUnder _ g W' ((h.cell (p := ⟨g, 0, none⟩) (World.block_lt_of_cell? W ⟨g, 0, none⟩ hc)).trans hc) (hs.below h) HR.out HWL.out).mono fun e W'' ⟨he, g⟩ => ⟨he, h.trans (g.mono h.size), grown_of_below g⟩) (Below.refl _ _))
 rw [HE.out] at HP
 obtain ⟨a, cap, rfl, -⟩ := hu.parts
 obtain ⟨a', cap', rfl, -⟩ := hv.parts
 generalize without (ikeys xs) zs = wo at *
 generalize iunder xs zs = r at *
 generalize ikeys xs = ks at *
 generalize xs.length = n at *
 generalize zs.length = nz at *
 clear hu hv HE hn hz HKL
 go_enter Tryz.func58, Tryz.ntmps58
 go_wp2_with fail
 refine KK.mono ?_
 rintro e w1 ⟨v1, rfl, hs, hb⟩
 have K2 := KW.out w1 v1 hb hs
 have G1 := Lib.hid hb
 obtain ⟨a1, c1, rfl, -⟩ := hs.parts
 generalize ks.length = nk at *
 clear hs hb KK KW
 go_wp2_with fail
 refine K2.mono ?_
 rintro e w2 ⟨v2, rfl, hs, hb⟩
 have G2 : Hid (Below w.heap.size w w2) := Lib.hid (G1.out.trans (hb.mono G1.out.size))
 have G3 := Lib.hid (G2.out.alloc G2.out.size (.cells #[v2] 66))
 have K3 := HP.out (w2.alloc (.cells #[v2] 66)) w2.heap.size v2 G3.out (by simp) (hs.below_alloc _)
 obtain ⟨a2, c2, rfl, -⟩ := hs.parts
 clear hs hb K2 HP HR HWL
 generalize wo.length = nw at *
 go_upto_region 2 with fail
 generalize (w2.alloc (.cells #[.slice a2 nw c2] 66)) = w3 at *
 go_wp2_with fail
 refine K3.mono ?_
 rintro e w5 ⟨v5, rfl, ho, hg, -⟩
 have O := Lib.hid (ho.mono G3.out.size)
 have G : Hid (Below w.heap.size w w5) := Lib.hid (G3.out.trans ((below_of_grown hg).mono G3.out.size))
 obtain ⟨av, cv, rfl, -⟩ := ho.parts
 clear ho hg K3
 go_wp2_with fail
 go_ret
 exact ⟨_, rfl, O.out, G.out⟩
end Go.Proofs.YtmknpmamkjjiaaaGreat
namespace Go.Proofs.YtmknpmamkjjiaaaGreat
open Go.RowKit Plain
set_option linter.unusedVariables false

theorem itv_eq4 (x : PItem) : itv x = .agg #[.string (bt x.key), .string (bt x.field), .int .i64 x.kind, .string (bt x.elem), .int .i64 x.n, .int .i64 x.dot.node, .int .i64 x.dot.seq, .int .i64 x.dot.pos] := rfl
theorem dv_eq4 (d : PDot) : dv d = .agg #[.int .i64 d.node, .int .i64 d.seq, .int .i64 d.pos] := rfl
theorem nil_eq (s : Txt) : ((bt s).toList == []) = decide (s.length = 0) := by
 have t1 := text_eq s []
 rw [show (bt []).toList = [] from toList_bt []] at t1
 rw [t1]
 exact decide_eq_decide.2 ⟨fun e => by rw [e]; rfl, List.eq_nil_of_length_eq_zero⟩
theorem field_way (s : Txt) : (decide (s.length = 0) || keyB s) = prefixB s := by
 unfold keyB
 cases s with
 | nil => rfl
 | cons c s => simp
theorem formed_way (x : PItem) : (keyB x.key && (prefixB x.field && ((decide (x.elem.length ≤ 32) && valueB x) && dotB x.dot))) = formedB x := by
 unfold formedB
 cases keyB x.key <;> cases prefixB x.field <;> cases decide (x.elem.length ≤ 32) <;> cases valueB x <;> cases dotB x.dot <;> rfl

set_option maxRecDepth 100000 in
set_option maxHeartbeats 2000000 in
theorem ifield_any (s : Txt) (w : World) : Calls Tryz.prog 68 #[.string (bt s)] w fun e w' => e = .returned (.bool (prefixB s)) ∧ w = w' := by
 have K := zkey_any s w
 have t1 := nil_eq s
 rw [← field_way s]
 generalize keyB s = r at *
 generalize bt s = S at *
 by_cases h : s.length = 0
 ·rw [decide_eq_true h] at t1 ⊢
  rw [Bool.true_or]
  clear h
  go_enter Tryz.func68, Tryz.ntmps68
  go_wp2_with fail
  go_ret
  exact ⟨rfl, rfl⟩
 ·rw [decide_eq_false h] at t1 ⊢
  rw [Bool.false_or]
  clear h
  go_enter Tryz.func68, Tryz.ntmps68
  go_wp2_with fail
  refine K.mono ?_
  rintro e w' ⟨rfl, rfl⟩
  go_wp2_with fail
  go_ret
  exact ⟨rfl, rfl⟩

set_option maxRecDepth 100000 in
set_option maxHeartbeats 2000000 in
theorem idot_any (d : PDot) (w : World) : Calls Tryz.prog 70 #[dv d] w (GivesB w (dotB d)) := by
 have HB : Hid (dotB d = decide (0 ≤ d.node ∧ d.node ≤ 7 ∧ 1 ≤ d.seq ∧ d.seq ≤ 1073741824 ∧ 0 ≤ d.pos ∧ d.pos ≤ 7)) := Lib.hid rfl
 have G := Lib.hid ((Below.refl w.heap.size w).alloc (Nat.le_refl _) (.cells #[.int .i64 d.node, .int .i64 d.seq, .int .i64 d.pos] 54))
 rw [dv_eq4]
 generalize dotB d = r at *
 generalize d.node = a at *
 generalize d.seq = b at *
 generalize d.pos = c at *
 by_cases h0 : (0 : Int) ≤ a
 rotate_left
 ·obtain rfl : r = false := by rw [HB.out]; exact decide_eq_false (by omega)
  go_enter Tryz.func70, Tryz.ntmps70
  go_wp2_with fail
  go_ret
  exact ⟨rfl, G.out⟩
 by_cases h1 : a < 8
 rotate_left
 ·obtain rfl : r = false := by rw [HB.out]; exact decide_eq_false (by omega)
  go_enter Tryz.func70, Tryz.ntmps70
  go_wp2_with fail
  go_ret
  exact ⟨rfl, G.out⟩
 by_cases h2 : (1 : Int) ≤ b
 rotate_left
 ·obtain rfl : r = false := by rw [HB.out]; exact decide_eq_false (by omega)
  go_enter Tryz.func70, Tryz.ntmps70
  go_wp2_with fail
  go_ret
  exact ⟨rfl, G.out⟩
 by_cases h3 : b ≤ 1073741824
 rotate_left
 ·obtain rfl : r = false := by rw [HB.out]; exact decide_eq_false (by omega)
  go_enter Tryz.func70, Tryz.ntmps70
  go_wp2_with fail
  go_ret
  exact ⟨rfl, G.out⟩
 by_cases h4 : (0 : Int) ≤ c
 rotate_left
 ·obtain rfl : r = false := by rw [HB.out]; exact decide_eq_false (by omega)
  go_enter Tryz.func70, Tryz.ntmps70
  go_wp2_with fail
  go_ret
  exact ⟨rfl, G.out⟩
 by_cases h5 : c < 8
 rotate_left
 ·obtain rfl : r = false := by rw [HB.out]; exact decide_eq_false (by omega)
  go_enter Tryz.func70, Tryz.ntmps70
  go_wp2_with fail
  go_ret
  exact ⟨rfl, G.out⟩
 obtain rfl : r = true := by rw [HB.out]; exact decide_eq_true (by omega)
 go_enter Tryz.func70, Tryz.ntmps70
 go_wp2_with fail
 go_ret
 exact ⟨rfl, G.out⟩

set_option maxRecDepth 100000 in
set_option maxHeartbeats 2000000 in
theorem ifits_any (x : PItem) (w : World) : Calls Tryz.prog 69 #[itv x] w (GivesB w (decide (x.elem.length ≤ 32) && valueB x)) := by
 have HB : Hid ((decide (x.elem.length ≤ 32) && valueB x) = (decide (x.elem.length ≤ 32) && ((decide (x.kind = 1 ∨ x.kind = 2) && decide (x.n = 0)) || (decide (x.kind = 3) && decide (x.elem.length = 0))))) := Lib.hid rfl
 have G := Lib.hid ((Below.refl w.heap.size w).alloc (Nat.le_refl _) (.cells #[.string (bt x.key), .string (bt x.field), .int .i64 x.kind, .string (bt x.elem), .int .i64 x.n, .int .i64 x.dot.node, .int .i64 x.dot.seq, .int .i64 x.dot.pos] 79))
 have t1 := nil_eq x.elem
 have z1 := bt_size x.elem
 rw [itv_eq4]
 generalize (decide (x.elem.length ≤ 32) && valueB x) = r at *
 generalize bt x.key = K at *
 generalize bt x.field = F at *
 generalize bt x.elem = El at *
 generalize x.elem.length = m at *
 generalize x.kind = kd at *
 generalize x.n = nn at *
 by_cases h1 : kd = 1
 ·subst h1
  by_cases hm : m ≤ 32
  ·have hi : (m : Int) ≤ 32 := by omega
   by_cases hn : nn = 0
   ·subst hn
    obtain rfl : r = true := by rw [HB.out]; simp [hm]
    clear hm t1
    go_enter Tryz.func69, Tryz.ntmps69
    go_wp2_with fail
    go_ret
    exact ⟨rfl, G.out⟩
   ·have b1 : (nn == 0) = false := by simpa using hn
    obtain rfl : r = false := by rw [HB.out]; simp [hn]
    clear hm t1
    go_enter Tryz.func69, Tryz.ntmps69
    go_wp2_with fail
    go_ret
    exact ⟨rfl, G.out⟩
  ·have hi : ¬ (m : Int) ≤ 32 := by omega
   obtain rfl : r = false := by rw [HB.out]; simp [hm]
   clear hm t1
   go_enter Tryz.func69, Tryz.ntmps69
   go_wp2_with fail
   go_ret
   exact ⟨rfl, G.out⟩
 by_cases h2 : kd = 2
 ·subst h2
  by_cases hm : m ≤ 32
  ·have hi : (m : Int) ≤ 32 := by omega
   by_cases hn : nn = 0
   ·subst hn
    obtain rfl : r = true := by rw [HB.out]; simp [hm]
    clear hm t1
    go_enter Tryz.func69, Tryz.ntmps69
    go_wp2_with fail
    go_ret
    exact ⟨rfl, G.out⟩
   ·have b1 : (nn == 0) = false := by simpa using hn
    obtain rfl : r = false := by rw [HB.out]; simp [hn]
    clear hm t1
    go_enter Tryz.func69, Tryz.ntmps69
    go_wp2_with fail
    go_ret
    exact ⟨rfl, G.out⟩
  ·have hi : ¬ (m : Int) ≤ 32 := by omega
   obtain rfl : r = false := by rw [HB.out]; simp [hm]
   clear hm t1
   go_enter Tryz.func69, Tryz.ntmps69
   go_wp2_with fail
   go_ret
   exact ⟨rfl, G.out⟩
 by_cases h3 : kd = 3
 ·subst h3
  by_cases hz : m = 0
  ·obtain rfl : r = true := by rw [HB.out]; simp [hz]
   rw [decide_eq_true hz] at t1
   clear hz
   go_enter Tryz.func69, Tryz.ntmps69
   go_wp2_with fail
   go_ret
   exact ⟨rfl, G.out⟩
  ·obtain rfl : r = false := by rw [HB.out]; simp [hz]
   rw [decide_eq_false hz] at t1
   clear hz
   go_enter Tryz.func69, Tryz.ntmps69
   go_wp2_with fail
   go_ret
   exact ⟨rfl, G.out⟩
 ·obtain rfl : r = false := by rw [HB.out]; simp [h1, h2, h3]
  clear t1
  go_enter Tryz.func69, Tryz.ntmps69
  go_wp2_with fail
  go_ret
  exact ⟨rfl, G.out⟩

set_option maxRecDepth 100000 in
set_option maxHeartbeats 2000000 in
theorem iformed_any (x : PItem) (w : World) : Calls Tryz.prog 53 #[itv x] w (GivesB w (formedB x)) := by
 have G := Lib.hid ((Below.refl w.heap.size w).alloc (Nat.le_refl _) (.cells #[.string (bt x.key), .string (bt x.field), .int .i64 x.kind, .string (bt x.elem), .int .i64 x.n, .int .i64 x.dot.node, .int .i64 x.dot.seq, .int .i64 x.dot.pos] 79))
 have IB : Hid (ItemAt (w.alloc (.cells #[.string (bt x.key), .string (bt x.field), .int .i64 x.kind, .string (bt x.elem), .int .i64 x.n, .int .i64 x.dot.node, .int .i64 x.dot.seq, .int .i64 x.dot.pos] 79)) w.heap.size 0 x) := Lib.hid ⟨by simp, by simp, by simp, by simp, by simp, by simp, by simp, by simp⟩
 have KK := Lib.hid (fun W => zkey_any x.key W)
 have KF := Lib.hid (fun W => ifield_any x.field W)
 have KV := Lib.hid (fun W => ifits_any x W)
 have KD := Lib.hid (fun W => idot_any x.dot W)
 rw [← formed_way x]
 rw [itv_eq4] at KV ⊢
 rw [dv_eq4] at KD
 generalize (decide (x.elem.length ≤ 32) && valueB x) = r3 at *
 generalize keyB x.key = r1 at *
 generalize prefixB x.field = r2 at *
 generalize dotB x.dot = r4 at *
 go_enter Tryz.func53, Tryz.ntmps53
 go_upto_region 1 with fail
 generalize (w.alloc (.cells #[.string (bt x.key), .string (bt x.field), .int .i64 x.kind, .string (bt x.elem), .int .i64 x.n, .int .i64 x.dot.node, .int .i64 x.dot.seq, .int .i64 x.dot.pos] 79)) = wb at *
 obtain ⟨c0, c1, c2, c3, c4, c5, c6, c7⟩ := IB.out
 simp only [Nat.zero_add] at c1 c2 c3 c4 c5 c6 c7
 go_wp2_with fail
 refine (KK.out _).mono ?_
 rintro e w1 ⟨rfl, rfl⟩
 cases r1 with
 | false =>
  rw [Bool.false_and]
  go_wp2_with fail
  go_ret
  exact ⟨rfl, G.out⟩
 | true =>
  rw [Bool.true_and]
  go_wp2_with fail
  refine (KF.out _).mono ?_
  rintro e w1 ⟨rfl, rfl⟩
  cases r2 with
  | false =>
   rw [Bool.false_and]
   go_wp2_with fail
   go_ret
   exact ⟨rfl, G.out⟩
  | true =>
   rw [Bool.true_and]
   go_wp2_with fail
   refine (KV.out _).mono ?_
   rintro e w3 ⟨rfl, hb⟩
   have G3 : Hid (Below w.heap.size w w3) := Lib.hid (G.out.trans (hb.mono G.out.size))
   have IB3 := Lib.hid (IB.out.below hb IB.out.lt)
   clear hb c0 c1 c2 c3 c4 c5 c6 c7
   obtain ⟨c0, c1, c2, c3, c4, c5, c6, c7⟩ := IB3.out
   simp only [Nat.zero_add] at c1 c2 c3 c4 c5 c6 c7
   cases r3 with
   | false =>
    rw [Bool.false_and]
    go_wp2_with fail
    go_ret
    exact ⟨rfl, G3.out⟩
   | true =>
    rw [Bool.true_and]
    go_wp2_with fail
    refine (KD.out _).mono ?_
    rintro e w4 ⟨rfl, hb⟩
    have G4 : Hid (Below w.heap.size w w4) := Lib.hid (G3.out.trans (hb.mono G3.out.size))
    clear hb
    go_wp2_with fail
    go_ret
    exact ⟨rfl, G4.out⟩
end Go.Proofs.YtmknpmamkjjiaaaGreat
