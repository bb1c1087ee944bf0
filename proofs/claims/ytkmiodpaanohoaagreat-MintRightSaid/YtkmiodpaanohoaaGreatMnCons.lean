/- What slices.ContainsFunc of requests leaves, whatever is asked; the program's own mayStand, Formed and refused. What the program's own compare of dots (of requests' effects) and slices.SortFunc of dots, by it, leave. The program's own mayStand, Formed and refused of requests. (Written by expand.py.) The program's own goes, dots and sum of requests' effects; slices.Compact of rising dots. (Written by expand.py.) The program's own effect of one request. (Written by gen-eff.py.) What the program's own Formed and Make of requests leave. (Written by expand.py.) -/
import Derived.Test.YtkmiodpaanohoaaGreatEMades
import Derived.Test.YtkmiodpaanohoaaGreatIKeyF
import Derived.Test.YtkmiodpaanohoaaGreatReq
import Derived.Test.YtkmiodpaanohoaaGreatVwMaths
import Derived.Test.YtkmiodpaanohoaaGreatEForms
import Derived.Test.YtkmiodpaanohoaaGreatElSort
import Derived.Sort.Grow
import Derived.Shelf.SlSortCmp.NoneTotal
import Derived.Deep.Cut
import Derived.Test.YtkmiodpaanohoaaGreatVwRefs
import Derived.Test.YtkmiodpaanohoaaGreatEqI
import Derived.BigQuiet
import Derived.Test.YtkmiodpaanohoaaGreatEDos
import Derived.Deep.RegionHeld3
import Derived.Deep.DeepCutAuto
import Derived.Test.YtkmiodpaanohoaaGreatEWs
import Derived.Test.YtkmiodpaanohoaaGreatVwAs
namespace Go.Proofs.YtkmiodpaanohoaaGreat
open Go.RowKit Plain
set_option linter.unusedVariables false

theorem rqv_eq5 (q : PReq) : rqv q = .agg #[.int .i64 q.op, .string (bt q.key), .string (bt q.field), .string (bt q.elem), .int .i64 q.n] := rfl
set_option maxRecDepth 100000 in
set_option maxHeartbeats 2000000 in
/-- slices.IndexFunc of requests -/
theorem mindex_any {v : Value} {ds : List PReq} {w : World} (hv : SeqE LReq w v ds) (hn : ds.length ≤ 1000000) (p : PReq → Bool) (g : Nat) (lb : Array Value)
    (eg : ∀ args w, (callFunc g args).run Tryz.prog w = .ok (.enter g args) w)
    (hp : ∀ W d, Below w.heap.size w W → Calls Tryz.prog g (#[rqv d] ++ lb) W (GivesB W (p d))) :
    Calls Tryz.prog 52 #[v, .func (.func g) #[] lb] w fun e w' => ∃ r : Int, e = .returned (.int .i64 r) ∧ decide (0 ≤ r) = ds.any p ∧ Below w.heap.size w w' := by
  obtain ⟨a, cap, rfl, g1, g2, g0, h⟩ := hv.parts
  have HS := Lib.hid h
  have HP := Lib.hid hp
  have HY : Hid (∀ k, k < ds.length → p (ds.getD k default) = true → ds.any p = true) := Lib.hid (fun k hk h => by
    rw [List.any_eq_true]
    exact ⟨_, by rw [show ds.getD k default = ds[k] by simp [List.getD, List.getElem?_eq_getElem hk]]; exact List.getElem_mem hk, h⟩)
  have HN : Hid ((∀ j, j < ds.length → p (ds.getD j default) = false) → ds.any p = false) := Lib.hid (fun h => by
    rw [List.any_eq_false]
    intro d hd
    obtain ⟨j, hj, rfl⟩ := List.getElem_of_mem hd
    have := h j hj
    rw [show ds.getD j default = ds[j] by simp [List.getD, List.getElem?_eq_getElem hj]] at this
    rw [this]
    decide)
  clear hp hv h g0
  obtain ⟨n, hN⟩ : ∃ n, ds.length = n := ⟨_, rfl⟩
  rw [hN] at hn g1 HS HY HN ⊢
  have LN := Lib.hid hN
  clear hN
  generalize ds.any p = r at *
  go_enter Tryz.func52, Tryz.ntmps52
  go_wp2_with fail
  go_loopw [8] (fun i wr => ∃ k : Nat, k ≤ n ∧ i = .int .i64 k ∧ (∀ j, j < k → p (ds.getD j default) = false) ∧ Below w.heap.size w wr) (fun i _ => n - (intOf i).toNat)
  case atStart => exact ⟨0, Nat.zero_le _, rfl, fun j hj => absurd hj (by omega), Below.refl _ _⟩
  case round =>
    obtain ⟨k, hk, rfl, hall, hb⟩ := hrel
    have HA := Lib.hid hall
    have HB := Lib.hid hb
    clear hall hb
    by_cases hlt : k < n
    · obtain ⟨b, o, c, hv, -, -, -, hc⟩ := reqs_spot (HS.out.below HB.out) (by rw [LN.out]; omega)
      rw [LN.out] at hv
      simp only [Value.slice.injEq] at hv
      obtain ⟨rfl, -, rfl⟩ := hv
      obtain ⟨c0, c1, c2, c3, c4⟩ := hc k (by rw [LN.out]; exact hlt)
      have HYK := Lib.hid (HY.out k hlt)
      have HAK : Hid (p (ds.getD k default) = false → ∀ j, j < k + 1 → p (ds.getD j default) = false) := Lib.hid (fun h j hj => by
        by_cases e : j = k
        · rw [e]; exact h
        · exact HA.out j (by omega))
      have K := HP.out wr (ds.getD k default) HB.out
      clear hc
      rw [rqv_eq5] at K
      generalize ds.getD k default = d at *
      cases hpd : p d with
      | true =>
        rw [hpd] at K
        obtain rfl : r = true := HYK.out hpd
        clear hpd
        go_wp2_with (go_at_fn g; refine K.mono ?_; rintro e w1 ⟨rfl, hb⟩)
        have G := Lib.hid (HB.out.trans (hb.mono HB.out.size))
        clear hb c0 c1 c2 c3 c4 K
        go_wp2_with fail
        go_ret
        exact ⟨k, rfl, by simp, G.out⟩
      | false =>
        rw [hpd] at K
        have HX := Lib.hid (HAK.out hpd)
        clear hpd
        go_wp2_with (go_at_fn g; refine K.mono ?_; rintro e w1 ⟨rfl, hb⟩)
        have G := Lib.hid (HB.out.trans (hb.mono HB.out.size))
        clear hb c0 c1 c2 c3 c4 K
        go_wp2_with fail
        go_roundw
        case rel => exact ⟨k + 1, by omega, by go_num, HX.out, G.out⟩
        case measure => simp [intOf]; omega
    · obtain rfl : k = n := by omega
      obtain rfl : r = false := HN.out HA.out
      go_wp2_with fail
      go_ret
      exact ⟨-1, rfl, by decide, HB.out⟩

set_option maxRecDepth 100000 in
set_option maxHeartbeats 1000000 in
/-- slices.ContainsFunc of requests -/
theorem mcontains_any {v : Value} {ds : List PReq} {w : World} (hv : SeqE LReq w v ds) (hn : ds.length ≤ 1000000) (p : PReq → Bool) (g : Nat) (lb : Array Value)
    (eg : ∀ args w, (callFunc g args).run Tryz.prog w = .ok (.enter g args) w)
    (hp : ∀ W d, Below w.heap.size w W → Calls Tryz.prog g (#[rqv d] ++ lb) W (GivesB W (p d))) :
    Calls Tryz.prog 32 #[v, .func (.func g) #[] lb] w (GivesB w (ds.any p)) := by
  have K := mindex_any hv hn p g lb eg hp
  obtain ⟨a, cap, rfl, -⟩ := hv.parts
  generalize ds.any p = r at *
  generalize ds.length = n at *
  clear hv hp
  go_enter Tryz.func32, Tryz.ntmps32
  go_wp2_with fail
  refine K.mono ?_
  rintro e w1 ⟨q, rfl, hq, hb⟩
  have G := Lib.hid hb
  clear hb K
  subst hq
  go_wp2_with fail
  go_ret
  exact ⟨rfl, G.out⟩

end Go.Proofs.YtkmiodpaanohoaaGreat
namespace Go.Proofs.YtkmiodpaanohoaaGreat
open Go.RowKit Plain
set_option linter.unusedVariables false

set_option maxRecDepth 100000 in
set_option maxHeartbeats 8000000 in
/-- compare -/
theorem mcompare_any (a b : PDot) (w : World) : Calls Tryz.prog 54 #[dv a, dv b] w fun e w' => e = .returned (.int .i64 (dcmp a b)) ∧ ∃ q os, w' = Sort.grow (w.drewN q) os := by
  have HX : Hid (DotAt ((w.alloc (.cells #[.int .i64 a.node, .int .i64 a.seq, .int .i64 a.pos] 36)).alloc (.cells #[.int .i64 b.node, .int .i64 b.seq, .int .i64 b.pos] 36)) w.heap.size 0 a) := Lib.hid ⟨(two_cells w _ _ _ _ 0).1, (two_cells w _ _ _ _ 1).1, (two_cells w _ _ _ _ 2).1⟩
  have HY : Hid (DotAt ((w.alloc (.cells #[.int .i64 a.node, .int .i64 a.seq, .int .i64 a.pos] 36)).alloc (.cells #[.int .i64 b.node, .int .i64 b.seq, .int .i64 b.pos] 36)) (w.heap.size + 1) 0 b) := Lib.hid ⟨(two_cells w _ _ _ _ 0).2, (two_cells w _ _ _ _ 1).2, (two_cells w _ _ _ _ 2).2⟩
  obtain ⟨os2, hw2⟩ : ∃ os, ((w.alloc (.cells #[.int .i64 a.node, .int .i64 a.seq, .int .i64 a.pos] 36)).alloc (.cells #[.int .i64 b.node, .int .i64 b.seq, .int .i64 b.pos] 36)) = Sort.grow w os := ⟨#[(.cells #[.int .i64 a.node, .int .i64 a.seq, .int .i64 a.pos] 36), (.cells #[.int .i64 b.node, .int .i64 b.seq, .int .i64 b.pos] 36)], rfl⟩
  have HW := Lib.hid hw2
  clear hw2
  have K3 := Lib.hid (fun W => Tryz.cmp_Compare_int_f49 a.node b.node W)
  have K4 := Lib.hid (fun W => Tryz.cmp_Compare_int_f49 a.seq b.seq W)
  have K5 := Lib.hid (fun W => Tryz.cmp_Compare_int_f49 a.pos b.pos W)
  have HI : Hid (dcmp a b = firstNZ (dcmps a b)) := Lib.hid rfl
  rw [HI.out]
  unfold dcmps
  clear HI
  generalize Lib.compareInt a.node b.node = r0 at *
  generalize Lib.compareInt a.seq b.seq = r1 at *
  generalize Lib.compareInt a.pos b.pos = r2 at *
  obtain ⟨r, hr⟩ : ∃ r, firstNZ [r0, r1, r2] = r := ⟨_, rfl⟩
  rw [hr]
  have HR := Lib.hid hr
  clear hr
  rw [dv_eq3, dv_eq3]
  go_enter Tryz.func54, Tryz.ntmps54
  go_upto_region 1 with fail
  generalize ((w.alloc (.cells #[.int .i64 a.node, .int .i64 a.seq, .int .i64 a.pos] 36)).alloc (.cells #[.int .i64 b.node, .int .i64 b.seq, .int .i64 b.pos] 36)) = W2 at *
  have KO := Lib.hid (ior_any [r0, r1, r2] 3 W2.heap.size (W2.alloc (.cells #[.int .i64 r0, .int .i64 r1, .int .i64 r2] 3)).drew rfl (by omega) (fun j hj => by
    have e : (W2.alloc (.cells #[.int .i64 r0, .int .i64 r1, .int .i64 r2] 3)).drew.cell? ⟨W2.heap.size, j, none⟩ = (#[.int .i64 r0, .int .i64 r1, .int .i64 r2] : Array Value)[j]? := World.cell?_alloc_new W2 #[.int .i64 r0, .int .i64 r1, .int .i64 r2] 3 j
    rw [e]
    match j, hj with
    | 0, _ => rfl
    | 1, _ => rfl
    | 2, _ => rfl))
  rw [HR.out] at KO
  have KE : Hid (∀ u, Below W2.heap.size W2 u → (u.cell? ⟨w.heap.size, 0, none⟩ = some (.int .i64 a.node) ∧ u.cell? ⟨w.heap.size, 1, none⟩ = some (.int .i64 a.seq) ∧ u.cell? ⟨w.heap.size, 2, none⟩ = some (.int .i64 a.pos)) ∧ (u.cell? ⟨w.heap.size + 1, 0, none⟩ = some (.int .i64 b.node) ∧ u.cell? ⟨w.heap.size + 1, 1, none⟩ = some (.int .i64 b.seq) ∧ u.cell? ⟨w.heap.size + 1, 2, none⟩ = some (.int .i64 b.pos))) := Lib.hid (fun u hu => by
    obtain ⟨c0, c1, c2⟩ := HX.out.below hu HX.out.lt
    obtain ⟨d0, d1, d2⟩ := HY.out.below hu HY.out.lt
    simp only [Nat.zero_add] at c1 c2 d1 d2
    exact ⟨⟨c0, c1, c2⟩, ⟨d0, d1, d2⟩⟩)
  generalize a.node = xnode at *
  generalize a.seq = xseq at *
  generalize a.pos = xpos at *
  generalize b.node = ynode at *
  generalize b.seq = yseq at *
  generalize b.pos = ypos at *
  go_region_held3 (fun u => (u.cell? ⟨w.heap.size, 0, none⟩ = some (.int .i64 xnode) ∧ u.cell? ⟨w.heap.size, 1, none⟩ = some (.int .i64 xseq) ∧ u.cell? ⟨w.heap.size, 2, none⟩ = some (.int .i64 xpos)) ∧ (u.cell? ⟨w.heap.size + 1, 0, none⟩ = some (.int .i64 ynode) ∧ u.cell? ⟨w.heap.size + 1, 1, none⟩ = some (.int .i64 yseq) ∧ u.cell? ⟨w.heap.size + 1, 2, none⟩ = some (.int .i64 ypos)))
    (first | (exact KE.out _ (Below.refl _ _).drew) | (exact KE.out _ ((Below.refl _ _).alloc (Nat.le_refl _) _).drew))
    (first
      | (go_at_call 49; (with_reducible refine (K3.out _).mono ?_); rintro e w' ⟨rfl, rfl⟩)
      | (go_at_call 49; (with_reducible refine (K4.out _).mono ?_); rintro e w' ⟨rfl, rfl⟩)
      | (go_at_call 49; (with_reducible refine (K5.out _).mono ?_); rintro e w' ⟨rfl, rfl⟩)
      | (go_at_call 47; (with_reducible refine KO.out.mono ?_); rintro e w' ⟨rfl, rfl⟩))
  go_wp2_with fail
  go_ret
  exact ⟨rfl, 1, os2 ++ #[(.cells #[.int .i64 r0, .int .i64 r1, .int .i64 r2] 3)], by rw [HW.out, Sort.alloc_eq_grow, Sort.grow_grow]; rfl⟩

/-! ### SortFunc -/
theorem ltOf_dcmp (x y : PDot) : ltOf dcmp x y = decide (dlt x y) := dcmp_dec x y
theorem swo_dcmp : Sort.SWO (ltOf dcmp) where
  irrefl x := by rw [ltOf_dcmp]; exact decide_eq_false (sto_dot.irrefl x)
  trans x y z h g := by
    rw [ltOf_dcmp] at *
    exact decide_eq_true (sto_dot.trans (of_decide_eq_true h) (of_decide_eq_true g))
  ntrans x y z h g := by
    rw [ltOf_dcmp] at *
    refine decide_eq_false fun k => ?_
    have h' := of_decide_eq_false h
    have g' := of_decide_eq_false g
    by_cases e : x = y
    · subst e; exact g' k
    · exact g' (sto_dot.trans (sto_dot.total h' e) k)
theorem conn_dcmp : ∀ x y, ltOf dcmp x y = false → ltOf dcmp y x = false → x = y := fun x y h g => by
  rw [ltOf_dcmp] at *
  exact sto_dot.conn (of_decide_eq_false h) (of_decide_eq_false g)
theorem entersCmpM : ∀ args w, (callFunc 54 args).run Tryz.prog w = .ok (.enter 54 args) w := enters_of Tryz.func54 (by kernel_rfl) rfl
theorem cmpLaysM (blk off size : Nat) (w : World) : CmpLays Tryz.prog 54 #[] cellsDt 3 dcmp blk off size w := fun _ _ _ _ x y => mcompare_any x y _
theorem dsort_eq (xs : List PDot) : (xs.toArray.toList.mergeSort fun x y => !(ltOf dcmp) y x).toArray = (dsort xs).toArray := by
  have e : (fun x y : PDot => !(ltOf dcmp) y x) = fun x y => !decide (dlt y x) := by
    funext x y
    rw [ltOf_dcmp]
  rw [e]
  rfl
/-- slices.SortFunc of dots of the call's own -/
theorem sort_dots {B : Nat} {v : Value} {xs : List PDot} {w0 w : World} (hv : OwnE LDot B w v xs) (hb : Below B w0 w) (hB : B ≤ w.heap.size) (hx : xs.length ≤ 1000000) :
    Calls Tryz.prog 53 #[v, .func (.func 54) #[] #[]] w fun e w' => e = .returned (.tuple #[]) ∧ Below B w0 w' ∧ B ≤ w'.heap.size ∧ Sq LDot (fun b => B ≤ b ∧ b < w'.heap.size) w' v (dsort xs) := by
  have hl := dsort_len xs
  have hlt := hv.lt
  obtain ⟨a, cap, rfl, h1, h2, hv', h0⟩ := hv.parts
  cases a with
  | none =>
    obtain rfl := h0 rfl
    obtain rfl : xs = [] := List.eq_nil_of_length_eq_zero (by omega)
    refine (AnyF.slices_SortFunc_none Tryz.sortDot none 0 _ w).mono fun e w' ⟨he, hw⟩ => ?_
    subst hw
    refine ⟨he, hb, hB, ?_⟩
    have e : dsort [] = [] := List.eq_nil_of_length_eq_zero hl
    rw [e]
    exact (OwnE.nil B w').new flat_dot
  | some ad =>
    obtain ⟨g, c, e⟩ : ∃ g c, (Value.slice (some ad) xs.length cap) = .slice (some ⟨g, 0, none⟩) xs.length c := by
      obtain ⟨vals, ho, -⟩ := hv'
      rcases ho.2 with ⟨e, -⟩ | ⟨g, c, cur, e, -⟩
      · cases e
      · simp only [Value.slice.injEq, Option.some.injEq] at e
        exact ⟨g, c, by rw [e.1, e.2.2]⟩
    rw [e] at hv hlt hv' ⊢
    obtain ⟨hg1, hg2⟩ := hlt g rfl
    have hd := hv.seq.dims
    have hm : maxLen = 9223372036854775807 := rfl
    have hH := holdsK_of_own (L := LDot) (enc := cellsDt) (fun h => h) (fun _ => rfl) hv
    refine (AnyQ.slices_SortFunc_total Tryz.sortDot 3 Tryz.isAgg36 Tryz.sizeOf36 cellsDt (fun _ => rfl) (fun x => oneDt rfl) dcmp swo_dcmp 54 #[] g 0 c xs.toArray w entersCmpM (cmpLaysM g 0 _ w) hH hg2 (by simp; omega) conn_dcmp).mono fun e w' ⟨he, n, os, hw⟩ => ?_
    rw [dsort_eq] at hw
    have hs : w.heap.size ≤ w'.heap.size := by rw [hw]; exact size_sortK n os
    have hH2 : Sort.HoldsK cellsDt 3 w' g 0 (dsort xs).toArray := by
      rw [hw]
      exact Go.Proofs.holdsK_sortWorldK cellsDt 3 w g 0 n xs.toArray _ os hg2 hH (by simp [hl])
    refine ⟨he, by rw [hw]; exact below_sortK hb hB hg1 n os, by omega, ?_⟩
    have := sq_of_holdsK (L := LDot) (enc := cellsDt) (fun h => h) (fun _ => rfl) hH2 (cap := c) (by rw [hl]; omega) (by omega) (P := fun b => B ≤ b ∧ b < w'.heap.size) ⟨hg1, by omega⟩
    rw [hl] at this
    exact this
end Go.Proofs.YtkmiodpaanohoaaGreat
namespace Go.Proofs.YtkmiodpaanohoaaGreat
open Go.RowKit Plain
set_option linter.unusedVariables false

theorem reqAt_box {w : World} (q : PReq) : ReqAt (w.alloc (.cells #[.int .i64 q.op, .string (bt q.key), .string (bt q.field), .string (bt q.elem), .int .i64 q.n] 41)) w.heap.size 0 q := ⟨by simp, by simp, by simp, by simp, by simp⟩
set_option maxRecDepth 100000 in
set_option maxHeartbeats 2000000 in
/-- mayStand -/
theorem mstand_any (q : PReq) (k : Int) (w : World) : Calls Tryz.prog 31 #[.agg #[.int .i64 q.op, .string (bt q.key), .string (bt q.field), .string (bt q.elem), .int .i64 q.n], .int .i64 k] w (GivesB w (mstand q k)) := by
  have K : Hid (∀ W, Calls Tryz.prog 11 #[.agg #[.string (bt q.key), .string (bt q.field), .int .i64 k, .string (bt q.elem), .int .i64 q.n, .int .i64 0, .int .i64 1, .int .i64 0]] W (GivesB W (mstand q k))) := Lib.hid (fun W => iformed_any (mstandI q k) W)
  have QB : Hid (ReqAt (w.alloc (.cells #[.int .i64 q.op, .string (bt q.key), .string (bt q.field), .string (bt q.elem), .int .i64 q.n] 41)) w.heap.size 0 q) := Lib.hid (reqAt_box q)
  have G := Lib.hid ((Below.refl w.heap.size w).alloc (Nat.le_refl _) (.cells #[.int .i64 q.op, .string (bt q.key), .string (bt q.field), .string (bt q.elem), .int .i64 q.n] 41))
  generalize mstand q k = r at *
  go_enter Tryz.func31, Tryz.ntmps31
  go_upto_region 1 with fail
  generalize (w.alloc (.cells #[.int .i64 q.op, .string (bt q.key), .string (bt q.field), .string (bt q.elem), .int .i64 q.n] 41)) = w1 at *
  have Q2 := QB.out.below ((Below.refl w1.heap.size w1).alloc (Nat.le_refl _) (.cells #[.int .i64 0, .int .i64 1, .int .i64 0] 36)) QB.out.lt
  have D2 : DotAt (w1.alloc (.cells #[.int .i64 0, .int .i64 1, .int .i64 0] 36)) w1.heap.size 0 ⟨0, 1, 0⟩ := ⟨by simp, by simp, by simp⟩
  have G2 := Lib.hid (G.out.alloc G.out.size (.cells #[.int .i64 0, .int .i64 1, .int .i64 0] 36))
  go_upto_region 2 with fail
  generalize (w1.alloc (.cells #[.int .i64 0, .int .i64 1, .int .i64 0] 36)) = w2 at *
  obtain ⟨c0, c1, c2, c3, c4⟩ := Q2
  obtain ⟨d0, d1, d2⟩ := D2
  simp only [Nat.zero_add] at c1 c2 c3 c4 d1 d2
  go_wp2_with fail
  refine (K.out _).mono ?_
  rintro e w3 ⟨rfl, hb⟩
  have G3 := Lib.hid (G2.out.trans (hb.mono G2.out.size))
  clear hb c0 c1 c2 c3 c4 d0 d1 d2
  go_wp2_with fail
  go_ret
  exact ⟨rfl, G3.out⟩

set_option maxRecDepth 100000 in
set_option maxHeartbeats 4000000 in
/-- Formed -/
theorem mformed_eq (q : PReq) (w : World) : Calls Tryz.prog 13 #[.agg #[.int .i64 q.op, .string (bt q.key), .string (bt q.field), .string (bt q.elem), .int .i64 q.n]] w (GivesB w (reqB q)) := by
  have K1 := Lib.hid (fun W => mstand_any q 1 W)
  have K3 := Lib.hid (fun W => mstand_any q 3 W)
  have QB : Hid (ReqAt (w.alloc (.cells #[.int .i64 q.op, .string (bt q.key), .string (bt q.field), .string (bt q.elem), .int .i64 q.n] 41)) w.heap.size 0 q) := Lib.hid (reqAt_box q)
  have G := Lib.hid ((Below.refl w.heap.size w).alloc (Nat.le_refl _) (.cells #[.int .i64 q.op, .string (bt q.key), .string (bt q.field), .string (bt q.elem), .int .i64 q.n] 41))
  have HL := Lib.hid (req_low (q := q))
  have HI := Lib.hid (req_inc (q := q))
  have HD := Lib.hid (req_drop (q := q))
  have HE := Lib.hid (req_else (q := q))
  have tE : ((bt q.elem).toList == []) = decide (q.elem = []) := by
    have := nil_eq q.elem
    rw [this]
    exact decide_eq_decide.2 List.length_eq_zero_iff
  generalize reqB q = r at *
  generalize mstand q 1 = r1 at *
  generalize mstand q 3 = r3 at *
  generalize decide (q.elem = []) = de at *
  go_enter Tryz.func13, Tryz.ntmps13
  go_upto_region 1 with fail
  generalize (w.alloc (.cells #[.int .i64 q.op, .string (bt q.key), .string (bt q.field), .string (bt q.elem), .int .i64 q.n] 41)) = w1 at *
  obtain ⟨c0, c1, c2, c3, c4⟩ := QB.out
  simp only [Nat.zero_add] at c1 c2 c3 c4
  by_cases h1 : q.op = 1
  · have e1 : (q.op == 1) = true := beq_iff_eq.2 h1
    obtain rfl := HL.out (.inl h1)
    clear h1 HL HI HD HE tE
    go_wp2_with fail
    refine (K1.out _).mono ?_
    rintro e w3 ⟨rfl, hb⟩
    have G3 := Lib.hid (G.out.trans (hb.mono G.out.size))
    clear hb c0 c1 c2 c3 c4
    go_wp2_with fail
    go_ret
    exact ⟨rfl, G3.out⟩
  have e1 : (q.op == 1) = false := beq_false_of_ne h1
  by_cases h2 : q.op = 2
  · have e2 : (q.op == 2) = true := beq_iff_eq.2 h2
    obtain rfl := HL.out (.inr (.inl h2))
    clear h1 h2 HL HI HD HE tE
    go_wp2_with fail
    refine (K1.out _).mono ?_
    rintro e w3 ⟨rfl, hb⟩
    have G3 := Lib.hid (G.out.trans (hb.mono G.out.size))
    clear hb c0 c1 c2 c3 c4
    go_wp2_with fail
    go_ret
    exact ⟨rfl, G3.out⟩
  have e2 : (q.op == 2) = false := beq_false_of_ne h2
  by_cases h3 : q.op = 3
  · have e3 : (q.op == 3) = true := beq_iff_eq.2 h3
    obtain rfl := HL.out (.inr (.inr h3))
    clear h1 h2 h3 HL HI HD HE tE
    go_wp2_with fail
    refine (K1.out _).mono ?_
    rintro e w3 ⟨rfl, hb⟩
    have G3 := Lib.hid (G.out.trans (hb.mono G.out.size))
    clear hb c0 c1 c2 c3 c4
    go_wp2_with fail
    go_ret
    exact ⟨rfl, G3.out⟩
  have e3 : (q.op == 3) = false := beq_false_of_ne h3
  by_cases h4 : q.op = 4
  · have e4 : (q.op == 4) = true := beq_iff_eq.2 h4
    obtain rfl := HI.out h4
    clear h1 h2 h3 h4 HL HI HD HE tE
    go_wp2_with fail
    refine (K3.out _).mono ?_
    rintro e w3 ⟨rfl, hb⟩
    have G3 := Lib.hid (G.out.trans (hb.mono G.out.size))
    clear hb c0 c1 c2 c3 c4
    go_wp2_with fail
    go_ret
    exact ⟨rfl, G3.out⟩
  have e4 : (q.op == 4) = false := beq_false_of_ne h4
  by_cases h5 : q.op = 5
  · have e5 : (q.op == 5) = true := beq_iff_eq.2 h5
    obtain rfl := HD.out h5
    clear h1 h2 h3 h4 h5 HL HI HD HE
    cases de with
    | false =>
      rw [Bool.false_and]
      go_wp2_with fail
      go_ret
      exact ⟨rfl, G.out⟩
    | true =>
      rw [Bool.true_and]
      go_wp2_with fail
      refine (K1.out _).mono ?_
      rintro e w3 ⟨rfl, hb⟩
      have G3 := Lib.hid (G.out.trans (hb.mono G.out.size))
      clear hb c0 c1 c2 c3 c4
      go_wp2_with fail
      go_ret
      exact ⟨rfl, G3.out⟩
  have e5 : (q.op == 5) = false := beq_false_of_ne h5
  obtain rfl := HE.out h1 h2 h3 h4 h5
  clear h1 h2 h3 h4 h5 HL HI HD HE tE
  go_wp2_with fail
  go_ret
  exact ⟨rfl, G.out⟩

theorem entersRefused : ∀ args w, (callFunc 33 args).run Tryz.prog w = .ok (.enter 33 args) w := enters_of Tryz.func33 (by kernel_rfl) rfl
set_option maxRecDepth 100000 in
set_option maxHeartbeats 2000000 in
theorem givesRefused (q : PReq) (w : World) : Calls Tryz.prog 33 #[.agg #[.int .i64 q.op, .string (bt q.key), .string (bt q.field), .string (bt q.elem), .int .i64 q.n]] w (GivesB w (!reqB q)) := by
  have K := Lib.hid (fun W => mformed_eq q W)
  have QB : Hid (ReqAt (w.alloc (.cells #[.int .i64 q.op, .string (bt q.key), .string (bt q.field), .string (bt q.elem), .int .i64 q.n] 41)) w.heap.size 0 q) := Lib.hid (reqAt_box q)
  have G := Lib.hid ((Below.refl w.heap.size w).alloc (Nat.le_refl _) (.cells #[.int .i64 q.op, .string (bt q.key), .string (bt q.field), .string (bt q.elem), .int .i64 q.n] 41))
  generalize reqB q = r at *
  go_enter Tryz.func33, Tryz.ntmps33
  go_upto_region 1 with fail
  generalize (w.alloc (.cells #[.int .i64 q.op, .string (bt q.key), .string (bt q.field), .string (bt q.elem), .int .i64 q.n] 41)) = w1 at *
  obtain ⟨c0, c1, c2, c3, c4⟩ := QB.out
  simp only [Nat.zero_add] at c1 c2 c3 c4
  go_wp2_with fail
  refine (K.out _).mono ?_
  rintro e w3 ⟨rfl, hb⟩
  have G3 := Lib.hid (G.out.trans (hb.mono G.out.size))
  clear hb c0 c1 c2 c3 c4
  go_wp2_with fail
  go_ret
  exact ⟨rfl, G3.out⟩

/-- the error that no items can mend -/
def mref (node seq : Int) (l : List PReq) : Int := if inRange node seq = false then 1 else if 8 < l.length then 4 else if l.all reqB = false then 2 else 0
theorem mref_range {node seq : Int} {l : List PReq} (h : ¬ (0 ≤ node ∧ node ≤ 7 ∧ 1 ≤ seq ∧ seq ≤ 1073741824)) : mref node seq l = 1 := by
  unfold mref inRange
  rw [if_pos (decide_eq_false h)]
theorem mref_long {node seq : Int} {l : List PReq} (h : 0 ≤ node ∧ node ≤ 7 ∧ 1 ≤ seq ∧ seq ≤ 1073741824) (g : 8 < l.length) : mref node seq l = 4 := by
  unfold mref inRange
  rw [if_neg (by rw [decide_eq_true h]; decide), if_pos g]
theorem any_not_all {l : List PReq} : (l.any fun q => !reqB q) = !(l.all reqB) := by
  induction l with
  | nil => rfl
  | cons q l ih => rw [List.any_cons, List.all_cons, ih]; cases reqB q <;> rfl
theorem mref_form {node seq : Int} {l : List PReq} (h : 0 ≤ node ∧ node ≤ 7 ∧ 1 ≤ seq ∧ seq ≤ 1073741824) (g : l.length ≤ 8) : mref node seq l = if (l.any fun q => !reqB q) = true then 2 else 0 := by
  unfold mref inRange
  rw [if_neg (by rw [decide_eq_true h]; decide), if_neg (by omega), any_not_all]
  cases l.all reqB <;> rfl
set_option maxRecDepth 100000 in
set_option maxHeartbeats 4000000 in
/-- refused -/
theorem mrefused_any (node seq : Int) {v : Value} {l : List PReq} {w : World} (hv : SeqE LReq w v l) : Calls Tryz.prog 15 #[.int .i64 node, .int .i64 seq, v] w fun e w' => e = .returned (.int .i64 (mref node seq l)) ∧ Below w.heap.size w w' := by
  have HR := Lib.hid (mref_range (node := node) (seq := seq) (l := l))
  have HL := Lib.hid (mref_long (node := node) (seq := seq) (l := l))
  have HF := Lib.hid (mref_form (node := node) (seq := seq) (l := l))
  have HK := Lib.hid (fun (h : l.length ≤ 8) => mcontains_any hv (by omega) (fun q => !reqB q) _ #[] entersRefused (fun W d _ => by
    have := givesRefused d W
    rw [rqv_eq5]
    exact this))
  obtain ⟨a, cap, rfl, g1, g2, -, -⟩ := hv.parts
  clear hv
  generalize (l.any fun q => !reqB q) = bad at *
  generalize mref node seq l = r at *
  generalize l.length = n at *
  by_cases h0 : node < 0
  · obtain rfl := HR.out (by omega)
    go_enter Tryz.func15, Tryz.ntmps15
    go_wp2_with fail
    go_ret
    exact ⟨rfl, Below.refl _ _⟩
  by_cases h1 : 8 ≤ node
  · obtain rfl := HR.out (by omega)
    go_enter Tryz.func15, Tryz.ntmps15
    go_wp2_with fail
    go_ret
    exact ⟨rfl, Below.refl _ _⟩
  by_cases h2 : seq < 1
  · obtain rfl := HR.out (by omega)
    go_enter Tryz.func15, Tryz.ntmps15
    go_wp2_with fail
    go_ret
    exact ⟨rfl, Below.refl _ _⟩
  by_cases h3 : 1073741824 < seq
  · obtain rfl := HR.out (by omega)
    go_enter Tryz.func15, Tryz.ntmps15
    go_wp2_with fail
    go_ret
    exact ⟨rfl, Below.refl _ _⟩
  by_cases h4 : (8 : Int) < (n : Int)
  · obtain rfl := HL.out (by omega) (by omega)
    go_enter Tryz.func15, Tryz.ntmps15
    go_wp2_with fail
    go_ret
    exact ⟨rfl, Below.refl _ _⟩
  have K := HK.out (by omega)
  have HB := HF.out (by omega) (by omega)
  clear HR HL HF HK
  cases bad with
  | false =>
    obtain rfl := HB
    go_enter Tryz.func15, Tryz.ntmps15
    go_wp2_with fail
    refine K.mono ?_
    rintro e w3 ⟨rfl, hb⟩
    go_wp2_with fail
    go_ret
    exact ⟨rfl, hb⟩
  | true =>
    obtain rfl := HB
    go_enter Tryz.func15, Tryz.ntmps15
    go_wp2_with fail
    refine K.mono ?_
    rintro e w3 ⟨rfl, hb⟩
    go_wp2_with fail
    go_ret
    exact ⟨rfl, hb⟩
end Go.Proofs.YtkmiodpaanohoaaGreat
namespace Go.Proofs.YtkmiodpaanohoaaGreat
open Go.RowKit Plain
set_option linter.unusedVariables false

theorem takes_key {node : Int} {q : PReq} {x : PItem} (h : ¬ x.key = q.key) : takesB node q x = false := by unfold takesB inField; rw [decide_eq_false h]; rfl
theorem takes_field {node : Int} {q : PReq} {x : PItem} (h : ¬ x.field = q.field) : takesB node q x = false := by unfold takesB inField; rw [decide_eq_false h, Bool.and_false]; rfl
theorem takes_same {node : Int} {q : PReq} {x : PItem} (h : x.key = q.key) (g : x.field = q.field) : takesB node q x = if q.op = 1 ∨ q.op = 2 then decide (x.kind = 1) && decide (x.elem = q.elem) else if q.op = 3 then decide (x.kind = 2) else if q.op = 4 then decide (x.kind = 3) && decide (x.dot.node = node) else true := by
  unfold takesB inField
  rw [decide_eq_true h, decide_eq_true g]
  rfl
set_option maxRecDepth 100000 in
set_option maxHeartbeats 8000000 in
/-- goes -/
theorem mgoes_any (node : Int) (q : PReq) (x : PItem) (w : World) : Calls Tryz.prog 34 #[.agg #[.string (bt x.key), .string (bt x.field), .int .i64 x.kind, .string (bt x.elem), .int .i64 x.n, .int .i64 x.dot.node, .int .i64 x.dot.seq, .int .i64 x.dot.pos], .int .i64 node, .agg #[.int .i64 q.op, .string (bt q.key), .string (bt q.field), .string (bt q.elem), .int .i64 q.n]] w (GivesB w (takesB node q x)) := by
  have IB : Hid (ItemAt ((w.alloc (.cells #[.string (bt x.key), .string (bt x.field), .int .i64 x.kind, .string (bt x.elem), .int .i64 x.n, .int .i64 x.dot.node, .int .i64 x.dot.seq, .int .i64 x.dot.pos] 38)).alloc (.cells #[.int .i64 q.op, .string (bt q.key), .string (bt q.field), .string (bt q.elem), .int .i64 q.n] 41)) w.heap.size 0 x) := Lib.hid ⟨(two_cells w _ _ _ _ 0).1, (two_cells w _ _ _ _ 1).1, (two_cells w _ _ _ _ 2).1, (two_cells w _ _ _ _ 3).1, (two_cells w _ _ _ _ 4).1, (two_cells w _ _ _ _ 5).1, (two_cells w _ _ _ _ 6).1, (two_cells w _ _ _ _ 7).1⟩
  have QB : Hid (ReqAt ((w.alloc (.cells #[.string (bt x.key), .string (bt x.field), .int .i64 x.kind, .string (bt x.elem), .int .i64 x.n, .int .i64 x.dot.node, .int .i64 x.dot.seq, .int .i64 x.dot.pos] 38)).alloc (.cells #[.int .i64 q.op, .string (bt q.key), .string (bt q.field), .string (bt q.elem), .int .i64 q.n] 41)) (w.heap.size + 1) 0 q) := Lib.hid ⟨(two_cells w _ _ _ _ 0).2, (two_cells w _ _ _ _ 1).2, (two_cells w _ _ _ _ 2).2, (two_cells w _ _ _ _ 3).2, (two_cells w _ _ _ _ 4).2⟩
  have G : Hid (Below w.heap.size w ((w.alloc (.cells #[.string (bt x.key), .string (bt x.field), .int .i64 x.kind, .string (bt x.elem), .int .i64 x.n, .int .i64 x.dot.node, .int .i64 x.dot.seq, .int .i64 x.dot.pos] 38)).alloc (.cells #[.int .i64 q.op, .string (bt q.key), .string (bt q.field), .string (bt q.elem), .int .i64 q.n] 41))) := Lib.hid (((Below.refl _ _).alloc (Nat.le_refl _) _).alloc (by simp) _)
  have HK := Lib.hid (takes_key (node := node) (q := q) (x := x))
  have HF := Lib.hid (takes_field (node := node) (q := q) (x := x))
  have HS := Lib.hid (takes_same (node := node) (q := q) (x := x))
  have t1 := text_eq x.key q.key
  have t2 := text_eq x.field q.field
  have t3 := text_eq x.elem q.elem
  have tn := beq_int x.dot.node node
  have k1 := beq_int x.kind 1
  have k2 := beq_int x.kind 2
  have k3 := beq_int x.kind 3
  have TN := Lib.hid tn
  have K1 := Lib.hid k1
  have K2 := Lib.hid k2
  have K3 := Lib.hid k3
  have T3 := Lib.hid t3
  clear tn k1 k2 k3 t3
  generalize takesB node q x = r at *
  go_enter Tryz.func34, Tryz.ntmps34
  go_upto_region 1 with fail
  generalize ((w.alloc (.cells #[.string (bt x.key), .string (bt x.field), .int .i64 x.kind, .string (bt x.elem), .int .i64 x.n, .int .i64 x.dot.node, .int .i64 x.dot.seq, .int .i64 x.dot.pos] 38)).alloc (.cells #[.int .i64 q.op, .string (bt q.key), .string (bt q.field), .string (bt q.elem), .int .i64 q.n] 41)) = w2 at *
  obtain ⟨c0, c1, c2, c3, c4, c5, c6, c7⟩ := IB.out
  obtain ⟨d0, d1, d2, d3, d4⟩ := QB.out
  simp only [Nat.zero_add] at c1 c2 c3 c4 c5 c6 c7 d1 d2 d3 d4
  by_cases h1 : x.key = q.key
  rotate_left
  · obtain rfl : r = false := HK.out h1
    rw [decide_eq_false h1] at t1
    clear h1 HK HF HS t2
    go_wp2_with fail
    go_ret
    exact ⟨rfl, G.out⟩
  rw [decide_eq_true h1] at t1
  by_cases h2 : x.field = q.field
  rotate_left
  · obtain rfl : r = false := HF.out h2
    rw [decide_eq_false h2] at t2
    clear h1 h2 HK HF HS
    go_wp2_with fail
    go_ret
    exact ⟨rfl, G.out⟩
  rw [decide_eq_true h2] at t2
  replace HS := Lib.hid (HS.out h1 h2)
  clear h1 h2 HK HF
  by_cases e1 : q.op = 1
  · have b1 : (q.op == 1) = true := beq_iff_eq.2 e1
    rw [if_pos (.inl e1)] at HS
    have k1 := K1.out
    have t3 := T3.out
    generalize decide (x.elem = q.elem) = de at *
    clear e1
    cases hk : decide (x.kind = 1) with
    | false =>
      rw [hk] at k1 HS
      obtain rfl : r = false := HS.out
      clear hk HS K1 T3 t3
      go_wp2_with fail
      go_ret
      exact ⟨rfl, G.out⟩
    | true =>
      rw [hk, Bool.true_and] at HS
      rw [hk] at k1
      obtain rfl : r = de := HS.out
      clear hk HS K1 T3
      go_wp2_with fail
      go_ret
      exact ⟨rfl, G.out⟩
  have b1 : (q.op == 1) = false := beq_false_of_ne e1
  by_cases e2 : q.op = 2
  · have b2 : (q.op == 2) = true := beq_iff_eq.2 e2
    rw [if_pos (.inr e2)] at HS
    have k1 := K1.out
    have t3 := T3.out
    generalize decide (x.elem = q.elem) = de at *
    clear e1 e2
    cases hk : decide (x.kind = 1) with
    | false =>
      rw [hk] at k1 HS
      obtain rfl : r = false := HS.out
      clear hk HS K1 T3 t3
      go_wp2_with fail
      go_ret
      exact ⟨rfl, G.out⟩
    | true =>
      rw [hk, Bool.true_and] at HS
      rw [hk] at k1
      obtain rfl : r = de := HS.out
      clear hk HS K1 T3
      go_wp2_with fail
      go_ret
      exact ⟨rfl, G.out⟩
  have b2 : (q.op == 2) = false := beq_false_of_ne e2
  rw [if_neg (fun h => h.elim e1 e2)] at HS
  by_cases e3 : q.op = 3
  · have b3 : (q.op == 3) = true := beq_iff_eq.2 e3
    rw [if_pos e3] at HS
    have k2 := K2.out
    generalize decide (x.kind = 2) = dk at *
    obtain rfl : r = dk := HS.out
    clear e1 e2 e3 HS K2
    go_wp2_with fail
    go_ret
    exact ⟨rfl, G.out⟩
  have b3 : (q.op == 3) = false := beq_false_of_ne e3
  rw [if_neg e3] at HS
  by_cases e4 : q.op = 4
  · have b4 : (q.op == 4) = true := beq_iff_eq.2 e4
    rw [if_pos e4] at HS
    have k3 := K3.out
    have tn := TN.out
    generalize decide (x.dot.node = node) = de at *
    clear e1 e2 e3 e4
    cases hk : decide (x.kind = 3) with
    | false =>
      rw [hk] at k3 HS
      obtain rfl : r = false := HS.out
      clear hk HS K3 TN tn
      go_wp2_with fail
      go_ret
      exact ⟨rfl, G.out⟩
    | true =>
      rw [hk, Bool.true_and] at HS
      rw [hk] at k3
      obtain rfl : r = de := HS.out
      clear hk HS K3 TN
      go_wp2_with fail
      go_ret
      exact ⟨rfl, G.out⟩
  have b4 : (q.op == 4) = false := beq_false_of_ne e4
  rw [if_neg e4] at HS
  obtain rfl : r = true := HS.out
  clear e1 e2 e3 e4 HS
  go_wp2_with fail
  go_ret
  exact ⟨rfl, G.out⟩

set_option maxRecDepth 100000 in
set_option maxHeartbeats 2000000 in
/-- slices.Compact of dots of which no two neighbours are the same -/
theorem dcompact_any {v : Value} {xs : List PDot} {w : World} (hv : SeqE LDot w v xs) (hn : xs.length ≤ 1000000) (hr : ∀ k, k + 1 < xs.length → decide (xs.getD (k + 1) default = xs.getD k default) = false) :
    Calls Tryz.prog 55 #[v] w fun e w' => e = .returned v ∧ ∃ q, w' = w.drewN q := by
  obtain ⟨a, cap, rfl, g1, g2, g0, h⟩ := hv.parts
  have HS := Lib.hid h
  have HR := Lib.hid hr
  clear hv h g0 hr
  obtain ⟨n, hN⟩ : ∃ n, xs.length = n := ⟨_, rfl⟩
  rw [hN] at hn g1 HS HR ⊢
  have LN := Lib.hid hN
  clear hN
  by_cases hs : (n : Int) < 2
  · go_enter Tryz.func55, Tryz.ntmps55
    go_wp2_with fail
    go_ret
    exact ⟨rfl, 0, rfl⟩
  go_enter Tryz.func55, Tryz.ntmps55
  go_wp2_with fail
  go_loopw [3] (fun i wr => ∃ k : Nat, 1 ≤ k ∧ k ≤ n ∧ i = .int .i64 k ∧ ∃ q, wr = w.drewN q) (fun i _ => n - (intOf i).toNat)
  case atStart => exact ⟨1, Nat.le_refl _, by omega, rfl, 0, rfl⟩
  case round =>
    obtain ⟨k, hk1, hk, rfl, q, rfl⟩ := hrel
    by_cases hlt : k < n
    · obtain ⟨p, rfl⟩ : ∃ p, k = p + 1 := ⟨k - 1, by omega⟩
      obtain ⟨b, o, c, hv, -, -, -, hc⟩ := dots_spot HS.out (by rw [LN.out]; omega)
      rw [LN.out] at hv
      simp only [Value.slice.injEq] at hv
      obtain ⟨rfl, -, rfl⟩ := hv
      obtain ⟨c0, c1, c2⟩ := hc (p + 1) (by rw [LN.out]; exact hlt)
      obtain ⟨d0, d1, d2⟩ := hc p (by rw [LN.out]; omega)
      have hd := HR.out p hlt
      have hq := fun w => eql_dot (xs.getD (p + 1) default) (xs.getD p default) w
      rw [hd] at hq
      have q2 : IntKind.i64.wrap ((p : Int) + 1 - 1) = (p : Int) := by rw [show (p : Int) + 1 - 1 = p by omega]; exact IntWalk.i64_in _ (by omega)
      have q3 : IntKind.i64.wrap (p : Int) = (p : Int) := IntWalk.i64_in _ (by omega)
      clear hc hd
      generalize xs.getD (p + 1) default = x at *
      generalize xs.getD p default = y at *
      go_wp2_with fail
      go_quiet (fail)
      go_wp2_with fail
      go_roundw
      case rel => exact ⟨p + 1 + 1, by omega, by omega, by go_num, _, rfl⟩
      case measure => simp [intOf]; omega
    · obtain rfl : k = n := by omega
      go_wp2_with fail
      go_ret
      exact ⟨rfl, _, rfl⟩

theorem upto_every {α : Type} (f : PItem → α) (l : List PItem) : upto (fun _ => true) f l l.length = l.map f := by
  rw [upto_all, List.filter_eq_self.2 (fun _ _ => rfl)]
theorem one_dot (w : World) (d : PDot) : SeqE LDot (w.alloc (.cells #[.int .i64 d.node, .int .i64 d.seq, .int .i64 d.pos] 36)) (.slice (some ⟨w.heap.size, 0, none⟩) 1 1) [d] :=
  SeqE.one (L := LDot) (w := w) (vs := cellsDt d) (x := d) rfl #[.int .i64 d.node, .int .i64 d.seq, .int .i64 d.pos] rfl
set_option maxRecDepth 100000 in
set_option maxHeartbeats 4000000 in
/-- dots -/
theorem mdots_any {v : Value} {l : List PItem} {w : World} (hv : SeqE LItem w v l) (hn : l.length ≤ 1000) (hd : (l.map (·.dot)).Nodup) :
    Calls Tryz.prog 35 #[v] w (GivesN LDot w (rdots l)) := by
  have HRD := Lib.hid (rdots_sort hd)
  rw [HRD.out]
  have HRI := Lib.hid (dsort_ris hd)
  have HDL := Lib.hid (dsort_len (l.map (·.dot)))
  have PY0 := Lib.hid (fun k (hk : k < l.length) => upto_yes hk (fun _ => true) (fun x => x.dot) rfl)
  have P00 := Lib.hid (upto_zero (fun _ => true) (fun x => x.dot) l)
  have HPA := Lib.hid (upto_every (fun x => x.dot) l)
  have HML : Hid ((l.map (·.dot)).length ≤ 1000) := Lib.hid (by rw [List.length_map]; exact hn)
  have HL0 : Hid (∀ k, (upto (fun _ => true) (fun x => x.dot) l k).length ≤ 1000) := Lib.hid (fun k => Nat.le_trans (upto_len _ _ _ _) hn)
  obtain ⟨a, cap, rfl, g1, g2, g0, h⟩ := hv.parts
  have HS := Lib.hid h
  clear hv h g0 hd
  obtain ⟨n, hN⟩ : ∃ n, l.length = n := ⟨_, rfl⟩
  rw [hN] at g1 hn HS PY0 HPA ⊢
  have LN := Lib.hid hN
  clear hN
  generalize upto (fun _ => true) (fun x => x.dot) l = P at *
  generalize l.map (·.dot) = M at *
  go_enter Tryz.func35, Tryz.ntmps35
  go_wp2_with fail
  go_loopw [3, 5, 8] (fun z _ i wr => ∃ k : Nat, k ≤ n ∧ i = .int .i64 k ∧ OwnE LDot w.heap.size wr z (P k) ∧ Below w.heap.size w wr) (fun _ _ i _ => n - (intOf i).toNat)
  case atStart => exact ⟨0, Nat.zero_le _, rfl, by rw [P00.out]; exact OwnE.nil _ _, Below.refl _ _⟩
  case round =>
    obtain ⟨k, hk, rfl, ho, hb⟩ := hrel
    have HO := Lib.hid ho
    have HB := Lib.hid hb
    have HL := Lib.hid (HL0.out k)
    clear ho hb
    by_cases hlt : k < n
    · have HX := Lib.hid (PY0.out k hlt)
      obtain ⟨b, o, c, hv, -, -, -, hc⟩ := items_spot (HS.out.below HB.out) (by rw [LN.out]; omega)
      rw [LN.out] at hv
      simp only [Value.slice.injEq] at hv
      obtain ⟨rfl, -, rfl⟩ := hv
      obtain ⟨c0, c1, c2, c3, c4, c5, c6, c7⟩ := hc k (by rw [LN.out]; exact hlt)
      clear hc
      generalize l.getD k default = x at *
      have O1 := Lib.hid (HO.out.alloc (.cells #[.string (bt x.key), .string (bt x.field), .int .i64 x.kind, .string (bt x.elem), .int .i64 x.n, .int .i64 x.dot.node, .int .i64 x.dot.seq, .int .i64 x.dot.pos] 38))
      have G1 := Lib.hid (HB.out.alloc HB.out.size (.cells #[.string (bt x.key), .string (bt x.field), .int .i64 x.kind, .string (bt x.elem), .int .i64 x.n, .int .i64 x.dot.node, .int .i64 x.dot.seq, .int .i64 x.dot.pos] 38))
      have IB : Hid (ItemAt (wr.alloc (.cells #[.string (bt x.key), .string (bt x.field), .int .i64 x.kind, .string (bt x.elem), .int .i64 x.n, .int .i64 x.dot.node, .int .i64 x.dot.seq, .int .i64 x.dot.pos] 38)) wr.heap.size 0 x) := Lib.hid ⟨by simp, by simp, by simp, by simp, by simp, by simp, by simp, by simp⟩
      go_upto_region 5 with fail
      clear c0 c1 c2 c3 c4 c5 c6 c7
      generalize (wr.alloc (.cells #[.string (bt x.key), .string (bt x.field), .int .i64 x.kind, .string (bt x.elem), .int .i64 x.n, .int .i64 x.dot.node, .int .i64 x.dot.seq, .int .i64 x.dot.pos] 38)) = wb at *
      obtain ⟨d0, d1, d2, d3, d4, d5, d6, d7⟩ := IB.out
      simp only [Nat.zero_add] at d1 d2 d3 d4 d5 d6 d7
      have S1 := Lib.hid (fun (W : World) => one_dot W x.dot)
      go_wp2_with (at_builtin; refine wpList_append_el LDot rfl (.tmp 12) (.tmp 15) rfl w.heap.size rfl (O1.out.alloc _) rfl (S1.out _) (fun _ _ h => h) (by have := HL.out; simp at *; omega) (by have := G1.out.size; simp; omega) ?_)
      intro v' w2 ho' hgr _
      have O2 := Lib.hid ho'
      rw [← HX.out] at O2
      have G2 : Hid (Below w.heap.size w w2) := Lib.hid ((G1.out.alloc G1.out.size _).grown hgr (by have := G1.out.size; simp; omega) (fun j hj => (O1.out.lt j hj).1))
      clear ho' hgr
      go_wp2_with fail
      go_roundw
      case rel => exact ⟨k + 1, by omega, by go_num, O2.out, G2.out⟩
      case measure => simp [intOf]; omega
    · obtain rfl : k = n := by omega
      rw [HPA.out] at HO HL
      have K := sort_dots HO.out HB.out HB.out.size (by have := HL.out; omega)
      obtain ⟨a2, c2, rfl, -⟩ := HO.out.parts
      clear HO
      generalize hm : M.length = m at *
      go_wp2_with fail
      refine K.mono ?_
      rintro e w2 ⟨rfl, hb, hs, hq⟩
      have K2 := dcompact_any hq.seq (by rw [HDL.out]; have := HML.out; omega) (fun k hk => ris_next HRI.out hk)
      have SQ := Lib.hid hq
      have B2 := Lib.hid hb
      clear hb hq K
      go_wp2_with fail
      refine K2.mono ?_
      rintro e w3 ⟨rfl, q, rfl⟩
      clear K2
      go_wp2_with fail
      go_ret
      exact ⟨_, rfl, SQ.out.agree (fun b hb => rfl), below_drewN B2.out _⟩

theorem tot_front (n : Int) (l : List Int) : Nm.Plain.tot (n :: l) = Nm.Plain.tot (l ++ [n]) := by
  rw [Nm.Plain.tot_append, Nm.Plain.tot_cons, Nm.Plain.tot_cons, Nm.Plain.tot_nil]
  omega
theorem own_one (w : World) (x : Int) : OwnE LI64 w.heap.size (w.alloc (.cells #[.int .i64 x] 2)) (.slice (some ⟨w.heap.size, 0, none⟩) 1 1) [x] :=
  ⟨[.int .i64 x], ⟨rfl, .inr ⟨w.heap.size, 1, #[.int .i64 x], rfl, Nat.le_refl _, heap_alloc_new w _, Nat.le_refl _, by decide, rfl, rfl⟩⟩, Rows.of_one rfl⟩
set_option maxRecDepth 100000 in
set_option maxHeartbeats 4000000 in
/-- sum -/
theorem msum_any (q0 : Int) {v : Value} {l : List PItem} {w : World} (hv : SeqE LItem w v l) (hn : l.length ≤ 1000) (hq : Nm.Plain.fits q0) (hf : ∀ x ∈ l, Nm.Plain.fits x.n) :
    Calls Tryz.prog 36 #[.int .i64 q0, v] w fun e w' => e = .returned (.tuple #[.int .i64 (Nm.Plain.sumV (Nm.Plain.tot (l.map (·.n) ++ [q0]))), .int .i64 (Nm.Plain.sumE (Nm.Plain.tot (l.map (·.n) ++ [q0])))]) ∧ Below w.heap.size w w' := by
  have KT := Lib.hid (fun (W : World) (u : Value) (h : SeqE LI64 W u (q0 :: l.map (·.n))) => Nm.tot_seq (nm_of h) (by rw [List.length_cons, List.length_map]; omega) (fun n hn => by
    rcases List.mem_cons.1 hn with rfl | hn
    · exact hq
    · obtain ⟨x, hx, rfl⟩ := List.mem_map.1 hn
      exact hf x hx))
  rw [tot_front] at KT
  have PY0 := Lib.hid (fun k (hk : k < l.length) => upto_yes hk (fun _ => true) (fun x => x.n) rfl)
  have P00 := Lib.hid (upto_zero (fun _ => true) (fun x => x.n) l)
  have HPA := Lib.hid (upto_every (fun x => x.n) l)
  have HL0 : Hid (∀ k, (upto (fun _ => true) (fun x => x.n) l k).length ≤ 1000) := Lib.hid (fun k => Nat.le_trans (upto_len _ _ _ _) hn)
  generalize Nm.Plain.tot (l.map (·.n) ++ [q0]) = TT at *
  generalize Nm.Plain.sumV TT = sV at *
  generalize Nm.Plain.sumE TT = sE at *
  obtain ⟨a, cap, rfl, g1, g2, g0, h⟩ := hv.parts
  have HS := Lib.hid h
  clear hv h g0 hq hf
  obtain ⟨n, hN⟩ : ∃ n, l.length = n := ⟨_, rfl⟩
  rw [hN] at g1 hn HS PY0 HPA ⊢
  have LN := Lib.hid hN
  clear hN
  generalize upto (fun _ => true) (fun x => x.n) l = P at *
  generalize l.map (·.n) = M at *
  have O0 : Hid (OwnE LI64 w.heap.size (w.alloc (.cells #[.int .i64 q0] 2)) (.slice (some ⟨w.heap.size, 0, none⟩) 1 1) (q0 :: P 0)) := Lib.hid (by rw [P00.out]; exact own_one w q0)
  have G0 := Lib.hid ((Below.refl w.heap.size w).alloc (Nat.le_refl _) (.cells #[.int .i64 q0] 2))
  go_enter Tryz.func36, Tryz.ntmps36
  go_upto_region 2 with fail
  generalize (w.alloc (.cells #[.int .i64 q0] 2)) = w1 at *
  go_wp2_with fail
  go_loopw [6, 8, 13] (fun z _ i wr => ∃ k : Nat, k ≤ n ∧ i = .int .i64 k ∧ OwnE LI64 w.heap.size wr z (q0 :: P k) ∧ Below w.heap.size w wr) (fun _ _ i _ => n - (intOf i).toNat)
  case atStart => exact ⟨0, Nat.zero_le _, rfl, O0.out, G0.out⟩
  case round =>
    obtain ⟨k, hk, rfl, ho, hb⟩ := hrel
    have HO := Lib.hid ho
    have HB := Lib.hid hb
    have HL := Lib.hid (HL0.out k)
    clear ho hb
    by_cases hlt : k < n
    · have HX := Lib.hid (PY0.out k hlt)
      obtain ⟨b, o, c, hv, -, -, -, hc⟩ := items_spot (HS.out.below HB.out) (by rw [LN.out]; omega)
      rw [LN.out] at hv
      simp only [Value.slice.injEq] at hv
      obtain ⟨rfl, -, rfl⟩ := hv
      obtain ⟨c0, c1, c2, c3, c4, c5, c6, c7⟩ := hc k (by rw [LN.out]; exact hlt)
      clear hc
      generalize l.getD k default = x at *
      have O1 := Lib.hid (HO.out.alloc (.cells #[.string (bt x.key), .string (bt x.field), .int .i64 x.kind, .string (bt x.elem), .int .i64 x.n, .int .i64 x.dot.node, .int .i64 x.dot.seq, .int .i64 x.dot.pos] 38))
      have G1 := Lib.hid (HB.out.alloc HB.out.size (.cells #[.string (bt x.key), .string (bt x.field), .int .i64 x.kind, .string (bt x.elem), .int .i64 x.n, .int .i64 x.dot.node, .int .i64 x.dot.seq, .int .i64 x.dot.pos] 38))
      have IB : Hid (ItemAt (wr.alloc (.cells #[.string (bt x.key), .string (bt x.field), .int .i64 x.kind, .string (bt x.elem), .int .i64 x.n, .int .i64 x.dot.node, .int .i64 x.dot.seq, .int .i64 x.dot.pos] 38)) wr.heap.size 0 x) := Lib.hid ⟨by simp, by simp, by simp, by simp, by simp, by simp, by simp, by simp⟩
      go_upto_region 5 with fail
      clear c0 c1 c2 c3 c4 c5 c6 c7
      generalize (wr.alloc (.cells #[.string (bt x.key), .string (bt x.field), .int .i64 x.kind, .string (bt x.elem), .int .i64 x.n, .int .i64 x.dot.node, .int .i64 x.dot.seq, .int .i64 x.dot.pos] 38)) = wb at *
      obtain ⟨d0, d1, d2, d3, d4, d5, d6, d7⟩ := IB.out
      simp only [Nat.zero_add] at d1 d2 d3 d4 d5 d6 d7
      have S1 := Lib.hid (fun (W : World) => one_i64 W x.n)
      go_wp2_with (at_builtin; refine wpList_append_el LI64 rfl (.tmp 17) (.tmp 20) rfl w.heap.size rfl (O1.out.alloc _) rfl (S1.out _) (fun _ _ h => h) (by have := HL.out; simp at *; omega) (by have := G1.out.size; simp; omega) ?_)
      intro v' w2 ho' hgr _
      have O2 := Lib.hid ho'
      replace O2 := Lib.hid (show OwnE LI64 w.heap.size w2 v' (q0 :: (P k ++ [x.n])) from O2.out)
      rw [← HX.out] at O2
      have G2 : Hid (Below w.heap.size w w2) := Lib.hid ((G1.out.alloc G1.out.size _).grown hgr (by have := G1.out.size; simp; omega) (fun j hj => (O1.out.lt j hj).1))
      clear ho' hgr
      go_wp2_with fail
      go_roundw
      case rel => exact ⟨k + 1, by omega, by go_num, O2.out, G2.out⟩
      case measure => simp [intOf]; omega
    · obtain rfl : k = n := by omega
      rw [HPA.out] at HO
      have K := KT.out wr _ HO.out.seq
      obtain ⟨a2, c2, rfl, -⟩ := HO.out.parts
      clear HO
      generalize (q0 :: M).length = m at *
      go_wp2_with fail
      refine K.mono ?_
      rintro e w2 ⟨rfl, rfl⟩
      clear K
      go_wp2_with fail
      go_ret2
      exact ⟨rfl, HB.out⟩
end Go.Proofs.YtkmiodpaanohoaaGreat
namespace Go.Proofs.YtkmiodpaanohoaaGreat
open Go.RowKit Plain
set_option linter.unusedVariables false

/-! ### two variables that hold effects -/
/-- R: the result's, g: the call's own; dv reads as D, in blocks that are none of the two -/
structure EfSt (w : World) (R g : Nat) (rv ev : Array Value) (dv : Value) (D : List PDot) (u : World) : Prop where
  r : u.heap[R]? = some (.cells rv 45 (0, 0))
  e : u.heap[g]? = some (.cells ev 45 (0, 0))
  ne : R ≠ g
  hb : Below w.heap.size w u
  lr : w.heap.size ≤ R
  lg : w.heap.size ≤ g
  s : Sq LDot (fun b => w.heap.size ≤ b ∧ b < u.heap.size ∧ b ≠ g ∧ b ≠ R) u dv D
theorem EfSt.setE {w : World} {R g : Nat} {rv ev : Array Value} {dv : Value} {D : List PDot} {u : World} (h : EfSt w R g rv ev dv D u) (i : Nat) (v : Value) : EfSt w R g rv (ev.setIfInBounds i v) dv D (u.setCell ⟨g, i, none⟩ v) := by
  have hs : (u.setCell ⟨g, i, none⟩ v).heap.size = u.heap.size := by simp [World.setCell]
  refine ⟨(heap_setCell_other _ _ _ _ h.ne).trans h.r, heap_setCell_same _ _ _ _ _ _ h.e, h.ne, h.hb.setCell h.lg _, h.lr, h.lg, ?_⟩
  rw [hs]
  exact h.s.agree fun b hb => heap_setCell_other _ _ _ _ hb.2.2.1
theorem EfSt.setR {w : World} {R g : Nat} {rv ev : Array Value} {dv : Value} {D : List PDot} {u : World} (h : EfSt w R g rv ev dv D u) (i : Nat) (v : Value) : EfSt w R g (rv.setIfInBounds i v) ev dv D (u.setCell ⟨R, i, none⟩ v) := by
  have hs : (u.setCell ⟨R, i, none⟩ v).heap.size = u.heap.size := by simp [World.setCell]
  refine ⟨heap_setCell_same _ _ _ _ _ _ h.r, (heap_setCell_other _ _ _ _ (fun e => h.ne e.symm)).trans h.e, h.ne, h.hb.setCell h.lr _, h.lr, h.lg, ?_⟩
  rw [hs]
  exact h.s.agree fun b hb => heap_setCell_other _ _ _ _ hb.2.2.2
def st7 (w : World) (g : Nat) (v0 v1 v2 v3 v4 v5 v6 : Value) : World := ((((((w.setCell ⟨g, 0, none⟩ v0).setCell ⟨g, 1, none⟩ v1).setCell ⟨g, 2, none⟩ v2).setCell ⟨g, 3, none⟩ v3).setCell ⟨g, 4, none⟩ v4).setCell ⟨g, 5, none⟩ v5).setCell ⟨g, 6, none⟩ v6
theorem EfSt.st7R {w : World} {R g : Nat} {z0 z1 z2 z3 z4 z5 z6 : Value} {ev : Array Value} {dv : Value} {D : List PDot} {u : World} (h : EfSt w R g #[z0, z1, z2, z3, z4, z5, z6] ev dv D u) (v0 v1 v2 v3 v4 v5 v6 : Value) : EfSt w R g #[v0, v1, v2, v3, v4, v5, v6] ev dv D (st7 u R v0 v1 v2 v3 v4 v5 v6) := by
  have h7 := ((((((h.setR 0 v0).setR 1 v1).setR 2 v2).setR 3 v3).setR 4 v4).setR 5 v5).setR 6 v6
  have e : ((((((#[z0, z1, z2, z3, z4, z5, z6].setIfInBounds 0 v0).setIfInBounds 1 v1).setIfInBounds 2 v2).setIfInBounds 3 v3).setIfInBounds 4 v4).setIfInBounds 5 v5).setIfInBounds 6 v6 = #[v0, v1, v2, v3, v4, v5, v6] := by simp
  rw [e] at h7
  exact h7
theorem EfSt.st7E {w : World} {R g : Nat} {rv : Array Value} {z0 z1 z2 z3 z4 z5 z6 : Value} {dv : Value} {D : List PDot} {u : World} (h : EfSt w R g rv #[z0, z1, z2, z3, z4, z5, z6] dv D u) (v0 v1 v2 v3 v4 v5 v6 : Value) : EfSt w R g rv #[v0, v1, v2, v3, v4, v5, v6] dv D (st7 u g v0 v1 v2 v3 v4 v5 v6) := by
  have h7 := ((((((h.setE 0 v0).setE 1 v1).setE 2 v2).setE 3 v3).setE 4 v4).setE 5 v5).setE 6 v6
  have e : ((((((#[z0, z1, z2, z3, z4, z5, z6].setIfInBounds 0 v0).setIfInBounds 1 v1).setIfInBounds 2 v2).setIfInBounds 3 v3).setIfInBounds 4 v4).setIfInBounds 5 v5).setIfInBounds 6 v6 = #[v0, v1, v2, v3, v4, v5, v6] := by simp
  rw [e] at h7
  exact h7
theorem EfSt.below {w : World} {R g : Nat} {rv ev : Array Value} {dv : Value} {D : List PDot} {u u' : World} (h : EfSt w R g rv ev dv D u) (hb : Below u.heap.size u u') : EfSt w R g rv ev dv D u' := by
  have lr : R < u.heap.size := (Array.getElem?_eq_some_iff.1 h.r).1
  have le : g < u.heap.size := (Array.getElem?_eq_some_iff.1 h.e).1
  exact ⟨(hb.block R lr).trans h.r, (hb.block g le).trans h.e, h.ne, h.hb.trans (hb.mono h.hb.size), h.lr, h.lg, (h.s.agree fun b k => hb.block b k.2.1).mono fun b k => ⟨k.1, Nat.lt_of_lt_of_le k.2.1 hb.size, k.2.2⟩⟩
theorem EfSt.drawn {w : World} {R g : Nat} {rv ev : Array Value} {dv : Value} {D : List PDot} {u : World} (h : EfSt w R g rv ev dv D u) : EfSt w R g rv ev dv D u.drew := ⟨h.r, h.e, h.ne, h.hb.drew, h.lr, h.lg, h.s.agree fun b _ => rfl⟩
theorem EfSt.set34 {w : World} {R g : Nat} {rv : Array Value} {z0 z1 z2 z3 z4 z5 z6 : Value} {dv : Value} {D : List PDot} {u : World} (h : EfSt w R g rv #[z0, z1, z2, z3, z4, z5, z6] dv D u) (a b : Value) : EfSt w R g rv #[z0, z1, z2, a, b, z5, z6] dv D ((u.setCell ⟨g, 3, none⟩ a).setCell ⟨g, 4, none⟩ b) := by
  have h7 := (h.setE 3 a).setE 4 b
  have e : (#[z0, z1, z2, z3, z4, z5, z6].setIfInBounds 3 a).setIfInBounds 4 b = #[z0, z1, z2, a, b, z5, z6] := by simp
  rw [e] at h7
  exact h7
theorem EfSt.set35 {w : World} {R g : Nat} {rv : Array Value} {z0 z1 z2 z3 z4 z5 z6 : Value} {dv : Value} {D : List PDot} {u : World} (h : EfSt w R g rv #[z0, z1, z2, z3, z4, z5, z6] dv D u) (a b : Value) : EfSt w R g rv #[z0, z1, z2, a, z4, b, z6] dv D ((u.setCell ⟨g, 3, none⟩ a).setCell ⟨g, 5, none⟩ b) := by
  have h7 := (h.setE 3 a).setE 5 b
  have e : (#[z0, z1, z2, z3, z4, z5, z6].setIfInBounds 3 a).setIfInBounds 5 b = #[z0, z1, z2, a, z4, b, z6] := by simp
  rw [e] at h7
  exact h7
theorem EfSt.drops {w : World} {R g : Nat} {rv ev : Array Value} {dv : Value} {D : List PDot} {u : World} (h : EfSt w R g rv ev dv D u) : Sq LDot (fun b => w.heap.size ≤ b ∧ b < u.heap.size) u dv D := h.s.mono fun b k => ⟨k.1, k.2.1⟩
theorem cells7 {u : World} {g : Nat} {v0 v1 v2 v3 v4 v5 v6 : Value} {t : TypeId} (h : u.heap[g]? = some (.cells #[v0, v1, v2, v3, v4, v5, v6] t (0, 0))) :
    (u.cell? ⟨g, 0, none⟩ = some v0 ∧ u.cell? ⟨g, 1, none⟩ = some v1 ∧ u.cell? ⟨g, 2, none⟩ = some v2 ∧ u.cell? ⟨g, 3, none⟩ = some v3 ∧ u.cell? ⟨g, 4, none⟩ = some v4 ∧ u.cell? ⟨g, 5, none⟩ = some v5 ∧ u.cell? ⟨g, 6, none⟩ = some v6) ∧
    u.frozen? ⟨g, 0, none⟩ = false ∧ u.frozen? ⟨g, 1, none⟩ = false ∧ u.frozen? ⟨g, 2, none⟩ = false ∧ u.frozen? ⟨g, 3, none⟩ = false ∧ u.frozen? ⟨g, 4, none⟩ = false ∧ u.frozen? ⟨g, 5, none⟩ = false ∧ u.frozen? ⟨g, 6, none⟩ = false := by
  refine ⟨⟨?_, ?_, ?_, ?_, ?_, ?_, ?_⟩, ?_, ?_, ?_, ?_, ?_, ?_, ?_⟩
  iterate 7 (· simp [World.cell?, h])
  iterate 7 (· unfold World.frozen?; rw [h]; simp)
/-- what one request's effect, or its error, is handed back as -/
def GivesEf (w : World) (err : Int) (e : PEff) (en : Ending) (w' : World) : Prop := ∃ (x : PEff) (a : Option Addr) (n c : Nat), en = .returned (.tuple #[.agg #[.int .i64 x.pos, .string (bt x.key), .string (bt x.field), .int .i64 x.kind, .string (bt x.elem), .int .i64 x.n, .slice a n c], .int .i64 err]) ∧ (err = 0 → x = e) ∧ Sq LDot (fun b => w.heap.size ≤ b ∧ b < w'.heap.size) w' (.slice a n c) x.drops ∧ Below w.heap.size w w'

/-! ### the request's kinds -/
theorem meff1 {node i : Int} {q : PReq} {s : List PItem} (h : q.op = 1) : meff node i q s = ⟨i, q.key, q.field, 1, q.elem, 0, mdrops node q s⟩ := by
  unfold meff mkind melem
  rw [if_pos h, if_pos (.inl h), if_neg (by omega)]
theorem meff3 {node i : Int} {q : PReq} {s : List PItem} (h : q.op = 3) : meff node i q s = ⟨i, q.key, q.field, 2, q.elem, 0, mdrops node q s⟩ := by
  unfold meff mkind melem
  rw [if_neg (by omega), if_pos h, if_pos (.inr h), if_neg (by omega)]
theorem meff4 {node i : Int} {q : PReq} {s : List PItem} (h : q.op = 4) : meff node i q s = ⟨i, q.key, q.field, 3, [], Nm.Plain.sumV (msum node q s), mdrops node q s⟩ := by
  unfold meff mkind melem
  rw [if_neg (by omega), if_neg (by omega), if_pos h, if_neg (by omega), if_pos h]
theorem meff5 {node i : Int} {q : PReq} {s : List PItem} (h1 : ¬ q.op = 1) (h3 : ¬ q.op = 3) (h4 : ¬ q.op = 4) : meff node i q s = ⟨i, q.key, q.field, 0, [], 0, mdrops node q s⟩ := by
  unfold meff mkind melem
  rw [if_neg h1, if_neg h3, if_neg h4, if_neg (fun h => h.elim h1 h3), if_neg h4]
theorem merr_long {node : Int} {q : PReq} {s : List PItem} (h : 64 < (mdrops node q s).length) : merr node q s = 4 := by
  unfold merr
  rw [if_pos h]
theorem merr_other {node : Int} {q : PReq} {s : List PItem} (h : ¬ 64 < (mdrops node q s).length) (g : ¬ q.op = 4) : merr node q s = 0 := by
  unfold merr
  rw [if_neg h, if_neg (fun k => g k.1)]
theorem merr_inc {node : Int} {q : PReq} {s : List PItem} (h : ¬ 64 < (mdrops node q s).length) (g : q.op = 4) : merr node q s = Nm.Plain.sumE (msum node q s) := by
  unfold merr Nm.Plain.sumE
  rw [if_neg h]
  by_cases k : Nm.Plain.fits (msum node q s)
  · rw [if_neg (fun e => e.2 k), if_pos k]
  · rw [if_pos ⟨g, k⟩, if_neg k]
theorem taken_upto (node : Int) (q : PReq) (s : List PItem) : upto (takesB node q) (fun x => x) s s.length = taken node q s := by
  rw [upto_all, List.map_id']
  rfl
def zeroE : PEff := ⟨0, [], [], 0, [], 0, []⟩
set_option maxRecDepth 100000 in
set_option maxHeartbeats 16000000 in
/-- effect -/
theorem meffect_any (node i : Int) {u : Value} {s : List PItem} (q : PReq) {w : World} (hu : SeqE LItem w u s) (hn : s.length ≤ 1000) (hf : ∀ x ∈ s, Nm.Plain.fits x.n) (hq : Nm.Plain.fits q.n) (hd : ((taken node q s).map (·.dot)).Nodup) :
    Calls Tryz.prog 16 #[u, .int .i64 node, .int .i64 i, .agg #[.int .i64 q.op, .string (bt q.key), .string (bt q.field), .string (bt q.elem), .int .i64 q.n]] w (GivesEf w (merr node q s) (meff node i q s)) := by
  have HTL : Hid ((taken node q s).length ≤ 1000) := Lib.hid (by unfold taken; exact Nat.le_trans (List.length_filter_le _ _) hn)
  have HTF : Hid (∀ x ∈ taken node q s, Nm.Plain.fits x.n) := Lib.hid (fun x hx => hf x (List.mem_filter.1 hx).1)
  have HDL : Hid ((mdrops node q s).length ≤ 1000) := Lib.hid (Nat.le_trans (rdots_len _) HTL.out)
  have HND := Lib.hid hd
  have HQ := Lib.hid hq
  have M1 := Lib.hid (meff1 (node := node) (i := i) (q := q) (s := s))
  have M3 := Lib.hid (meff3 (node := node) (i := i) (q := q) (s := s))
  have M4 := Lib.hid (meff4 (node := node) (i := i) (q := q) (s := s))
  have M5 := Lib.hid (meff5 (node := node) (i := i) (q := q) (s := s))
  have EL := Lib.hid (merr_long (node := node) (q := q) (s := s))
  have EO := Lib.hid (merr_other (node := node) (q := q) (s := s))
  have EI := Lib.hid (merr_inc (node := node) (q := q) (s := s))
  have HMS : Hid (msum node q s = Nm.Plain.tot ((taken node q s).map (·.n) ++ [q.n])) := Lib.hid rfl
  have HMD : Hid (mdrops node q s = rdots (taken node q s)) := Lib.hid rfl
  have PY0 := Lib.hid (fun k (hk : k < s.length) h => upto_yes hk (takesB node q) (fun x => x) h)
  have PN0 := Lib.hid (fun k (hk : k < s.length) h => upto_no hk (takesB node q) (fun x => x) h)
  have P00 := Lib.hid (upto_zero (takesB node q) (fun x => x) s)
  have HPA := Lib.hid (taken_upto node q s)
  have HL0 : Hid (∀ k, (upto (takesB node q) (fun x => x) s k).length ≤ 1000) := Lib.hid (fun k => Nat.le_trans (upto_len _ _ _ _) hn)
  have KG := Lib.hid (fun x W => mgoes_any node q x W)
  obtain ⟨a, cap, rfl, g1, g2, g0, h⟩ := hu.parts
  have HS := Lib.hid h
  clear hu h g0 hf hq hd
  obtain ⟨n, hN⟩ : ∃ n, s.length = n := ⟨_, rfl⟩
  rw [hN] at g1 hn HS PY0 PN0 HPA ⊢
  have LN := Lib.hid hN
  clear hN
  rw [HMS.out] at M4 EI
  rw [HMD.out] at M1 M3 M4 M5 EL EO EI HDL
  generalize merr node q s = ERR at *
  generalize meff node i q s = EF at *
  generalize upto (takesB node q) (fun x => x) s = P at *
  generalize takesB node q = tk at *
  generalize taken node q s = T at *
  clear HMS HMD
  have QB : Hid (ReqAt ((w.alloc (.cells #[.int .i64 q.op, .string (bt q.key), .string (bt q.field), .string (bt q.elem), .int .i64 q.n] 41)).alloc (.cells #[.int .i64 0, .string ⟨#[]⟩, .string ⟨#[]⟩, .int .i64 0, .string ⟨#[]⟩, .int .i64 0, .slice none 0 0] 45)) w.heap.size 0 q) := Lib.hid ⟨(two_cells w _ _ _ _ 0).1, (two_cells w _ _ _ _ 1).1, (two_cells w _ _ _ _ 2).1, (two_cells w _ _ _ _ 3).1, (two_cells w _ _ _ _ 4).1⟩
  have RB : Hid (((w.alloc (.cells #[.int .i64 q.op, .string (bt q.key), .string (bt q.field), .string (bt q.elem), .int .i64 q.n] 41)).alloc (.cells #[.int .i64 0, .string ⟨#[]⟩, .string ⟨#[]⟩, .int .i64 0, .string ⟨#[]⟩, .int .i64 0, .slice none 0 0] 45)).heap[w.heap.size + 1]? = some (.cells #[.int .i64 0, .string ⟨#[]⟩, .string ⟨#[]⟩, .int .i64 0, .string ⟨#[]⟩, .int .i64 0, .slice none 0 0] 45 (0, 0))) := Lib.hid (by have := heap_alloc_new (w.alloc (.cells #[.int .i64 q.op, .string (bt q.key), .string (bt q.field), .string (bt q.elem), .int .i64 q.n] 41)) (.cells #[.int .i64 0, .string ⟨#[]⟩, .string ⟨#[]⟩, .int .i64 0, .string ⟨#[]⟩, .int .i64 0, .slice none 0 0] 45); simpa using this)
  have G2 : Hid (Below w.heap.size w ((w.alloc (.cells #[.int .i64 q.op, .string (bt q.key), .string (bt q.field), .string (bt q.elem), .int .i64 q.n] 41)).alloc (.cells #[.int .i64 0, .string ⟨#[]⟩, .string ⟨#[]⟩, .int .i64 0, .string ⟨#[]⟩, .int .i64 0, .slice none 0 0] 45))) := Lib.hid (((Below.refl _ _).alloc (Nat.le_refl _) _).alloc (by simp) _)
  have Z2 : Hid (((w.alloc (.cells #[.int .i64 q.op, .string (bt q.key), .string (bt q.field), .string (bt q.elem), .int .i64 q.n] 41)).alloc (.cells #[.int .i64 0, .string ⟨#[]⟩, .string ⟨#[]⟩, .int .i64 0, .string ⟨#[]⟩, .int .i64 0, .slice none 0 0] 45)).heap.size = w.heap.size + 2) := Lib.hid (by simp)
  go_enter Tryz.func16, Tryz.ntmps16
  go_upto_region 1 with fail
  generalize ((w.alloc (.cells #[.int .i64 q.op, .string (bt q.key), .string (bt q.field), .string (bt q.elem), .int .i64 q.n] 41)).alloc (.cells #[.int .i64 0, .string ⟨#[]⟩, .string ⟨#[]⟩, .int .i64 0, .string ⟨#[]⟩, .int .i64 0, .slice none 0 0] 45)) = w2 at *
  go_wp2_with fail
  go_loopw [10, 12, 18] (fun z _ j wr => ∃ k : Nat, k ≤ n ∧ j = .int .i64 k ∧ OwnE LItem w2.heap.size wr z (P k) ∧ Below w2.heap.size w2 wr) (fun _ _ j _ => n - (intOf j).toNat)
  case atStart => exact ⟨0, Nat.zero_le _, rfl, by rw [P00.out]; exact OwnE.nil _ _, Below.refl _ _⟩
  case round =>
    obtain ⟨k, hk, rfl, ho, hb⟩ := hrel
    have HO := Lib.hid ho
    have HB := Lib.hid hb
    have HBW : Hid (Below w.heap.size w wr) := Lib.hid (G2.out.trans (hb.mono G2.out.size))
    have HL := Lib.hid (HL0.out k)
    clear ho hb
    by_cases hlt : k < n
    · have PY := Lib.hid (PY0.out k hlt)
      have PN := Lib.hid (PN0.out k hlt)
      obtain ⟨b, o, c, hv, -, -, -, hc⟩ := items_spot (HS.out.below HBW.out) (by rw [LN.out]; omega)
      rw [LN.out] at hv
      simp only [Value.slice.injEq] at hv
      obtain ⟨rfl, -, rfl⟩ := hv
      obtain ⟨c0, c1, c2, c3, c4, c5, c6, c7⟩ := hc k (by rw [LN.out]; exact hlt)
      clear hc
      generalize s.getD k default = x at *
      have O1 := Lib.hid (HO.out.alloc (.cells #[.string (bt x.key), .string (bt x.field), .int .i64 x.kind, .string (bt x.elem), .int .i64 x.n, .int .i64 x.dot.node, .int .i64 x.dot.seq, .int .i64 x.dot.pos] 38))
      have G1 := Lib.hid (HB.out.alloc HB.out.size (.cells #[.string (bt x.key), .string (bt x.field), .int .i64 x.kind, .string (bt x.elem), .int .i64 x.n, .int .i64 x.dot.node, .int .i64 x.dot.seq, .int .i64 x.dot.pos] 38))
      have IB : Hid (ItemAt (wr.alloc (.cells #[.string (bt x.key), .string (bt x.field), .int .i64 x.kind, .string (bt x.elem), .int .i64 x.n, .int .i64 x.dot.node, .int .i64 x.dot.seq, .int .i64 x.dot.pos] 38)) wr.heap.size 0 x) := Lib.hid ⟨by simp, by simp, by simp, by simp, by simp, by simp, by simp, by simp⟩
      go_upto_region 5 with fail
      clear c0 c1 c2 c3 c4 c5 c6 c7
      generalize (wr.alloc (.cells #[.string (bt x.key), .string (bt x.field), .int .i64 x.kind, .string (bt x.elem), .int .i64 x.n, .int .i64 x.dot.node, .int .i64 x.dot.seq, .int .i64 x.dot.pos] 38)) = wb at *
      obtain ⟨d0, d1, d2, d3, d4, d5, d6, d7⟩ := IB.out
      obtain ⟨e0, e1, e2, e3, e4⟩ := QB.out.below G1.out QB.out.lt
      simp only [Nat.zero_add] at d1 d2 d3 d4 d5 d6 d7 e1 e2 e3 e4
      go_wp2_with fail
      refine (KG.out x wb).mono ?_
      rintro e wc ⟨rfl, hb⟩
      have O2 := Lib.hid (O1.out.below hb (Nat.le_refl _))
      have G3 := Lib.hid (G1.out.trans (hb.mono G1.out.size))
      have IB2 := Lib.hid (IB.out.below hb IB.out.lt)
      clear hb d0 d1 d2 d3 d4 d5 d6 d7 e0 e1 e2 e3 e4 IB
      cases ht : tk x with
      | false =>
        have HX := Lib.hid (PN.out ht)
        clear ht
        go_wp2_with fail
        go_roundw
        case rel => exact ⟨k + 1, by omega, by go_num, by rw [HX.out]; exact O2.out, G3.out⟩
        case measure => simp [intOf]; omega
      | true =>
        have HX := Lib.hid (PY.out ht)
        clear ht
        obtain ⟨d0, d1, d2, d3, d4, d5, d6, d7⟩ := IB2.out
        simp only [Nat.zero_add] at d1 d2 d3 d4 d5 d6 d7
        have S1 := Lib.hid (fun (W : World) => one_item W x)
        go_wp2_with (at_builtin; refine wpList_append_el LItem rfl (.tmp 26) (.tmp 28) rfl w2.heap.size rfl (O2.out.alloc _) rfl (S1.out _) (fun _ _ h => h) (by have := HL.out; simp at *; omega) (by have := G3.out.size; simp; omega) ?_)
        intro v' w5 ho' hgr _
        have O5 := Lib.hid ho'
        rw [← HX.out] at O5
        have G5 : Hid (Below w2.heap.size w2 w5) := Lib.hid ((G3.out.alloc G3.out.size _).grown hgr (by have := G3.out.size; simp; omega) (fun j hj => (O2.out.lt j hj).1))
        clear ho' hgr d0 d1 d2 d3 d4 d5 d6 d7
        go_wp2_with fail
        go_roundw
        case rel => exact ⟨k + 1, by omega, by go_num, O5.out, G5.out⟩
        case measure => simp [intOf]; omega
    · obtain rfl : k = n := by omega
      rw [HPA.out] at HO
      clear HL HL0 PY0 PN0 P00 HPA KG HS
      have KD := Lib.hid (fun W (h : Below wr.heap.size wr W) => mdots_any (HO.out.seq.below h) HTL.out HND.out)
      have KS := Lib.hid (fun W (h : Below wr.heap.size wr W) => msum_any q.n (HO.out.seq.below h) HTL.out HQ.out HTF.out)
      obtain ⟨at', ct, rfl, -⟩ := HO.out.parts
      have QW := Lib.hid (QB.out.below HB.out QB.out.lt)
      have RW := Lib.hid ((HB.out.block (w.heap.size + 1) (by rw [Z2.out]; omega)).trans RB.out)
      have ZW : Hid (w.heap.size + 2 ≤ wr.heap.size) := Lib.hid (by have := HB.out.size; rw [Z2.out] at this; exact this)
      clear HO QB RB HTF HTL HND HQ G2 Z2 HB
      generalize Nm.Plain.tot (T.map (·.n) ++ [q.n]) = TT at *
      generalize T.length = m at *
      generalize rdots T = D at *
      obtain ⟨dn, hDn⟩ : ∃ k, D.length = k := ⟨_, rfl⟩
      rw [hDn] at EL EO EI HDL
      have DN := Lib.hid hDn
      clear hDn
      obtain ⟨q0, q1, q2, q3, q4⟩ := QW.out
      simp only [Nat.zero_add] at q1 q2 q3 q4
      have KE : Hid (∀ U, Below wr.heap.size wr U → Below wr.heap.size wr U ∧ (U.cell? ⟨w.heap.size, 1, none⟩ = some (.string (bt q.key)) ∧ U.cell? ⟨w.heap.size, 2, none⟩ = some (.string (bt q.field)))) := Lib.hid (fun U hU => ⟨hU, by
        obtain ⟨q0, q1, q2, q3, q4⟩ := QW.out.below hU QW.out.lt
        simp only [Nat.zero_add] at q1 q2
        exact ⟨q1, q2⟩⟩)
      clear q0 q1 q2 q3 q4
      go_upto_region 8 with fail
      go_cut [13] (fun s13 wx => ∃ (g : Nat) (da : Option Addr) (dc : Nat), s13 = .pointer (some ⟨g, 0, none⟩) ∧ EfSt w (w.heap.size + 1) g #[.int .i64 0, .string ⟨#[]⟩, .string ⟨#[]⟩, .int .i64 0, .string ⟨#[]⟩, .int .i64 0, .slice none 0 0] #[.int .i64 i, .string (bt q.key), .string (bt q.field), .int .i64 0, .string ⟨#[]⟩, .int .i64 0, .slice da dn dc] (.slice da dn dc) D wx ∧ ReqAt wx w.heap.size 0 q ∧ w.heap.size < g ∧ Below wr.heap.size wr wx)
      case first =>
        refine wp_region_held_drew (S := fun U => Below wr.heap.size wr U ∧ (U.cell? ⟨w.heap.size, 1, none⟩ = some (.string (bt q.key)) ∧ U.cell? ⟨w.heap.size, 2, none⟩ = some (.string (bt q.field)))) (by kernel_rfl) ?_ (fun hHeld => ?_)
        · (exact KE.out _ (Below.refl _ _).drew)
        simp only [List.size_toArray, List.length_cons, List.length_nil, Nat.zero_add, Nat.reduceAdd]
        refine wpAnyH_take (i := 0) (v := ?_) rfl (by kernel_rfl) (by kernel_rfl) (by kernel_rfl) (fun _ _ _ h => h) (Or.inl ⟨by rfl, ?_⟩) hHeld ?_
        rotate_left
        · (intro w' hSw; (try dsimp only at hSw); go_simp; try with_reducible rfl)
        simp only [List.getElem_toArray, List.getElem_cons_zero, Act.put, List.setIfInBounds_toArray, List.set_cons_zero, List.set_cons_succ]
        refine wpAnyH_take (i := 1) (v := ?_) rfl (by kernel_rfl) (by kernel_rfl) (by kernel_rfl) (fun _ _ _ h => h) (Or.inl ⟨by rfl, ?_⟩) hHeld ?_
        rotate_left
        · (intro w' hSw; (try dsimp only at hSw); go_simp; try with_reducible rfl)
        simp only [List.getElem_toArray, List.getElem_cons_zero, List.getElem_cons_succ, Act.put, List.setIfInBounds_toArray, List.set_cons_zero, List.set_cons_succ]
        refine wpAnyH_take (i := 2) (v := ?_) rfl (by kernel_rfl) (by kernel_rfl) (by kernel_rfl) (fun _ _ _ h => h) (Or.inl ⟨by rfl, ?_⟩) hHeld ?_
        rotate_left
        · (intro w' hSw; (try dsimp only at hSw); go_simp; try with_reducible rfl)
        simp only [List.getElem_toArray, List.getElem_cons_zero, List.getElem_cons_succ, Act.put, List.setIfInBounds_toArray, List.set_cons_zero, List.set_cons_succ]
        refine wpAnyH_take (i := 3) (v := ?_) rfl (by kernel_rfl) (by kernel_rfl) (by kernel_rfl) (fun _ _ _ h => h) (Or.inl ⟨by rfl, ?_⟩) hHeld ?_
        rotate_left
        · (intro w' hSw; (try dsimp only at hSw); go_simp; try with_reducible rfl)
        simp only [List.getElem_toArray, List.getElem_cons_zero, List.getElem_cons_succ, Act.put, List.setIfInBounds_toArray, List.set_cons_zero, List.set_cons_succ]
        refine wpAnyH_take (i := 4) (v := ?_) rfl (by kernel_rfl) (by kernel_rfl) (by kernel_rfl) (fun _ _ _ h => h) (Or.inl ⟨by rfl, ?_⟩) hHeld ?_
        rotate_left
        · (intro w' hSw; (try dsimp only at hSw); go_simp; try with_reducible rfl)
        simp only [List.getElem_toArray, List.getElem_cons_zero, List.getElem_cons_succ, Act.put, List.setIfInBounds_toArray, List.set_cons_zero, List.set_cons_succ]
        refine wpAnyH_take (i := 5) (v := ?_) rfl (by kernel_rfl) (by kernel_rfl) (by kernel_rfl) (fun _ _ _ h => h) (Or.inl ⟨by rfl, ?_⟩) hHeld ?_
        rotate_left
        · (intro w' hSw; (try dsimp only at hSw); go_simp; try with_reducible rfl)
        simp only [List.getElem_toArray, List.getElem_cons_zero, List.getElem_cons_succ, Act.put, List.setIfInBounds_toArray, List.set_cons_zero, List.set_cons_succ]
        refine wpAnyH_ready (rs := [6, 8]) (by kernel_rfl) (by simp) ?_
        refine AllReadyH.cons rfl (fun K hK => ?_) (AllReadyH.cons rfl (fun K hK => ?_) AllReadyH.nil)
        · go_simp
          refine (KD.out _ hHeld.1).mono ?_
          rintro e u1 ⟨v1, rfl, hs, hb⟩
          refine hK.out _ _ (KE.out _ (hHeld.1.trans (hb.mono hHeld.1.size))) (fun hHeld => ?_)
          clear hK K
          obtain ⟨da, dc, rfl, -⟩ := hs.seq.parts
          rw [DN.out] at hs ⊢
          refine wpAnyH_take (i := 7) (v := ?_) rfl (by kernel_rfl) (by kernel_rfl) (by kernel_rfl) (fun _ _ _ h => h) (Or.inl ⟨by rfl, ?_⟩) hHeld ?_
          rotate_left
          · (intro w' hSw; (try dsimp only at hSw); go_simp; try with_reducible rfl)
          simp only [List.getElem_toArray, List.getElem_cons_zero, List.getElem_cons_succ, Act.put, List.setIfInBounds_toArray, List.set_cons_zero, List.set_cons_succ]
          refine wpAnyH_ready (rs := [8]) (by kernel_rfl) (by simp) ?_
          refine AllReadyH.cons rfl (fun K hK => ?_) AllReadyH.nil
          go_simp
          refine hK.out _ _ (KE.out _ (hHeld.1.alloc hHeld.1.size _)) (fun hHeld => ?_)
          clear hK K
          have EZ := heap_alloc_new u1 (.cells #[.int .i64 0, .string ⟨#[]⟩, .string ⟨#[]⟩, .int .i64 0, .string ⟨#[]⟩, .int .i64 0, .slice none 0 0] 45)
          have HZ : (u1.alloc (.cells #[.int .i64 0, .string ⟨#[]⟩, .string ⟨#[]⟩, .int .i64 0, .string ⟨#[]⟩, .int .i64 0, .slice none 0 0] 45)).heap.size = u1.heap.size + 1 := by simp
          have lgr : wr.heap.size ≤ u1.heap.size := hb.size
          have SQ : Sq LDot (fun b => w.heap.size ≤ b ∧ b < (u1.alloc (.cells #[.int .i64 0, .string ⟨#[]⟩, .string ⟨#[]⟩, .int .i64 0, .string ⟨#[]⟩, .int .i64 0, .slice none 0 0] 45)).heap.size ∧ b ≠ u1.heap.size ∧ b ≠ w.heap.size + 1) (u1.alloc (.cells #[.int .i64 0, .string ⟨#[]⟩, .string ⟨#[]⟩, .int .i64 0, .string ⟨#[]⟩, .int .i64 0, .slice none 0 0] 45)) (.slice da dn dc) D := (Sq.agree hs fun b hb => heap_alloc_old u1 _ hb.2).mono fun b hb => by have h1 := hb.1; have h2 := hb.2; have := ZW.out; change wr.heap.size ≤ b at h1; rw [HZ]; omega
          have XB : EfSt w (w.heap.size + 1) u1.heap.size #[.int .i64 0, .string ⟨#[]⟩, .string ⟨#[]⟩, .int .i64 0, .string ⟨#[]⟩, .int .i64 0, .slice none 0 0] #[.int .i64 0, .string ⟨#[]⟩, .string ⟨#[]⟩, .int .i64 0, .string ⟨#[]⟩, .int .i64 0, .slice none 0 0] (.slice da dn dc) D (u1.alloc (.cells #[.int .i64 0, .string ⟨#[]⟩, .string ⟨#[]⟩, .int .i64 0, .string ⟨#[]⟩, .int .i64 0, .slice none 0 0] 45)) := ⟨(hHeld.1.block (w.heap.size + 1) (by have := ZW.out; omega)).trans RW.out, EZ, by have := ZW.out; omega, HBW.out.trans (hHeld.1.mono HBW.out.size), by omega, by have := ZW.out; omega, SQ⟩
          have lg : w.heap.size < u1.heap.size := by have := ZW.out; omega
          generalize (u1.alloc (.cells #[.int .i64 0, .string ⟨#[]⟩, .string ⟨#[]⟩, .int .i64 0, .string ⟨#[]⟩, .int .i64 0, .slice none 0 0] 45)) = wa at *
          generalize u1.heap.size = g at *
          obtain ⟨⟨y0, y1, y2, y3, y4, y5, y6⟩, z0, z1, z2, z3, z4, z5, z6⟩ := cells7 XB.e
          refine wpAnyH_ready (rs := [9]) (by kernel_rfl) (by simp) ?_
          refine AllReadyH.cons rfl (fun K hK => ?_) AllReadyH.nil
          go_simp
          refine hK.out _ _ (KE.out _ (((((((hHeld.1.setCell lgr _).setCell lgr _).setCell lgr _).setCell lgr _).setCell lgr _).setCell lgr _).setCell lgr _)) (fun hHeld => ?_)
          clear hK K
          refine wpAnyH_done (by kernel_rfl) ?_ _
          go_wp2_with fail
          go_meet
          exact ⟨g, da, dc, rfl, XB.st7E _ _ _ _ _ _ _, QW.out.below hHeld.1 QW.out.lt, lg, hHeld.1⟩
        · go_simp
          refine hK.out _ _ (KE.out _ (hHeld.1.alloc hHeld.1.size _)) (fun hHeld => ?_)
          clear hK K
          have EZ0 : (wr.alloc (.cells #[.int .i64 0, .string ⟨#[]⟩, .string ⟨#[]⟩, .int .i64 0, .string ⟨#[]⟩, .int .i64 0, .slice none 0 0] 45)).drew.heap[wr.heap.size]? = some (.cells #[.int .i64 0, .string ⟨#[]⟩, .string ⟨#[]⟩, .int .i64 0, .string ⟨#[]⟩, .int .i64 0, .slice none 0 0] 45 (0, 0)) := heap_alloc_new wr (.cells #[.int .i64 0, .string ⟨#[]⟩, .string ⟨#[]⟩, .int .i64 0, .string ⟨#[]⟩, .int .i64 0, .slice none 0 0] 45)
          have HZ : (wr.alloc (.cells #[.int .i64 0, .string ⟨#[]⟩, .string ⟨#[]⟩, .int .i64 0, .string ⟨#[]⟩, .int .i64 0, .slice none 0 0] 45)).drew.heap.size = wr.heap.size + 1 := by simp
          have lgr : wr.heap.size ≤ wr.heap.size := Nat.le_refl _
          generalize (wr.alloc (.cells #[.int .i64 0, .string ⟨#[]⟩, .string ⟨#[]⟩, .int .i64 0, .string ⟨#[]⟩, .int .i64 0, .slice none 0 0] 45)).drew = wa at *
          refine wpAnyH_ready (rs := [6]) (by kernel_rfl) (by simp) ?_
          refine AllReadyH.cons rfl (fun K hK => ?_) AllReadyH.nil
          go_simp
          refine (KD.out _ hHeld.1).mono ?_
          rintro e u1 ⟨v1, rfl, hs, hb⟩
          refine hK.out _ _ (KE.out _ (hHeld.1.trans (hb.mono hHeld.1.size))) (fun hHeld => ?_)
          clear hK K
          obtain ⟨da, dc, rfl, -⟩ := hs.seq.parts
          rw [DN.out] at hs ⊢
          have EZ : u1.heap[wr.heap.size]? = some (.cells #[.int .i64 0, .string ⟨#[]⟩, .string ⟨#[]⟩, .int .i64 0, .string ⟨#[]⟩, .int .i64 0, .slice none 0 0] 45 (0, 0)) := (hb.block wr.heap.size (by omega)).trans EZ0
          have SQ : Sq LDot (fun b => w.heap.size ≤ b ∧ b < u1.heap.size ∧ b ≠ wr.heap.size ∧ b ≠ w.heap.size + 1) u1 (.slice da dn dc) D := Sq.mono hs fun b hb => by have h1 := hb.1; have h2 := hb.2; have := ZW.out; omega
          have XB : EfSt w (w.heap.size + 1) wr.heap.size #[.int .i64 0, .string ⟨#[]⟩, .string ⟨#[]⟩, .int .i64 0, .string ⟨#[]⟩, .int .i64 0, .slice none 0 0] #[.int .i64 0, .string ⟨#[]⟩, .string ⟨#[]⟩, .int .i64 0, .string ⟨#[]⟩, .int .i64 0, .slice none 0 0] (.slice da dn dc) D u1 := ⟨(hHeld.1.block (w.heap.size + 1) (by have := ZW.out; omega)).trans RW.out, EZ, by have := ZW.out; omega, HBW.out.trans (hHeld.1.mono HBW.out.size), by omega, by have := ZW.out; omega, SQ⟩
          have lg : w.heap.size < wr.heap.size := by have := ZW.out; omega
          obtain ⟨⟨y0, y1, y2, y3, y4, y5, y6⟩, z0, z1, z2, z3, z4, z5, z6⟩ := cells7 XB.e
          refine wpAnyH_take (i := 7) (v := ?_) rfl (by kernel_rfl) (by kernel_rfl) (by kernel_rfl) (fun _ _ _ h => h) (Or.inl ⟨by rfl, ?_⟩) hHeld ?_
          rotate_left
          · (intro w' hSw; (try dsimp only at hSw); go_simp; try with_reducible rfl)
          simp only [List.getElem_toArray, List.getElem_cons_zero, List.getElem_cons_succ, Act.put, List.setIfInBounds_toArray, List.set_cons_zero, List.set_cons_succ]
          refine wpAnyH_ready (rs := [9]) (by kernel_rfl) (by simp) ?_
          refine AllReadyH.cons rfl (fun K hK => ?_) AllReadyH.nil
          go_simp
          refine hK.out _ _ (KE.out _ (((((((hHeld.1.setCell lgr _).setCell lgr _).setCell lgr _).setCell lgr _).setCell lgr _).setCell lgr _).setCell lgr _)) (fun hHeld => ?_)
          clear hK K
          refine wpAnyH_done (by kernel_rfl) ?_ _
          go_wp2_with fail
          go_meet
          exact ⟨_, da, dc, rfl, XB.st7E _ _ _ _ _ _ _, QW.out.below hHeld.1 QW.out.lt, lg, hHeld.1⟩
      case rest =>
        obtain ⟨g, da, dc, rfl, XE, QX, hlg, hb⟩ := hcut
        rename World => wz
        have HBZ := Lib.hid hb
        clear hb QW RW KE KD
        obtain ⟨⟨y0, y1, y2, y3, y4, y5, y6⟩, w0, w1, w2', w3, w4, w5, w6⟩ := cells7 XE.e
        obtain ⟨p0, p1, p2, p3, p4⟩ := QX
        simp only [Nat.zero_add] at p1 p2 p3 p4
        have hdl : (dn : Int) ≤ 1000 := by have := HDL.out; omega
        by_cases hlong : (64 : Int) < (dn : Int)
        · obtain rfl : ERR = 4 := EL.out (by omega)
          clear M1 M3 M4 M5 EL EO EI
          have FX := XE.st7R (.int .i64 0) (.string ⟨#[]⟩) (.string ⟨#[]⟩) (.int .i64 0) (.string ⟨#[]⟩) (.int .i64 0) (.slice none 0 0)
          have FC := Lib.hid (cells7 FX.r).1
          have FB := Lib.hid FX.hb
          obtain ⟨⟨r0, r1, r2, r3, r4, r5, r6⟩, z0, z1, z2, z3, z4, z5, z6⟩ := cells7 XE.r
          clear FX
          go_wp2_with fail
          unfold st7 at FC FB
          obtain ⟨f0, f1, f2, f3, f4, f5, f6⟩ := FC.out
          refine bodyPost_ret (v := .tuple #[.agg #[.int .i64 0, .string ⟨#[]⟩, .string ⟨#[]⟩, .int .i64 0, .string ⟨#[]⟩, .int .i64 0, .slice none 0 0], .int .i64 4]) (by simp [results, Tryz.results16, go_sem, f0, f1, f2, f3, f4, f5, f6]) rfl ⟨zeroE, none, 0, 0, rfl, fun h => absurd h (by decide), ⟨none, 0, [], rfl, Nat.le_refl _, Nat.zero_le _, fun _ => rfl, Rows.nil _ _, fun h => absurd h (by simp [zeroE])⟩, FB.out⟩
        have hnl : ¬ 64 < dn := by omega
        by_cases h1 : q.op = 1
        · have b1 : (q.op == 1) = true := beq_iff_eq.2 h1
          obtain rfl : ERR = 0 := EO.out hnl (by omega)
          have HEF := Lib.hid (M1.out h1)
          clear h1 M1 M3 M4 M5 EL EO EI KS hlong
          go_wp2_with fail
          have NQ : w.heap.size ≠ g := by omega
          have KE3 : Hid (∀ U, Below g wz U → U.cell? ⟨w.heap.size, 3, none⟩ = some (.string (bt q.elem))) := Lib.hid (fun U hU => (hU.cell (p := ⟨w.heap.size, 3, none⟩) hlg).trans p3)
          refine wp_region_held_drew (S := fun U => Below g wz U ∧ U.cell? ⟨w.heap.size, 3, none⟩ = some (.string (bt q.elem))) (by kernel_rfl) ?_ (fun hHeld => ?_)
          · (exact ⟨(Below.refl _ _).drew, KE3.out _ (Below.refl _ _).drew⟩)
          simp only [List.size_toArray, List.length_cons, List.length_nil, Nat.zero_add, Nat.reduceAdd]
          refine wpAnyH_take (i := 0) (v := ?_) rfl (by kernel_rfl) (by kernel_rfl) (by kernel_rfl) (fun _ _ _ h => h) (Or.inl ⟨by rfl, ?_⟩) hHeld ?_
          rotate_left
          · (intro w' hSw; (try dsimp only at hSw); go_simp; try with_reducible rfl)
          simp only [List.getElem_toArray, List.getElem_cons_zero, Act.put, List.setIfInBounds_toArray, List.set_cons_zero, List.set_cons_succ]
          refine wpAnyH_take (i := 1) (v := ?_) rfl (by kernel_rfl) (by kernel_rfl) (by kernel_rfl) (fun _ _ _ h => h) (Or.inl ⟨by rfl, ?_⟩) hHeld ?_
          rotate_left
          · (intro w' hSw; (try dsimp only at hSw); go_simp; try with_reducible rfl)
          simp only [List.getElem_toArray, List.getElem_cons_zero, List.getElem_cons_succ, Act.put, List.setIfInBounds_toArray, List.set_cons_zero, List.set_cons_succ]
          refine wpAnyH_take (i := 2) (v := ?_) rfl (by kernel_rfl) (by kernel_rfl) (by kernel_rfl) (fun _ _ _ h => h) (Or.inl ⟨by rfl, ?_⟩) hHeld ?_
          rotate_left
          · (intro w' hSw; (try dsimp only at hSw); go_simp; try with_reducible rfl)
          simp only [List.getElem_toArray, List.getElem_cons_zero, List.getElem_cons_succ, Act.put, List.setIfInBounds_toArray, List.set_cons_zero, List.set_cons_succ]
          refine wpAnyH_ready (rs := [3]) (by kernel_rfl) (by simp) ?_
          refine AllReadyH.cons rfl (fun K hK => ?_) AllReadyH.nil
          go_simp
          refine hK.out _ _ ⟨hHeld.1.setCell (Nat.le_refl _) _, KE3.out _ (hHeld.1.setCell (Nat.le_refl _) _)⟩ (fun hHeld => ?_)
          clear hK K
          refine wpAnyH_take (i := 4) (v := ?_) rfl (by kernel_rfl) (by kernel_rfl) (by kernel_rfl) (fun _ _ _ h => h) (Or.inl ⟨by rfl, ?_⟩) hHeld ?_
          rotate_left
          · (intro w' hSw; (try dsimp only at hSw); go_simp; try with_reducible rfl)
          simp only [List.getElem_toArray, List.getElem_cons_zero, List.getElem_cons_succ, Act.put, List.setIfInBounds_toArray, List.set_cons_zero, List.set_cons_succ]
          refine wpAnyH_ready (rs := [5]) (by kernel_rfl) (by simp) ?_
          refine AllReadyH.cons rfl (fun K hK => ?_) AllReadyH.nil
          go_simp
          refine hK.out _ _ ⟨hHeld.1.setCell (Nat.le_refl _) _, KE3.out _ (hHeld.1.setCell (Nat.le_refl _) _)⟩ (fun hHeld => ?_)
          clear hK K
          refine wpAnyH_done (by kernel_rfl) ?_ _
          have XB := (XE.set34 (.int .i64 1) (.string (bt q.elem))).drawn
          clear y0 y1 y2 y3 y4 y5 y6 w0 w1 w2' w3 w4 w5 w6 p0 p1 p2 p3 p4 hHeld KE3
          generalize ((wz.setCell ⟨g, 3, none⟩ (.int .i64 1)).setCell ⟨g, 4, none⟩ (.string (bt q.elem))).drew = wy at *
          obtain ⟨⟨y0, y1, y2, y3, y4, y5, y6⟩, -⟩ := cells7 XB.e
          obtain ⟨⟨r0, r1, r2, r3, r4, r5, r6⟩, z0, z1, z2, z3, z4, z5, z6⟩ := cells7 XB.r
          have FX := XB.st7R (.int .i64 i) (.string (bt q.key)) (.string (bt q.field)) (.int .i64 1) (.string (bt q.elem)) (.int .i64 0) (.slice da dn dc)
          have FC := Lib.hid (cells7 FX.r).1
          have FB := Lib.hid FX.hb
          have FD := Lib.hid FX.drops
          clear FX
          go_wp2_with fail
          unfold st7 at FC FB FD
          obtain ⟨f0, f1, f2, f3, f4, f5, f6⟩ := FC.out
          refine bodyPost_ret (v := .tuple #[.agg #[.int .i64 i, .string (bt q.key), .string (bt q.field), .int .i64 1, .string (bt q.elem), .int .i64 0, .slice da dn dc], .int .i64 0]) (by simp [results, Tryz.results16, go_sem, f0, f1, f2, f3, f4, f5, f6]) rfl ⟨⟨i, q.key, q.field, 1, q.elem, 0, D⟩, da, dn, dc, rfl, fun _ => HEF.out.symm, FD.out, FB.out⟩
        have b1 : (q.op == 1) = false := beq_false_of_ne h1
        by_cases h3 : q.op = 3
        · have b3 : (q.op == 3) = true := beq_iff_eq.2 h3
          obtain rfl : ERR = 0 := EO.out hnl (by omega)
          have HEF := Lib.hid (M3.out h3)
          clear h1 h3 M1 M3 M4 M5 EL EO EI KS hlong
          go_wp2_with fail
          have NQ : w.heap.size ≠ g := by omega
          have KE3 : Hid (∀ U, Below g wz U → U.cell? ⟨w.heap.size, 3, none⟩ = some (.string (bt q.elem))) := Lib.hid (fun U hU => (hU.cell (p := ⟨w.heap.size, 3, none⟩) hlg).trans p3)
          refine wp_region_held_drew (S := fun U => Below g wz U ∧ U.cell? ⟨w.heap.size, 3, none⟩ = some (.string (bt q.elem))) (by kernel_rfl) ?_ (fun hHeld => ?_)
          · (exact ⟨(Below.refl _ _).drew, KE3.out _ (Below.refl _ _).drew⟩)
          simp only [List.size_toArray, List.length_cons, List.length_nil, Nat.zero_add, Nat.reduceAdd]
          refine wpAnyH_take (i := 0) (v := ?_) rfl (by kernel_rfl) (by kernel_rfl) (by kernel_rfl) (fun _ _ _ h => h) (Or.inl ⟨by rfl, ?_⟩) hHeld ?_
          rotate_left
          · (intro w' hSw; (try dsimp only at hSw); go_simp; try with_reducible rfl)
          simp only [List.getElem_toArray, List.getElem_cons_zero, Act.put, List.setIfInBounds_toArray, List.set_cons_zero, List.set_cons_succ]
          refine wpAnyH_take (i := 1) (v := ?_) rfl (by kernel_rfl) (by kernel_rfl) (by kernel_rfl) (fun _ _ _ h => h) (Or.inl ⟨by rfl, ?_⟩) hHeld ?_
          rotate_left
          · (intro w' hSw; (try dsimp only at hSw); go_simp; try with_reducible rfl)
          simp only [List.getElem_toArray, List.getElem_cons_zero, List.getElem_cons_succ, Act.put, List.setIfInBounds_toArray, List.set_cons_zero, List.set_cons_succ]
          refine wpAnyH_take (i := 2) (v := ?_) rfl (by kernel_rfl) (by kernel_rfl) (by kernel_rfl) (fun _ _ _ h => h) (Or.inl ⟨by rfl, ?_⟩) hHeld ?_
          rotate_left
          · (intro w' hSw; (try dsimp only at hSw); go_simp; try with_reducible rfl)
          simp only [List.getElem_toArray, List.getElem_cons_zero, List.getElem_cons_succ, Act.put, List.setIfInBounds_toArray, List.set_cons_zero, List.set_cons_succ]
          refine wpAnyH_ready (rs := [3]) (by kernel_rfl) (by simp) ?_
          refine AllReadyH.cons rfl (fun K hK => ?_) AllReadyH.nil
          go_simp
          refine hK.out _ _ ⟨hHeld.1.setCell (Nat.le_refl _) _, KE3.out _ (hHeld.1.setCell (Nat.le_refl _) _)⟩ (fun hHeld => ?_)
          clear hK K
          refine wpAnyH_take (i := 4) (v := ?_) rfl (by kernel_rfl) (by kernel_rfl) (by kernel_rfl) (fun _ _ _ h => h) (Or.inl ⟨by rfl, ?_⟩) hHeld ?_
          rotate_left
          · (intro w' hSw; (try dsimp only at hSw); go_simp; try with_reducible rfl)
          simp only [List.getElem_toArray, List.getElem_cons_zero, List.getElem_cons_succ, Act.put, List.setIfInBounds_toArray, List.set_cons_zero, List.set_cons_succ]
          refine wpAnyH_ready (rs := [5]) (by kernel_rfl) (by simp) ?_
          refine AllReadyH.cons rfl (fun K hK => ?_) AllReadyH.nil
          go_simp
          refine hK.out _ _ ⟨hHeld.1.setCell (Nat.le_refl _) _, KE3.out _ (hHeld.1.setCell (Nat.le_refl _) _)⟩ (fun hHeld => ?_)
          clear hK K
          refine wpAnyH_done (by kernel_rfl) ?_ _
          have XB := (XE.set34 (.int .i64 2) (.string (bt q.elem))).drawn
          clear y0 y1 y2 y3 y4 y5 y6 w0 w1 w2' w3 w4 w5 w6 p0 p1 p2 p3 p4 hHeld KE3
          generalize ((wz.setCell ⟨g, 3, none⟩ (.int .i64 2)).setCell ⟨g, 4, none⟩ (.string (bt q.elem))).drew = wy at *
          obtain ⟨⟨y0, y1, y2, y3, y4, y5, y6⟩, -⟩ := cells7 XB.e
          obtain ⟨⟨r0, r1, r2, r3, r4, r5, r6⟩, z0, z1, z2, z3, z4, z5, z6⟩ := cells7 XB.r
          have FX := XB.st7R (.int .i64 i) (.string (bt q.key)) (.string (bt q.field)) (.int .i64 2) (.string (bt q.elem)) (.int .i64 0) (.slice da dn dc)
          have FC := Lib.hid (cells7 FX.r).1
          have FB := Lib.hid FX.hb
          have FD := Lib.hid FX.drops
          clear FX
          go_wp2_with fail
          unfold st7 at FC FB FD
          obtain ⟨f0, f1, f2, f3, f4, f5, f6⟩ := FC.out
          refine bodyPost_ret (v := .tuple #[.agg #[.int .i64 i, .string (bt q.key), .string (bt q.field), .int .i64 2, .string (bt q.elem), .int .i64 0, .slice da dn dc], .int .i64 0]) (by simp [results, Tryz.results16, go_sem, f0, f1, f2, f3, f4, f5, f6]) rfl ⟨⟨i, q.key, q.field, 2, q.elem, 0, D⟩, da, dn, dc, rfl, fun _ => HEF.out.symm, FD.out, FB.out⟩
        have b3 : (q.op == 3) = false := beq_false_of_ne h3
        by_cases h4 : q.op = 4
        · have b4 : (q.op == 4) = true := beq_iff_eq.2 h4
          have HER := Lib.hid (EI.out hnl h4)
          have HEF := Lib.hid (M4.out h4)
          have K := KS.out wz HBZ.out
          clear h1 h3 h4 M1 M3 M4 M5 EL EO EI KS hlong
          generalize Nm.Plain.sumV TT = sV at *
          by_cases hfit : Nm.Plain.fits TT
          · have e0 : Nm.Plain.sumE TT = 0 := by unfold Nm.Plain.sumE; rw [if_pos hfit]
            rw [e0] at K HER
            obtain rfl : ERR = 0 := HER.out
            clear e0 hfit HER
            go_wp2_with fail
            refine K.mono ?_
            rintro e wv ⟨rfl, hb⟩
            have XV := XE.below hb
            clear hb K y0 y1 y2 y3 y4 y5 y6 w0 w1 w2' w3 w4 w5 w6 p0 p1 p2 p3 p4 XE
            obtain ⟨⟨y0, y1, y2, y3, y4, y5, y6⟩, w0, w1, w2', w3, w4, w5, w6⟩ := cells7 XV.e
            have XB := XV.set35 (.int .i64 3) (.int .i64 sV)
            go_upto_region 21 with fail
            clear y0 y1 y2 y3 y4 y5 y6 w0 w1 w2' w3 w4 w5 w6 XV
            generalize (wv.setCell ⟨g, 3, none⟩ (.int .i64 3)).setCell ⟨g, 5, none⟩ (.int .i64 sV) = wy at *
            obtain ⟨⟨y0, y1, y2, y3, y4, y5, y6⟩, -⟩ := cells7 XB.e
            obtain ⟨⟨r0, r1, r2, r3, r4, r5, r6⟩, z0, z1, z2, z3, z4, z5, z6⟩ := cells7 XB.r
            have FX := XB.st7R (.int .i64 i) (.string (bt q.key)) (.string (bt q.field)) (.int .i64 3) (.string ⟨#[]⟩) (.int .i64 sV) (.slice da dn dc)
            have FC := Lib.hid (cells7 FX.r).1
            have FB := Lib.hid FX.hb
            have FD := Lib.hid FX.drops
            clear FX
            go_wp2_with fail
            unfold st7 at FC FB FD
            obtain ⟨f0, f1, f2, f3, f4, f5, f6⟩ := FC.out
            refine bodyPost_ret (v := .tuple #[.agg #[.int .i64 i, .string (bt q.key), .string (bt q.field), .int .i64 3, .string ⟨#[]⟩, .int .i64 sV, .slice da dn dc], .int .i64 0]) (by simp [results, Tryz.results16, go_sem, f0, f1, f2, f3, f4, f5, f6]) rfl ⟨⟨i, q.key, q.field, 3, [], sV, D⟩, da, dn, dc, rfl, fun _ => HEF.out.symm, FD.out, FB.out⟩
          · have e0 : Nm.Plain.sumE TT = 5 := by unfold Nm.Plain.sumE; rw [if_neg hfit]
            rw [e0] at K HER
            obtain rfl : ERR = 5 := HER.out
            clear e0 hfit HER
            go_wp2_with fail
            refine K.mono ?_
            rintro e wv ⟨rfl, hb⟩
            replace XE := XE.below hb
            clear hb K y0 y1 y2 y3 y4 y5 y6 w0 w1 w2' w3 w4 w5 w6 p0 p1 p2 p3 p4
            have FX := XE.st7R (.int .i64 0) (.string ⟨#[]⟩) (.string ⟨#[]⟩) (.int .i64 0) (.string ⟨#[]⟩) (.int .i64 0) (.slice none 0 0)
            have FC := Lib.hid (cells7 FX.r).1
            have FB := Lib.hid FX.hb
            obtain ⟨⟨r0, r1, r2, r3, r4, r5, r6⟩, z0, z1, z2, z3, z4, z5, z6⟩ := cells7 XE.r
            clear FX
            go_wp2_with fail
            unfold st7 at FC FB
            obtain ⟨f0, f1, f2, f3, f4, f5, f6⟩ := FC.out
            refine bodyPost_ret (v := .tuple #[.agg #[.int .i64 0, .string ⟨#[]⟩, .string ⟨#[]⟩, .int .i64 0, .string ⟨#[]⟩, .int .i64 0, .slice none 0 0], .int .i64 5]) (by simp [results, Tryz.results16, go_sem, f0, f1, f2, f3, f4, f5, f6]) rfl ⟨zeroE, none, 0, 0, rfl, fun h => absurd h (by decide), ⟨none, 0, [], rfl, Nat.le_refl _, Nat.zero_le _, fun _ => rfl, Rows.nil _ _, fun h => absurd h (by simp [zeroE])⟩, FB.out⟩
        have b4 : (q.op == 4) = false := beq_false_of_ne h4
        obtain rfl : ERR = 0 := EO.out hnl h4
        have HEF := Lib.hid (M5.out h1 h3 h4)
        clear h1 h3 h4 M1 M3 M4 M5 EL EO EI KS hlong w0 w1 w2' w3 w4 w5 w6
        have XB := XE
        obtain ⟨⟨y0, y1, y2, y3, y4, y5, y6⟩, -⟩ := cells7 XB.e
        obtain ⟨⟨r0, r1, r2, r3, r4, r5, r6⟩, z0, z1, z2, z3, z4, z5, z6⟩ := cells7 XB.r
        have FX := XB.st7R (.int .i64 i) (.string (bt q.key)) (.string (bt q.field)) (.int .i64 0) (.string ⟨#[]⟩) (.int .i64 0) (.slice da dn dc)
        have FC := Lib.hid (cells7 FX.r).1
        have FB := Lib.hid FX.hb
        have FD := Lib.hid FX.drops
        clear FX
        go_wp2_with fail
        unfold st7 at FC FB FD
        obtain ⟨f0, f1, f2, f3, f4, f5, f6⟩ := FC.out
        refine bodyPost_ret (v := .tuple #[.agg #[.int .i64 i, .string (bt q.key), .string (bt q.field), .int .i64 0, .string ⟨#[]⟩, .int .i64 0, .slice da dn dc], .int .i64 0]) (by simp [results, Tryz.results16, go_sem, f0, f1, f2, f3, f4, f5, f6]) rfl ⟨⟨i, q.key, q.field, 0, [], 0, D⟩, da, dn, dc, rfl, fun _ => HEF.out.symm, FD.out, FB.out⟩
end Go.Proofs.YtkmiodpaanohoaaGreat
namespace Go.Proofs.YtkmiodpaanohoaaGreat
open Go.RowKit Plain
set_option linter.unusedVariables false

def GivesM (w : World) (a : Int × List PEff) (e : Ending) (w' : World) : Prop := ∃ v, e = .returned (.tuple #[v, .int .i64 a.1]) ∧ SeqE LEff w' v a.2 ∧ Below w.heap.size w w'
/-- items and requests of the sizes that are looked at; no two of one dot, or nothing is taken away -/
structure FitM (node : Int) (s : List PItem) (l : List PReq) : Prop where
  few : s.length ≤ 100
  ok : ∀ x ∈ s, itemOk x
  req : ∀ q ∈ l, reqOk q
  dots : LoopOk node s l
theorem mformedP_any (q : PReq) (w : World) : Calls Tryz.prog 13 #[rqv q] w (GivesB w (reqB q)) := by
  rw [rqv_eq5]
  exact mformed_eq q w
theorem dotOk_of {d : PDot} (h : dotB d = true) : dotOk d := by
  unfold dotB at h
  rw [decide_eq_true_iff] at h
  obtain ⟨h1, h2, h3, h4, h5, h6⟩ := h
  have w : ∀ n : Int, 0 ≤ n → n ≤ 1073741824 → (Lit.int .i64 n).wf = true := fun n a b => by
    simp only [Lit.wf, IntKind.min, IntKind.max, IntKind.signed, IntKind.bits, decide_eq_true_iff, Bool.and_eq_true]
    simp
    omega
  exact ⟨w _ (by omega) (by omega), w _ (by omega) (by omega), w _ (by omega) (by omega)⟩

/-! ### the loop -/
structure LoopM (node seq : Int) (l : List PReq) (RES : Int × List PEff) (k : Nat) (s : List PItem) (E : List PEff) : Prop where
  few : s.length ≤ 100 + k
  dot : ∀ x ∈ s, dotOk x.dot
  fit : ∀ x ∈ s, Nm.Plain.fits x.n
  once : LoopOk node s (l.drop k)
  len : E.length ≤ k
  res : mback E (mrun node seq k s (l.drop k)) = RES
section
variable {node seq : Int} {l : List PReq} {RES : Int × List PEff} {k : Nat} {s : List PItem} {E : List PEff}
theorem LoopM.bad (h : LoopM node seq l RES k s E) (hk : k < l.length) (he : merr node (l.getD k default) s ≠ 0) : RES = (merr node (l.getD k default) s, []) := by
  rw [← h.res, drop_cons hk]
  exact mback_bad he (mone_merr he)
theorem LoopM.over (h : LoopM node seq l RES k s E) (hk : k < l.length) (he : merr node (l.getD k default) s = 0) (hz : ¬ (mkind (l.getD k default) = 0 ∧ mdrops node (l.getD k default) s = [])) (ho : (l.getD k default).op = 4)
    (hv : (vfield (doStep node seq s (meff node k (l.getD k default) s)) (l.getD k default).key (l.getD k default).field).over = true) : RES = (5, []) := by
  rw [← h.res, drop_cons hk]
  exact mback_bad (by decide) (mone_over he hz ho hv)
theorem LoopM.skip (h : LoopM node seq l RES k s E) (hk : k < l.length) (he : merr node (l.getD k default) s = 0) (hz : mkind (l.getD k default) = 0) (hd : mdrops node (l.getD k default) s = []) : LoopM node seq l RES (k + 1) s E := by
  have ho := h.once
  rw [drop_cons hk] at ho
  refine ⟨by have := h.few; omega, h.dot, h.fit, ho.tail, by have := h.len; omega, ?_⟩
  rw [← h.res, drop_cons hk, mback_ok (mone_none he hz hd), List.append_nil]
  rfl
theorem merr_drops {q : PReq} (h : merr node q s = 0) : (mdrops node q s).length ≤ 64 := by
  unfold merr at h
  split at h
  · cases h
  · omega
theorem meff_ok (hd : ∀ x ∈ s, dotOk x.dot) (hr : inRange node seq = true) {q : PReq} (hk : k ≤ 7) : effsOk node seq [meff node k q s] := fun e he => by
  rw [List.mem_singleton.1 he]
  refine ⟨dotOk_of ?_, fun d hd' => ?_⟩
  · unfold inRange at hr
    rw [decide_eq_true_iff] at hr
    unfold dotB
    rw [decide_eq_true_iff]
    refine ⟨?_, ?_, ?_, ?_, ?_, ?_⟩
    · exact hr.1
    · exact hr.2.1
    · exact hr.2.2.1
    · exact hr.2.2.2
    · show (0 : Int) ≤ (k : Int)
      omega
    · show (k : Int) ≤ 7
      omega
  · obtain ⟨x, hx, rfl⟩ := mem_rdots.1 hd'
    exact hd x (List.mem_filter.1 hx).1
theorem mfit_next {i : Int} {q : PReq} (h : ∀ x ∈ s, Nm.Plain.fits x.n) : ∀ x ∈ edo node seq s [meff node i q s], Nm.Plain.fits x.n := fun x hx => by
  rcases edo_mem hx with g | g
  · exact h x g
  · obtain ⟨y, hy, rfl⟩ := own_dot g
    rw [List.mem_singleton.1 hy]
    show Nm.Plain.fits (if q.op = 4 then Nm.Plain.sumV (msum node q s) else 0)
    split
    · exact fits_sumV _
    · unfold Nm.Plain.fits; decide
theorem LoopM.next (h : LoopM node seq l RES k s E) (hk : k < l.length) (h8 : l.length ≤ 8) (hr : inRange node seq = true) (he : merr node (l.getD k default) s = 0) (hz : ¬ (mkind (l.getD k default) = 0 ∧ mdrops node (l.getD k default) s = []))
    (ho : ¬ ((l.getD k default).op = 4 ∧ (vfield (doStep node seq s (meff node k (l.getD k default) s)) (l.getD k default).key (l.getD k default).field).over = true)) :
    LoopM node seq l RES (k + 1) (edo node seq s [meff node k (l.getD k default) s]) (E ++ [meff node k (l.getD k default) s]) := by
  have hl := edo_len node seq [meff node k (l.getD k default) s] s
  rw [List.length_singleton] at hl
  have hok := meff_ok (q := l.getD k default) h.dot hr (show k ≤ 7 by omega)
  refine ⟨by have := h.few; omega, fun x hx => ?_, fun x hx => ?_, ?_, by rw [List.length_append, List.length_singleton]; have := h.len; omega, ?_⟩
  · rcases edo_mem hx with g | g
    · exact h.dot x g
    · obtain ⟨y, hy, rfl⟩ := own_dot g
      exact (hok y hy).1
  · exact mfit_next h.fit x hx
  · rw [edo_one]
    exact LoopOk.step
  · rw [← h.res, drop_cons hk, mback_ok (mone_some he hz ho)]
    rfl
theorem LoopM.nodup (h : LoopM node seq l RES k s E) (hk : k < l.length) : ((taken node (l.getD k default) s).map (·.dot)).Nodup := by
  have ho := h.once
  rw [drop_cons hk] at ho
  exact ho.once
theorem LoopM.end (h : LoopM node seq l RES k s E) (hk : k = l.length) : RES = (0, E) := by
  rw [← h.res, hk, List.drop_length, mback_end]
theorem LoopM.start (hf : FitM node s l) : LoopM node seq l (mrun node seq 0 s l) 0 s [] := ⟨by have := hf.few; omega, fun x hx => (hf.ok x hx).2.2.1, fun x hx => fits_of (hf.ok x hx).2.1, hf.dots, Nat.le_refl _, mback_nil node seq 0 s l⟩
end
theorem mmake_ref {node seq : Int} {s : List PItem} {l : List PReq} (h : mref node seq l ≠ 0) : mmake s node seq l = (mref node seq l, []) := by
  unfold mref at h ⊢
  unfold mmake
  split
  · rfl
  · split
    · rfl
    · split
      · rfl
      · rename_i h1 h2 h3
        rw [if_neg h1, if_neg h2, if_neg h3] at h
        exact absurd rfl h
theorem mmake_run {node seq : Int} {s : List PItem} {l : List PReq} (h : mref node seq l = 0) : inRange node seq = true ∧ l.length ≤ 8 ∧ mmake s node seq l = mrun node seq 0 s l := by
  unfold mref at h
  unfold mmake
  split at h
  · cases h
  · split at h
    · cases h
    · split at h
      · cases h
      · rename_i h1 h2 h3
        rw [if_neg h1, if_neg h2, if_neg h3]
        exact ⟨by simpa using h1, by omega, rfl⟩
/-- one effect, written out in the program's text, whose Drops lie in none of the row's blocks -/
theorem one_effM {W : World} {x : PEff} {N : Nat} {av : Option Addr} {nv cv : Nat} {ov : Value} (hs : Sq LDot (fun b => N ≤ b ∧ b < W.heap.size) W (.slice av nv cv) x.drops) (hN : N ≤ W.heap.size) (ho : ∀ k, ov.ownBlock = some k → k < N) :
    Sq LEff (fun b => b < (W.alloc (.cells #[.int .i64 x.pos, .string (bt x.key), .string (bt x.field), .int .i64 x.kind, .string (bt x.elem), .int .i64 x.n, .slice av nv cv] 45)).heap.size ∧ ov.ownBlock ≠ some b) (W.alloc (.cells #[.int .i64 x.pos, .string (bt x.key), .string (bt x.field), .int .i64 x.kind, .string (bt x.elem), .int .i64 x.n, .slice av nv cv] 45)) (.slice (some ⟨W.heap.size, 0, none⟩) 1 1) [x] := by
  have hS : (W.alloc (.cells #[.int .i64 x.pos, .string (bt x.key), .string (bt x.field), .int .i64 x.kind, .string (bt x.elem), .int .i64 x.n, .slice av nv cv] 45)).heap.size = W.heap.size + 1 := by simp
  have hB : Below W.heap.size W (W.alloc (.cells #[.int .i64 x.pos, .string (bt x.key), .string (bt x.field), .int .i64 x.kind, .string (bt x.elem), .int .i64 x.n, .slice av nv cv] 45)) := (Below.refl _ _).alloc (Nat.le_refl _) _
  rw [hS]
  have hin : Sq LDot (fun b => b < W.heap.size + 1 ∧ ov.ownBlock ≠ some b) (W.alloc (.cells #[.int .i64 x.pos, .string (bt x.key), .string (bt x.field), .int .i64 x.kind, .string (bt x.elem), .int .i64 x.n, .slice av nv cv] 45)) (.slice av nv cv) x.drops :=
    (Sq.agree hs fun b hb => hB.block b hb.2).mono fun b hb => ⟨by omega, fun e => by have := ho b e; omega⟩
  refine ⟨_, 1, cellsEf x (.slice av nv cv), rfl, Nat.le_refl _, by unfold maxLen; simp, (by simp), Rows.of_one ⟨_, rfl, hin⟩, fun _ => ⟨_, 0, rfl, ⟨by omega, fun e => by have := ho _ e; omega⟩, fun i u' hu => ?_⟩⟩
  rw [Nat.zero_add]
  have := World.cell?_alloc_new W #[.int .i64 x.pos, .string (bt x.key), .string (bt x.field), .int .i64 x.kind, .string (bt x.elem), .int .i64 x.n, .slice av nv cv] 45 i
  rw [this, ← Array.getElem?_toList]
  exact hu
theorem one_effL {W : World} {x : PEff} {av : Option Addr} {nv cv : Nat} (hs : SeqE LDot W (.slice av nv cv) x.drops) : SeqE LEff (W.alloc (.cells #[.int .i64 x.pos, .string (bt x.key), .string (bt x.field), .int .i64 x.kind, .string (bt x.elem), .int .i64 x.n, .slice av nv cv] 45)) (.slice (some ⟨W.heap.size, 0, none⟩) 1 1) [x] :=
  SeqE.one (L := LEff) (w := W) (vs := cellsEf x (.slice av nv cv)) (x := x) ⟨_, rfl, hs⟩ #[.int .i64 x.pos, .string (bt x.key), .string (bt x.field), .int .i64 x.kind, .string (bt x.elem), .int .i64 x.n, .slice av nv cv] rfl
theorem effAt_box2 (w : World) (x : PEff) (a : Option Addr) (n c : Nat) : EffAt (w.alloc (.cells #[.int .i64 x.pos, .string (bt x.key), .string (bt x.field), .int .i64 x.kind, .string (bt x.elem), .int .i64 x.n, .slice a n c] 45)) w.heap.size 0 x (.slice a n c) := ⟨by simp, by simp, by simp, by simp, by simp, by simp, by simp⟩

set_option maxRecDepth 100000 in
set_option maxHeartbeats 16000000 in
/-- Make -/
theorem mmakeP_any {node seq : Int} {u v : Value} {s : List PItem} {l : List PReq} {w : World} (hu : SeqE LItem w u s) (hv : SeqE LReq w v l) (hf : FitM node s l) (hn : (Lit.int .i64 node).wf = true) (hs : (Lit.int .i64 seq).wf = true) :
    Calls Tryz.prog 6 #[u, .int .i64 node, .int .i64 seq, v] w (GivesM w (mmake s node seq l)) := by
  have KR := mrefused_any node seq hv
  have HE := Lib.hid (mmake_ref (node := node) (seq := seq) (s := s) (l := l))
  have HM := Lib.hid (mmake_run (node := node) (seq := seq) (s := s) (l := l))
  have L0 := Lib.hid (LoopM.start (seq := seq) hf)
  have HQF : Hid (∀ q ∈ l, Nm.Plain.fits q.n) := Lib.hid (fun q hq => fits_of (hf.req q hq).2.1)
  have SU := Lib.hid hu
  have HUL : Hid (s.length ≤ 1000) := Lib.hid (by have := hf.few; omega)
  obtain ⟨am, cm, rfl, gm1, gm2, -, hm⟩ := hv.parts
  have SR := Lib.hid hm
  obtain ⟨m, em⟩ : ∃ n, l.length = n := ⟨_, rfl⟩
  rw [em] at SR gm1 HM KR ⊢
  have NM := Lib.hid em
  clear hu hv hf hn hs hm em
  obtain ⟨ax, cs, rfl, gs1, gs2, -, -⟩ := SU.out.parts
  generalize s.length = n0 at *
  generalize mmake s node seq l = RES at *
  generalize mref node seq l = er at *
  go_enter Tryz.func6, Tryz.ntmps6
  go_wp2_with fail
  refine KR.mono ?_
  rintro e w1 ⟨rfl, hb⟩
  have B1 := Lib.hid hb
  clear hb KR
  by_cases he : er = 0
  rotate_left
  · have ez : (er == 0) = false := beq_false_of_ne he
    have HRS := Lib.hid (HE.out he)
    clear he
    go_wp2_with fail
    go_ret2
    exact ⟨.slice none 0 0, by rw [HRS.out]; rfl, by rw [HRS.out]; exact SeqE.nil _, B1.out⟩
  subst he
  obtain ⟨hr, h8, hrs⟩ := HM.out rfl
  have HR := Lib.hid hr
  have H8 := Lib.hid h8
  rw [← hrs] at L0
  clear hr h8 hrs HE HM
  go_wp2_with fail
  go_loopw [0, 11, 12, 13, 14, 15, 25] (fun its z _ _ _ _ j wr => ∃ (k : Nat) (s' : List PItem) (E : List PEff), k ≤ m ∧ j = .int .i64 k ∧ Sq LItem (fun b => b < wr.heap.size ∧ z.ownBlock ≠ some b) wr its s' ∧ OwnE LEff w1.heap.size wr z E ∧ LoopM node seq l RES k s' E ∧ Below w1.heap.size w1 wr) (fun _ _ _ _ _ _ j _ => m - (intOf j).toNat)
  case atStart => exact ⟨0, s, [], Nat.zero_le _, rfl, Sq.mono (SU.out.below B1.out) (fun b hb => ⟨hb, by simp [Value.ownBlock]⟩), OwnE.nil _ _, L0.out, Below.refl _ _⟩
  case round =>
    obtain ⟨k, s', E, hk, rfl, hits, ho, hlm, hb⟩ := hrel
    have SI := Lib.hid hits
    have HO := Lib.hid ho
    have LM := Lib.hid hlm
    have HB := Lib.hid hb
    have HBW : Hid (Below w.heap.size w wr) := Lib.hid (B1.out.trans (hb.mono B1.out.size))
    have HSL : Hid (s'.length ≤ 1000) := Lib.hid (by have := hlm.few; have := H8.out; omega)
    have HEL : Hid (E.length ≤ 1000) := Lib.hid (by have := hlm.len; have := H8.out; omega)
    have SIE := Lib.hid (show SeqE LItem wr u0 s' from hits.mono fun b hb => hb.1)
    obtain ⟨ai, ci, rfl, gi1, gi2, -, -⟩ := SIE.out.parts
    obtain ⟨az, cz, rfl, gz1, gz2, -, -⟩ := ho.parts
    clear hits ho hlm hb
    by_cases hlt : k < m
    · obtain ⟨b, o, c, hv, -, -, -, hc⟩ := reqs_spot (SR.out.below HBW.out) (by rw [NM.out]; omega)
      rw [NM.out] at hv
      simp only [Value.slice.injEq] at hv
      obtain ⟨rfl, -, rfl⟩ := hv
      obtain ⟨c0, c1, c2, c3, c4⟩ := hc k (by rw [NM.out]; exact hlt)
      have hkl : k < l.length := by rw [NM.out]; exact hlt
      have LB := Lib.hid (LM.out.bad hkl)
      have LS := Lib.hid (LM.out.skip hkl)
      have LO := Lib.hid (LM.out.over hkl)
      have LN := Lib.hid (LM.out.next hkl (by rw [NM.out]; exact H8.out) HR.out)
      have KF := Lib.hid (fun (W : World) (h : Below wr.heap.size wr W) => meffect_any node k (l.getD k default) (SIE.out.below h) HSL.out LM.out.fit (HQF.out _ (by simp [List.getD, List.getElem?_eq_getElem hkl])) (LM.out.nodup hkl))
      have HOK := Lib.hid (meff_ok (k := k) (q := l.getD k default) LM.out.dot HR.out (by have := H8.out; omega))
      have HMD := Lib.hid (fun h => merr_drops (node := node) (s := s') (q := l.getD k default) h)
      have HDD : Hid ((meff node k (l.getD k default) s').drops = mdrops node (l.getD k default) s') := Lib.hid rfl
      have HKK : Hid ((meff node k (l.getD k default) s').kind = mkind (l.getD k default)) := Lib.hid rfl
      have HFT := Lib.hid (mfit_next (node := node) (seq := seq) (i := k) (q := l.getD k default) LM.out.fit)
      have HLN := Lib.hid (edo_len node seq [meff node k (l.getD k default) s'] s')
      clear hc hkl
      rw [← HDD.out, ← HKK.out] at LS LO LN
      rw [← HDD.out] at HMD
      generalize l.getD k default = q at *
      generalize merr node q s' = er at *
      generalize meff node k q s' = x at *
      clear HDD HKK
      have BX := Lib.hid ((Below.refl wr.heap.size wr).alloc (Nat.le_refl _) (.cells #[.int .i64 q.op, .string (bt q.key), .string (bt q.field), .string (bt q.elem), .int .i64 q.n] 41))
      have QB : Hid (ReqAt (wr.alloc (.cells #[.int .i64 q.op, .string (bt q.key), .string (bt q.field), .string (bt q.elem), .int .i64 q.n] 41)) wr.heap.size 0 q) := Lib.hid (reqAt_box q)
      go_upto_region 8 with fail
      clear c0 c1 c2 c3 c4
      generalize (wr.alloc (.cells #[.int .i64 q.op, .string (bt q.key), .string (bt q.field), .string (bt q.elem), .int .i64 q.n] 41)) = wb at *
      obtain ⟨c0, c1, c2, c3, c4⟩ := QB.out
      simp only [Nat.zero_add] at c1 c2 c3 c4
      go_wp2_with fail
      refine (KF.out wb BX.out).mono ?_
      rintro e wc ⟨y, dv, dn, dc, rfl, hy, hsd, hb⟩
      have HY := Lib.hid hy
      have SD := Lib.hid hsd
      have BC := Lib.hid (BX.out.trans (hb.mono BX.out.size))
      have QC := Lib.hid (QB.out.below hb QB.out.lt)
      have NC := Lib.hid hb.size
      have QLT : Hid (wr.heap.size < wb.heap.size) := Lib.hid QB.out.lt
      clear hy hsd hb KF c0 c1 c2 c3 c4 QB BX
      by_cases he : er = 0
      rotate_left
      · have ez : (er == 0) = false := beq_false_of_ne he
        have HRS := Lib.hid (LB.out he)
        have BF := Lib.hid ((HBW.out.trans (BC.out.mono HBW.out.size)).alloc (HBW.out.trans (BC.out.mono HBW.out.size)).size (.cells #[.int .i64 y.pos, .string (bt y.key), .string (bt y.field), .int .i64 y.kind, .string (bt y.elem), .int .i64 y.n, .slice dv dn dc] 45))
        clear he LB LS LO LN SD QC
        go_upto_region 9 with fail
        generalize (wc.alloc (.cells #[.int .i64 y.pos, .string (bt y.key), .string (bt y.field), .int .i64 y.kind, .string (bt y.elem), .int .i64 y.n, .slice dv dn dc] 45)) = we at *
        go_wp2_with fail
        go_ret2
        exact ⟨.slice none 0 0, by rw [HRS.out]; rfl, by rw [HRS.out]; exact SeqE.nil _, BF.out⟩
      subst he
      obtain rfl : y = x := HY.out rfl
      have EB : Hid (EffAt (wc.alloc (.cells #[.int .i64 y.pos, .string (bt y.key), .string (bt y.field), .int .i64 y.kind, .string (bt y.elem), .int .i64 y.n, .slice dv dn dc] 45)) wc.heap.size 0 y (.slice dv dn dc)) := Lib.hid (effAt_box2 wc y dv dn dc)
      have BE := Lib.hid (BC.out.alloc BC.out.size (.cells #[.int .i64 y.pos, .string (bt y.key), .string (bt y.field), .int .i64 y.kind, .string (bt y.elem), .int .i64 y.n, .slice dv dn dc] 45))
      have ZE : Hid ((wc.alloc (.cells #[.int .i64 y.pos, .string (bt y.key), .string (bt y.field), .int .i64 y.kind, .string (bt y.elem), .int .i64 y.n, .slice dv dn dc] 45)).heap.size = wc.heap.size + 1) := Lib.hid (by simp)
      have BCE := Lib.hid ((Below.refl wc.heap.size wc).alloc (Nat.le_refl _) (.cells #[.int .i64 y.pos, .string (bt y.key), .string (bt y.field), .int .i64 y.kind, .string (bt y.elem), .int .i64 y.n, .slice dv dn dc] 45))
      have SDE : Hid (Sq LDot (fun b => wb.heap.size ≤ b ∧ b < (wc.alloc (.cells #[.int .i64 y.pos, .string (bt y.key), .string (bt y.field), .int .i64 y.kind, .string (bt y.elem), .int .i64 y.n, .slice dv dn dc] 45)).heap.size) (wc.alloc (.cells #[.int .i64 y.pos, .string (bt y.key), .string (bt y.field), .int .i64 y.kind, .string (bt y.elem), .int .i64 y.n, .slice dv dn dc] 45)) (.slice dv dn dc) y.drops) := Lib.hid ((SD.out.agree fun b hb => BCE.out.block b hb.2).mono fun b hb => ⟨hb.1, Nat.lt_of_lt_of_le hb.2 BCE.out.size⟩)
      have QE := Lib.hid (QC.out.below BCE.out QC.out.lt)
      have DL : Hid (y.drops.length = dn) := Lib.hid (by
        obtain ⟨_, _, _, hv, _⟩ := SD.out
        simp only [Value.slice.injEq] at hv
        exact hv.2.1.symm)
      have ZR : Hid (wr.heap.size < wb.heap.size ∧ wb.heap.size ≤ wc.heap.size) := Lib.hid ⟨QLT.out, NC.out⟩
      clear LB HY SD QC BCE
      go_upto_region 9 with fail
      generalize (wc.alloc (.cells #[.int .i64 y.pos, .string (bt y.key), .string (bt y.field), .int .i64 y.kind, .string (bt y.elem), .int .i64 y.n, .slice dv dn dc] 45)) = we at *
      obtain ⟨c0, c1, c2, c3, c4, c5, c6⟩ := EB.out
      simp only [Nat.zero_add] at c1 c2 c3 c4 c5 c6
      obtain ⟨q0, q1, q2, q3, q4⟩ := QE.out
      simp only [Nat.zero_add] at q1 q2 q3 q4
      by_cases hk0 : y.kind = 0
      · have b0 : (y.kind == 0) = true := beq_iff_eq.2 hk0
        by_cases hd0 : dn = 0
        · have bd : ((dn : Int) == 0) = true := by simp [hd0]
          have LX := Lib.hid (LS.out trivial hk0 (List.eq_nil_of_length_eq_zero (by rw [DL.out]; exact hd0)))
          have SX : Hid (Sq LItem (fun b => b < we.heap.size ∧ (Value.slice az E.length cz).ownBlock ≠ some b) we (.slice ai s'.length ci) s') := Lib.hid ((SI.out.agree fun b hb => BE.out.block b hb.1).mono fun b hb => ⟨Nat.lt_of_lt_of_le hb.1 BE.out.size, hb.2⟩)
          have OX := Lib.hid (HO.out.below BE.out (Nat.le_refl _))
          have GX := Lib.hid (HB.out.trans (BE.out.mono HB.out.size))
          clear hk0 hd0 LS LO LN
          go_wp2_with fail
          go_roundw
          case rel => exact ⟨k + 1, s', E, by omega, by go_num, SX.out, OX.out, LX.out, GX.out⟩
          case measure => simp [intOf]; omega
        · have bd : ((dn : Int) == 0) = false := by simp [hd0]
          have hz := Lib.hid (show ¬ (y.kind = 0 ∧ y.drops = []) from fun h => hd0 (by rw [← DL.out, h.2]; rfl))
          clear hk0 hd0 LS
          have ONE := Lib.hid (one_effM (W := we) (x := y) (N := wb.heap.size) (ov := .slice az E.length cz) SDE.out (by rw [ZE.out]; have := ZR.out.2; omega) (fun k hk => Nat.lt_trans (HO.out.lt k hk).2 ZR.out.1))
          have O1 := Lib.hid (HO.out.below BE.out (Nat.le_refl _))
          have G1 := Lib.hid (HB.out.trans (BE.out.mono HB.out.size))
          go_wp2_with (at_builtin; refine wpList_append_el LEff rfl (.tmp 50) (.tmp 52) rfl w1.heap.size rfl (O1.out.alloc _) rfl ONE.out (fun _ _ h => h) (by have := HEL.out; simp; omega) (by have := G1.out.size; simp; omega) ?_)
          intro v' w6 ho' hgr hat
          have O6 := Lib.hid ho'
          have BL : Hid (∀ b, wr.heap.size ≤ b → b < we.heap.size → w6.heap[b]? = we.heap[b]?) := Lib.hid (fun b h1 h2 => (hgr.block b (by simp; omega) (fun e => by have := (HO.out.lt b e.symm).2; omega)).trans (heap_alloc_old we _ h2))
          have BI : Hid (∀ b, b < wr.heap.size ∧ (Value.slice az E.length cz).ownBlock ≠ some b → w6.heap[b]? = wr.heap[b]?) := Lib.hid (fun b hb => ((hgr.block b (by have := BE.out.size; simp; omega) (fun e => hb.2 e.symm)).trans (heap_alloc_old we _ (by have := BE.out.size; omega))).trans (BE.out.block b hb.1))
          have Z6 : Hid (we.heap.size < w6.heap.size) := Lib.hid (by have := hgr.size; simp at this; omega)
          have G6 : Hid (Below w1.heap.size w1 w6) := Lib.hid ((G1.out.alloc G1.out.size _).grown hgr (by have := G1.out.size; simp; omega) (fun j hj => (O1.out.lt j hj).1))
          have C6 : Hid (∀ (g i : Nat) (v : Value), wr.heap.size ≤ g → we.cell? ⟨g, i, none⟩ = some v → w6.cell? ⟨g, i, none⟩ = some v) := Lib.hid (fun g i v h1 h2 => (World.cell?_of_block (w := we) (w' := w6) (BL.out g h1 (World.block_lt_of_cell? we _ h2))).trans h2)
          have LE6 := O6.out.lt
          have SI6 : Hid (SeqE LItem w6 (.slice ai s'.length ci) s') := Lib.hid ((SI.out.agree BI.out).mono fun b hb => by have h1 := hb.1; have h2 := BE.out.size; have h3 := Z6.out; omega)
          have SD6 : Hid (SeqE LDot w6 (.slice dv dn dc) y.drops) := Lib.hid ((SDE.out.agree fun b hb => BL.out b (by have := ZR.out.1; have := hb.1; omega) hb.2).mono fun b hb => by have h1 := hb.2; have h3 := Z6.out; omega)
          have LC : wr.heap.size ≤ wc.heap.size := by have := ZR.out; omega
          replace c0 := C6.out _ _ _ LC c0
          replace c1 := C6.out _ _ _ LC c1
          replace c2 := C6.out _ _ _ LC c2
          replace c3 := C6.out _ _ _ LC c3
          replace c4 := C6.out _ _ _ LC c4
          replace c5 := C6.out _ _ _ LC c5
          replace c6 := C6.out _ _ _ LC c6
          replace q0 := C6.out _ _ _ (Nat.le_refl _) q0
          replace q1 := C6.out _ _ _ (Nat.le_refl _) q1
          replace q2 := C6.out _ _ _ (Nat.le_refl _) q2
          replace q3 := C6.out _ _ _ (Nat.le_refl _) q3
          replace q4 := C6.out _ _ _ (Nat.le_refl _) q4
          have L6 := Lib.hid LE6
          clear ho' hgr hat LE6 BL BI C6 ONE SDE O1 G1 SI SIE
          have K := edo_any node seq (SI6.out.below_alloc (.cells #[.int .i64 y.pos, .string (bt y.key), .string (bt y.field), .int .i64 y.kind, .string (bt y.elem), .int .i64 y.n, .slice dv dn dc] 45)) (one_effL SD6.out) (by have := HSL.out; omega) (by simp) (fun e he => by rw [List.mem_singleton.1 he]; have := HMD.out trivial; omega) LM.out.dot HOK.out
          have G7 := Lib.hid (G6.out.alloc G6.out.size (.cells #[.int .i64 y.pos, .string (bt y.key), .string (bt y.field), .int .i64 y.kind, .string (bt y.elem), .int .i64 y.n, .slice dv dn dc] 45))
          have Q7 : Hid (ReqAt (w6.alloc (.cells #[.int .i64 y.pos, .string (bt y.key), .string (bt y.field), .int .i64 y.kind, .string (bt y.elem), .int .i64 y.n, .slice dv dn dc] 45)) wr.heap.size 0 q) := Lib.hid (ReqAt.below ⟨q0, by rw [Nat.zero_add]; exact q1, by rw [Nat.zero_add]; exact q2, by rw [Nat.zero_add]; exact q3, by rw [Nat.zero_add]; exact q4⟩ ((Below.refl w6.heap.size w6).alloc (Nat.le_refl _) _) (World.block_lt_of_cell? w6 _ q0))
          have O7 := Lib.hid (O6.out.alloc (.cells #[.int .i64 y.pos, .string (bt y.key), .string (bt y.field), .int .i64 y.kind, .string (bt y.elem), .int .i64 y.n, .slice dv dn dc] 45))
          have HLO := Lib.hid (O6.out.lt)
          have HLE : Hid ((edo node seq s' [y]).length ≤ 1000) := Lib.hid (by have h1 := HLN.out; have h2 := LM.out.few; have h3 := H8.out; rw [List.length_singleton] at h1; omega)
          obtain ⟨ae, ce, rfl, -⟩ := O6.out.parts
          rw [← edo_one] at LO LN
          generalize edo node seq s' [y] = D at *
          generalize hE' : E ++ [y] = E' at *
          go_wp2_with fail
          refine K.mono ?_
          rintro e w8 ⟨v8, rfl, ho8, hb⟩
          have N8 := Lib.hid (ho8.new flat_item)
          obtain ⟨a8, c8, rfl, -⟩ := ho8.parts
          have Q8 := Lib.hid (Q7.out.below hb Q7.out.lt)
          have O8 := Lib.hid (O7.out.below hb (Nat.le_refl _))
          have G8 := Lib.hid (G7.out.trans (hb.mono G7.out.size))
          have SX : Hid (Sq LItem (fun b => b < w8.heap.size ∧ (Value.slice ae E'.length ce).ownBlock ≠ some b) w8 (.slice a8 D.length c8) D) := Lib.hid (N8.out.mono fun b hb => ⟨hb.2, fun e => by have h1 := HLO.out b e; have h2 := hb.1; simp at h2; omega⟩)
          clear hb K ho8 c0 c1 c2 c3 c4 c5 c6 q0 q1 q2 q3 q4 Q7 O7 G7
          obtain ⟨q0, q1, q2, q3, q4⟩ := Q8.out
          simp only [Nat.zero_add] at q1 q2 q3 q4
          by_cases ho : q.op = 4
          rotate_left
          · have b4 : (q.op == 4) = false := beq_false_of_ne ho
            have LX := Lib.hid (LN.out trivial hz.out (fun h => ho h.1))
            clear ho LO LN
            go_wp2_with fail
            go_roundw
            case rel => exact ⟨k + 1, D, E', by omega, by go_num, SX.out, O8.out, LX.out, G8.out⟩
            case measure => simp [intOf]; omega
          have b4 : (q.op == 4) = true := beq_iff_eq.2 ho
          have KV := vfieldP_any q.key q.field N8.out.seq HLE.out HFT.out
          replace LO := Lib.hid (LO.out trivial hz.out ho)
          replace LN := Lib.hid (LN.out trivial hz.out)
          generalize vfield D q.key q.field = P at *
          cases hv : P.over with
          | true =>
            have HRS := Lib.hid (LO.out hv)
            go_wp2_with fail
            refine KV.mono ?_
            rintro e w9 ⟨v9, rfl, hi, hb⟩
            obtain ⟨a1, n1, c1, a2, n2, c2, rfl, -, -⟩ := hi
            have G9 := Lib.hid (B1.out.trans ((G8.out.trans (hb.mono G8.out.size)).mono B1.out.size))
            rw [hv]
            have hfd : ∀ w : World, (Instr.field 53 (.agg #[.slice a1 n1 c1, .slice a2 n2 c2, .int .i64 P.total, .bool true]) 3).run Tryz.prog w = .ok (.bool true) w := fun _ => by kernel_rfl
            clear hb KV LO LN q0 q1 q2 q3 q4
            go_wp2_with fail
            go_ret2
            exact ⟨.slice none 0 0, by rw [HRS.out]; rfl, by rw [HRS.out]; exact SeqE.nil _, G9.out⟩
          | false =>
            have LX := Lib.hid (LN.out (fun h => by rw [hv] at h; cases h.2))
            go_wp2_with fail
            refine KV.mono ?_
            rintro e w9 ⟨v9, rfl, hi, hb⟩
            obtain ⟨a1, n1, c1, a2, n2, c2, rfl, -, -⟩ := hi
            have G9 := Lib.hid (G8.out.trans (hb.mono G8.out.size))
            have O9 := Lib.hid (O8.out.below hb (Nat.le_refl _))
            have SX9 : Hid (Sq LItem (fun b => b < w9.heap.size ∧ (Value.slice ae E'.length ce).ownBlock ≠ some b) w9 (.slice a8 D.length c8) D) := Lib.hid ((SX.out.agree fun b k => hb.block b k.1).mono fun b k => ⟨Nat.lt_of_lt_of_le k.1 hb.size, k.2⟩)
            rw [hv]
            have hfd : ∀ w : World, (Instr.field 53 (.agg #[.slice a1 n1 c1, .slice a2 n2 c2, .int .i64 P.total, .bool false]) 3).run Tryz.prog w = .ok (.bool false) w := fun _ => by kernel_rfl
            clear hb KV LO LN q0 q1 q2 q3 q4
            go_wp2_with fail
            go_roundw
            case rel => exact ⟨k + 1, D, E', by omega, by go_num, SX9.out, O9.out, LX.out, G9.out⟩
            case measure => simp [intOf]; omega
      · have b0 : (y.kind == 0) = false := beq_false_of_ne hk0
        have hz := Lib.hid (show ¬ (y.kind = 0 ∧ y.drops = []) from fun h => hk0 h.1)
        clear hk0 LS
        have ONE := Lib.hid (one_effM (W := we) (x := y) (N := wb.heap.size) (ov := .slice az E.length cz) SDE.out (by rw [ZE.out]; have := ZR.out.2; omega) (fun k hk => Nat.lt_trans (HO.out.lt k hk).2 ZR.out.1))
        have O1 := Lib.hid (HO.out.below BE.out (Nat.le_refl _))
        have G1 := Lib.hid (HB.out.trans (BE.out.mono HB.out.size))
        go_wp2_with (at_builtin; refine wpList_append_el LEff rfl (.tmp 50) (.tmp 52) rfl w1.heap.size rfl (O1.out.alloc _) rfl ONE.out (fun _ _ h => h) (by have := HEL.out; simp; omega) (by have := G1.out.size; simp; omega) ?_)
        intro v' w6 ho' hgr hat
        have O6 := Lib.hid ho'
        have BL : Hid (∀ b, wr.heap.size ≤ b → b < we.heap.size → w6.heap[b]? = we.heap[b]?) := Lib.hid (fun b h1 h2 => (hgr.block b (by simp; omega) (fun e => by have := (HO.out.lt b e.symm).2; omega)).trans (heap_alloc_old we _ h2))
        have BI : Hid (∀ b, b < wr.heap.size ∧ (Value.slice az E.length cz).ownBlock ≠ some b → w6.heap[b]? = wr.heap[b]?) := Lib.hid (fun b hb => ((hgr.block b (by have := BE.out.size; simp; omega) (fun e => hb.2 e.symm)).trans (heap_alloc_old we _ (by have := BE.out.size; omega))).trans (BE.out.block b hb.1))
        have Z6 : Hid (we.heap.size < w6.heap.size) := Lib.hid (by have := hgr.size; simp at this; omega)
        have G6 : Hid (Below w1.heap.size w1 w6) := Lib.hid ((G1.out.alloc G1.out.size _).grown hgr (by have := G1.out.size; simp; omega) (fun j hj => (O1.out.lt j hj).1))
        have C6 : Hid (∀ (g i : Nat) (v : Value), wr.heap.size ≤ g → we.cell? ⟨g, i, none⟩ = some v → w6.cell? ⟨g, i, none⟩ = some v) := Lib.hid (fun g i v h1 h2 => (World.cell?_of_block (w := we) (w' := w6) (BL.out g h1 (World.block_lt_of_cell? we _ h2))).trans h2)
        have LE6 := O6.out.lt
        have SI6 : Hid (SeqE LItem w6 (.slice ai s'.length ci) s') := Lib.hid ((SI.out.agree BI.out).mono fun b hb => by have h1 := hb.1; have h2 := BE.out.size; have h3 := Z6.out; omega)
        have SD6 : Hid (SeqE LDot w6 (.slice dv dn dc) y.drops) := Lib.hid ((SDE.out.agree fun b hb => BL.out b (by have := ZR.out.1; have := hb.1; omega) hb.2).mono fun b hb => by have h1 := hb.2; have h3 := Z6.out; omega)
        have LC : wr.heap.size ≤ wc.heap.size := by have := ZR.out; omega
        replace c0 := C6.out _ _ _ LC c0
        replace c1 := C6.out _ _ _ LC c1
        replace c2 := C6.out _ _ _ LC c2
        replace c3 := C6.out _ _ _ LC c3
        replace c4 := C6.out _ _ _ LC c4
        replace c5 := C6.out _ _ _ LC c5
        replace c6 := C6.out _ _ _ LC c6
        replace q0 := C6.out _ _ _ (Nat.le_refl _) q0
        replace q1 := C6.out _ _ _ (Nat.le_refl _) q1
        replace q2 := C6.out _ _ _ (Nat.le_refl _) q2
        replace q3 := C6.out _ _ _ (Nat.le_refl _) q3
        replace q4 := C6.out _ _ _ (Nat.le_refl _) q4
        have L6 := Lib.hid LE6
        clear ho' hgr hat LE6 BL BI C6 ONE SDE O1 G1 SI SIE
        have K := edo_any node seq (SI6.out.below_alloc (.cells #[.int .i64 y.pos, .string (bt y.key), .string (bt y.field), .int .i64 y.kind, .string (bt y.elem), .int .i64 y.n, .slice dv dn dc] 45)) (one_effL SD6.out) (by have := HSL.out; omega) (by simp) (fun e he => by rw [List.mem_singleton.1 he]; have := HMD.out trivial; omega) LM.out.dot HOK.out
        have G7 := Lib.hid (G6.out.alloc G6.out.size (.cells #[.int .i64 y.pos, .string (bt y.key), .string (bt y.field), .int .i64 y.kind, .string (bt y.elem), .int .i64 y.n, .slice dv dn dc] 45))
        have Q7 : Hid (ReqAt (w6.alloc (.cells #[.int .i64 y.pos, .string (bt y.key), .string (bt y.field), .int .i64 y.kind, .string (bt y.elem), .int .i64 y.n, .slice dv dn dc] 45)) wr.heap.size 0 q) := Lib.hid (ReqAt.below ⟨q0, by rw [Nat.zero_add]; exact q1, by rw [Nat.zero_add]; exact q2, by rw [Nat.zero_add]; exact q3, by rw [Nat.zero_add]; exact q4⟩ ((Below.refl w6.heap.size w6).alloc (Nat.le_refl _) _) (World.block_lt_of_cell? w6 _ q0))
        have O7 := Lib.hid (O6.out.alloc (.cells #[.int .i64 y.pos, .string (bt y.key), .string (bt y.field), .int .i64 y.kind, .string (bt y.elem), .int .i64 y.n, .slice dv dn dc] 45))
        have HLO := Lib.hid (O6.out.lt)
        have HLE : Hid ((edo node seq s' [y]).length ≤ 1000) := Lib.hid (by have h1 := HLN.out; have h2 := LM.out.few; have h3 := H8.out; rw [List.length_singleton] at h1; omega)
        obtain ⟨ae, ce, rfl, -⟩ := O6.out.parts
        rw [← edo_one] at LO LN
        generalize edo node seq s' [y] = D at *
        generalize hE' : E ++ [y] = E' at *
        go_wp2_with fail
        refine K.mono ?_
        rintro e w8 ⟨v8, rfl, ho8, hb⟩
        have N8 := Lib.hid (ho8.new flat_item)
        obtain ⟨a8, c8, rfl, -⟩ := ho8.parts
        have Q8 := Lib.hid (Q7.out.below hb Q7.out.lt)
        have O8 := Lib.hid (O7.out.below hb (Nat.le_refl _))
        have G8 := Lib.hid (G7.out.trans (hb.mono G7.out.size))
        have SX : Hid (Sq LItem (fun b => b < w8.heap.size ∧ (Value.slice ae E'.length ce).ownBlock ≠ some b) w8 (.slice a8 D.length c8) D) := Lib.hid (N8.out.mono fun b hb => ⟨hb.2, fun e => by have h1 := HLO.out b e; have h2 := hb.1; simp at h2; omega⟩)
        clear hb K ho8 c0 c1 c2 c3 c4 c5 c6 q0 q1 q2 q3 q4 Q7 O7 G7
        obtain ⟨q0, q1, q2, q3, q4⟩ := Q8.out
        simp only [Nat.zero_add] at q1 q2 q3 q4
        by_cases ho : q.op = 4
        rotate_left
        · have b4 : (q.op == 4) = false := beq_false_of_ne ho
          have LX := Lib.hid (LN.out trivial hz.out (fun h => ho h.1))
          clear ho LO LN
          go_wp2_with fail
          go_roundw
          case rel => exact ⟨k + 1, D, E', by omega, by go_num, SX.out, O8.out, LX.out, G8.out⟩
          case measure => simp [intOf]; omega
        have b4 : (q.op == 4) = true := beq_iff_eq.2 ho
        have KV := vfieldP_any q.key q.field N8.out.seq HLE.out HFT.out
        replace LO := Lib.hid (LO.out trivial hz.out ho)
        replace LN := Lib.hid (LN.out trivial hz.out)
        generalize vfield D q.key q.field = P at *
        cases hv : P.over with
        | true =>
          have HRS := Lib.hid (LO.out hv)
          go_wp2_with fail
          refine KV.mono ?_
          rintro e w9 ⟨v9, rfl, hi, hb⟩
          obtain ⟨a1, n1, c1, a2, n2, c2, rfl, -, -⟩ := hi
          have G9 := Lib.hid (B1.out.trans ((G8.out.trans (hb.mono G8.out.size)).mono B1.out.size))
          rw [hv]
          have hfd : ∀ w : World, (Instr.field 53 (.agg #[.slice a1 n1 c1, .slice a2 n2 c2, .int .i64 P.total, .bool true]) 3).run Tryz.prog w = .ok (.bool true) w := fun _ => by kernel_rfl
          clear hb KV LO LN q0 q1 q2 q3 q4
          go_wp2_with fail
          go_ret2
          exact ⟨.slice none 0 0, by rw [HRS.out]; rfl, by rw [HRS.out]; exact SeqE.nil _, G9.out⟩
        | false =>
          have LX := Lib.hid (LN.out (fun h => by rw [hv] at h; cases h.2))
          go_wp2_with fail
          refine KV.mono ?_
          rintro e w9 ⟨v9, rfl, hi, hb⟩
          obtain ⟨a1, n1, c1, a2, n2, c2, rfl, -, -⟩ := hi
          have G9 := Lib.hid (G8.out.trans (hb.mono G8.out.size))
          have O9 := Lib.hid (O8.out.below hb (Nat.le_refl _))
          have SX9 : Hid (Sq LItem (fun b => b < w9.heap.size ∧ (Value.slice ae E'.length ce).ownBlock ≠ some b) w9 (.slice a8 D.length c8) D) := Lib.hid ((SX.out.agree fun b k => hb.block b k.1).mono fun b k => ⟨Nat.lt_of_lt_of_le k.1 hb.size, k.2⟩)
          rw [hv]
          have hfd : ∀ w : World, (Instr.field 53 (.agg #[.slice a1 n1 c1, .slice a2 n2 c2, .int .i64 P.total, .bool false]) 3).run Tryz.prog w = .ok (.bool false) w := fun _ => by kernel_rfl
          clear hb KV LO LN q0 q1 q2 q3 q4
          go_wp2_with fail
          go_roundw
          case rel => exact ⟨k + 1, D, E', by omega, by go_num, SX9.out, O9.out, LX.out, G9.out⟩
          case measure => simp [intOf]; omega
    · obtain rfl : k = m := by omega
      have HRS := Lib.hid (LM.out.end NM.out.symm)
      go_wp2_with fail
      go_ret2
      exact ⟨_, by rw [HRS.out]; rfl, by rw [HRS.out]; exact HO.out.seq, HBW.out⟩
end Go.Proofs.YtkmiodpaanohoaaGreat
