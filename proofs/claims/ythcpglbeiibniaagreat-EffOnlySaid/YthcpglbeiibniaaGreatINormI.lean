/- What the function that Norm hands to those leaves, and the program's own Norm of items. -/
import Derived.Test.YthcpglbeiibniaaGreatINorm
namespace Go.Proofs.YthcpglbeiibniaaGreat
open Go.RowKit Plain Go.Maps
set_option linter.unusedVariables false

theorem entersNorm : ∀ args w, (callFunc 39 args).run Tryz.prog w = .ok (.enter 39 args) w := enters_of Tryz.func39 (by kernel_rfl) rfl
/-- what holds between the calls of the function that Norm hands over: the variable that holds the map, and the dots that are in it -/
def SeenAt (sb m : Nat) (W : World) (ds : List PDot) : Prop := W.cell? ⟨sb, 0, none⟩ = some (.map (some m)) ∧ SetAt W m ds
theorem SeenAt.below {sb m B : Nat} {W W' : World} {ds : List PDot} (h : SeenAt sb m W ds) (hb : Below B W W') (h1 : sb < B) (h2 : m < B) : SeenAt sb m W' ds :=
  ⟨(hb.cell (p := ⟨sb, 0, none⟩) h1).trans h.1, h.2.below hb h2⟩

set_option maxRecDepth 100000 in
set_option maxHeartbeats 2000000 in
theorem givesNorm (x : PItem) (hx : dotOk x.dot) (sb m : Nat) (hne : sb ≠ m) (ds : List PDot) (hl : ds.length ≤ 1000000) (W : World) (hI : SeenAt sb m W ds) :
    Calls Tryz.prog 39 (#[itv x] ++ #[.pointer (some ⟨sb, 0, none⟩)]) W fun e W' => e = .returned (.bool (!hasDot ds x.dot)) ∧ SeenAt sb m W' (ds ++ [x.dot]) ∧ W.grownBy W' (some m) := by
  show Calls Tryz.prog 39 #[.agg #[.string (bt x.key), .string (bt x.field), .int .i64 x.kind, .string (bt x.elem), .int .i64 x.n, .int .i64 x.dot.node, .int .i64 x.dot.seq, .int .i64 x.dot.pos], .pointer (some ⟨sb, 0, none⟩)] W _
  obtain ⟨hc, D, n, hn, ho, hh⟩ := hI
  have hkey : keyOf Tryz.prog 37 (.agg #[.int .i64 x.dot.node, .int .i64 x.dot.seq, .int .i64 x.dot.pos]) = some (kd x.dot) := keyOf_dot hx
  have KY := Lib.hid hkey
  have hD := Lib.hid ho.isMap
  have HH := Lib.hid hh
  have hhx := Lib.hid (hh x.dot hx)
  have HX := Lib.hid hx
  have hlt := World.block_lt_of_cell? W ⟨sb, 0, none⟩ hc
  have hb1 := (Below.refl W.heap.size W).alloc (Nat.le_refl _) (.cells #[.string (bt x.key), .string (bt x.field), .int .i64 x.kind, .string (bt x.elem), .int .i64 x.n, .int .i64 x.dot.node, .int .i64 x.dot.seq, .int .i64 x.dot.pos] 39)
  have HO1 := Lib.hid (ho.alloc (.cells #[.string (bt x.key), .string (bt x.field), .int .i64 x.kind, .string (bt x.elem), .int .i64 x.n, .int .i64 x.dot.node, .int .i64 x.dot.seq, .int .i64 x.dot.pos] 39))
  have hc1 := (hb1.cell (p := ⟨sb, 0, none⟩) hlt).trans hc
  have HB1 := Lib.hid hb1
  have IB : Hid (ItemAt (W.alloc (.cells #[.string (bt x.key), .string (bt x.field), .int .i64 x.kind, .string (bt x.elem), .int .i64 x.n, .int .i64 x.dot.node, .int .i64 x.dot.seq, .int .i64 x.dot.pos] 39)) W.heap.size 0 x) := Lib.hid ⟨by simp, by simp, by simp, by simp, by simp, by simp, by simp, by simp⟩
  have HL := Lib.hid hlt
  have HN := Lib.hid hn
  have hnm : n < maxLen := by unfold maxLen; omega
  have HM := Lib.hid hnm
  have HHX := Lib.hid (hh x.dot hx)
  clear hh ho hx hkey hlt hb1 hn hnm hhx
  rw [← HHX.out]
  go_enter Tryz.func39, Tryz.ntmps39
  go_upto_region 1 with fail
  generalize (W.alloc (.cells #[.string (bt x.key), .string (bt x.field), .int .i64 x.kind, .string (bt x.elem), .int .i64 x.n, .int .i64 x.dot.node, .int .i64 x.dot.seq, .int .i64 x.dot.pos] 39)) = wb at *
  obtain ⟨c0, c1, c2, c3, c4, c5, c6, c7⟩ := IB.out
  simp only [Nat.zero_add] at c1 c2 c3 c4 c5 c6 c7
  have HO2 := Lib.hid (HO1.out.alloc (.cells #[] 64))
  have HB2 := Lib.hid (HB1.out.alloc HB1.out.size (.cells #[] 64))
  have IB2 := Lib.hid (IB.out.below ((Below.refl wb.heap.size wb).alloc (Nat.le_refl _) (.cells #[] 64)) IB.out.lt)
  have hc2 : (wb.alloc (.cells #[] 64)).cell? ⟨sb, 0, none⟩ = some (.map (some m)) := (HB2.out.cell (p := ⟨sb, 0, none⟩) HL.out).trans hc
  obtain ⟨d0, d1, d2, d3, d4, d5, d6, d7⟩ := IB2.out
  simp only [Nat.zero_add] at d1 d2 d3 d4 d5 d6 d7
  have HC2 := Lib.hid hc2
  go_wp2_with (first
    | (at_lookup; refine wpList_lookup_own_unit _ rfl _ _ 63 rfl 37 64 lawDot Tryz.underlying63 (zeroUnit _) m n D rfl HO1.out _ _ rfl KY.out ?_)
    | (at_mapUpdate; refine wpList_mapUpdate_own _ rfl _ _ _ 63 rfl 37 64 lawDot Tryz.underlying63 unitElem m n D rfl HO2.out HM.out _ _ _ rfl rfl KY.out (.agg []) [] unitElem_mk ?_))
  intro w1 ho1 hg1
  have O1 := Lib.hid (SetAt.put HX.out HN.out hD.out HH.out ho1)
  have C1 := Lib.hid (hg1.cell HC2.out (fun e => hne (Option.some.inj e)))
  have G1 := Lib.hid (grown_trans (grown_of_below (row := some m) HB2.out) hg1 (fun j hj => .inl hj))
  clear ho1 hg1
  go_wp2_with fail
  go_ret
  exact ⟨rfl, ⟨C1.out, O1.out⟩, G1.out⟩

theorem old_behind {w2 : World} {B : Nat} {v : Value} {xs : List PItem} (h : Sq LItem (fun b => B ≤ b ∧ b < w2.heap.size) w2 v xs) :
    Old LItem (some w2.heap.size) ((w2.alloc (.map #[] 0)).alloc (.cells #[.map (some w2.heap.size)] 63)).heap.size ((w2.alloc (.map #[] 0)).alloc (.cells #[.map (some w2.heap.size)] 63)) v xs := by
  have hb : Below w2.heap.size w2 ((w2.alloc (.map #[] 0)).alloc (.cells #[.map (some w2.heap.size)] 63)) := ((Below.refl _ _).alloc (Nat.le_refl _) _).alloc (by simp) _
  exact (Sq.agree h fun b hlt => hb.block b hlt.2).mono fun b hlt => ⟨by have := hb.size; omega, fun e => by have := hlt.2; cases e; omega⟩
theorem seen_new (w2 : World) : SeenAt (w2.heap.size + 1) w2.heap.size ((w2.alloc (.map #[] 0)).alloc (.cells #[.map (some w2.heap.size)] 63)) [] :=
  ⟨by simp, (SetAt.made w2).alloc _⟩
theorem size_new (w2 : World) : ((w2.alloc (.map #[] 0)).alloc (.cells #[.map (some w2.heap.size)] 63)).heap.size = w2.heap.size + 2 := by simp

set_option maxRecDepth 100000 in
set_option maxHeartbeats 2000000 in
/-- Norm -/
theorem inorm_any {u : Value} {xs : List PItem} {w : World} (hu : SeqE LItem w u xs) (hn : xs.length ≤ 1000000) (hd : ∀ x ∈ xs, dotOk x.dot) : Calls Tryz.prog 22 #[u] w (MadeE LItem w (inorm xs)) := by
  have KC := iclone_any hu hn
  have HL := isort_len xs
  have HW := Lib.hid (norm_way xs)
  have HD : Hid (∀ k, k < (isort xs).length → dotOk ((isort xs).getD k default).dot) := Lib.hid (fun k hk => hd _ (isort_mem.1 (mem_def hk)))
  obtain ⟨a, cap, rfl, -⟩ := hu.parts
  have hmm := @run_makeMap Tryz.prog
  obtain ⟨n, hN⟩ : ∃ n, xs.length = n := ⟨_, rfl⟩
  rw [hN] at HL hn KC ⊢
  have LN := Lib.hid hN
  have LS := Lib.hid HL
  clear hu hd hN HL
  go_enter Tryz.func22, Tryz.ntmps22
  go_wp2_with fail
  refine KC.mono ?_
  rintro e w1 ⟨v1, rfl, ho, hb⟩
  have KS := sort_items ho hb hb.size (by rw [LN.out]; exact hn)
  obtain ⟨a1, c1, rfl, -, -, -⟩ := ho.at n LN.out
  clear ho hb KC
  go_wp2_with fail
  refine KS.mono ?_
  rintro e w2 ⟨rfl, hb, hs, hq⟩
  have HB := Lib.hid ((hb.alloc hs (.map #[] 0)).alloc (by simp; omega) (.cells #[.map (some w2.heap.size)] 63))
  have HZ := Lib.hid (size_new w2)
  have HS2 := Lib.hid hs
  have K := ithose_any (row := some w2.heap.size) (old_behind hq) (by rw [LS.out]; exact hn) (fresh (isort xs)) (fun k W => SeenAt (w2.heap.size + 1) w2.heap.size W (dotsUpTo (isort xs) k)) 39 #[.pointer (some ⟨w2.heap.size + 1, 0, none⟩)] entersNorm
    (fun j hj => by cases hj; rw [HZ.out]; omega)
    (fun k W W' h g => h.below g (by rw [HZ.out]; omega) (by rw [HZ.out]; omega))
    (fun k W hk h hg => by
      have := givesNorm ((isort xs).getD k default) (HD.out k hk) (w2.heap.size + 1) w2.heap.size (by omega) (dotsUpTo (isort xs) k) (by unfold dotsUpTo; rw [List.length_map]; have := List.length_take_le k (isort xs); have := LS.out; omega) W h
      rw [← dotsUpTo_next hk] at this
      exact this)
    (seen_new w2)
  rw [HW.out] at K
  clear hb hs hq KS
  go_upto_region 4 with fail
  generalize ((w2.alloc (.map #[] 0)).alloc (.cells #[.map (some w2.heap.size)] 63)) = w4 at *
  generalize inorm xs = r at *
  go_wp2_with fail
  refine K.mono ?_
  rintro e w5 ⟨v, rfl, ho, hg, -⟩
  have O := Lib.hid (ho.mono HB.out.size)
  have G : Hid (Below w.heap.size w w5) := Lib.hid (HB.out.trans (below_of_own hg HB.out.size HS2.out))
  obtain ⟨av, cv, rfl, -⟩ := ho.parts
  clear ho hg K
  go_wp2_with fail
  go_ret
  exact ⟨_, rfl, O.out, G.out⟩
end Go.Proofs.YthcpglbeiibniaaGreat
