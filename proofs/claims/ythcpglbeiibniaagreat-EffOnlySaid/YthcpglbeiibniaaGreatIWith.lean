/- What the program's own Without of items leaves, and the function that it hands to those. -/
import Derived.Test.YthcpglbeiibniaaGreatINormI
namespace Go.Proofs.YthcpglbeiibniaaGreat
open Go.RowKit Plain Go.Maps
set_option linter.unusedVariables false

theorem entersWithout : ∀ args w, (callFunc 36 args).run Tryz.prog w = .ok (.enter 36 args) w := enters_of Tryz.func36 (by kernel_rfl) rfl
set_option maxRecDepth 100000 in
set_option maxHeartbeats 2000000 in
theorem givesWithout (x : PItem) (hx : dotOk x.dot) (sb m : Nat) (ds : List PDot) (W : World) (hI : SeenAt sb m W ds) :
    Calls Tryz.prog 36 (#[itv x] ++ #[.pointer (some ⟨sb, 0, none⟩)]) W fun e W' => e = .returned (.bool (!hasDot ds x.dot)) ∧ Below W.heap.size W W' := by
  show Calls Tryz.prog 36 #[.agg #[.string (bt x.key), .string (bt x.field), .int .i64 x.kind, .string (bt x.elem), .int .i64 x.n, .int .i64 x.dot.node, .int .i64 x.dot.seq, .int .i64 x.dot.pos], .pointer (some ⟨sb, 0, none⟩)] W _
  obtain ⟨hc, D, n, hn, ho, hh⟩ := hI
  have hkey : keyOf Tryz.prog 37 (.agg #[.int .i64 x.dot.node, .int .i64 x.dot.seq, .int .i64 x.dot.pos]) = some (kd x.dot) := keyOf_dot hx
  have KY := Lib.hid hkey
  have hlt := World.block_lt_of_cell? W ⟨sb, 0, none⟩ hc
  have hb1 := (Below.refl W.heap.size W).alloc (Nat.le_refl _) (.cells #[.string (bt x.key), .string (bt x.field), .int .i64 x.kind, .string (bt x.elem), .int .i64 x.n, .int .i64 x.dot.node, .int .i64 x.dot.seq, .int .i64 x.dot.pos] 39)
  have HO1 := Lib.hid (ho.alloc (.cells #[.string (bt x.key), .string (bt x.field), .int .i64 x.kind, .string (bt x.elem), .int .i64 x.n, .int .i64 x.dot.node, .int .i64 x.dot.seq, .int .i64 x.dot.pos] 39))
  have hc1 := (hb1.cell (p := ⟨sb, 0, none⟩) hlt).trans hc
  have HB1 := Lib.hid hb1
  have IB : Hid (ItemAt (W.alloc (.cells #[.string (bt x.key), .string (bt x.field), .int .i64 x.kind, .string (bt x.elem), .int .i64 x.n, .int .i64 x.dot.node, .int .i64 x.dot.seq, .int .i64 x.dot.pos] 39)) W.heap.size 0 x) := Lib.hid ⟨by simp, by simp, by simp, by simp, by simp, by simp, by simp, by simp⟩
  have HHX := Lib.hid (hh x.dot hx)
  clear hh ho hx hkey hlt hb1 hn
  rw [← HHX.out]
  go_enter Tryz.func36, Tryz.ntmps36
  go_upto_region 1 with fail
  generalize (W.alloc (.cells #[.string (bt x.key), .string (bt x.field), .int .i64 x.kind, .string (bt x.elem), .int .i64 x.n, .int .i64 x.dot.node, .int .i64 x.dot.seq, .int .i64 x.dot.pos] 39)) = wb at *
  obtain ⟨c0, c1, c2, c3, c4, c5, c6, c7⟩ := IB.out
  simp only [Nat.zero_add] at c1 c2 c3 c4 c5 c6 c7
  have HB2 := Lib.hid (HB1.out.alloc HB1.out.size (.cells #[] 64))
  go_wp2_with (at_lookup; refine wpList_lookup_own_unit _ rfl _ _ 63 rfl 37 64 lawDot Tryz.underlying63 (zeroUnit _) m n D rfl HO1.out _ _ rfl KY.out ?_)
  go_ret
  exact ⟨rfl, HB2.out⟩

theorem take_snoc {α : Type} [Inhabited α] {xs : List α} {k : Nat} (hk : k < xs.length) : xs.take k ++ [xs.getD k default] = xs.take (k + 1) := (take_nextD hk).symm
set_option maxRecDepth 100000 in
set_option maxHeartbeats 4000000 in
/-- Without -/
theorem iwithout_any {u v : Value} {xs : List PItem} {ds : List PDot} {w : World} (hu : SeqE LItem w u xs) (hv : SeqE LDot w v ds) (hn : xs.length ≤ 1000000) (hm : ds.length ≤ 1000000) (hd : ∀ x ∈ xs, dotOk x.dot) (hq : ∀ d ∈ ds, dotOk d) :
    Calls Tryz.prog 21 #[u, v] w (MadeE LItem w (iwithout xs ds)) := by
  have hw1 : Below w.heap.size w ((w.alloc (.map #[] 0)).alloc (.cells #[.map (some w.heap.size)] 63)) := ((Below.refl _ _).alloc (Nat.le_refl _) _).alloc (by simp) _
  have HB1 := Lib.hid hw1
  have HS1 := Lib.hid (seen_new w)
  have HZ1 := Lib.hid (size_new w)
  have HX := Lib.hid hu
  have HD := Lib.hid (fun k (hk : k < xs.length) => hd _ (mem_def hk))
  have HP := Lib.hid (fun (W : World) (hb : Below w.heap.size w W) (hI : SeenAt (w.heap.size + 1) w.heap.size W ds) (hs : w.heap.size + 2 ≤ W.heap.size) =>
    ithose_any (row := none) (hu.below hb).old hn (fun j => !hasDot ds (xs.getD j default).dot) (fun _ W' => Below W.heap.size W W') 36 #[.pointer (some ⟨w.heap.size + 1, 0, none⟩)] entersWithout (fun j hj => by cases hj) (fun k W' W'' h g => h.trans g)
      (fun k W' hk h _ => (givesWithout _ (hd _ (mem_def hk)) (w.heap.size + 1) w.heap.size ds W' (hI.below h (by omega) (by omega))).mono fun e W'' ⟨he, g⟩ => ⟨he, h.trans (g.mono h.size), grown_of_below g⟩) (Below.refl _ _))
  have HE : Hid (pickK (fun j => !hasDot ds (xs.getD j default).dot) xs xs.length = iwithout xs ds) := Lib.hid (pickK_all (fun x : PItem => !hasDot ds x.dot) xs)
  rw [HE.out] at HP
  obtain ⟨a, cap, rfl, -⟩ := hu.parts
  obtain ⟨a', cap', rfl, -, -, -, h'⟩ := hv.parts
  have HV := Lib.hid h'
  have HQ := Lib.hid (fun k (hk : k < ds.length) => hq _ (mem_def hk))
  obtain ⟨n, hN⟩ : ∃ n, ds.length = n := ⟨_, rfl⟩
  have HA : Hid (ds.take n = ds) := Lib.hid (by rw [← hN, List.take_length])
  have H0 : Hid (ds.take 0 = []) := Lib.hid rfl
  have hmm := @run_makeMap Tryz.prog
  rw [hN] at hm HV HQ ⊢
  have LN := Lib.hid hN
  generalize iwithout xs ds = r at *
  generalize xs.length = nx at *
  clear hu hv h' hd hq hN hw1 HE HX HD hn
  go_enter Tryz.func21, Tryz.ntmps21
  go_upto_region 2 with fail
  generalize ((w.alloc (.map #[] 0)).alloc (.cells #[.map (some w.heap.size)] 63)) = w1 at *
  go_wp2_with fail
  go_loopw [11] (fun i wr => ∃ k : Nat, k ≤ n ∧ i = .int .i64 k ∧ SeenAt (w.heap.size + 1) w.heap.size wr (ds.take k) ∧ w1.grownBy wr (some w.heap.size)) (fun i _ => n - (intOf i).toNat)
  case atStart => exact ⟨0, Nat.zero_le _, rfl, by rw [H0.out]; exact HS1.out, World.grownBy.refl _ _⟩
  case round =>
    obtain ⟨k, hk, rfl, hs, hg⟩ := hrel
    have HG := Lib.hid hg
    have HB : Hid (Below w.heap.size w wr) := Lib.hid (HB1.out.trans (below_of_own hg HB1.out.size (Nat.le_refl _)))
    have hz : w.heap.size + 2 ≤ wr.heap.size := by have := hg.size; rw [HZ1.out] at this; exact this
    have HZ := Lib.hid hz
    have HS := Lib.hid hs
    clear hg hz
    by_cases hlt : k < n
    · have hkd := Lib.hid (show k < ds.length by rw [LN.out]; exact hlt)
      obtain ⟨b, o, c, hv, -, -, -, hc⟩ := dots_spot (HV.out.below HB.out) (by rw [LN.out]; omega)
      rw [LN.out] at hv
      simp only [Value.slice.injEq] at hv
      obtain ⟨rfl, -, rfl⟩ := hv
      obtain ⟨c0, c1, c2⟩ := hc k hkd.out
      have HQK := Lib.hid (HQ.out k hlt)
      have HTK := Lib.hid (take_snoc hkd.out)
      clear hc
      generalize ds.getD k default = d at *
      obtain ⟨hcs, D, nm, hnm, ho, hh⟩ := hs
      have hkey : keyOf Tryz.prog 37 (.agg #[.int .i64 d.node, .int .i64 d.seq, .int .i64 d.pos]) = some (kd d) := keyOf_dot HQK.out
      have KY := Lib.hid hkey
      have hD := Lib.hid ho.isMap
      have HH := Lib.hid hh
      have HN := Lib.hid hnm
      have hlm : nm < maxLen := by
        have : (ds.take k).length ≤ k := List.length_take_le k ds
        unfold maxLen
        omega
      have HM := Lib.hid hlm
      have hb1 := (Below.refl wr.heap.size wr).alloc (Nat.le_refl _) (.cells #[.int .i64 d.node, .int .i64 d.seq, .int .i64 d.pos] 37)
      have HO1 := Lib.hid (ho.alloc (.cells #[.int .i64 d.node, .int .i64 d.seq, .int .i64 d.pos] 37))
      have hc1 := (hb1.cell (p := ⟨w.heap.size + 1, 0, none⟩) (by have := HZ.out; show w.heap.size + 1 < wr.heap.size; omega)).trans hcs
      have HC1 := Lib.hid hc1
      have HG1 := Lib.hid (grown_alloc HG.out (.cells #[.int .i64 d.node, .int .i64 d.seq, .int .i64 d.pos] 37))
      clear ho hkey hb1 hnm hlm hcs hh
      go_upto_region 5 with fail
      clear c0 c1 c2
      have DB : Hid (DotAt (wr.alloc (.cells #[.int .i64 d.node, .int .i64 d.seq, .int .i64 d.pos] 37)) wr.heap.size 0 d) := Lib.hid ⟨by simp, by simp, by simp⟩
      generalize (wr.alloc (.cells #[.int .i64 d.node, .int .i64 d.seq, .int .i64 d.pos] 37)) = wb at *
      obtain ⟨d0, d1, d2⟩ := DB.out
      simp only [Nat.zero_add] at d1 d2
      go_wp2_with (at_mapUpdate; refine wpList_mapUpdate_own _ rfl _ _ _ 63 rfl 37 64 lawDot Tryz.underlying63 unitElem w.heap.size nm D rfl HO1.out HM.out _ _ _ rfl rfl KY.out (.agg []) [] unitElem_mk ?_)
      intro w2 ho2 hg2
      have O2 := Lib.hid (SetAt.put HQK.out HN.out hD.out HH.out ho2)
      rw [HTK.out] at O2
      have C2 := Lib.hid (hg2.cell HC1.out (fun e => by have := Option.some.inj e; simp at this))
      have G2 := Lib.hid (grown_trans HG1.out hg2 (fun j hj => .inl hj))
      clear ho2 hg2
      go_wp2_with fail
      go_roundw
      case rel => exact ⟨k + 1, by omega, by go_num, ⟨C2.out, O2.out⟩, G2.out⟩
      case measure => simp [intOf]; omega
    · obtain rfl : k = n := by omega
      rw [HA.out] at hs
      have K := HP.out wr HB.out hs HZ.out
      clear hs
      go_wp2_with fail
      refine K.mono ?_
      rintro e w5 ⟨v, rfl, ho, hg, -⟩
      have O := Lib.hid (ho.mono HB.out.size)
      have G : Hid (Below w.heap.size w w5) := Lib.hid (HB.out.trans ((below_of_grown hg).mono HB.out.size))
      obtain ⟨av, cv, rfl, -⟩ := ho.parts
      clear ho hg K
      go_wp2_with fail
      go_ret
      exact ⟨_, rfl, O.out, G.out⟩
end Go.Proofs.YthcpglbeiibniaaGreat
