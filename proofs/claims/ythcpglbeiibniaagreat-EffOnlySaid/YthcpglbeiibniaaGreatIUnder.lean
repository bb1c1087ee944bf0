/- What the program's own Under of items leaves, and the function that it hands to those. -/
import Derived.Test.YthcpglbeiibniaaGreatIKeys
namespace Go.Proofs.YthcpglbeiibniaaGreat
open Go.RowKit Plain
set_option linter.unusedVariables false

theorem found_iff {zs : List Txt} (hr : Rising zs) {s : Txt} {k : Nat} (h1 : ∀ j, j < k → zs.getD j [] < s) (h2 : ∀ j, k ≤ j → j < zs.length → ¬ zs.getD j [] < s) : decide (k < zs.length ∧ zs.getD k [] = s) = decide (s ∈ zs) := by
  refine decide_eq_decide.2 ⟨fun ⟨g1, g2⟩ => by rw [← g2]; exact mem_getD g1, fun h => ?_⟩
  obtain ⟨j, hj, e⟩ := mem_at h
  have hkj : k ≤ j := Nat.not_lt.1 fun g => by have := h1 j g; rw [e] at this; exact lt_irrefl s this
  have hkl : k < zs.length := by omega
  refine ⟨hkl, ?_⟩
  by_cases he : k = j
  · rw [he]; exact e
  · have h3 := List.pairwise_iff_getElem.1 hr k j hkl hj (by omega)
    have h4 : zs.getD k [] < zs.getD j [] := by simpa [List.getD, List.getElem?_eq_getElem hkl, List.getElem?_eq_getElem hj] using h3
    rw [e] at h4
    exact absurd h4 (h2 k (Nat.le_refl _) hkl)
theorem entersUnder : ∀ args w, (callFunc 44 args).run Tryz.prog w = .ok (.enter 44 args) w := enters_of Tryz.func44 (by kernel_rfl) rfl
set_option maxRecDepth 100000 in
set_option maxHeartbeats 2000000 in
theorem givesUnder (x : PItem) {zv : Value} {zs : List Txt} (g : Nat) (W : World) (hc : W.cell? ⟨g, 0, none⟩ = some zv) (hv : SeqT W zv zs) (hr : Rising zs) (hn : zs.length ≤ 1000000) :
    Calls Tryz.prog 44 (#[itv x] ++ #[.pointer (some ⟨g, 0, none⟩)]) W fun e W' => e = .returned (.bool (!decide (x.key ∈ zs))) ∧ Below W.heap.size W W' := by
  show Calls Tryz.prog 44 #[.agg #[.string (bt x.key), .string (bt x.field), .int .i64 x.kind, .string (bt x.elem), .int .i64 x.n, .int .i64 x.dot.node, .int .i64 x.dot.seq, .int .i64 x.dot.pos], .pointer (some ⟨g, 0, none⟩)] W _
  have hb1 := (Below.refl W.heap.size W).alloc (Nat.le_refl _) (.cells #[.string (bt x.key), .string (bt x.field), .int .i64 x.kind, .string (bt x.elem), .int .i64 x.n, .int .i64 x.dot.node, .int .i64 x.dot.seq, .int .i64 x.dot.pos] 39)
  have hlt := World.block_lt_of_cell? W ⟨g, 0, none⟩ hc
  have hc1 := (hb1.cell (p := ⟨g, 0, none⟩) hlt).trans hc
  obtain ⟨k, -, h1, h2, K⟩ := search_texts (hv.below hb1) hr hn x.key
  rw [found_iff hr h1 h2] at K
  have IB : Hid (ItemAt (W.alloc (.cells #[.string (bt x.key), .string (bt x.field), .int .i64 x.kind, .string (bt x.elem), .int .i64 x.n, .int .i64 x.dot.node, .int .i64 x.dot.seq, .int .i64 x.dot.pos] 39)) W.heap.size 0 x) := Lib.hid ⟨by simp, by simp, by simp, by simp, by simp, by simp, by simp, by simp⟩
  have HB := Lib.hid hb1
  obtain ⟨a, cap, rfl, -⟩ := hv.parts
  clear hc hv h1 h2 hb1 hlt hr hn
  generalize decide (x.key ∈ zs) = r at *
  generalize zs.length = n at *
  go_enter Tryz.func44, Tryz.ntmps44
  go_upto_region 1 with fail
  generalize (W.alloc (.cells #[.string (bt x.key), .string (bt x.field), .int .i64 x.kind, .string (bt x.elem), .int .i64 x.n, .int .i64 x.dot.node, .int .i64 x.dot.seq, .int .i64 x.dot.pos] 39)) = wb at *
  obtain ⟨c0, c1, c2, c3, c4, c5, c6, c7⟩ := IB.out
  simp only [Nat.zero_add] at c1 c2 c3 c4 c5 c6 c7
  go_wp2_with fail
  refine K.mono ?_
  rintro e w2 ⟨rfl, q, rfl⟩
  have G := Lib.hid (below_drewN HB.out q)
  clear c0 c1 c2 c3 c4 c5 c6 c7 K
  go_wp2_with fail
  go_ret
  exact ⟨rfl, G.out⟩

set_option maxRecDepth 100000 in
set_option maxHeartbeats 2000000 in
/-- Under -/
theorem iunder_any {u v : Value} {xs : List PItem} {zs : List Txt} {w : World} (hu : SeqE LItem w u xs) (hv : SeqT w v zs) (hn : xs.length ≤ 1000000) (hz : zs.length ≤ 1000000) :
    Calls Tryz.prog 26 #[u, v] w (MadeE LItem w (iunder xs zs)) := by
  have KK := ikeys_any hu hn
  have HKL := ikeys_len xs
  have KW := Lib.hid (fun (W : World) (kv : Value) (hb : Below w.heap.size w W) (hs : SeqT W kv (ikeys xs)) => zwithout_any hs (hv.below hb) (by omega : (ikeys xs).length ≤ 1000000) hz)
  have HR : Hid (Rising (without (ikeys xs) zs)) := Lib.hid (rising_once _)
  have HWL : Hid ((without (ikeys xs) zs).length ≤ 1000000) := Lib.hid (by have := without_len (ikeys xs) zs; omega)
  have HE : Hid (pickK (fun j => !decide ((xs.getD j default).key ∈ without (ikeys xs) zs)) xs xs.length = iunder xs zs) := Lib.hid (by
    rw [pickK_cong (g := fun j => covers zs (xs.getD j default).key) xs xs.length (fun j hj => under_way (mem_def hj))]
    exact pickK_all (fun x : PItem => covers zs x.key) xs)
  have HP := Lib.hid (fun (W : World) (g : Nat) (zv : Value) (hb : Below w.heap.size w W) (hc : W.cell? ⟨g, 0, none⟩ = some zv) (hs : SeqT W zv (without (ikeys xs) zs)) =>
    ithose_any (row := none) (hu.below hb).old hn (fun j => !decide ((xs.getD j default).key ∈ without (ikeys xs) zs)) (fun _ W' => Below W.heap.size W W') 44 #[.pointer (some ⟨g, 0, none⟩)] entersUnder (fun j hj => by cases hj) (fun k W' W'' h g => h.trans g)
      (fun k W' hk h _ => (givesUnder _ g W' ((h.cell (p := ⟨g, 0, none⟩) (World.block_lt_of_cell? W ⟨g, 0, none⟩ hc)).trans hc) (hs.below h) HR.out HWL.out).mono fun e W'' ⟨he, g⟩ => ⟨he, h.trans (g.mono h.size), grown_of_below g⟩) (Below.refl _ _))
  rw [HE.out] at HP
  obtain ⟨a, cap, rfl, -⟩ := hu.parts
  obtain ⟨a', cap', rfl, -⟩ := hv.parts
  generalize without (ikeys xs) zs = wo at *
  generalize iunder xs zs = r at *
  generalize ikeys xs = ks at *
  generalize xs.length = n at *
  generalize zs.length = nz at *
  clear hu hv HE hn hz HKL
  go_enter Tryz.func26, Tryz.ntmps26
  go_wp2_with fail
  refine KK.mono ?_
  rintro e w1 ⟨v1, rfl, hs, hb⟩
  have K2 := KW.out w1 v1 hb hs
  have G1 := Lib.hid hb
  obtain ⟨a1, c1, rfl, -⟩ := hs.parts
  generalize ks.length = nk at *
  clear hs hb KK KW
  go_wp2_with fail
  refine K2.mono ?_
  rintro e w2 ⟨v2, rfl, hs, hb⟩
  have G2 : Hid (Below w.heap.size w w2) := Lib.hid (G1.out.trans (hb.mono G1.out.size))
  have G3 := Lib.hid (G2.out.alloc G2.out.size (.cells #[v2] 24))
  have K3 := HP.out (w2.alloc (.cells #[v2] 24)) w2.heap.size v2 G3.out (by simp) (hs.below_alloc _)
  obtain ⟨a2, c2, rfl, -⟩ := hs.parts
  clear hs hb K2 HP HR HWL
  generalize wo.length = nw at *
  go_upto_region 2 with fail
  generalize (w2.alloc (.cells #[.slice a2 nw c2] 24)) = w3 at *
  go_wp2_with fail
  refine K3.mono ?_
  rintro e w5 ⟨v5, rfl, ho, hg, -⟩
  have O := Lib.hid (ho.mono G3.out.size)
  have G : Hid (Below w.heap.size w w5) := Lib.hid (G3.out.trans ((below_of_grown hg).mono G3.out.size))
  obtain ⟨av, cv, rfl, -⟩ := ho.parts
  clear ho hg K3
  go_wp2_with fail
  go_ret
  exact ⟨_, rfl, O.out, G.out⟩
end Go.Proofs.YthcpglbeiibniaaGreat
