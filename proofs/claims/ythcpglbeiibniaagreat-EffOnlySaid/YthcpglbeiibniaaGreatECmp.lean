/- What the program's own compare of dots leaves. -/
import Derived.Test.YthcpglbeiibniaaGreatEMades
import Derived.Test.YthcpglbeiibniaaGreatIThose
import Derived.Test.YthcpglbeiibniaaGreatShelf
import Derived.Deep.RegionHeld3
namespace Go.Proofs.YthcpglbeiibniaaGreat
open Go.RowKit Plain
set_option linter.unusedVariables false

theorem two_cells (w : World) (X Y : Array Value) (t u : TypeId) (i : Nat) :
    ((w.alloc (.cells X t)).alloc (.cells Y u)).cell? ⟨w.heap.size, i, none⟩ = X[i]? ∧ ((w.alloc (.cells X t)).alloc (.cells Y u)).cell? ⟨w.heap.size + 1, i, none⟩ = Y[i]? := by
  have s1 : (w.alloc (.cells X t)).heap.size = w.heap.size + 1 := by simp
  have h1 := World.cell?_alloc_new w X t i
  have h2 := World.cell?_alloc_new (w.alloc (.cells X t)) Y u i
  rw [s1] at h2
  have b2 := (Below.refl (w.heap.size + 1) (w.alloc (.cells X t))).alloc (by rw [s1]; exact Nat.le_refl _) (.cells Y u)
  exact ⟨(b2.cell (p := ⟨w.heap.size, i, none⟩) (show w.heap.size < w.heap.size + 1 by omega)).trans h1, h2⟩
set_option maxRecDepth 100000 in
set_option maxHeartbeats 8000000 in
/-- compare -/
theorem ecompare_any (a b : PDot) (w : World) : Calls Tryz.prog 52 #[.agg #[.int .i64 a.node, .int .i64 a.seq, .int .i64 a.pos], .agg #[.int .i64 b.node, .int .i64 b.seq, .int .i64 b.pos]] w fun e w' => e = .returned (.int .i64 (dcmp a b)) ∧ Below w.heap.size w w' := by
  have HX : Hid (DotAt ((w.alloc (.cells #[.int .i64 a.node, .int .i64 a.seq, .int .i64 a.pos] 37)).alloc (.cells #[.int .i64 b.node, .int .i64 b.seq, .int .i64 b.pos] 37)) w.heap.size 0 a) := Lib.hid ⟨(two_cells w _ _ _ _ 0).1, (two_cells w _ _ _ _ 1).1, (two_cells w _ _ _ _ 2).1⟩
  have HY : Hid (DotAt ((w.alloc (.cells #[.int .i64 a.node, .int .i64 a.seq, .int .i64 a.pos] 37)).alloc (.cells #[.int .i64 b.node, .int .i64 b.seq, .int .i64 b.pos] 37)) (w.heap.size + 1) 0 b) := Lib.hid ⟨(two_cells w _ _ _ _ 0).2, (two_cells w _ _ _ _ 1).2, (two_cells w _ _ _ _ 2).2⟩
  have HB : Hid (Below w.heap.size w ((w.alloc (.cells #[.int .i64 a.node, .int .i64 a.seq, .int .i64 a.pos] 37)).alloc (.cells #[.int .i64 b.node, .int .i64 b.seq, .int .i64 b.pos] 37))) := Lib.hid (((Below.refl _ _).alloc (Nat.le_refl _) _).alloc (by simp) _)
  have K3 := Lib.hid (fun W => Tryz.cmp_Compare_int_f58 a.node b.node W)
  have K4 := Lib.hid (fun W => Tryz.cmp_Compare_int_f58 a.seq b.seq W)
  have K5 := Lib.hid (fun W => Tryz.cmp_Compare_int_f58 a.pos b.pos W)
  have HI : Hid (dcmp a b = firstNZ (dcmps a b)) := Lib.hid rfl
  rw [HI.out]
  unfold dcmps
  clear HI
  generalize Lib.compareInt a.node b.node = r0 at *
  generalize Lib.compareInt a.seq b.seq = r1 at *
  generalize Lib.compareInt a.pos b.pos = r2 at *
  obtain ⟨r, hr⟩ : ∃ r, firstNZ [r0, r1, r2] = r := ⟨_, rfl⟩
  rw [hr]
  have HR := Lib.hid hr
  clear hr
  go_enter Tryz.func52, Tryz.ntmps52
  go_upto_region 1 with fail
  generalize ((w.alloc (.cells #[.int .i64 a.node, .int .i64 a.seq, .int .i64 a.pos] 37)).alloc (.cells #[.int .i64 b.node, .int .i64 b.seq, .int .i64 b.pos] 37)) = W2 at *
  have KO := Lib.hid (ior_any [r0, r1, r2] 3 W2.heap.size (W2.alloc (.cells #[.int .i64 r0, .int .i64 r1, .int .i64 r2] 3)).drew rfl (by omega) (fun j hj => by
    have e : (W2.alloc (.cells #[.int .i64 r0, .int .i64 r1, .int .i64 r2] 3)).drew.cell? ⟨W2.heap.size, j, none⟩ = (#[.int .i64 r0, .int .i64 r1, .int .i64 r2] : Array Value)[j]? := World.cell?_alloc_new W2 #[.int .i64 r0, .int .i64 r1, .int .i64 r2] 3 j
    rw [e]
    match j, hj with
    | 0, _ => rfl
    | 1, _ => rfl
    | 2, _ => rfl))
  rw [HR.out] at KO
  have KE : Hid (∀ u, Below W2.heap.size W2 u → (u.cell? ⟨w.heap.size, 0, none⟩ = some (.int .i64 a.node) ∧ u.cell? ⟨w.heap.size, 1, none⟩ = some (.int .i64 a.seq) ∧ u.cell? ⟨w.heap.size, 2, none⟩ = some (.int .i64 a.pos)) ∧ (u.cell? ⟨w.heap.size + 1, 0, none⟩ = some (.int .i64 b.node) ∧ u.cell? ⟨w.heap.size + 1, 1, none⟩ = some (.int .i64 b.seq) ∧ u.cell? ⟨w.heap.size + 1, 2, none⟩ = some (.int .i64 b.pos))) := Lib.hid (fun u hu => by
    obtain ⟨c0, c1, c2⟩ := HX.out.below hu HX.out.lt
    obtain ⟨d0, d1, d2⟩ := HY.out.below hu HY.out.lt
    simp only [Nat.zero_add] at c1 c2 d1 d2
    exact ⟨⟨c0, c1, c2⟩, ⟨d0, d1, d2⟩⟩)
  generalize a.node = xnode at *
  generalize a.seq = xseq at *
  generalize a.pos = xpos at *
  generalize b.node = ynode at *
  generalize b.seq = yseq at *
  generalize b.pos = ypos at *
  go_region_held3 (fun u => (u.cell? ⟨w.heap.size, 0, none⟩ = some (.int .i64 xnode) ∧ u.cell? ⟨w.heap.size, 1, none⟩ = some (.int .i64 xseq) ∧ u.cell? ⟨w.heap.size, 2, none⟩ = some (.int .i64 xpos)) ∧ (u.cell? ⟨w.heap.size + 1, 0, none⟩ = some (.int .i64 ynode) ∧ u.cell? ⟨w.heap.size + 1, 1, none⟩ = some (.int .i64 yseq) ∧ u.cell? ⟨w.heap.size + 1, 2, none⟩ = some (.int .i64 ypos)))
    (first | (exact KE.out _ (Below.refl _ _).drew) | (exact KE.out _ ((Below.refl _ _).alloc (Nat.le_refl _) _).drew))
    (first
      | (go_at_call 58; (with_reducible refine (K3.out _).mono ?_); rintro e w' ⟨rfl, rfl⟩)
      | (go_at_call 58; (with_reducible refine (K4.out _).mono ?_); rintro e w' ⟨rfl, rfl⟩)
      | (go_at_call 58; (with_reducible refine (K5.out _).mono ?_); rintro e w' ⟨rfl, rfl⟩)
      | (go_at_call 56; (with_reducible refine KO.out.mono ?_); rintro e w' ⟨rfl, rfl⟩))
  go_wp2_with fail
  go_ret
  exact ⟨rfl, (HB.out.alloc HB.out.size _).drew⟩
end Go.Proofs.YthcpglbeiibniaaGreat
