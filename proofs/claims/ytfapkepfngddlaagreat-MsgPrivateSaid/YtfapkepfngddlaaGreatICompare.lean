/- What the program's own compare and Less of items leave. -/
import Derived.Test.YtfapkepfngddlaaGreatISets
import Derived.Test.YtfapkepfngddlaaGreatShelf
import Derived.Test.YtfapkepfngddlaaGreatZIs
import Derived.Sort.Grow
import Derived.Deep.RegionHeld3
import Derived.Deep.Cut
namespace Go.Proofs.YtfapkepfngddlaaGreat
open Go.RowKit Plain
set_option linter.unusedVariables false

theorem tcompare (a b : Txt) (W : World) : Calls Tryz.prog 154 #[.string (bt a), .string (bt b)] W fun e w' => e = .returned (.int .i64 (tcmp a b)) ∧ w' = W := Tryz.strings_Compare (bt a) (bt b) W

set_option maxRecDepth 100000 in
set_option maxHeartbeats 8000000 in
theorem icompare_any (x y : PItem) (w : World) : Calls Tryz.prog 124 #[itv x, itv y] w fun e w' => e = .returned (.int .i64 (icmp x y)) ∧ ∃ q os, w' = Sort.grow (w.drewN q) os := by
 have HX : Hid (ItemAt ((w.alloc (.cells #[.string (bt x.key), .string (bt x.field), .int .i64 x.kind, .string (bt x.elem), .int .i64 x.n, .int .i64 x.dot.node, .int .i64 x.dot.seq, .int .i64 x.dot.pos] 47)).alloc (.cells #[.string (bt y.key), .string (bt y.field), .int .i64 y.kind, .string (bt y.elem), .int .i64 y.n, .int .i64 y.dot.node, .int .i64 y.dot.seq, .int .i64 y.dot.pos] 47)) w.heap.size 0 x) := Lib.hid ⟨by simp, by simp, by simp, by simp, by simp, by simp, by simp, by simp⟩
 have HY : Hid (ItemAt ((w.alloc (.cells #[.string (bt x.key), .string (bt x.field), .int .i64 x.kind, .string (bt x.elem), .int .i64 x.n, .int .i64 x.dot.node, .int .i64 x.dot.seq, .int .i64 x.dot.pos] 47)).alloc (.cells #[.string (bt y.key), .string (bt y.field), .int .i64 y.kind, .string (bt y.elem), .int .i64 y.n, .int .i64 y.dot.node, .int .i64 y.dot.seq, .int .i64 y.dot.pos] 47)) (w.heap.size + 1) 0 y) := Lib.hid ⟨by simp, by simp, by simp, by simp, by simp, by simp, by simp, by simp⟩
 have HZ : Hid (((w.alloc (.cells #[.string (bt x.key), .string (bt x.field), .int .i64 x.kind, .string (bt x.elem), .int .i64 x.n, .int .i64 x.dot.node, .int .i64 x.dot.seq, .int .i64 x.dot.pos] 47)).alloc (.cells #[.string (bt y.key), .string (bt y.field), .int .i64 y.kind, .string (bt y.elem), .int .i64 y.n, .int .i64 y.dot.node, .int .i64 y.dot.seq, .int .i64 y.dot.pos] 47)).heap.size = w.heap.size + 2) := Lib.hid (by simp)
 obtain ⟨os2, hw2⟩ : ∃ os, ((w.alloc (.cells #[.string (bt x.key), .string (bt x.field), .int .i64 x.kind, .string (bt x.elem), .int .i64 x.n, .int .i64 x.dot.node, .int .i64 x.dot.seq, .int .i64 x.dot.pos] 47)).alloc (.cells #[.string (bt y.key), .string (bt y.field), .int .i64 y.kind, .string (bt y.elem), .int .i64 y.n, .int .i64 y.dot.node, .int .i64 y.dot.seq, .int .i64 y.dot.pos] 47)) = Sort.grow w os := ⟨#[(.cells #[.string (bt x.key), .string (bt x.field), .int .i64 x.kind, .string (bt x.elem), .int .i64 x.n, .int .i64 x.dot.node, .int .i64 x.dot.seq, .int .i64 x.dot.pos] 47), (.cells #[.string (bt y.key), .string (bt y.field), .int .i64 y.kind, .string (bt y.elem), .int .i64 y.n, .int .i64 y.dot.node, .int .i64 y.dot.seq, .int .i64 y.dot.pos] 47)], rfl⟩
 have HW := Lib.hid hw2
 clear hw2
 have K0 := Lib.hid (fun W => tcompare x.key y.key W)
 have K1 := Lib.hid (fun W => tcompare x.field y.field W)
 have K2 := Lib.hid (fun W => Tryz.cmp_Compare_int_f155 x.kind y.kind W)
 have K3 := Lib.hid (fun W => Tryz.cmp_Compare_int_f155 x.dot.node y.dot.node W)
 have K4 := Lib.hid (fun W => Tryz.cmp_Compare_int_f155 x.dot.seq y.dot.seq W)
 have K5 := Lib.hid (fun W => Tryz.cmp_Compare_int_f155 x.dot.pos y.dot.pos W)
 have K6 := Lib.hid (fun W => tcompare x.elem y.elem W)
 have K7 := Lib.hid (fun W => Tryz.cmp_Compare_int_f156 x.n y.n W)
 have HI : Hid (icmp x y = firstNZ (cmps x y)) := Lib.hid rfl
 rw [HI.out]
 unfold cmps
 clear HI
 generalize tcmp x.key y.key = r0 at *
 generalize tcmp x.field y.field = r1 at *
 generalize Lib.compareInt x.kind y.kind = r2 at *
 generalize Lib.compareInt x.dot.node y.dot.node = r3 at *
 generalize Lib.compareInt x.dot.seq y.dot.seq = r4 at *
 generalize Lib.compareInt x.dot.pos y.dot.pos = r5 at *
 generalize tcmp x.elem y.elem = r6 at *
 generalize Lib.compareInt x.n y.n = r7 at *
 obtain ⟨r, hr⟩ : ∃ r, firstNZ [r0, r1, r2, r3, r4, r5, r6, r7] = r := ⟨_, rfl⟩
 rw [hr]
 have HR := Lib.hid hr
 clear hr
 rw [itv_eq3, itv_eq3]
 go_enter Tryz.func124, Tryz.ntmps124
 go_upto_region 1 with fail
 generalize ((w.alloc (.cells #[.string (bt x.key), .string (bt x.field), .int .i64 x.kind, .string (bt x.elem), .int .i64 x.n, .int .i64 x.dot.node, .int .i64 x.dot.seq, .int .i64 x.dot.pos] 47)).alloc (.cells #[.string (bt y.key), .string (bt y.field), .int .i64 y.kind, .string (bt y.elem), .int .i64 y.n, .int .i64 y.dot.node, .int .i64 y.dot.seq, .int .i64 y.dot.pos] 47)) = W2 at *
 have KO := Lib.hid (ior_any [r0, r1, r2, r3, r4, r5, r6, r7] 8 W2.heap.size (W2.alloc (.cells #[.int .i64 r0, .int .i64 r1, .int .i64 r2, .int .i64 r3, .int .i64 r4, .int .i64 r5, .int .i64 r6, .int .i64 r7] 3)).drew rfl (by omega) (fun j hj => by
  have e : (W2.alloc (.cells #[.int .i64 r0, .int .i64 r1, .int .i64 r2, .int .i64 r3, .int .i64 r4, .int .i64 r5, .int .i64 r6, .int .i64 r7] 3)).drew.cell? ⟨W2.heap.size, j, none⟩ = (#[.int .i64 r0, .int .i64 r1, .int .i64 r2, .int .i64 r3, .int .i64 r4, .int .i64 r5, .int .i64 r6, .int .i64 r7] : Array Value)[j]? := by
   have := World.cell?_alloc_new W2 #[.int .i64 r0, .int .i64 r1, .int .i64 r2, .int .i64 r3, .int .i64 r4, .int .i64 r5, .int .i64 r6, .int .i64 r7] 3 j
   exact this
  rw [e]
  match j, hj with
  | 0, _ => rfl
  | 1, _ => rfl
  | 2, _ => rfl
  | 3, _ => rfl
  | 4, _ => rfl
  | 5, _ => rfl
  | 6, _ => rfl
  | 7, _ => rfl))
 rw [HR.out] at KO
 have KE : Hid (∀ u, Below W2.heap.size W2 u → (u.cell? ⟨w.heap.size, 0, none⟩ = some (.string (bt x.key)) ∧ u.cell? ⟨w.heap.size, 1, none⟩ = some (.string (bt x.field)) ∧ u.cell? ⟨w.heap.size, 2, none⟩ = some (.int .i64 x.kind) ∧ u.cell? ⟨w.heap.size, 3, none⟩ = some (.string (bt x.elem)) ∧ u.cell? ⟨w.heap.size, 4, none⟩ = some (.int .i64 x.n) ∧ u.cell? ⟨w.heap.size, 5, none⟩ = some (.int .i64 x.dot.node) ∧ u.cell? ⟨w.heap.size, 6, none⟩ = some (.int .i64 x.dot.seq) ∧ u.cell? ⟨w.heap.size, 7, none⟩ = some (.int .i64 x.dot.pos)) ∧ (u.cell? ⟨w.heap.size + 1, 0, none⟩ = some (.string (bt y.key)) ∧ u.cell? ⟨w.heap.size + 1, 1, none⟩ = some (.string (bt y.field)) ∧ u.cell? ⟨w.heap.size + 1, 2, none⟩ = some (.int .i64 y.kind) ∧ u.cell? ⟨w.heap.size + 1, 3, none⟩ = some (.string (bt y.elem)) ∧ u.cell? ⟨w.heap.size + 1, 4, none⟩ = some (.int .i64 y.n) ∧ u.cell? ⟨w.heap.size + 1, 5, none⟩ = some (.int .i64 y.dot.node) ∧ u.cell? ⟨w.heap.size + 1, 6, none⟩ = some (.int .i64 y.dot.seq) ∧ u.cell? ⟨w.heap.size + 1, 7, none⟩ = some (.int .i64 y.dot.pos))) := Lib.hid (fun u hu => by
  obtain ⟨c0, c1, c2, c3, c4, c5, c6, c7⟩ := HX.out.below hu HX.out.lt
  obtain ⟨d0, d1, d2, d3, d4, d5, d6, d7⟩ := HY.out.below hu HY.out.lt
  simp only [Nat.zero_add] at c1 c2 c3 c4 c5 c6 c7 d1 d2 d3 d4 d5 d6 d7
  exact ⟨⟨c0, c1, c2, c3, c4, c5, c6, c7⟩, ⟨d0, d1, d2, d3, d4, d5, d6, d7⟩⟩)
 generalize bt x.key = xkey at *
 generalize bt y.key = ykey at *
 generalize bt x.field = xfield at *
 generalize bt y.field = yfield at *
 generalize bt x.elem = xelem at *
 generalize bt y.elem = yelem at *
 generalize x.kind = xkind at *
 generalize x.n = xnn at *
 generalize x.dot.node = xnode at *
 generalize x.dot.seq = xseq at *
 generalize x.dot.pos = xpos at *
 generalize y.kind = ykind at *
 generalize y.n = ynn at *
 generalize y.dot.node = ynode at *
 generalize y.dot.seq = yseq at *
 generalize y.dot.pos = ypos at *
 go_region_held3 (fun u => (u.cell? ⟨w.heap.size, 0, none⟩ = some (.string (xkey)) ∧ u.cell? ⟨w.heap.size, 1, none⟩ = some (.string (xfield)) ∧ u.cell? ⟨w.heap.size, 2, none⟩ = some (.int .i64 xkind) ∧ u.cell? ⟨w.heap.size, 3, none⟩ = some (.string (xelem)) ∧ u.cell? ⟨w.heap.size, 4, none⟩ = some (.int .i64 xnn) ∧ u.cell? ⟨w.heap.size, 5, none⟩ = some (.int .i64 xnode) ∧ u.cell? ⟨w.heap.size, 6, none⟩ = some (.int .i64 xseq) ∧ u.cell? ⟨w.heap.size, 7, none⟩ = some (.int .i64 xpos)) ∧ (u.cell? ⟨w.heap.size + 1, 0, none⟩ = some (.string (ykey)) ∧ u.cell? ⟨w.heap.size + 1, 1, none⟩ = some (.string (yfield)) ∧ u.cell? ⟨w.heap.size + 1, 2, none⟩ = some (.int .i64 ykind) ∧ u.cell? ⟨w.heap.size + 1, 3, none⟩ = some (.string (yelem)) ∧ u.cell? ⟨w.heap.size + 1, 4, none⟩ = some (.int .i64 ynn) ∧ u.cell? ⟨w.heap.size + 1, 5, none⟩ = some (.int .i64 ynode) ∧ u.cell? ⟨w.heap.size + 1, 6, none⟩ = some (.int .i64 yseq) ∧ u.cell? ⟨w.heap.size + 1, 7, none⟩ = some (.int .i64 ypos)))
  (first | (exact KE.out _ (Below.refl _ _).drew) | (exact KE.out _ ((Below.refl _ _).alloc (Nat.le_refl _) _).drew))
  (first
   | (go_at_call 154; (with_reducible refine (K0.out _).mono ?_); rintro e w' ⟨rfl, rfl⟩)
   | (go_at_call 154; (with_reducible refine (K1.out _).mono ?_); rintro e w' ⟨rfl, rfl⟩)
   | (go_at_call 155; (with_reducible refine (K2.out _).mono ?_); rintro e w' ⟨rfl, rfl⟩)
   | (go_at_call 155; (with_reducible refine (K3.out _).mono ?_); rintro e w' ⟨rfl, rfl⟩)
   | (go_at_call 155; (with_reducible refine (K4.out _).mono ?_); rintro e w' ⟨rfl, rfl⟩)
   | (go_at_call 155; (with_reducible refine (K5.out _).mono ?_); rintro e w' ⟨rfl, rfl⟩)
   | (go_at_call 154; (with_reducible refine (K6.out _).mono ?_); rintro e w' ⟨rfl, rfl⟩)
   | (go_at_call 156; (with_reducible refine (K7.out _).mono ?_); rintro e w' ⟨rfl, rfl⟩)
   | (go_at_call 153; (with_reducible refine KO.out.mono ?_); rintro e w' ⟨rfl, rfl⟩))
 go_wp2_with fail
 go_ret
 exact ⟨rfl, 1, os2 ++ #[(.cells #[.int .i64 r0, .int .i64 r1, .int .i64 r2, .int .i64 r3, .int .i64 r4, .int .i64 r5, .int .i64 r6, .int .i64 r7] 3)], by rw [HW.out, Sort.alloc_eq_grow, Sort.grow_grow]; rfl⟩

end Go.Proofs.YtfapkepfngddlaaGreat
