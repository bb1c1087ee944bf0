/- What the program's own compare and Less of items leave. -/
import Derived.Test.YtfapkepfngddlaaGreatISets
import Derived.Test.YtfapkepfngddlaaGreatShelf
import Derived.Test.YtfapkepfngddlaaGreatStItems
import Derived.Sort.Grow
import Derived.Deep.RegionHeld3
import Derived.Deep.Cut
import Derived.Test.YtfapkepfngddlaaGreatEls
import Derived.Shelf.GgSortFunc.InsertionK
import Derived.Test.YtfapkepfngddlaaGreatRefSs
import Derived.IntWalk
import Derived.Shelf.SlSortCmp.NoneTotal
set_option maxRecDepth 100000
set_option maxHeartbeats 64000000
namespace Go.Proofs.YtfapkepfngddlaaGreat
open Go.RowKit Plain
set_option linter.unusedVariables false
theorem tcompare (a b : Txt) (W : World) : Calls Tryz.prog 154 #[.string (bt a), .string (bt b)] W fun e w' => e = .returned (.int .i64 (tcmp a b)) ∧ w' = W := Tryz.strings_Compare (bt a) (bt b) W
theorem icompare_any (x y : PItem) (w : World) : Calls Tryz.prog 124 #[itv x, itv y] w fun e w' => e = .returned (.int .i64 (icmp x y)) ∧ ∃ q os, w' = Sort.grow (w.drewN q) os := by
 have HX : Hid (ItemAt ((w.alloc (.cells #[.string (bt x.key), .string (bt x.field), .int .i64 x.kind, .string (bt x.elem), .int .i64 x.n, .int .i64 x.dot.node, .int .i64 x.dot.seq, .int .i64 x.dot.pos] 47)).alloc (.cells #[.string (bt y.key), .string (bt y.field), .int .i64 y.kind, .string (bt y.elem), .int .i64 y.n, .int .i64 y.dot.node, .int .i64 y.dot.seq, .int .i64 y.dot.pos] 47)) w.heap.size 0 x) := zH ⟨by simp, by simp, by simp, by simp, by simp, by simp, by simp, by simp⟩;have HY : Hid (ItemAt ((w.alloc (.cells #[.string (bt x.key), .string (bt x.field), .int .i64 x.kind, .string (bt x.elem), .int .i64 x.n, .int .i64 x.dot.node, .int .i64 x.dot.seq, .int .i64 x.dot.pos] 47)).alloc (.cells #[.string (bt y.key), .string (bt y.field), .int .i64 y.kind, .string (bt y.elem), .int .i64 y.n, .int .i64 y.dot.node, .int .i64 y.dot.seq, .int .i64 y.dot.pos] 47)) (w.heap.size + 1) 0 y) := zH ⟨by simp, by simp, by simp, by simp, by simp, by simp, by simp, by simp⟩;have HZ : Hid (((w.alloc (.cells #[.string (bt x.key), .string (bt x.field), .int .i64 x.kind, .string (bt x.elem), .int .i64 x.n, .int .i64 x.dot.node, .int .i64 x.dot.seq, .int .i64 x.dot.pos] 47)).alloc (.cells #[.string (bt y.key), .string (bt y.field), .int .i64 y.kind, .string (bt y.elem), .int .i64 y.n, .int .i64 y.dot.node, .int .i64 y.dot.seq, .int .i64 y.dot.pos] 47)).heap.size = w.heap.size + 2) := zH (by simp);obtain ⟨os2, hw2⟩ : ∃ os, ((w.alloc (.cells #[.string (bt x.key), .string (bt x.field), .int .i64 x.kind, .string (bt x.elem), .int .i64 x.n, .int .i64 x.dot.node, .int .i64 x.dot.seq, .int .i64 x.dot.pos] 47)).alloc (.cells #[.string (bt y.key), .string (bt y.field), .int .i64 y.kind, .string (bt y.elem), .int .i64 y.n, .int .i64 y.dot.node, .int .i64 y.dot.seq, .int .i64 y.dot.pos] 47)) = Sort.grow w os := ⟨#[(.cells #[.string (bt x.key), .string (bt x.field), .int .i64 x.kind, .string (bt x.elem), .int .i64 x.n, .int .i64 x.dot.node, .int .i64 x.dot.seq, .int .i64 x.dot.pos] 47), (.cells #[.string (bt y.key), .string (bt y.field), .int .i64 y.kind, .string (bt y.elem), .int .i64 y.n, .int .i64 y.dot.node, .int .i64 y.dot.seq, .int .i64 y.dot.pos] 47)], rfl⟩;have HW := zH hw2;clear hw2;have K0 := zH (fun W => tcompare x.key y.key W);have K1 := zH (fun W => tcompare x.field y.field W);have K2 := zH (fun W => Tryz.cmp_Compare_int_f155 x.kind y.kind W);have K3 := zH (fun W => Tryz.cmp_Compare_int_f155 x.dot.node y.dot.node W);have K4 := zH (fun W => Tryz.cmp_Compare_int_f155 x.dot.seq y.dot.seq W);have K5 := zH (fun W => Tryz.cmp_Compare_int_f155 x.dot.pos y.dot.pos W);have K6 := zH (fun W => tcompare x.elem y.elem W);have K7 := zH (fun W => Tryz.cmp_Compare_int_f156 x.n y.n W);have HI : Hid (icmp x y = firstNZ (cmps x y)) := zH rfl;rw [HI.out];unfold cmps;clear HI;generalize tcmp x.key y.key = r0 at *;generalize tcmp x.field y.field = r1 at *;generalize Lib.compareInt x.kind y.kind = r2 at *;generalize Lib.compareInt x.dot.node y.dot.node = r3 at *;generalize Lib.compareInt x.dot.seq y.dot.seq = r4 at *;generalize Lib.compareInt x.dot.pos y.dot.pos = r5 at *;generalize tcmp x.elem y.elem = r6 at *;generalize Lib.compareInt x.n y.n = r7 at *;obtain ⟨r, hr⟩ : ∃ r, firstNZ [r0, r1, r2, r3, r4, r5, r6, r7] = r := ⟨_, rfl⟩;rw [hr];have HR := zH hr;clear hr;rw [itv_eq3, itv_eq3];go_enter Tryz.func124, Tryz.ntmps124
 go_upto_region 1 with fail
 generalize ((w.alloc (.cells #[.string (bt x.key), .string (bt x.field), .int .i64 x.kind, .string (bt x.elem), .int .i64 x.n, .int .i64 x.dot.node, .int .i64 x.dot.seq, .int .i64 x.dot.pos] 47)).alloc (.cells #[.string (bt y.key), .string (bt y.field), .int .i64 y.kind, .string (bt y.elem), .int .i64 y.n, .int .i64 y.dot.node, .int .i64 y.dot.seq, .int .i64 y.dot.pos] 47)) = W2 at *;have KO := zH (ior_any [r0, r1, r2, r3, r4, r5, r6, r7] 8 W2.heap.size (W2.alloc (.cells #[.int .i64 r0, .int .i64 r1, .int .i64 r2, .int .i64 r3, .int .i64 r4, .int .i64 r5, .int .i64 r6, .int .i64 r7] 3)).drew rfl (by omega) (fun j hj => by
  have e : (W2.alloc (.cells #[.int .i64 r0, .int .i64 r1, .int .i64 r2, .int .i64 r3, .int .i64 r4, .int .i64 r5, .int .i64 r6, .int .i64 r7] 3)).drew.cell? ⟨W2.heap.size, j, none⟩ = (#[.int .i64 r0, .int .i64 r1, .int .i64 r2, .int .i64 r3, .int .i64 r4, .int .i64 r5, .int .i64 r6, .int .i64 r7] : Array Value)[j]? := by
   have := World.cell?_alloc_new W2 #[.int .i64 r0, .int .i64 r1, .int .i64 r2, .int .i64 r3, .int .i64 r4, .int .i64 r5, .int .i64 r6, .int .i64 r7] 3 j;exact this
  rw [e]
  match j, hj with
  | 0, _ => rfl
  | 1, _ => rfl
  | 2, _ => rfl
  | 3, _ => rfl
  | 4, _ => rfl
  | 5, _ => rfl
  | 6, _ => rfl
  | 7, _ => rfl))
 rw [HR.out] at KO;have KE : Hid (∀ u, Below W2.heap.size W2 u → (u.cell? ⟨w.heap.size, 0, none⟩ = some (.string (bt x.key)) ∧ u.cell? ⟨w.heap.size, 1, none⟩ = some (.string (bt x.field)) ∧ u.cell? ⟨w.heap.size, 2, none⟩ = some (.int .i64 x.kind) ∧ u.cell? ⟨w.heap.size, 3, none⟩ = some (.string (bt x.elem)) ∧ u.cell? ⟨w.heap.size, 4, none⟩ = some (.int .i64 x.n) ∧ u.cell? ⟨w.heap.size, 5, none⟩ = some (.int .i64 x.dot.node) ∧ u.cell? ⟨w.heap.size, 6, none⟩ = some (.int .i64 x.dot.seq) ∧ u.cell? ⟨w.heap.size, 7, none⟩ = some (.int .i64 x.dot.pos)) ∧ (u.cell? ⟨w.heap.size + 1, 0, none⟩ = some (.string (bt y.key)) ∧ u.cell? ⟨w.heap.size + 1, 1, none⟩ = some (.string (bt y.field)) ∧ u.cell? ⟨w.heap.size + 1, 2, none⟩ = some (.int .i64 y.kind) ∧ u.cell? ⟨w.heap.size + 1, 3, none⟩ = some (.string (bt y.elem)) ∧ u.cell? ⟨w.heap.size + 1, 4, none⟩ = some (.int .i64 y.n) ∧ u.cell? ⟨w.heap.size + 1, 5, none⟩ = some (.int .i64 y.dot.node) ∧ u.cell? ⟨w.heap.size + 1, 6, none⟩ = some (.int .i64 y.dot.seq) ∧ u.cell? ⟨w.heap.size + 1, 7, none⟩ = some (.int .i64 y.dot.pos))) := zH (fun u hu => by
  obtain ⟨c0, c1, c2, c3, c4, c5, c6, c7⟩ := HX.out.below hu HX.out.lt;obtain ⟨d0, d1, d2, d3, d4, d5, d6, d7⟩ := HY.out.below hu HY.out.lt;simp only [Nat.zero_add] at c1 c2 c3 c4 c5 c6 c7 d1 d2 d3 d4 d5 d6 d7
  exact ⟨⟨c0, c1, c2, c3, c4, c5, c6, c7⟩, ⟨d0, d1, d2, d3, d4, d5, d6, d7⟩⟩)
 generalize bt x.key = xkey at *;generalize bt y.key = ykey at *;generalize bt x.field = xfield at *;generalize bt y.field = yfield at *;generalize bt x.elem = xelem at *;generalize bt y.elem = yelem at *;generalize x.kind = xkind at *;generalize x.n = xnn at *;generalize x.dot.node = xnode at *;generalize x.dot.seq = xseq at *;generalize x.dot.pos = xpos at *;generalize y.kind = ykind at *;generalize y.n = ynn at *;generalize y.dot.node = ynode at *;generalize y.dot.seq = yseq at *;generalize y.dot.pos = ypos at *
 go_region_held3 (fun u => (u.cell? ⟨w.heap.size, 0, none⟩ = some (.string (xkey)) ∧ u.cell? ⟨w.heap.size, 1, none⟩ = some (.string (xfield)) ∧ u.cell? ⟨w.heap.size, 2, none⟩ = some (.int .i64 xkind) ∧ u.cell? ⟨w.heap.size, 3, none⟩ = some (.string (xelem)) ∧ u.cell? ⟨w.heap.size, 4, none⟩ = some (.int .i64 xnn) ∧ u.cell? ⟨w.heap.size, 5, none⟩ = some (.int .i64 xnode) ∧ u.cell? ⟨w.heap.size, 6, none⟩ = some (.int .i64 xseq) ∧ u.cell? ⟨w.heap.size, 7, none⟩ = some (.int .i64 xpos)) ∧ (u.cell? ⟨w.heap.size + 1, 0, none⟩ = some (.string (ykey)) ∧ u.cell? ⟨w.heap.size + 1, 1, none⟩ = some (.string (yfield)) ∧ u.cell? ⟨w.heap.size + 1, 2, none⟩ = some (.int .i64 ykind) ∧ u.cell? ⟨w.heap.size + 1, 3, none⟩ = some (.string (yelem)) ∧ u.cell? ⟨w.heap.size + 1, 4, none⟩ = some (.int .i64 ynn) ∧ u.cell? ⟨w.heap.size + 1, 5, none⟩ = some (.int .i64 ynode) ∧ u.cell? ⟨w.heap.size + 1, 6, none⟩ = some (.int .i64 yseq) ∧ u.cell? ⟨w.heap.size + 1, 7, none⟩ = some (.int .i64 ypos)))
  (first | (exact KE.out _ (Below.refl _ _).drew) | (exact KE.out _ ((Below.refl _ _).alloc (Nat.le_refl _) _).drew))
  (first
   | (go_at_call 154; (with_reducible refine (K0.out _).mono ?_); rintro e w' ⟨rfl, rfl⟩)
   | (go_at_call 154; (with_reducible refine (K1.out _).mono ?_); rintro e w' ⟨rfl, rfl⟩)
   | (go_at_call 155; (with_reducible refine (K2.out _).mono ?_); rintro e w' ⟨rfl, rfl⟩)
   | (go_at_call 155; (with_reducible refine (K3.out _).mono ?_); rintro e w' ⟨rfl, rfl⟩)
   | (go_at_call 155; (with_reducible refine (K4.out _).mono ?_); rintro e w' ⟨rfl, rfl⟩)
   | (go_at_call 155; (with_reducible refine (K5.out _).mono ?_); rintro e w' ⟨rfl, rfl⟩)
   | (go_at_call 154; (with_reducible refine (K6.out _).mono ?_); rintro e w' ⟨rfl, rfl⟩)
   | (go_at_call 156; (with_reducible refine (K7.out _).mono ?_); rintro e w' ⟨rfl, rfl⟩)
   | (go_at_call 153; (with_reducible refine KO.out.mono ?_); rintro e w' ⟨rfl, rfl⟩))
 go_wp2_with fail
 go_ret
 exact ⟨rfl, 1, os2 ++ #[(.cells #[.int .i64 r0, .int .i64 r1, .int .i64 r2, .int .i64 r3, .int .i64 r4, .int .i64 r5, .int .i64 r6, .int .i64 r7] 3)], by rw [HW.out, Sort.alloc_eq_grow, Sort.grow_grow]; rfl⟩
variable {α : Type} [Inhabited α] {L : El α}
theorem getB {xs : List α} {j : Nat} (hj : j < xs.length) : xs.toArray[j]! = xs.getD j default := by
 simp [getElem!_pos, hj, List.getD]
theorem holdsK_of_own {enc : α → List Value} (hE : ∀ {P w vs x}, L.R P w vs x → vs = enc x) (hk : ∀ x, (enc x).length = L.k) {B : Nat} {w : World} {g n cap : Nat} {xs : List α} (h : OwnE L B w (.slice (some ⟨g, 0, none⟩) n cap) xs) : Sort.HoldsK enc L.k w g 0 xs.toArray := by
 have hn := h.seq.dims.1;subst hn;obtain ⟨vals, ho, hr⟩ := h;intro j hj;rw [Sort.size_flatK, List.size_toArray] at hj;rw [Nat.zero_add];refine ⟨?_, World.ownsRow.frozenAt ho j⟩;rw [World.ownsRow.cellAt ho j hj, Sort.get_flatK _ _ _ _ (by rw [List.size_toArray]; exact hj)];have hp := L.pos;have hq : j / L.k < xs.length := by rw [Nat.div_lt_iff_lt_mul hp]; exact hj
 have hm : j % L.k < L.k := Nat.mod_lt j hp;have e : j / L.k * L.k + j % L.k = j := by rw [Nat.mul_comm]; exact Nat.div_add_mod j L.k
 have hR := hE (hr.2 (j / L.k) _ (List.getElem?_eq_getElem hq));have h1 := pt_get (k := L.k) vals (j / L.k) (j % L.k) hm;rw [hR, e] at h1;rw [← h1, getB hq];have e2 : xs.getD (j / L.k) default = xs[j / L.k] := by simp [List.getD, List.getElem?_eq_getElem hq]
 rw [e2];have hl : j % L.k < (enc xs[j / L.k]).length := by rw [hk]; exact hm
 rw [List.getElem?_eq_getElem hl];simp [getElem!_pos, hl]
theorem sq_of_holdsK {enc : α → List Value} (hE : ∀ {P w vs x}, vs = enc x → L.R P w vs x) (hk : ∀ x, (enc x).length = L.k) {w : World} {g off cap : Nat} {xs : List α} (h : Sort.HoldsK enc L.k w g off xs.toArray) (hc : xs.length ≤ cap) (hm : cap ≤ maxLen) {P : Nat → Prop} (hP : P g) : Sq L P w (.slice (some ⟨g, off, none⟩) xs.length cap) xs := by
 have hs : (Sort.flatK enc L.k xs.toArray).toList.length = xs.length * L.k := by rw [Array.length_toList, Sort.size_flatK, List.size_toArray]
 have hat : ∀ i, i < xs.length * L.k → (Sort.flatK enc L.k xs.toArray).toList[i]? = some (Sort.flatK enc L.k xs.toArray)[i]! := by
  intro i hi;have hi2 : i < (Sort.flatK enc L.k xs.toArray).size := by rw [Sort.size_flatK, List.size_toArray]; exact hi
  rw [Array.getElem?_toList, Array.getElem?_eq_getElem hi2, getElem!_pos _ i hi2]
 refine ⟨_, cap, (Sort.flatK enc L.k xs.toArray).toList, rfl, hc, hm, (by simp), ⟨hs, fun j x hj => hE ?_⟩, fun _ => ⟨g, off, rfl, hP, fun i u hi => ?_⟩⟩
 ·have hjl := (List.getElem?_eq_some_iff.1 hj).1
  have hle : (j + 1) * L.k ≤ xs.length * L.k := Nat.mul_le_mul_right L.k hjl;have he : (j + 1) * L.k = j * L.k + L.k := Nat.succ_mul j L.k;refine List.ext_getElem? fun i => ?_
  by_cases hi : i < L.k
  ·rw [pt_get _ _ _ hi, hat _ (by omega), Sort.get_flatK _ _ _ _ (by rw [List.size_toArray]; omega)]
   have e1 : (j * L.k + i) / L.k = j := by rw [Nat.mul_comm, Nat.mul_add_div L.pos, Nat.div_eq_of_lt hi, Nat.add_zero]
   have e2 : (j * L.k + i) % L.k = i := by rw [Nat.mul_comm, Nat.mul_add_mod, Nat.mod_eq_of_lt hi]
   rw [e1, e2, getB hjl];have e3 : xs.getD j default = x := by simp [List.getD, hj]
   rw [e3];have hl : i < (enc x).length := by rw [hk]; exact hi
   rw [List.getElem?_eq_getElem hl];simp [getElem!_pos, hl]
  ·rw [List.getElem?_eq_none (by unfold pt; rw [List.length_take]; omega), List.getElem?_eq_none (by rw [hk]; omega)]
 ·have hil : i < xs.length * L.k := by rw [← hs]; exact (List.getElem?_eq_some_iff.1 hi).1
  rw [hat i hil] at hi;have := (h i (by rw [Sort.size_flatK, List.size_toArray]; exact hil)).1;rw [this];exact hi
theorem below_sortK {B : Nat} {w u : World} {enc : α → List Value} {k g off : Nat} {d : Array α} (hb : Below B w u) (hB : B ≤ u.heap.size) (hg : B ≤ g) (n : Nat) (os : Array Obj) : Below B w (Go.Proofs.sortWorldK enc k u g off n d os) := by
 refine ⟨hb.os, hb.tape, hb.output, ?_, fun j hj => ?_⟩
 ·have := hb.size
  show w.heap.size ≤ (Sort.grow (Sort.putRow id (Sort.ahead u n) g off (Sort.flatK enc k d)) os).heap.size
  rw [Sort.size_grow, Sort.size_putRow]
  show w.heap.size ≤ u.heap.size + os.size
  omega
 ·have hlt : j < u.heap.size := by omega
  show (Sort.grow (Sort.putRow id (Sort.ahead u n) g off (Sort.flatK enc k d)) os).heap[j]? = w.heap[j]?
  rw [Sort.heap_grow_old _ _ (by rw [Sort.size_putRow]; exact hlt)];refine Eq.trans ?_ (hb.block j hj)
  show ((Sort.ahead u n).heap.modify g _)[j]? = u.heap[j]?
  rw [Array.getElem?_modify, if_neg (by omega)]
  rfl
theorem size_sortK {u : World} {enc : α → List Value} {k g off : Nat} {d : Array α} (n : Nat) (os : Array Obj) : u.heap.size ≤ (Go.Proofs.sortWorldK enc k u g off n d os).heap.size := by
 show u.heap.size ≤ (Sort.grow (Sort.putRow id (Sort.ahead u n) g off (Sort.flatK enc k d)) os).heap.size
 rw [Sort.size_grow, Sort.size_putRow]
 show u.heap.size ≤ u.heap.size + os.size
 omega
theorem ltOf_icmp (x y : PItem) : ltOf icmp x y = lessB x y := icmp_dec x y
theorem swo_icmp : Sort.SWO (ltOf icmp) where
 irrefl x := by rw [ltOf_icmp]; exact decide_eq_false (sto_item.irrefl x)
 trans x y z h g := by
  rw [ltOf_icmp] at *;exact decide_eq_true (sto_item.trans (of_decide_eq_true h) (of_decide_eq_true g))
 ntrans x y z h g := by
  rw [ltOf_icmp] at *;refine decide_eq_false fun k => ?_
  have h' := of_decide_eq_false h;have g' := of_decide_eq_false g
  by_cases e : x = y
  ·subst e; exact g' k
  ·exact g' (sto_item.trans (sto_item.total h' e) k)
theorem conn_icmp : ∀ x y, ltOf icmp x y = false → ltOf icmp y x = false → x = y := fun x y h g => by
 rw [ltOf_icmp] at *;exact sto_item.conn (of_decide_eq_false h) (of_decide_eq_false g)
theorem entersCmp : ∀ args w, (callFunc 124 args).run Tryz.prog w = .ok (.enter 124 args) w := enters_of Tryz.func124 (by kernel_rfl) rfl
theorem cmpLaysI (blk off size : Nat) (w : World) : CmpLays Tryz.prog 124 #[] cellsIt 8 icmp blk off size w := fun _ _ _ _ x y => icompare_any x y _
theorem isort_eq (xs : List PItem) : (xs.toArray.toList.mergeSort fun x y => !(ltOf icmp) y x).toArray = (isort xs).toArray := by
 have e : (fun x y : PItem => !(ltOf icmp) y x) = fun x y => !lessB y x := by
  funext x y
  rw [ltOf_icmp]
 rw [e]
 rfl
theorem sort_items {B : Nat} {v : Value} {xs : List PItem} {w0 w : World} (hv : OwnE LItem B w v xs) (hb : Below B w0 w) (hB : B ≤ w.heap.size) (hx : xs.length ≤ 1000000) :
  Calls Tryz.prog 123 #[v, .func (.func 124) #[] #[]] w fun e w' => e = .returned (.tuple #[]) ∧ Below B w0 w' ∧ B ≤ w'.heap.size ∧ Sq LItem (fun b => B ≤ b ∧ b < w'.heap.size) w' v (isort xs) := by
 have hl := isort_len xs;have hlt := hv.lt;obtain ⟨a, cap, rfl, h1, h2, hv', h0⟩ := hv.parts
 cases a with
 | none =>
  obtain rfl := h0 rfl;obtain rfl : xs = [] := List.eq_nil_of_length_eq_zero (by omega);refine (AnyF.slices_SortFunc_none Tryz.sortItem none 0 _ w).mono fun e w' ⟨he, hw⟩ => ?_
  subst hw;refine ⟨he, hb, hB, ?_⟩;have e : isort [] = [] := List.eq_nil_of_length_eq_zero hl;rw [e];exact (OwnE.nil B w').new flat_item
 | some ad =>
  obtain ⟨g, c, e⟩ : ∃ g c, (Value.slice (some ad) xs.length cap) = .slice (some ⟨g, 0, none⟩) xs.length c := by
   obtain ⟨vals, ho, -⟩ := hv'
   rcases ho.2 with ⟨e, -⟩ | ⟨g, c, cur, e, -⟩
   ·cases e
   ·simp only [Value.slice.injEq, Option.some.injEq] at e
    exact ⟨g, c, by rw [e.1, e.2.2]⟩
  rw [e] at hv hlt hv' ⊢;obtain ⟨hg1, hg2⟩ := hlt g rfl;have hd := hv.seq.dims;have hm : maxLen = 9223372036854775807 := rfl;have hH := holdsK_of_own (L := LItem) (enc := cellsIt) (fun h => h) (fun _ => rfl) hv;refine (AnyQ.slices_SortFunc_total Tryz.sortItem 8 Tryz.isAgg47 Tryz.sizeOf47 cellsIt (fun _ => rfl) (fun x => oneIt rfl) icmp swo_icmp 124 #[] g 0 c xs.toArray w entersCmp (cmpLaysI g 0 _ w) hH hg2 (by simp; omega) conn_icmp).mono fun e w' ⟨he, n, os, hw⟩ => ?_
  rw [isort_eq] at hw;have hs : w.heap.size ≤ w'.heap.size := by rw [hw]; exact size_sortK n os
  have hH2 : Sort.HoldsK cellsIt 8 w' g 0 (isort xs).toArray := by
   rw [hw];exact Go.Proofs.holdsK_sortWorldK cellsIt 8 w g 0 n xs.toArray _ os hg2 hH (by simp [hl])
  refine ⟨he, by rw [hw]; exact below_sortK hb hB hg1 n os, by omega, ?_⟩;have := sq_of_holdsK (L := LItem) (enc := cellsIt) (fun h => h) (fun _ => rfl) hH2 (cap := c) (by rw [hl]; omega) (by omega) (P := fun b => B ≤ b ∧ b < w'.heap.size) ⟨hg1, by omega⟩;rw [hl] at this;exact this
end Go.Proofs.YtfapkepfngddlaaGreat
namespace Go.Proofs.YtfapkepfngddlaaGreat
open Go.RowKit Plain Go.Maps
set_option linter.unusedVariables false
theorem entersNorm : ∀ args w, (callFunc 126 args).run Tryz.prog w = .ok (.enter 126 args) w := enters_of Tryz.func126 (by kernel_rfl) rfl
def SeenAt (sb m : Nat) (W : World) (ds : List PDot) : Prop := W.cell? ⟨sb, 0, none⟩ = some (.map (some m)) ∧ SetAt W m ds
theorem SeenAt.below {sb m B : Nat} {W W' : World} {ds : List PDot} (h : SeenAt sb m W ds) (hb : Below B W W') (h1 : sb < B) (h2 : m < B) : SeenAt sb m W' ds :=
 ⟨(hb.cell (p := ⟨sb, 0, none⟩) h1).trans h.1, h.2.below hb h2⟩
theorem givesNorm (x : PItem) (hx : dotOk x.dot) (sb m : Nat) (hne : sb ≠ m) (ds : List PDot) (hl : ds.length ≤ 1000000) (W : World) (hI : SeenAt sb m W ds) :
  Calls Tryz.prog 126 (#[itv x] ++ #[.pointer (some ⟨sb, 0, none⟩)]) W fun e W' => e = .returned (.bool (!hasDot ds x.dot)) ∧ SeenAt sb m W' (ds ++ [x.dot]) ∧ W.grownBy W' (some m) := by
 show Calls Tryz.prog 126 #[.agg #[.string (bt x.key), .string (bt x.field), .int .i64 x.kind, .string (bt x.elem), .int .i64 x.n, .int .i64 x.dot.node, .int .i64 x.dot.seq, .int .i64 x.dot.pos], .pointer (some ⟨sb, 0, none⟩)] W _
 obtain ⟨hc, D, n, hn, ho, hh⟩ := hI;have hkey : keyOf Tryz.prog 45 (.agg #[.int .i64 x.dot.node, .int .i64 x.dot.seq, .int .i64 x.dot.pos]) = some (kd x.dot) := keyOf_dot hx;have KY := zH hkey;have hD := zH ho.isMap;have HH := zH hh;have hhx := zH (hh x.dot hx);have HX := zH hx;have hlt := World.block_lt_of_cell? W ⟨sb, 0, none⟩ hc;have hb1 := zB W (.cells #[.string (bt x.key), .string (bt x.field), .int .i64 x.kind, .string (bt x.elem), .int .i64 x.n, .int .i64 x.dot.node, .int .i64 x.dot.seq, .int .i64 x.dot.pos] 47);have HO1 := zH (ho.alloc (.cells #[.string (bt x.key), .string (bt x.field), .int .i64 x.kind, .string (bt x.elem), .int .i64 x.n, .int .i64 x.dot.node, .int .i64 x.dot.seq, .int .i64 x.dot.pos] 47));have hc1 := (hb1.cell (p := ⟨sb, 0, none⟩) hlt).trans hc;have HB1 := zH hb1;have IB : Hid (ItemAt (W.alloc (.cells #[.string (bt x.key), .string (bt x.field), .int .i64 x.kind, .string (bt x.elem), .int .i64 x.n, .int .i64 x.dot.node, .int .i64 x.dot.seq, .int .i64 x.dot.pos] 47)) W.heap.size 0 x) := zH ⟨by simp, by simp, by simp, by simp, by simp, by simp, by simp, by simp⟩;have HL := zH hlt;have HN := zH hn;have hnm : n < maxLen := by unfold maxLen; omega
 have HM := zH hnm;have HHX := zH (hh x.dot hx);clear hh ho hx hkey hlt hb1 hn hnm hhx;rw [← HHX.out];go_enter Tryz.func126, Tryz.ntmps126
 go_upto_region 1 with fail
 generalize (W.alloc (.cells #[.string (bt x.key), .string (bt x.field), .int .i64 x.kind, .string (bt x.elem), .int .i64 x.n, .int .i64 x.dot.node, .int .i64 x.dot.seq, .int .i64 x.dot.pos] 47)) = wb at *;obtain ⟨c0, c1, c2, c3, c4, c5, c6, c7⟩ := IB.out;simp only [Nat.zero_add] at c1 c2 c3 c4 c5 c6 c7
 have HO2 := zH (HO1.out.alloc (.cells #[] 137));have HB2 := zH (HB1.out.alloc HB1.out.size (.cells #[] 137));have IB2 := zH (IB.out.below (zB wb (.cells #[] 137)) IB.out.lt);have hc2 : (wb.alloc (.cells #[] 137)).cell? ⟨sb, 0, none⟩ = some (.map (some m)) := (HB2.out.cell (p := ⟨sb, 0, none⟩) HL.out).trans hc;obtain ⟨d0, d1, d2, d3, d4, d5, d6, d7⟩ := IB2.out;simp only [Nat.zero_add] at d1 d2 d3 d4 d5 d6 d7
 have HC2 := zH hc2;go_wp2_with (first
  | (at_lookup; refine wpList_lookup_own_unit _ rfl _ _ 135 rfl 45 137 lawDot Tryz.underlying135 (zeroUnit _) m n D rfl HO1.out _ _ rfl KY.out ?_)
  | (at_mapUpdate; refine wpList_mapUpdate_own _ rfl _ _ _ 135 rfl 45 137 lawDot Tryz.underlying135 unitElem m n D rfl HO2.out HM.out _ _ _ rfl rfl KY.out (.agg []) [] unitElem_mk ?_))
 intro w1 ho1 hg1;have O1 := zH (SetAt.put HX.out HN.out hD.out HH.out ho1);have C1 := zH (hg1.cell HC2.out (fun e => hne (Option.some.inj e)));have G1 := zH (grown_trans (grown_of_below (row := some m) HB2.out) hg1 (fun j hj => .inl hj));clear ho1 hg1;go_wp2_with fail
 go_ret
 exact ⟨rfl, ⟨C1.out, O1.out⟩, G1.out⟩
theorem old_behind {w2 : World} {B : Nat} {v : Value} {xs : List PItem} (h : Sq LItem (fun b => B ≤ b ∧ b < w2.heap.size) w2 v xs) :
  Old LItem (some w2.heap.size) ((w2.alloc (.map #[] 0)).alloc (.cells #[.map (some w2.heap.size)] 135)).heap.size ((w2.alloc (.map #[] 0)).alloc (.cells #[.map (some w2.heap.size)] 135)) v xs := by
 have hb : Below w2.heap.size w2 ((w2.alloc (.map #[] 0)).alloc (.cells #[.map (some w2.heap.size)] 135)) := ((Below.refl _ _).alloc (Nat.le_refl _) _).alloc (by simp) _;exact (Sq.agree h fun b hlt => hb.block b hlt.2).mono fun b hlt => ⟨by have := hb.size; omega, fun e => by have := hlt.2; cases e; omega⟩
theorem seen_new (w2 : World) : SeenAt (w2.heap.size + 1) w2.heap.size ((w2.alloc (.map #[] 0)).alloc (.cells #[.map (some w2.heap.size)] 135)) [] :=
 ⟨by simp, (SetAt.made w2).alloc _⟩
theorem size_new (w2 : World) : ((w2.alloc (.map #[] 0)).alloc (.cells #[.map (some w2.heap.size)] 135)).heap.size = w2.heap.size + 2 := by simp
theorem inorm_any {u : Value} {xs : List PItem} {w : World} (hu : SeqE LItem w u xs) (hn : xs.length ≤ 1000000) (hd : ∀ x ∈ xs, dotOk x.dot) : Calls Tryz.prog 73 #[u] w (MadeE LItem w (inorm xs)) := by
 have KC := iclone_any hu hn;have HL := isort_len xs;have HW := zH (norm_way xs);have HD : Hid (∀ k, k < (isort xs).length → dotOk ((isort xs).getD k default).dot) := zH (fun k hk => hd _ (isort_mem.1 (mem_def hk)));obtain ⟨a, cap, rfl, -⟩ := hu.parts;have hmm := @run_makeMap Tryz.prog;obtain ⟨n, hN⟩ : ∃ n, xs.length = n := ⟨_, rfl⟩;rw [hN] at HL hn KC ⊢;have LN := zH hN;have LS := zH HL;clear hu hd hN HL;go_enter Tryz.func73, Tryz.ntmps73
 go_wp2_with fail
 refine KC.mono ?_;rintro e w1 ⟨v1, rfl, ho, hb⟩;have KS := sort_items ho hb hb.size (by rw [LN.out]; exact hn);obtain ⟨a1, c1, rfl, -, -, -⟩ := ho.at n LN.out;clear ho hb KC;go_wp2_with fail
 refine KS.mono ?_;rintro e w2 ⟨rfl, hb, hs, hq⟩;have HB := zH ((hb.alloc hs (.map #[] 0)).alloc (by simp; omega) (.cells #[.map (some w2.heap.size)] 135));have HZ := zH (size_new w2);have HS2 := zH hs;have K := ithose_any (row := some w2.heap.size) (old_behind hq) (by rw [LS.out]; exact hn) (fresh (isort xs)) (fun k W => SeenAt (w2.heap.size + 1) w2.heap.size W (dotsUpTo (isort xs) k)) 126 #[.pointer (some ⟨w2.heap.size + 1, 0, none⟩)] entersNorm
  (fun j hj => by cases hj; rw [HZ.out]; omega)
  (fun k W W' h g => h.below g (by rw [HZ.out]; omega) (by rw [HZ.out]; omega))
  (fun k W hk h hg => by
   have := givesNorm ((isort xs).getD k default) (HD.out k hk) (w2.heap.size + 1) w2.heap.size (by omega) (dotsUpTo (isort xs) k) (by unfold dotsUpTo; rw [List.length_map]; have := List.length_take_le k (isort xs); have := LS.out; omega) W h;rw [← dotsUpTo_next hk] at this;exact this)
  (seen_new w2)
 rw [HW.out] at K;clear hb hs hq KS;go_upto_region 4 with fail
 generalize ((w2.alloc (.map #[] 0)).alloc (.cells #[.map (some w2.heap.size)] 135)) = w4 at *;generalize inorm xs = r at *;go_wp2_with fail
 refine K.mono ?_;rintro e w5 ⟨v, rfl, ho, hg, -⟩;have O := zH (ho.mono HB.out.size);have G : Hid (Below w.heap.size w w5) := zH (HB.out.trans (below_of_own hg HB.out.size HS2.out));obtain ⟨av, cv, rfl, -⟩ := ho.parts;clear ho hg K;go_wp2_with fail
 go_ret
 exact ⟨_, rfl, O.out, G.out⟩
end Go.Proofs.YtfapkepfngddlaaGreat
