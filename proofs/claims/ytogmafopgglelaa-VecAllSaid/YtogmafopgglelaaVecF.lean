/- What the program's own functions of package vec leave that hand lay a function: Trim, With, Join, Meet. -/
import Derived.Test.YtogmafopgglelaaVec
import Derived.Deep.RegionWith
import Derived.BigQuiet
import Derived.Deep.RegionHeld3
namespace Go.Proofs.Ytogmafopgglelaa
open Go.RowKit Plain Go.Shelf
set_option linter.unusedVariables false

/-- a variable of one cell that holds v -/
theorem cell_box (w : World) (v : Value) (t : TypeId) : (w.alloc (.cells #[v] t)).cell? ⟨w.heap.size, 0, none⟩ = some v := cell_of_row _ _ 0 _ _ _ (heap_alloc_new w _)
theorem size_box (w : World) (v : Value) (t : TypeId) : (w.alloc (.cells #[v] t)).heap.size = w.heap.size + 1 := by simp
theorem below_box (w : World) (v : Value) (t : TypeId) : Below w.heap.size w (w.alloc (.cells #[v] t)) := (Below.refl _ _).alloc (Nat.le_refl _) _
theorem cell_below {N : Nat} {w w' : World} {p : Addr} {v : Value} (h : w.cell? p = some v) (hb : Below N w w') (hN : w.heap.size ≤ N) : w'.cell? p = some v := (hb.cell (Nat.lt_of_lt_of_le (World.block_lt_of_cell? w p h) hN)).trans h

set_option maxRecDepth 100000 in
set_option maxHeartbeats 1000000 in
theorem trimC {w : World} {B : Nat} {v : Value} {xs : Ints} (hB : w.cell? ⟨B, 0, none⟩ = some v) (hs : SeqI w v xs) (n : Nat) : Counts w 25 #[.pointer (some ⟨B, 0, none⟩)] (says xs) n := by
  intro W i _ hb
  have c1 := cell_below hB hb (Nat.le_refl _)
  have K := at_any (hs.below hb) (i : Int)
  rw [saysI_nat] at K
  clear hB hs hb
  generalize says xs i = x at *
  go_enter Try.func25, Try.ntmps25
  go_wp2_with (go_at_call 13; refine K.mono ?_; rintro e w' ⟨rfl, rfl⟩)
  go_ret
  exact ⟨rfl, 0, rfl⟩

set_option maxRecDepth 100000 in
set_option maxHeartbeats 1000000 in
/-- Trim -/
theorem trim_any {v : Value} {xs : Ints} {w : World} (hs : SeqI w v xs) (hl : xs.length ≤ 1000000) : Calls Try.prog 15 #[v] w (MadeI w (trim xs)) := by
  obtain ⟨a, cap, rfl, g1, g2, g0, h⟩ := hs.parts
  have hB := below_box w (.slice a xs.length cap) 23
  have KL := Lib.hid (lay_any 25 #[.pointer (some ⟨w.heap.size, 0, none⟩)] (enters_of Try.func25 (by kernel_rfl) rfl) (says xs) xs.length hl (trimC (cell_box w (.slice a xs.length cap) 23) (h.below hB) xs.length))
  have HB := Lib.hid hB
  have HZ := Lib.hid (size_box w (.slice a xs.length cap) 23)
  clear hs h g0 hB
  go_enter Try.func15, Try.ntmps15
  go_wp2_with fail
  refine KL.out.mono ?_
  rintro e u2 ⟨v2, rfl, ho, hb⟩
  have O2 := Lib.hid (ho.mono (by rw [HZ.out]; omega : w.heap.size ≤ _))
  have G2 := Lib.hid (HB.out.trans (hb.mono (by rw [HZ.out]; omega)))
  clear ho hb
  go_wp2_with fail
  go_ret
  exact ⟨_, rfl, O2.out, G2.out⟩

theorem box2 (w : World) (u v : Value) (s t : TypeId) : ((w.alloc (.cells #[u] s)).alloc (.cells #[v] t)).cell? ⟨w.heap.size, 0, none⟩ = some u ∧ ((w.alloc (.cells #[u] s)).alloc (.cells #[v] t)).cell? ⟨w.heap.size + 1, 0, none⟩ = some v ∧ Below w.heap.size w ((w.alloc (.cells #[u] s)).alloc (.cells #[v] t)) ∧ ((w.alloc (.cells #[u] s)).alloc (.cells #[v] t)).heap.size = w.heap.size + 2 := by
  have h2 := cell_box (w.alloc (.cells #[u] s)) v t
  rw [size_box] at h2
  exact ⟨cell_below (cell_box w u s) (below_box _ v t) (Nat.le_refl _), h2, (below_box w u s).alloc (by simp) _, by simp⟩

set_option maxRecDepth 100000 in
set_option maxHeartbeats 4000000 in
/-- Join's and Meet's own functions: both calls of At in whatever order -/
theorem joinC {w : World} {B C : Nat} {u v : Value} {xs ys : Ints} (hB : w.cell? ⟨B, 0, none⟩ = some u) (hC : w.cell? ⟨C, 0, none⟩ = some v) (hs : SeqI w u xs) (ht : SeqI w v ys) (n : Nat) :
    Counts w 26 #[.pointer (some ⟨B, 0, none⟩), .pointer (some ⟨C, 0, none⟩)] (fun i => max (says xs i) (says ys i)) n := by
  intro W i _ hb
  have c1 := cell_below hB hb (Nat.le_refl _)
  have c2 := cell_below hC hb (Nat.le_refl _)
  have K1 : Hid (∀ w1, (∃ m, w1 = W.drewN m) → Calls Try.prog 13 #[u, .int .i64 (i : Int)] w1 fun e w' => e = .returned (.int .i64 (says xs i)) ∧ w1 = w') := Lib.hid fun w1 hm => by
    obtain ⟨m, rfl⟩ := hm
    have := at_any ((hs.below hb).drawn m) (i : Int); rwa [saysI_nat] at this
  have K2 : Hid (∀ w1, (∃ m, w1 = W.drewN m) → Calls Try.prog 13 #[v, .int .i64 (i : Int)] w1 fun e w' => e = .returned (.int .i64 (says ys i)) ∧ w1 = w') := Lib.hid fun w1 hm => by
    obtain ⟨m, rfl⟩ := hm
    have := at_any ((ht.below hb).drawn m) (i : Int); rwa [saysI_nat] at this
  clear hB hC hs ht hb
  show Calls _ _ _ _ (fun e w' => e = .returned (.int .i64 (max (says xs i) (says ys i))) ∧ _)
  generalize says xs i = x at *
  generalize says ys i = y at *
  go_enter Try.func26, Try.ntmps26
  go_wp2_with fail
  go_region_with (first
      | (go_at_call_of 13 u; refine (K1.out _ (by first | exact ⟨0, rfl⟩ | exact ⟨1, rfl⟩ | exact ⟨2, rfl⟩)).mono ?_; rintro e u2 ⟨rfl, rfl⟩)
      | (go_at_call_of 13 v; refine (K2.out _ (by first | exact ⟨0, rfl⟩ | exact ⟨1, rfl⟩ | exact ⟨2, rfl⟩)).mono ?_; rintro e u2 ⟨rfl, rfl⟩))
  all_goals (try go_wp2_with fail)
  all_goals go_ret
  all_goals exact ⟨rfl, 1, rfl⟩
set_option maxRecDepth 100000 in
set_option maxHeartbeats 4000000 in
theorem meetC {w : World} {B C : Nat} {u v : Value} {xs ys : Ints} (hB : w.cell? ⟨B, 0, none⟩ = some u) (hC : w.cell? ⟨C, 0, none⟩ = some v) (hs : SeqI w u xs) (ht : SeqI w v ys) (n : Nat) :
    Counts w 27 #[.pointer (some ⟨B, 0, none⟩), .pointer (some ⟨C, 0, none⟩)] (fun i => min (says xs i) (says ys i)) n := by
  intro W i _ hb
  have c1 := cell_below hB hb (Nat.le_refl _)
  have c2 := cell_below hC hb (Nat.le_refl _)
  have K1 : Hid (∀ w1, (∃ m, w1 = W.drewN m) → Calls Try.prog 13 #[u, .int .i64 (i : Int)] w1 fun e w' => e = .returned (.int .i64 (says xs i)) ∧ w1 = w') := Lib.hid fun w1 hm => by
    obtain ⟨m, rfl⟩ := hm
    have := at_any ((hs.below hb).drawn m) (i : Int); rwa [saysI_nat] at this
  have K2 : Hid (∀ w1, (∃ m, w1 = W.drewN m) → Calls Try.prog 13 #[v, .int .i64 (i : Int)] w1 fun e w' => e = .returned (.int .i64 (says ys i)) ∧ w1 = w') := Lib.hid fun w1 hm => by
    obtain ⟨m, rfl⟩ := hm
    have := at_any ((ht.below hb).drawn m) (i : Int); rwa [saysI_nat] at this
  clear hB hC hs ht hb
  show Calls _ _ _ _ (fun e w' => e = .returned (.int .i64 (min (says xs i) (says ys i))) ∧ _)
  generalize says xs i = x at *
  generalize says ys i = y at *
  go_enter Try.func27, Try.ntmps27
  go_wp2_with fail
  go_region_with (first
      | (go_at_call_of 13 u; refine (K1.out _ (by first | exact ⟨0, rfl⟩ | exact ⟨1, rfl⟩ | exact ⟨2, rfl⟩)).mono ?_; rintro e u2 ⟨rfl, rfl⟩)
      | (go_at_call_of 13 v; refine (K2.out _ (by first | exact ⟨0, rfl⟩ | exact ⟨1, rfl⟩ | exact ⟨2, rfl⟩)).mono ?_; rintro e u2 ⟨rfl, rfl⟩))
  all_goals (try go_wp2_with fail)
  all_goals go_ret
  all_goals exact ⟨rfl, 1, rfl⟩

set_option maxRecDepth 100000 in
set_option maxHeartbeats 1000000 in
/-- Join -/
theorem join_any {u v : Value} {xs ys : Ints} {w : World} (hs : SeqI w u xs) (ht : SeqI w v ys) (hl : xs.length ≤ 1000000) (hm : ys.length ≤ 1000000) : Calls Try.prog 17 #[u, v] w (MadeI w (join xs ys)) := by
  obtain ⟨a, cap, rfl, g1, g2, g0, h⟩ := hs.parts
  obtain ⟨a', cap', rfl, g1', g2', g0', h'⟩ := ht.parts
  obtain ⟨b1, b2, hB, hZ⟩ := box2 w (.slice a xs.length cap) (.slice a' ys.length cap') 23 23
  have e : max (xs.length : Int) (ys.length : Int) = ((max xs.length ys.length : Nat) : Int) := by omega
  have KL := Lib.hid (lay_any 26 #[.pointer (some ⟨w.heap.size, 0, none⟩), .pointer (some ⟨w.heap.size + 1, 0, none⟩)] (enters_of Try.func26 (by kernel_rfl) rfl) (fun i => max (says xs i) (says ys i)) (max xs.length ys.length) (by omega) (joinC b1 b2 (h.below hB) (h'.below hB) (max xs.length ys.length)))
  have HB := Lib.hid hB
  have HZ := Lib.hid hZ
  have HE := Lib.hid e
  clear hs h g0 hB hZ ht h' g0' b1 b2 e
  go_enter Try.func17, Try.ntmps17
  go_wp2_with fail
  rw [HE.out]
  refine KL.out.mono ?_
  rintro e u2 ⟨v2, rfl, ho, hb⟩
  have O2 := Lib.hid (ho.mono (by rw [HZ.out]; omega : w.heap.size ≤ _))
  have G2 := Lib.hid (HB.out.trans (hb.mono (by rw [HZ.out]; omega)))
  clear ho hb
  go_wp2_with fail
  go_ret
  exact ⟨_, rfl, O2.out, G2.out⟩

set_option maxRecDepth 100000 in
set_option maxHeartbeats 1000000 in
/-- Meet -/
theorem meet_any {u v : Value} {xs ys : Ints} {w : World} (hs : SeqI w u xs) (ht : SeqI w v ys) (hl : xs.length ≤ 1000000) (hm : ys.length ≤ 1000000) : Calls Try.prog 19 #[u, v] w (MadeI w (meet xs ys)) := by
  obtain ⟨a, cap, rfl, g1, g2, g0, h⟩ := hs.parts
  obtain ⟨a', cap', rfl, g1', g2', g0', h'⟩ := ht.parts
  obtain ⟨b1, b2, hB, hZ⟩ := box2 w (.slice a xs.length cap) (.slice a' ys.length cap') 23 23
  have e : min (xs.length : Int) (ys.length : Int) = ((min xs.length ys.length : Nat) : Int) := by omega
  have KL := Lib.hid (lay_any 27 #[.pointer (some ⟨w.heap.size, 0, none⟩), .pointer (some ⟨w.heap.size + 1, 0, none⟩)] (enters_of Try.func27 (by kernel_rfl) rfl) (fun i => min (says xs i) (says ys i)) (min xs.length ys.length) (by omega) (meetC b1 b2 (h.below hB) (h'.below hB) (min xs.length ys.length)))
  have HB := Lib.hid hB
  have HZ := Lib.hid hZ
  have HE := Lib.hid e
  clear hs h g0 hB hZ ht h' g0' b1 b2 e
  go_enter Try.func19, Try.ntmps19
  go_wp2_with fail
  rw [HE.out]
  refine KL.out.mono ?_
  rintro e u2 ⟨v2, rfl, ho, hb⟩
  have O2 := Lib.hid (ho.mono (by rw [HZ.out]; omega : w.heap.size ≤ _))
  have G2 := Lib.hid (HB.out.trans (hb.mono (by rw [HZ.out]; omega)))
  clear ho hb
  go_wp2_with fail
  go_ret
  exact ⟨_, rfl, O2.out, G2.out⟩
end Go.Proofs.Ytogmafopgglelaa
