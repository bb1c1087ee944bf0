/- What the program's own With, Within, Has of vectors leave. -/
import Derived.Test.YtogmafopgglelaaVecF
namespace Go.Proofs.Ytogmafopgglelaa
open Go.RowKit Plain Go.Shelf
set_option linter.unusedVariables false

set_option maxRecDepth 100000 in
set_option maxHeartbeats 4000000 in
/-- Within -/
theorem within_any {u v : Value} {xs ys : Ints} {w : World} (hs : SeqI w u xs) (ht : SeqI w v ys) (hl : xs.length ≤ 1000000) :
    Calls Try.prog 20 #[u, v] w fun e w' => e = .returned (.bool (Plain.within xs ys)) ∧ w = w' := by
  obtain ⟨a, cap, rfl, g1, g2, g0, h⟩ := hs.parts
  obtain ⟨a', cap', rfl, g1', g2', g0', h'⟩ := ht.parts
  have HW : Hid ((∀ i, i < xs.length → says xs i ≤ says ys i) → Plain.within xs ys = true) := Lib.hid fun h => within_true (within_of h)
  have HF : Hid (∀ i, ¬ says xs i ≤ says ys i → Plain.within xs ys = false) := Lib.hid fun i h => within_false fun g => h (g i)
  have KA : Hid (∀ k : Nat, Calls Try.prog 13 #[.slice a xs.length cap, .int .i64 (k : Int)] w fun e w' => e = .returned (.int .i64 (says xs k)) ∧ w = w') := Lib.hid fun k => by
    have := at_any h (k : Int); rwa [saysI_nat] at this
  have KB : Hid (∀ k : Nat, Calls Try.prog 13 #[.slice a' ys.length cap', .int .i64 (k : Int)] w fun e w' => e = .returned (.int .i64 (says ys k)) ∧ w = w') := Lib.hid fun k => by
    have := at_any h' (k : Int); rwa [saysI_nat] at this
  clear hs h g0 ht h' g0' g2 g2'
  generalize Plain.within xs ys = r at *
  generalize xs.length = la at *
  generalize ys.length = lb at *
  go_enter Try.func20, Try.ntmps20
  go_wp2_with fail
  go_loop [8] (fun i => ∃ k : Nat, k ≤ la ∧ i = .int .i64 k ∧ ∀ j, j < k → says xs j ≤ says ys j) (fun i => la - (intOf i).toNat)
  case atStart => exact ⟨0, Nat.zero_le _, rfl, fun j hj => absurd hj (by omega)⟩
  case round =>
    obtain ⟨k, hk, rfl, hall⟩ := hrel
    have HA := Lib.hid hall
    clear hall
    have K1 := KA.out k
    have K2 := KB.out k
    by_cases hlt : k < la
    · by_cases he : says xs k ≤ says ys k
      · have HA2 : Hid (∀ j, j < k + 1 → says xs j ≤ says ys j) := Lib.hid (fun j hj => by
            by_cases h : j < k
            · exact HA.out j h
            · obtain rfl : j = k := by omega
              exact he)
        generalize says xs k = x at *
        generalize says ys k = y at *
        go_wp2_with fail
        refine K1.mono ?_
        rintro e w' ⟨rfl, rfl⟩
        go_wp2_with fail
        refine K2.mono ?_
        rintro e w' ⟨rfl, rfl⟩
        clear K1 K2
        go_wp2_with fail
        go_round
        case rel => exact ⟨k + 1, by omega, by go_num, HA2.out⟩
        case measure => simp [intOf]; omega
      · obtain rfl : r = false := HF.out k (by omega)
        generalize says xs k = x at *
        generalize says ys k = y at *
        go_wp2_with fail
        refine K1.mono ?_
        rintro e w' ⟨rfl, rfl⟩
        go_wp2_with fail
        refine K2.mono ?_
        rintro e w' ⟨rfl, rfl⟩
        clear K1 K2
        go_wp2_with fail
        go_ret
        exact ⟨rfl, rfl⟩
    · obtain rfl : k = la := by omega
      obtain rfl : r = true := HW.out HA.out
      clear K1 K2
      go_wp2_with fail
      go_ret
      exact ⟨rfl, rfl⟩

/-- a variable of three cells -/
theorem box3 (w : World) (x y z : Value) (t : TypeId) : (w.alloc (.cells #[x, y, z] t)).cell? ⟨w.heap.size, 0, none⟩ = some x ∧ (w.alloc (.cells #[x, y, z] t)).cell? ⟨w.heap.size, 1, none⟩ = some y ∧ Below w.heap.size w (w.alloc (.cells #[x, y, z] t)) :=
  ⟨cell_of_row _ _ 0 _ _ _ (heap_alloc_new w _), cell_of_row _ _ 1 _ _ _ (heap_alloc_new w _), (Below.refl _ _).alloc (Nat.le_refl _) _⟩

set_option maxRecDepth 100000 in
set_option maxHeartbeats 4000000 in
/-- Has -/
theorem has_any {v : Value} {xs : Ints} {w : World} (hs : SeqI w v xs) (p q r : Int) :
    Calls Try.prog 22 #[v, .agg #[.int .i64 p, .int .i64 q, .int .i64 r]] w fun e w' => e = .returned (.bool (decide (1 ≤ q) && decide (q ≤ saysI xs p))) ∧ Below w.heap.size w w' := by
  obtain ⟨c1, c2, hB⟩ := box3 w (.int .i64 p) (.int .i64 q) (.int .i64 r) 25
  have HB := Lib.hid hB
  have KA : Hid (∀ m, Calls Try.prog 13 #[v, .int .i64 p] ((w.alloc (.cells #[.int .i64 p, .int .i64 q, .int .i64 r] 25)).drewN m) fun e w' => e = .returned (.int .i64 (saysI xs p)) ∧ (w.alloc (.cells #[.int .i64 p, .int .i64 q, .int .i64 r] 25)).drewN m = w') := Lib.hid fun m => at_any ((hs.below hB).drawn m) p
  clear hs hB
  generalize saysI xs p = x at *
  by_cases h1 : 1 ≤ q
  · rw [decide_eq_true h1]
    by_cases h2 : q ≤ x
    · rw [decide_eq_true h2]
      have d1 : decide (1 ≤ q) = true := decide_eq_true h1
      have d2 : decide (q ≤ x) = true := decide_eq_true h2
      go_enter Try.func22, Try.ntmps22
      go_wp2_with fail
      go_quiet ((go_at_call 13; exact quiet_left (KA.out _)))
      go_wp2_with fail
      go_ret
      exact ⟨rfl, below_drewN HB.out _⟩
    · rw [decide_eq_false h2]
      have d1 : decide (1 ≤ q) = true := decide_eq_true h1
      have d2 : decide (q ≤ x) = false := decide_eq_false h2
      go_enter Try.func22, Try.ntmps22
      go_wp2_with fail
      go_quiet ((go_at_call 13; exact quiet_left (KA.out _)))
      go_wp2_with fail
      go_ret
      exact ⟨rfl, below_drewN HB.out _⟩
  · rw [decide_eq_false h1]
    have d1 : decide (1 ≤ q) = false := decide_eq_false h1
    go_enter Try.func22, Try.ntmps22
    go_wp2_with fail
    go_quiet (fail)
    go_wp2_with fail
    go_ret
    exact ⟨rfl, below_drewN HB.out _⟩

set_option maxRecDepth 100000 in
set_option maxHeartbeats 4000000 in
/-- With's own function -/
theorem withC {w : World} {B C D : Nat} {u : Value} {xs : Ints} {k0 : Nat} {n : Int} (hB : w.cell? ⟨B, 0, none⟩ = some (.int .i64 (k0 : Int))) (hC : w.cell? ⟨C, 0, none⟩ = some (.int .i64 n)) (hD : w.cell? ⟨D, 0, none⟩ = some u) (hs : SeqI w u xs) (N : Nat) :
    Counts w 23 #[.pointer (some ⟨B, 0, none⟩), .pointer (some ⟨C, 0, none⟩), .pointer (some ⟨D, 0, none⟩)] (withF xs k0 n) N := by
  intro W i _ hb
  have c1 := cell_below hB hb (Nat.le_refl _)
  have c2 := cell_below hC hb (Nat.le_refl _)
  have c3 := cell_below hD hb (Nat.le_refl _)
  have K := at_any (hs.below hb) (i : Int)
  rw [saysI_nat] at K
  clear hB hC hD hs hb
  by_cases he : i = k0
  · have hz : withF xs k0 n i = n := by unfold withF; rw [if_pos he]
    rw [hz]
    subst he
    clear hz K
    go_enter Try.func23, Try.ntmps23
    go_wp2_with fail
    go_ret
    exact ⟨rfl, 0, rfl⟩
  · have hz : withF xs k0 n i = says xs i := by unfold withF; rw [if_neg he]
    rw [hz]
    generalize says xs i = x at *
    have he2 : ¬ (i : Int) = (k0 : Int) := by omega
    have he3 : ((i : Int) == (k0 : Int)) = false := by simpa using he2
    clear he hz he2
    go_enter Try.func23, Try.ntmps23
    go_wp2_with fail
    refine K.mono ?_
    rintro e w' ⟨rfl, rfl⟩
    go_wp2_with fail
    go_ret
    exact ⟨rfl, 0, rfl⟩

theorem box4 (w : World) (x y z : Value) (s t r : TypeId) : let u := ((w.alloc (.cells #[x] s)).alloc (.cells #[y] t)).alloc (.cells #[z] r)
    u.cell? ⟨w.heap.size, 0, none⟩ = some x ∧ u.cell? ⟨w.heap.size + 1, 0, none⟩ = some y ∧ u.cell? ⟨w.heap.size + 2, 0, none⟩ = some z ∧ Below w.heap.size w u ∧ u.heap.size = w.heap.size + 3 := by
  obtain ⟨h1, h2, h3, h4⟩ := box2 w x y s t
  have h5 := cell_box ((w.alloc (.cells #[x] s)).alloc (.cells #[y] t)) z r
  rw [h4] at h5
  exact ⟨cell_below h1 (below_box _ z r) (Nat.le_refl _), cell_below h2 (below_box _ z r) (Nat.le_refl _), h5, h3.alloc (by rw [h4]; omega) _, by simp⟩

set_option maxRecDepth 100000 in
set_option maxHeartbeats 1000000 in
/-- With, refused -/
theorem with_err {v : Value} {xs : Ints} {w : World} (hs : SeqI w v xs) (a n : Int) (h : a < 0 ∨ 8 ≤ a ∨ n < 0 ∨ 1073741824 < n) :
    Calls Try.prog 10 #[v, .int .i64 a, .int .i64 n] w fun e w' => e = .returned (.tuple #[.slice none 0 0, .int .i64 1]) ∧ Below w.heap.size w w' := by
  obtain ⟨a0, cap, rfl, -, -, -, -⟩ := hs.parts
  clear hs
  obtain ⟨b1, b2, b3, hB, hZ⟩ := box4 w (.slice a0 xs.length cap) (.int .i64 a) (.int .i64 n) 23 3 3
  have HB := Lib.hid hB
  clear hB hZ
  by_cases h1 : a < 0
  · go_enter Try.func10, Try.ntmps10
    go_wp2_with fail
    all_goals go_ret2
    all_goals exact ⟨rfl, HB.out⟩
  · by_cases h2 : 8 ≤ a
    · go_enter Try.func10, Try.ntmps10
      go_wp2_with fail
      all_goals go_ret2
      all_goals exact ⟨rfl, HB.out⟩
    · by_cases h3 : n < 0
      · go_enter Try.func10, Try.ntmps10
        go_wp2_with fail
        all_goals go_ret2
        all_goals exact ⟨rfl, HB.out⟩
      · have h4 : 1073741824 < n := by omega
        clear h
        go_enter Try.func10, Try.ntmps10
        go_wp2_with fail
        all_goals go_ret2
        all_goals exact ⟨rfl, HB.out⟩

set_option maxRecDepth 100000 in
set_option maxHeartbeats 4000000 in
/-- With -/
theorem with_ok {v : Value} {xs : Ints} {k0 : Nat} {n : Int} {w : World} (hs : SeqI w v xs) (hl : xs.length ≤ 1000000) (hk0 : k0 ≤ 7) (hn0 : 0 ≤ n) (hn1 : n ≤ 1073741824) :
    Calls Try.prog 10 #[v, .int .i64 (k0 : Int), .int .i64 n] w fun e w' => ∃ u, e = .returned (.tuple #[u, .int .i64 0]) ∧ OwnsI w.heap.size w' u (withN xs k0 n) ∧ Below w.heap.size w w' := by
  obtain ⟨a, cap, rfl, g1, g2, g0, h⟩ := hs.parts
  obtain ⟨b1, b2, b3, hB, hZ⟩ := box4 w (.slice a xs.length cap) (.int .i64 (k0 : Int)) (.int .i64 n) 23 3 3
  have e : max (xs.length : Int) ((k0 : Int) + 1) = ((max xs.length (k0 + 1) : Nat) : Int) := by omega
  have KL := Lib.hid (lay_any 23 #[.pointer (some ⟨w.heap.size + 1, 0, none⟩), .pointer (some ⟨w.heap.size + 2, 0, none⟩), .pointer (some ⟨w.heap.size, 0, none⟩)] (enters_of Try.func23 (by kernel_rfl) rfl) (withF xs k0 n) (max xs.length (k0 + 1)) (by omega) (withC b2 b3 b1 (h.below hB) (max xs.length (k0 + 1))))
  have HB := Lib.hid hB
  have HZ := Lib.hid hZ
  have HE := Lib.hid e
  have q1 : ¬ (k0 : Int) < 0 := by omega
  have q2 : ¬ 8 ≤ (k0 : Int) := by omega
  have q3 : ¬ n < 0 := by omega
  have q4 : ¬ 1073741824 < n := by omega
  have q5 : (k0 : Int) ≤ 7 := by omega
  clear hs h g0 hB hZ b1 b2 b3 e
  go_enter Try.func10, Try.ntmps10
  go_wp2_with fail
  rw [HE.out]
  refine KL.out.mono ?_
  rintro e u2 ⟨v2, rfl, ho, hb⟩
  have O2 := Lib.hid (ho.mono (by rw [HZ.out]; omega : w.heap.size ≤ _))
  have G2 := Lib.hid (HB.out.trans (hb.mono (by rw [HZ.out]; omega)))
  clear ho hb
  go_wp2_with fail
  go_ret2
  exact ⟨_, rfl, O2.out, G2.out⟩
end Go.Proofs.Ytogmafopgglelaa
