/- What the program's own functions of package vec leave: At, lay (for whatever function it is handed), and the functions that hand it one. What the program's own functions of package vec leave that hand lay a function: Trim, With, Join, Meet. What the program's own With, Within, Has of vectors leave. What the document's own functions of vectors leave: At, Trim, Lay, With, Same, Within, Equal, Copy. What the document's own Lay leaves, up and down. What the document's own With, Same, Equal, Copy of vectors leave. What the document's own With and Within of vectors leave. -/
import Derived.Test.YtfapkepfngddlaaGreatVWords
import Derived.Lib.MinMax
import Derived.Shelf.Abstract
import Derived.Deep.RegionWith
import Derived.BigQuiet
import Derived.Deep.RegionHeld3
import Derived.Deep.Cut
import Derived.Laws.IdiomStrings
set_option maxRecDepth 100000
set_option maxHeartbeats 64000000
namespace Go.Proofs.YtfapkepfngddlaaGreat
open Go.RowKit Plain Go.Shelf
set_option linter.unusedVariables false
theorem vc_at_any {v : Value} {xs : Ints} {w : World} (hs : SeqI w v xs) (n : Int) :
  Calls Tryz.prog 56 #[v, .int .i64 n] w fun e w' => e = .returned (.int .i64 (saysI xs n)) ∧ w = w' := by
 obtain ⟨a, cap, rfl, g1, g2, g0, h⟩ := hs.parts
 by_cases h0 : n < 0
 ·have hq : saysI xs n = 0 := by unfold saysI; rw [if_neg (by omega)]
  rw [hq];clear hq h hs g0;go_enter Tryz.func56, Tryz.ntmps56
  go_wp2_with fail
  go_ret
  exact ⟨rfl, rfl⟩
 ·obtain ⟨k, rfl⟩ : ∃ k : Nat, n = (k : Int) := ⟨n.toNat, by omega⟩
  rw [saysI_nat]
  by_cases hk : k < xs.length
  ·obtain ⟨b, o, c, hv, -, -, -, hc⟩ := h.spot (by omega)
   simp only [Value.slice.injEq] at hv
   obtain ⟨rfl, -, rfl⟩ := hv;have c1 := hc k hk;have hq : says xs k = max (xs.getD k 0) 0 := rfl;rw [hq];generalize xs.getD k 0 = x at *;clear hq h hs g0 hc;go_enter Tryz.func56, Tryz.ntmps56
   go_wp2_with fail
   go_ret
   exact ⟨rfl, rfl⟩
  ·have hq : says xs k = 0 := says_end xs k (by omega)
   rw [hq];clear hq h hs g0;go_enter Tryz.func56, Tryz.ntmps56
   go_wp2_with fail
   go_ret
   exact ⟨rfl, rfl⟩
def vc_Counts (w : World) (g : Nat) (lb : Array Value) (c : Nat → Int) (n : Nat) : Prop :=
 ∀ (W : World) (i : Nat), i < n → Below w.heap.size w W → Calls Tryz.prog g (#[.int .i64 (i : Int)] ++ lb) W fun e w' => e = .returned (.int .i64 (c i)) ∧ ∃ m, w' = W.drewN m
theorem vc_lay_any (g : Nat) (lb : Array Value) (eg : ∀ args w, (callFunc g args).run Tryz.prog w = .ok (.enter g args) w) (c : Nat → Int) (n : Nat) (hn : n ≤ 1000000) {w : World} (hc : vc_Counts w g lb c n) :
  Calls Tryz.prog 113 #[.int .i64 (n : Int), .func (.func g) #[] lb] w (MadeI w (laid c n)) := by
 have HC := zH hc;clear hc;go_enter Tryz.func113, Tryz.ntmps113
 go_wp2_with fail
 go_loopw [0] (fun i wr => ∃ k q : Nat, k ≤ n ∧ i = .int .i64 k ∧ laid c k = laid c n ∧ wr = w.drewN q) (fun i _ => (intOf i).toNat)
 case atStart => exact ⟨n, 0, Nat.le_refl _, rfl, rfl, rfl⟩
 case round =>
  obtain ⟨k, q, hk, rfl, hl, rfl⟩ := hrel
  match k, hk, hl with
  | 0, hk, hl =>
   have L0 := zH (show (laid c n).length = 0 by rw [← hl]; rfl);clear hl;go_wp2_with (at_make; refine wpList_makeI rfl (.tmp 18) rfl 0 (laid c n).length rfl (by rw [L0.out]; rfl) (by rw [L0.out]; omega) ?_)
   intro w1 ho hb;have O0 : Hid (OwnsI w.heap.size w1 (.slice (some ⟨w.heap.size, 0, none⟩) (laid c n).length (laid c n).length) (partI c (laid c n).length 0)) := zH (by rw [partI_zero]; exact ho);have G0 : Hid (Below w.heap.size w w1) := zH ((below_drewN (Below.refl _ _) _).trans hb);have LN := laid_len c n;have PL := zH (partI_laid c n);clear ho hb;generalize hM : (laid c n).length = M at *;clear hM L0;go_wp2_with fail
   go_loopw [22] (fun i wr => ∃ j : Nat, j ≤ M ∧ i = .int .i64 j ∧ OwnsI w.heap.size wr (.slice (some ⟨w.heap.size, 0, none⟩) M M) (partI c M j) ∧ Below w.heap.size w wr) (fun i _ => M - (intOf i).toNat)
   case atStart => exact ⟨0, by omega, rfl, O0.out, G0.out⟩
   case round =>
    obtain ⟨j, hj, rfl, ho, hb⟩ := hrel
    by_cases hlt : j < M
    ·have hcall := HC.out wr j (by omega) hb
     have HO := zH ho;have HB := zH hb;have HJ := zH (partI_next c M j);have HJ2 := zH (partI_len c M j);clear ho hb;generalize c j = cj at *;go_wp2_with (go_at_fn g; refine hcall.mono ?_; rintro e w' ⟨rfl, q', hq⟩; have ho' : OwnsI w.heap.size w' (.slice (some ⟨w.heap.size, 0, none⟩) M M) (partI c M j) := (by rw [hq]; exact HO.out.below (below_drewN (Below.refl _ _) q') (Nat.le_refl _)); have hb' : Below w.heap.size w w' := (by rw [hq]; exact below_drewN HB.out q'); have hc1 := ho'.cell j (by rw [HJ2.out]; exact hlt); have hf1 := ho'.free j; have O2 : Hid (OwnsI w.heap.size (w'.setCell ⟨w.heap.size, j, none⟩ (.int .i64 cj)) (.slice (some ⟨w.heap.size, 0, none⟩) M M) (partI c M (j + 1))) := zH (by rw [← HJ.out]; exact ho'.set j cj); have G2 := zH (hb'.setCell (p := ⟨w.heap.size, j, none⟩) (Nat.le_refl _) (.int .i64 cj)); clear hq ho' hb'; generalize (partI c M j).getD j 0 = x at *)
     exact ⟨⟨j + 1, by omega, by go_num, O2.out, G2.out⟩, by simp [intOf]; omega⟩
    ·obtain rfl : j = M := by omega
     have O2 := zH ho;have G2 := zH hb;clear ho hb;rw [PL.out] at O2;go_wp2_with fail
     go_ret
     exact ⟨_, rfl, O2.out, G2.out⟩
  | k + 1, hk, hl =>
   have hcall := HC.out (w.drewN q) k (by omega) (below_drewN (Below.refl _ _) q);have e1 : ((k + 1 : Nat) : Int) - 1 = (k : Int) := by omega
   by_cases h0 : c k = 0
   ·have HL := zH (laid_step c n k hl h0)
    rw [h0] at hcall;clear hl;go_wp2_with (go_at_fn g; refine hcall.mono ?_; rintro e w' ⟨rfl, q', rfl⟩)
    exact ⟨⟨k, _, by omega, rfl, HL.out, rfl⟩, by simp [intOf]⟩
   ·have L0 := zH (laid_stop c n k hl h0)
    have hb0 : (c k == 0) = false := by simpa using h0
    clear hl;generalize c k = ck at *;go_wp2_with (first | (go_at_fn g; refine hcall.mono ?_; rintro e w' ⟨rfl, q', rfl⟩) | (at_make; refine wpList_makeI rfl (.tmp 18) rfl ((k + 1 : Nat) : Int) (laid c n).length rfl (by rw [L0.out]) (by rw [L0.out]; omega) ?_))
    intro w1 ho hb;have O0 : Hid (OwnsI w.heap.size w1 (.slice (some ⟨w.heap.size, 0, none⟩) (laid c n).length (laid c n).length) (partI c (laid c n).length 0)) := zH (by rw [partI_zero]; exact ho);have G0 : Hid (Below w.heap.size w w1) := zH ((below_drewN (Below.refl _ _) _).trans hb);have LN := laid_len c n;have PL := zH (partI_laid c n);clear ho hb;generalize hM : (laid c n).length = M at *;clear hM L0;go_wp2_with fail
    go_loopw [22] (fun i wr => ∃ j : Nat, j ≤ M ∧ i = .int .i64 j ∧ OwnsI w.heap.size wr (.slice (some ⟨w.heap.size, 0, none⟩) M M) (partI c M j) ∧ Below w.heap.size w wr) (fun i _ => M - (intOf i).toNat)
    case atStart => exact ⟨0, by omega, rfl, O0.out, G0.out⟩
    case round =>
     obtain ⟨j, hj, rfl, ho, hb⟩ := hrel
     by_cases hlt : j < M
     ·have hcall := HC.out wr j (by omega) hb
      have HO := zH ho;have HB := zH hb;have HJ := zH (partI_next c M j);have HJ2 := zH (partI_len c M j);clear ho hb;generalize c j = cj at *;go_wp2_with (go_at_fn g; refine hcall.mono ?_; rintro e w' ⟨rfl, q', hq⟩; have ho' : OwnsI w.heap.size w' (.slice (some ⟨w.heap.size, 0, none⟩) M M) (partI c M j) := (by rw [hq]; exact HO.out.below (below_drewN (Below.refl _ _) q') (Nat.le_refl _)); have hb' : Below w.heap.size w w' := (by rw [hq]; exact below_drewN HB.out q'); have hc1 := ho'.cell j (by rw [HJ2.out]; exact hlt); have hf1 := ho'.free j; have O2 : Hid (OwnsI w.heap.size (w'.setCell ⟨w.heap.size, j, none⟩ (.int .i64 cj)) (.slice (some ⟨w.heap.size, 0, none⟩) M M) (partI c M (j + 1))) := zH (by rw [← HJ.out]; exact ho'.set j cj); have G2 := zH (hb'.setCell (p := ⟨w.heap.size, j, none⟩) (Nat.le_refl _) (.int .i64 cj)); clear hq ho' hb'; generalize (partI c M j).getD j 0 = x at *)
      exact ⟨⟨j + 1, by omega, by go_num, O2.out, G2.out⟩, by simp [intOf]; omega⟩
     ·obtain rfl : j = M := by omega
      have O2 := zH ho;have G2 := zH hb;clear ho hb;rw [PL.out] at O2;go_wp2_with fail
      go_ret
      exact ⟨_, rfl, O2.out, G2.out⟩
theorem vc_cell_box (w : World) (v : Value) (t : TypeId) : (w.alloc (.cells #[v] t)).cell? ⟨w.heap.size, 0, none⟩ = some v := cell_of_row _ _ 0 _ _ _ (heap_alloc_new w _)
theorem vc_size_box (w : World) (v : Value) (t : TypeId) : (w.alloc (.cells #[v] t)).heap.size = w.heap.size + 1 := by simp
theorem vc_below_box (w : World) (v : Value) (t : TypeId) : Below w.heap.size w (w.alloc (.cells #[v] t)) := (Below.refl _ _).alloc (Nat.le_refl _) _
theorem vc_cell_below {N : Nat} {w w' : World} {p : Addr} {v : Value} (h : w.cell? p = some v) (hb : Below N w w') (hN : w.heap.size ≤ N) : w'.cell? p = some v := (hb.cell (Nat.lt_of_lt_of_le (World.block_lt_of_cell? w p h) hN)).trans h
theorem vc_trimC {w : World} {B : Nat} {v : Value} {xs : Ints} (hB : w.cell? ⟨B, 0, none⟩ = some v) (hs : SeqI w v xs) (n : Nat) : vc_Counts w 114 #[.pointer (some ⟨B, 0, none⟩)] (says xs) n := by
 intro W i _ hb;have c1 := vc_cell_below hB hb (Nat.le_refl _);have K := vc_at_any (hs.below hb) (i : Int);rw [saysI_nat] at K;clear hB hs hb;generalize says xs i = x at *;go_enter Tryz.func114, Tryz.ntmps114
 go_wp2_with (go_at_call 56; refine K.mono ?_; rintro e w' ⟨rfl, rfl⟩)
 go_ret
 exact ⟨rfl, 0, rfl⟩
theorem vc_trim_any {v : Value} {xs : Ints} {w : World} (hs : SeqI w v xs) (hl : xs.length ≤ 1000000) : Calls Tryz.prog 66 #[v] w (MadeI w (trim xs)) := by
 obtain ⟨a, cap, rfl, g1, g2, g0, h⟩ := hs.parts;have hB := vc_below_box w (.slice a xs.length cap) 23;have KL := zH (vc_lay_any 114 #[.pointer (some ⟨w.heap.size, 0, none⟩)] (enters_of Tryz.func114 (by kernel_rfl) rfl) (says xs) xs.length hl (vc_trimC (vc_cell_box w (.slice a xs.length cap) 23) (h.below hB) xs.length));have HB := zH hB;have HZ := zH (vc_size_box w (.slice a xs.length cap) 23);clear hs h g0 hB;go_enter Tryz.func66, Tryz.ntmps66
 go_wp2_with fail
 refine KL.out.mono ?_;rintro e u2 ⟨v2, rfl, ho, hb⟩;have O2 := zH (ho.mono (by rw [HZ.out]; omega : w.heap.size ≤ _));have G2 := zH (HB.out.trans (hb.mono (by rw [HZ.out]; omega)));clear ho hb;go_wp2_with fail
 go_ret
 exact ⟨_, rfl, O2.out, G2.out⟩
theorem vc_box2 (w : World) (u v : Value) (s t : TypeId) : ((w.alloc (.cells #[u] s)).alloc (.cells #[v] t)).cell? ⟨w.heap.size, 0, none⟩ = some u ∧ ((w.alloc (.cells #[u] s)).alloc (.cells #[v] t)).cell? ⟨w.heap.size + 1, 0, none⟩ = some v ∧ Below w.heap.size w ((w.alloc (.cells #[u] s)).alloc (.cells #[v] t)) ∧ ((w.alloc (.cells #[u] s)).alloc (.cells #[v] t)).heap.size = w.heap.size + 2 := by
 have h2 := vc_cell_box (w.alloc (.cells #[u] s)) v t;rw [vc_size_box] at h2;exact ⟨vc_cell_below (vc_cell_box w u s) (vc_below_box _ v t) (Nat.le_refl _), h2, (vc_below_box w u s).alloc (by simp) _, by simp⟩
theorem vc_within_any {u v : Value} {xs ys : Ints} {w : World} (hs : SeqI w u xs) (ht : SeqI w v ys) (hl : xs.length ≤ 1000000) :
  Calls Tryz.prog 164 #[u, v] w fun e w' => e = .returned (.bool (Plain.within xs ys)) ∧ w = w' := by
 obtain ⟨a, cap, rfl, g1, g2, g0, h⟩ := hs.parts;obtain ⟨a', cap', rfl, g1', g2', g0', h'⟩ := ht.parts;have HW : Hid ((∀ i, i < xs.length → says xs i ≤ says ys i) → Plain.within xs ys = true) := zH fun h => within_true (within_of h)
 have HF : Hid (∀ i, ¬ says xs i ≤ says ys i → Plain.within xs ys = false) := zH fun i h => within_false fun g => h (g i)
 have KA : Hid (∀ k : Nat, Calls Tryz.prog 56 #[.slice a xs.length cap, .int .i64 (k : Int)] w fun e w' => e = .returned (.int .i64 (says xs k)) ∧ w = w') := zH fun k => by
  have := vc_at_any h (k : Int); rwa [saysI_nat] at this
 have KB : Hid (∀ k : Nat, Calls Tryz.prog 56 #[.slice a' ys.length cap', .int .i64 (k : Int)] w fun e w' => e = .returned (.int .i64 (says ys k)) ∧ w = w') := zH fun k => by
  have := vc_at_any h' (k : Int); rwa [saysI_nat] at this
 clear hs h g0 ht h' g0' g2 g2';generalize Plain.within xs ys = r at *;generalize xs.length = la at *;generalize ys.length = lb at *;go_enter Tryz.func164, Tryz.ntmps164
 go_wp2_with fail
 go_loop [8] (fun i => ∃ k : Nat, k ≤ la ∧ i = .int .i64 k ∧ ∀ j, j < k → says xs j ≤ says ys j) (fun i => la - (intOf i).toNat)
 case atStart => exact ⟨0, Nat.zero_le _, rfl, fun j hj => absurd hj (by omega)⟩
 case round =>
  obtain ⟨k, hk, rfl, hall⟩ := hrel;have HA := zH hall;clear hall;have K1 := KA.out k;have K2 := KB.out k
  by_cases hlt : k < la
  ·by_cases he : says xs k ≤ says ys k
   ·have HA2 : Hid (∀ j, j < k + 1 → says xs j ≤ says ys j) := zH (fun j hj => by
      by_cases h : j < k
      ·exact HA.out j h
      ·obtain rfl : j = k := by omega
       exact he)
    generalize says xs k = x at *;generalize says ys k = y at *;go_wp2_with fail
    refine K1.mono ?_;rintro e w' ⟨rfl, rfl⟩;go_wp2_with fail
    refine K2.mono ?_;rintro e w' ⟨rfl, rfl⟩;clear K1 K2;go_wp2_with fail
    go_round
    case rel => exact ⟨k + 1, by omega, by go_num, HA2.out⟩
    case measure => simp [intOf]; omega
   ·obtain rfl : r = false := HF.out k (by omega)
    generalize says xs k = x at *;generalize says ys k = y at *;go_wp2_with fail
    refine K1.mono ?_;rintro e w' ⟨rfl, rfl⟩;go_wp2_with fail
    refine K2.mono ?_;rintro e w' ⟨rfl, rfl⟩;clear K1 K2;go_wp2_with fail
    go_ret
    exact ⟨rfl, rfl⟩
  ·obtain rfl : k = la := by omega
   obtain rfl : r = true := HW.out HA.out;clear K1 K2;go_wp2_with fail
   go_ret
   exact ⟨rfl, rfl⟩
theorem vc_box3 (w : World) (x y z : Value) (t : TypeId) : (w.alloc (.cells #[x, y, z] t)).cell? ⟨w.heap.size, 0, none⟩ = some x ∧ (w.alloc (.cells #[x, y, z] t)).cell? ⟨w.heap.size, 1, none⟩ = some y ∧ Below w.heap.size w (w.alloc (.cells #[x, y, z] t)) :=
 ⟨cell_of_row _ _ 0 _ _ _ (heap_alloc_new w _), cell_of_row _ _ 1 _ _ _ (heap_alloc_new w _), (Below.refl _ _).alloc (Nat.le_refl _) _⟩
theorem vc_has_any {v : Value} {xs : Ints} {w : World} (hs : SeqI w v xs) (p q r : Int) :
  Calls Tryz.prog 20 #[v, .agg #[.int .i64 p, .int .i64 q, .int .i64 r]] w fun e w' => e = .returned (.bool (decide (1 ≤ q) && decide (q ≤ saysI xs p))) ∧ Below w.heap.size w w' := by
 obtain ⟨c1, c2, hB⟩ := vc_box3 w (.int .i64 p) (.int .i64 q) (.int .i64 r) 45;have HB := zH hB;have KA : Hid (∀ m, Calls Tryz.prog 56 #[v, .int .i64 p] ((w.alloc (.cells #[.int .i64 p, .int .i64 q, .int .i64 r] 45)).drewN m) fun e w' => e = .returned (.int .i64 (saysI xs p)) ∧ (w.alloc (.cells #[.int .i64 p, .int .i64 q, .int .i64 r] 45)).drewN m = w') := zH fun m => vc_at_any ((hs.below hB).drawn m) p
 clear hs hB;generalize saysI xs p = x at *
 by_cases h1 : 1 ≤ q
 ·rw [decide_eq_true h1]
  by_cases h2 : q ≤ x
  ·rw [decide_eq_true h2]
   have d1 : decide (1 ≤ q) = true := decide_eq_true h1;have d2 : decide (q ≤ x) = true := decide_eq_true h2;go_enter Tryz.func20, Tryz.ntmps20
   go_wp2_with fail
   go_quiet ((go_at_call 56; exact quiet_left (KA.out _)))
   go_wp2_with fail
   go_ret
   exact ⟨rfl, below_drewN HB.out _⟩
  ·rw [decide_eq_false h2]
   have d1 : decide (1 ≤ q) = true := decide_eq_true h1;have d2 : decide (q ≤ x) = false := decide_eq_false h2;go_enter Tryz.func20, Tryz.ntmps20
   go_wp2_with fail
   go_quiet ((go_at_call 56; exact quiet_left (KA.out _)))
   go_wp2_with fail
   go_ret
   exact ⟨rfl, below_drewN HB.out _⟩
 ·rw [decide_eq_false h1]
  have d1 : decide (1 ≤ q) = false := decide_eq_false h1;go_enter Tryz.func20, Tryz.ntmps20
  go_wp2_with fail
  go_quiet (fail)
  go_wp2_with fail
  go_ret
  exact ⟨rfl, below_drewN HB.out _⟩
theorem vc_withC {w : World} {B C D : Nat} {u : Value} {xs : Ints} {k0 : Nat} {n : Int} (hB : w.cell? ⟨B, 0, none⟩ = some (.int .i64 (k0 : Int))) (hC : w.cell? ⟨C, 0, none⟩ = some (.int .i64 n)) (hD : w.cell? ⟨D, 0, none⟩ = some u) (hs : SeqI w u xs) (N : Nat) :
  vc_Counts w 163 #[.pointer (some ⟨B, 0, none⟩), .pointer (some ⟨C, 0, none⟩), .pointer (some ⟨D, 0, none⟩)] (withF xs k0 n) N := by
 intro W i _ hb;have c1 := vc_cell_below hB hb (Nat.le_refl _);have c2 := vc_cell_below hC hb (Nat.le_refl _);have c3 := vc_cell_below hD hb (Nat.le_refl _);have K := vc_at_any (hs.below hb) (i : Int);rw [saysI_nat] at K;clear hB hC hD hs hb
 by_cases he : i = k0
 ·have hz : withF xs k0 n i = n := by unfold withF; rw [if_pos he]
  rw [hz];subst he;clear hz K;go_enter Tryz.func163, Tryz.ntmps163
  go_wp2_with fail
  go_ret
  exact ⟨rfl, 0, rfl⟩
 ·have hz : withF xs k0 n i = says xs i := by unfold withF; rw [if_neg he]
  rw [hz];generalize says xs i = x at *;have he2 : ¬ (i : Int) = (k0 : Int) := by omega
  have he3 : ((i : Int) == (k0 : Int)) = false := by simpa using he2
  clear he hz he2;go_enter Tryz.func163, Tryz.ntmps163
  go_wp2_with fail
  refine K.mono ?_;rintro e w' ⟨rfl, rfl⟩;go_wp2_with fail
  go_ret
  exact ⟨rfl, 0, rfl⟩
theorem vc_box4 (w : World) (x y z : Value) (s t r : TypeId) : let u := ((w.alloc (.cells #[x] s)).alloc (.cells #[y] t)).alloc (.cells #[z] r)
  u.cell? ⟨w.heap.size, 0, none⟩ = some x ∧ u.cell? ⟨w.heap.size + 1, 0, none⟩ = some y ∧ u.cell? ⟨w.heap.size + 2, 0, none⟩ = some z ∧ Below w.heap.size w u ∧ u.heap.size = w.heap.size + 3 := by
 obtain ⟨h1, h2, h3, h4⟩ := vc_box2 w x y s t;have h5 := vc_cell_box ((w.alloc (.cells #[x] s)).alloc (.cells #[y] t)) z r;rw [h4] at h5;exact ⟨vc_cell_below h1 (vc_below_box _ z r) (Nat.le_refl _), vc_cell_below h2 (vc_below_box _ z r) (Nat.le_refl _), h5, h3.alloc (by rw [h4]; omega) _, by simp⟩
theorem vc_with_err {v : Value} {xs : Ints} {w : World} (hs : SeqI w v xs) (a n : Int) (h : a < 0 ∨ 8 ≤ a ∨ n < 0 ∨ 1073741824 < n) :
  Calls Tryz.prog 132 #[v, .int .i64 a, .int .i64 n] w fun e w' => e = .returned (.tuple #[.slice none 0 0, .int .i64 1]) ∧ Below w.heap.size w w' := by
 obtain ⟨a0, cap, rfl, -, -, -, -⟩ := hs.parts;clear hs;obtain ⟨b1, b2, b3, hB, hZ⟩ := vc_box4 w (.slice a0 xs.length cap) (.int .i64 a) (.int .i64 n) 23 3 3;have HB := zH hB;clear hB hZ
 by_cases h1 : a < 0
 ·go_enter Tryz.func132, Tryz.ntmps132
  go_wp2_with fail
  all_goals go_ret2
  all_goals exact ⟨rfl, HB.out⟩
 ·by_cases h2 : 8 ≤ a
  ·go_enter Tryz.func132, Tryz.ntmps132
   go_wp2_with fail
   all_goals go_ret2
   all_goals exact ⟨rfl, HB.out⟩
  ·by_cases h3 : n < 0
   ·go_enter Tryz.func132, Tryz.ntmps132
    go_wp2_with fail
    all_goals go_ret2
    all_goals exact ⟨rfl, HB.out⟩
   ·have h4 : 1073741824 < n := by omega
    clear h;go_enter Tryz.func132, Tryz.ntmps132
    go_wp2_with fail
    all_goals go_ret2
    all_goals exact ⟨rfl, HB.out⟩
theorem vc_with_ok {v : Value} {xs : Ints} {k0 : Nat} {n : Int} {w : World} (hs : SeqI w v xs) (hl : xs.length ≤ 1000000) (hk0 : k0 ≤ 7) (hn0 : 0 ≤ n) (hn1 : n ≤ 1073741824) :
  Calls Tryz.prog 132 #[v, .int .i64 (k0 : Int), .int .i64 n] w fun e w' => ∃ u, e = .returned (.tuple #[u, .int .i64 0]) ∧ OwnsI w.heap.size w' u (withN xs k0 n) ∧ Below w.heap.size w w' := by
 obtain ⟨a, cap, rfl, g1, g2, g0, h⟩ := hs.parts;obtain ⟨b1, b2, b3, hB, hZ⟩ := vc_box4 w (.slice a xs.length cap) (.int .i64 (k0 : Int)) (.int .i64 n) 23 3 3;have e : max (xs.length : Int) ((k0 : Int) + 1) = ((max xs.length (k0 + 1) : Nat) : Int) := by omega
 have KL := zH (vc_lay_any 163 #[.pointer (some ⟨w.heap.size + 1, 0, none⟩), .pointer (some ⟨w.heap.size + 2, 0, none⟩), .pointer (some ⟨w.heap.size, 0, none⟩)] (enters_of Tryz.func163 (by kernel_rfl) rfl) (withF xs k0 n) (max xs.length (k0 + 1)) (by omega) (vc_withC b2 b3 b1 (h.below hB) (max xs.length (k0 + 1))));have HB := zH hB;have HZ := zH hZ;have HE := zH e;have q1 : ¬ (k0 : Int) < 0 := by omega
 have q2 : ¬ 8 ≤ (k0 : Int) := by omega
 have q3 : ¬ n < 0 := by omega
 have q4 : ¬ 1073741824 < n := by omega
 have q5 : (k0 : Int) ≤ 7 := by omega
 clear hs h g0 hB hZ b1 b2 b3 e;go_enter Tryz.func132, Tryz.ntmps132
 go_wp2_with fail
 rw [HE.out];refine KL.out.mono ?_;rintro e u2 ⟨v2, rfl, ho, hb⟩;have O2 := zH (ho.mono (by rw [HZ.out]; omega : w.heap.size ≤ _));have G2 := zH (HB.out.trans (hb.mono (by rw [HZ.out]; omega)));clear ho hb;go_wp2_with fail
 go_ret2
 exact ⟨_, rfl, O2.out, G2.out⟩
end Go.Proofs.YtfapkepfngddlaaGreat
namespace Go.Proofs.YtfapkepfngddlaaGreat
open Go.RowKit Plain
set_option linter.unusedVariables false
theorem vc_rat_any {v : Value} {xs : Ints} {w : World} (hs : SeqI w v xs) (n : Int) :
  Calls Tryz.prog 35 #[v, .int .i64 n] w fun e w' => e = .returned (.int .i64 (saysI xs n)) ∧ w = w' := by
 obtain ⟨a, cap, rfl, g1, g2, g0, h⟩ := hs.parts;have hq : ∀ k : Nat, k < xs.length → (k : Int) = n → 0 < xs.getD k 0 → saysI xs n = xs.getD k 0 := by
  intro k _ e hp; subst e; rw [saysI_nat]; unfold says; omega
 have hz : (∀ k : Nat, k < xs.length → (k : Int) = n → ¬ 0 < xs.getD k 0) → saysI xs n = 0 := by
  intro hall;unfold saysI
  split
  ·obtain ⟨k, rfl⟩ : ∃ k : Nat, n = (k : Int) := ⟨n.toNat, by omega⟩
   show says xs k = 0
   by_cases hk : k < xs.length
   ·have := hall k hk rfl; unfold says; omega
   ·exact says_end xs k (by omega)
  ·rfl
 have hm : maxLen = 9223372036854775807 := rfl;rw [hm] at g2;have HQ := zH hq;have HZ := zH hz;have HS := zH h;clear hs h g0 hq hz hm;generalize saysI xs n = r at *;go_enter Tryz.func35, Tryz.ntmps35
 go_wp2_with fail
 go_loop [5] (fun i => ∃ k : Nat, k ≤ xs.length ∧ i = .int .i64 k ∧ (∀ j : Nat, j < k → (j : Int) = n → ¬ 0 < xs.getD j 0)) (fun i => xs.length - (intOf i).toNat)
 case atStart => exact ⟨0, Nat.zero_le _, rfl, fun j hj => absurd hj (by omega)⟩
 case round =>
  obtain ⟨k, hk, rfl, hall⟩ := hrel;have HA := zH hall;clear hall
  by_cases hlt : k < xs.length
  ·obtain ⟨b, o, c, hv, -, -, -, hc⟩ := HS.out.spot (by omega)
   simp only [Value.slice.injEq] at hv
   obtain ⟨rfl, -, rfl⟩ := hv;have c1 := hc k hlt;clear hc
   by_cases he : (k : Int) = n
   ·subst he
    have hb2 : ((k : Int) == (k : Int)) = true := by simp
    by_cases hp : 0 < xs.getD k 0
    ·have hr := HQ.out k hlt rfl hp
     generalize xs.getD k 0 = x at *;subst hr;go_wp2_with fail
     go_ret
     exact ⟨rfl, rfl⟩
    ·have HA2 : Hid (∀ j : Nat, j < k + 1 → (j : Int) = (k : Int) → ¬ 0 < xs.getD j 0) := zH (fun j hj e => by
      by_cases h : j < k
      ·exact HA.out j h e
      ·obtain rfl : j = k := by omega
       exact hp)
     generalize xs.getD k 0 = x at c1 hp;go_wp2_with fail
     go_round
     case rel => exact ⟨k + 1, by omega, by go_num, HA2.out⟩
     case measure => simp [intOf]; omega
   ·have hb1 : decide ((k : Int) = n) = false := decide_eq_false he
    have hb2 : ((k : Int) == n) = false := by simpa using he
    have HA2 : Hid (∀ j : Nat, j < k + 1 → (j : Int) = n → ¬ 0 < xs.getD j 0) := zH (fun j hj e => by
      by_cases h : j < k
      ·exact HA.out j h e
      ·obtain rfl : j = k := by omega
       exact absurd e he)
    go_wp2_with fail
    go_round
    case rel => exact ⟨k + 1, by omega, by go_num, HA2.out⟩
    case measure => simp [intOf]; omega
  ·obtain rfl : k = xs.length := by omega
   have hr := HZ.out fun j h e => by have := HA.out j h e; omega
   subst hr;go_wp2_with fail
   go_ret
   exact ⟨rfl, rfl⟩
theorem vc_trim_step_pos {xs : Ints} {k : Nat} (h : 0 < xs.getD k 0) : (laid (says xs) (k + 1)).length = k + 1 := laid_some_len _ _ (by unfold says; omega)
theorem vc_trim_step_neg {xs : Ints} {k : Nat} (h : ¬ 0 < xs.getD k 0) : (laid (says xs) (k + 1)).length = (laid (says xs) k).length := by rw [laid_zero _ _ (by unfold says; omega)]
theorem vc_range_push (c : Nat → Int) (k : Nat) : (List.range k).map c ++ [c k] = (List.range (k + 1)).map c := by rw [List.range_succ, List.map_append]; rfl
theorem vc_rtrim_any {v : Value} {xs : Ints} {w : World} (hs : SeqI w v xs) (hl : xs.length ≤ 1000000) :
  Calls Tryz.prog 81 #[v] w (MadeI w (trim xs)) := by
 obtain ⟨a, cap, rfl, g1, g2, g0, h⟩ := hs.parts;have hm : maxLen = 9223372036854775807 := rfl;rw [hm] at g2;have HS := zH h;have HT := zH (show trim xs = (List.range (laid (says xs) xs.length).length).map (says xs) from laid_range _ _);clear hs h g0 hm;rw [HT.out];go_enter Tryz.func81, Tryz.ntmps81
 go_wp2_with fail
 go_loop [3, 4] (fun l i => ∃ k : Nat, k ≤ xs.length ∧ i = .int .i64 k ∧ l = .int .i64 ((laid (says xs) k).length - 1)) (fun _ i => xs.length - (intOf i).toNat)
 case atStart => exact ⟨0, Nat.zero_le _, rfl, rfl⟩
 case round =>
  obtain ⟨k, hk, rfl, rfl⟩ := hrel
  by_cases hlt : k < xs.length
  ·obtain ⟨b, o, c, hv, -, -, -, hc⟩ := HS.out.spot (by omega)
   simp only [Value.slice.injEq] at hv
   obtain ⟨rfl, -, rfl⟩ := hv;have c1 := hc k hlt;clear hc
   by_cases hp : 0 < xs.getD k 0
   ·have e := zH (vc_trim_step_pos hp)
    generalize (laid (says xs) k).length = q at *;generalize xs.getD k 0 = x at *;go_wp2_with fail
    go_round
    case rel => exact ⟨k + 1, by omega, by go_num, by rw [e.out]; go_num⟩
    case measure => simp [intOf]; omega
   ·have e := zH (vc_trim_step_neg hp)
    generalize xs.getD k 0 = x at *;generalize hq : (laid (says xs) k).length = q at *;have HQ := zH hq;clear hq;go_wp2_with fail
    go_round
    case rel => exact ⟨k + 1, by omega, by go_num, by rw [e.out]⟩
    case measure => simp [intOf]; omega
  ·obtain rfl : k = xs.length := by omega
   have hq := laid_len (says xs) xs.length;generalize (laid (says xs) xs.length).length = q at *;clear hk hlt;go_wp2_with fail
   go_loopw [5, 6] (fun o i wr => ∃ k : Nat, k ≤ q ∧ i = .int .i64 k ∧ OwnsI w.heap.size wr o ((List.range k).map (says xs)) ∧ Below w.heap.size w wr) (fun _ i _ => q - (intOf i).toNat)
   case atStart => exact ⟨0, Nat.zero_le _, rfl, OwnsI.nil _ _, Below.refl _ _⟩
   case round =>
    obtain ⟨k, hk, rfl, ho, hb⟩ := hrel
    by_cases hlt : k < q
    ·have K := vc_rat_any (HS.out.below hb) (k : Int)
     rw [saysI_nat] at K;have HO := zH ho;have HB := zH hb;have RP := zH (vc_range_push (says xs) k);have HL := zH (show ((List.range k).map (says xs)).length = k by simp);clear ho hb;generalize says xs k = x at *;go_wp2_with (first | (go_at_call 35; refine K.mono ?_; rintro e w' ⟨rfl, rfl⟩) | (at_builtin; refine wpList_append_ints rfl (.tmp 24) (.tmp 28) rfl w.heap.size rfl (HO.out.alloc _) rfl (SeqI.one _ x) (by rw [HL.out]; simp; omega) (by have := HB.out.size; simp; omega) ?_))
     intro v' w1 ho' hg _;have O2 := zH ho';have G2 : Hid (Below w.heap.size w w1) := zH ((HB.out.alloc HB.out.size _).grown hg (by have := HB.out.size; simp; omega) (fun j hj => (HO.out.lt j hj).1));clear ho' hg;rw [RP.out] at O2;go_wp2_with fail
     go_roundw
     case rel => exact ⟨k + 1, by omega, by go_num, O2.out, G2.out⟩
     case measure => simp [intOf]; omega
    ·obtain rfl : k = q := by omega
     have O2 := zH ho;have G2 := zH hb;clear ho hb;go_wp2_with fail
     go_ret
     exact ⟨_, rfl, O2.out, G2.out⟩
theorem vc_rlay_true {u v : Value} {xs ys : Ints} {w : World} (hs : SeqI w u xs) (ht : SeqI w v ys) (hl : xs.length ≤ 1000000) (hm : ys.length ≤ 1000000) :
  Calls Tryz.prog 137 #[u, v, .bool true] w (MadeI w (laid (fun i => max (says xs i) (says ys i)) (max xs.length ys.length))) := by
 obtain ⟨a, cap, rfl, g1, g2, g0, h⟩ := hs.parts;obtain ⟨a', cap', rfl, g1', g2', g0', h'⟩ := ht.parts;have HS := zH h;have HT := zH h';have HTR := zH (trim_of_range (fun i => max (says xs i) (says ys i)) (fun i => join_pos xs ys i) (max xs.length ys.length));rw [← HTR.out];clear HTR hs h g0 ht h' g0' g2 g2';obtain ⟨c, hc⟩ : ∃ c : Nat → Int, c = fun i => max (says xs i) (says ys i) := ⟨_, rfl⟩
 rw [← hc];have HC := zH hc;obtain ⟨N, hN⟩ : ∃ N : Nat, N = max xs.length ys.length := ⟨_, rfl⟩;rw [← hN];have n1 : xs.length ≤ N := by omega
 have n2 : ys.length ≤ N := by omega
 have n3 : N ≤ 1000000 := by omega
 have HN := zH hN;clear hc hN hl hm;generalize hA : xs.length = la at *;generalize hB : ys.length = lb at *;clear hA hB;go_enter Tryz.func137, Tryz.ntmps137
 go_wp2_with fail
 go_loopw [7, 8] (fun o i wr => ∃ k : Nat, k ≤ N ∧ i = .int .i64 k ∧ OwnsI w.heap.size wr o ((List.range k).map c) ∧ Below w.heap.size w wr) (fun _ i _ => N - (intOf i).toNat)
 case atStart => exact ⟨0, Nat.zero_le _, rfl, OwnsI.nil _ _, Below.refl _ _⟩
 case round =>
  obtain ⟨k, hk, rfl, ho, hb⟩ := hrel;have HO := zH ho;have HB := zH hb;have HL := zH (show ((List.range k).map c).length = k by simp);clear ho hb
  by_cases hlt : k < N
  ·have K1 := vc_rat_any (HS.out.below HB.out) (k : Int)
   have K2 := vc_rat_any (HT.out.below HB.out) (k : Int);rw [saysI_nat] at K1 K2;have RP := zH (vc_range_push c k);have CK : Hid (c k = max (says xs k) (says ys k)) := zH (by rw [HC.out]);generalize says xs k = x at *;generalize says ys k = y at *;generalize c k = z at *
   by_cases h1 : k < la <;> by_cases h2 : k < lb
   all_goals first | (exfalso; have := HN.out; omega) | skip
   all_goals (by_cases hxy : x < y)
   all_goals first
    | (have hz : z = x := (by rw [CK.out]; omega); have hd : decide (x < y) = false := (by simp; omega))
    | (have hz : z = y := (by rw [CK.out]; omega); have hd : decide (x < y) = true := (by simp; omega))
   all_goals
    clear CK;subst hz;go_wp2_with fail
    refine K1.mono ?_;rintro e w' ⟨rfl, rfl⟩;go_wp2_with fail
    refine K2.mono ?_;rintro e w' ⟨rfl, rfl⟩;clear K1 K2;go_wp2_with (at_builtin; refine wpList_append_ints rfl (.tmp 35) (.tmp 37) rfl w.heap.size rfl (HO.out.alloc _) rfl (SeqI.one _ _) (by rw [HL.out]; simp; omega) (by have := HB.out.size; simp; omega) ?_)
    intro v' w1 ho' hg _;have O2 := zH ho';have G2 : Hid (Below w.heap.size w w1) := zH ((HB.out.alloc HB.out.size _).grown hg (by have := HB.out.size; simp; omega) (fun j hj => (HO.out.lt j hj).1));clear ho' hg;rw [RP.out] at O2;go_wp2_with fail
    go_roundw
    case rel => exact ⟨k + 1, by omega, by go_num, O2.out, G2.out⟩
    case measure => simp [intOf]; omega
  ·obtain rfl : k = N := by omega
   have K3 := vc_rtrim_any HO.out.seq (by rw [HL.out]; exact n3);have q1 : ¬ k < la := by omega
   have q2 : ¬ k < lb := by omega
   go_wp2_with fail
   refine K3.mono ?_;rintro e w2 ⟨v2, rfl, ho, hb⟩;have O2 := zH (ho.mono HB.out.size);have G2 := zH (HB.out.trans (hb.mono HB.out.size));clear ho hb;go_wp2_with fail
   go_ret
   exact ⟨_, rfl, O2.out, G2.out⟩
theorem vc_rsame_any (r : Bool) {u v : Value} {xs ys : Ints} {w : World} (hr : r = true ↔ ∀ i, says xs i = says ys i) (hs : SeqI w u xs) (ht : SeqI w v ys) (hl : xs.length ≤ 1000000) (hm : ys.length ≤ 1000000) :
  Calls Tryz.prog 136 #[u, v] w fun e w' => e = .returned (.bool r) ∧ w = w' := by
 obtain ⟨a, cap, rfl, g1, g2, g0, h⟩ := hs.parts;obtain ⟨a', cap', rfl, g1', g2', g0', h'⟩ := ht.parts;have HR := zH hr;have HE : Hid (∀ i, xs.length ≤ i → ys.length ≤ i → says xs i = says ys i) := zH fun i p q => by rw [says_end xs i p, says_end ys i q]
 have KA : Hid (∀ k : Nat, Calls Tryz.prog 35 #[.slice a xs.length cap, .int .i64 (k : Int)] w fun e w' => e = .returned (.int .i64 (says xs k)) ∧ w = w') := zH fun k => by
  have := vc_rat_any h (k : Int); rwa [saysI_nat] at this
 have KB : Hid (∀ k : Nat, Calls Tryz.prog 35 #[.slice a' ys.length cap', .int .i64 (k : Int)] w fun e w' => e = .returned (.int .i64 (says ys k)) ∧ w = w') := zH fun k => by
  have := vc_rat_any h' (k : Int); rwa [saysI_nat] at this
 clear hr hs h g0 ht h' g0' g2 g2';generalize xs.length = la at *;generalize ys.length = lb at *;go_enter Tryz.func136, Tryz.ntmps136
 go_wp2_with fail
 go_loop [5] (fun i => ∃ k : Nat, k ≤ max la lb ∧ i = .int .i64 k ∧ ∀ j, j < k → says xs j = says ys j) (fun i => max la lb - (intOf i).toNat)
 case atStart => exact ⟨0, Nat.zero_le _, rfl, fun j hj => absurd hj (by omega)⟩
 case round =>
  obtain ⟨k, hk, rfl, hall⟩ := hrel;have HA := zH hall;clear hall;have K1 := KA.out k;have K2 := KB.out k
  by_cases hlt : k < max la lb
  ·by_cases he : says xs k = says ys k
   ·have HA2 : Hid (∀ j, j < k + 1 → says xs j = says ys j) := zH (fun j hj => by
      by_cases h : j < k
      ·exact HA.out j h
      ·obtain rfl : j = k := by omega
       exact he)
    rw [he] at K1;clear he;generalize says ys k = y at *
    by_cases h1 : k < la <;> by_cases h2 : k < lb
    all_goals first | (exfalso; omega) | skip
    all_goals
     go_wp2_with fail
     refine K1.mono ?_;rintro e w' ⟨rfl, rfl⟩;go_wp2_with fail
     refine K2.mono ?_;rintro e w' ⟨rfl, rfl⟩;clear K1 K2;go_wp2_with fail
     go_round
     case rel => exact ⟨k + 1, by omega, by go_num, HA2.out⟩
     case measure => simp [intOf]; omega
   ·obtain rfl : r = false := by
     cases r with
     | false => rfl
     | true => exact absurd (HR.out.1 rfl k) he
    generalize says xs k = x at *;generalize says ys k = y at *;have hb2 : (x != y) = true := by simpa using he
    by_cases h1 : k < la <;> by_cases h2 : k < lb
    all_goals first | (exfalso; omega) | skip
    all_goals
     go_wp2_with fail
     refine K1.mono ?_;rintro e w' ⟨rfl, rfl⟩;go_wp2_with fail
     refine K2.mono ?_;rintro e w' ⟨rfl, rfl⟩;clear K1 K2;go_wp2_with fail
     go_ret
     exact ⟨rfl, rfl⟩
  ·obtain rfl : k = max la lb := by omega
   obtain rfl : r = true := HR.out.2 fun i => by
    by_cases h : i < max la lb
    ·exact HA.out i h
    ·exact HE.out i (by omega) (by omega)
   clear K1 K2;go_wp2_with fail
   go_ret
   exact ⟨rfl, rfl⟩
theorem vc_requal_yes {u v : Value} {xs : Ints} {w : World} (hs : SeqI w u xs) (ht : SeqI w v xs) :
  Calls Tryz.prog 43 #[u, v] w fun e w' => e = .returned (.bool true) ∧ ∃ n, w' = w.drewN n := by
 by_cases hp : 0 < xs.length
 ·obtain ⟨b1, o1, c1, rfl, g1, m1, -, k1⟩ := hs.spot hp
  obtain ⟨b2, o2, c2, rfl, g2, m2, -, k2⟩ := ht.spot hp;have HU := zH k1;have HV := zH k2;have hm : maxLen = 9223372036854775807 := rfl;rw [hm] at m1 m2;clear hs ht k1 k2 hm;go_enter Tryz.func43, Tryz.ntmps43
  go_wp2_with fail
  go_loopw [5] (fun i wr => ∃ k : Nat, k ≤ xs.length ∧ i = .int .i64 k ∧ ∃ n, wr = w.drewN n) (fun i _ => xs.length - (intOf i).toNat)
  case atStart => exact ⟨0, Nat.zero_le _, rfl, 0, rfl⟩
  case round =>
   obtain ⟨k, hk, rfl, n, rfl⟩ := hrel
   by_cases hlt : k < xs.length
   ·have c1' := HU.out k hlt
    have c2' := HV.out k hlt;generalize xs.getD k 0 = x at *;go_wp2_with fail
    go_quiet (fail)
    go_wp2_with fail
    go_roundw
    case rel => exact ⟨k + 1, by omega, by go_num, _, rfl⟩
    case measure => simp [intOf]; omega
   ·obtain rfl : k = xs.length := by omega
    go_wp2_with fail
    go_ret
    exact ⟨rfl, _, rfl⟩
 ·obtain rfl : xs = [] := List.eq_nil_of_length_eq_zero (by omega)
  obtain ⟨a1, c1, rfl, -⟩ := hs;obtain ⟨a2, c2, rfl, -⟩ := ht;simp only [List.length_nil]
  go_enter Tryz.func43, Tryz.ntmps43
  go_wp2_with fail
  go_loop [5] (fun i => i = .int .i64 0) (fun _ => 0)
  case atStart => rfl
  case round =>
   obtain rfl := hrel;go_wp2_with fail
   go_ret
   exact ⟨rfl, 0, rfl⟩
theorem vc_requal_no {u v : Value} {xs ys : Ints} {w : World} (hs : SeqI w u xs) (ht : SeqI w v ys) (hne : ¬ xs = ys) :
  Calls Tryz.prog 43 #[u, v] w fun e w' => e = .returned (.bool false) ∧ ∃ n, w' = w.drewN n := by
 by_cases hl : xs.length = ys.length
 ·have hp : 0 < xs.length := by
   by_cases h : 0 < xs.length
   ·exact h
   ·exfalso
    apply hne
    rw [List.eq_nil_of_length_eq_zero (show xs.length = 0 by omega), List.eq_nil_of_length_eq_zero (show ys.length = 0 by omega)]
  have hex : ∃ j, j < xs.length ∧ xs.getD j 0 ≠ ys.getD j 0 := by
   refine Classical.byContradiction fun hno => hne ?_
   apply List.ext_getElem hl
   intro j h1 h2;have hj : xs.getD j 0 = ys.getD j 0 := Classical.byContradiction fun h => hno ⟨j, h1, h⟩
   simpa [List.getD, List.getElem?_eq_getElem h1, List.getElem?_eq_getElem h2] using hj
  obtain ⟨b1, o1, c1, rfl, g1, m1, -, k1⟩ := hs.spot hp;obtain ⟨b2, o2, c2, rfl, g2, m2, -, k2⟩ := ht.spot (by omega);rw [← hl] at k2 g2 ⊢;have HU := zH k1;have HV := zH k2;have HEX := zH hex;have hm : maxLen = 9223372036854775807 := rfl;rw [hm] at m1 m2;clear hs ht k1 k2 hm hl hex hne;go_enter Tryz.func43, Tryz.ntmps43
  go_wp2_with fail
  go_loopw [5] (fun i wr => ∃ k : Nat, k ≤ xs.length ∧ i = .int .i64 k ∧ (∀ j, j < k → xs.getD j 0 = ys.getD j 0) ∧ ∃ n, wr = w.drewN n) (fun i _ => xs.length - (intOf i).toNat)
  case atStart => exact ⟨0, Nat.zero_le _, rfl, (fun j hj => absurd hj (by omega)), 0, rfl⟩
  case round =>
   obtain ⟨k, hk, rfl, hall, n, rfl⟩ := hrel;have HALL := zH hall;clear hall
   by_cases hlt : k < xs.length
   ·have c1' := HU.out k hlt
    have c2' := HV.out k hlt
    by_cases he : xs.getD k 0 = ys.getD k 0
    ·have HE := zH he
     rw [he] at c1';clear he;have HALL2 : Hid (∀ j, j < k + 1 → xs.getD j 0 = ys.getD j 0) := zH (fun j hj => by
      by_cases h : j < k
      ·exact HALL.out j h
      ·obtain rfl : j = k := by omega
       exact HE.out)
     generalize ys.getD k 0 = x at *;go_wp2_with fail
     go_quiet (fail)
     go_wp2_with fail
     go_roundw
     case rel => exact ⟨k + 1, by omega, by go_num, HALL2.out, _, rfl⟩
     case measure => simp [intOf]; omega
    ·generalize xs.getD k 0 = x at *
     generalize ys.getD k 0 = y at *;have hb2 : (x != y) = true := bne_iff_ne.2 he;clear he;go_wp2_with fail
     go_quiet (fail)
     go_wp2_with fail
     go_ret
     exact ⟨rfl, _, World.drewN_drewN _ _ _⟩
   ·exfalso
    obtain ⟨j, hj, hne⟩ := HEX.out;exact hne (HALL.out j (by omega))
 ·obtain ⟨a1, c1, rfl, -⟩ := hs
  obtain ⟨a2, c2, rfl, -⟩ := ht;generalize xs.length = la at *;generalize ys.length = lb at *;have h1 : ¬ ((la : Int) = (lb : Int)) := by omega
  have h2 : ((la : Int) != (lb : Int)) = true := bne_iff_ne.2 h1;clear hl h1 hne;go_enter Tryz.func43, Tryz.ntmps43
  go_wp2_with fail
  go_ret
  exact ⟨rfl, 0, rfl⟩
theorem vc_requal_any {u v : Value} {xs ys : Ints} {w : World} (hs : SeqI w u xs) (ht : SeqI w v ys) :
  Calls Tryz.prog 43 #[u, v] w fun e w' => e = .returned (.bool (decide (xs = ys))) ∧ ∃ n, w' = w.drewN n := by
 by_cases h : xs = ys
 ·subst h
  rw [decide_eq_true rfl];exact vc_requal_yes hs ht
 ·rw [decide_eq_false h]
  exact vc_requal_no hs ht h
theorem vc_rjoin_any {u v : Value} {xs ys : Ints} {w : World} (hs : SeqI w u xs) (ht : SeqI w v ys) (hl : xs.length ≤ 1000000) (hm : ys.length ≤ 1000000) :
  Calls Tryz.prog 137 #[u, v, .bool true] w (MadeI w (join xs ys)) := vc_rlay_true hs ht hl hm
theorem vc_rwithin_any {u v : Value} {xs ys : Ints} {w : World} (hs : SeqI w u xs) (ht : SeqI w v ys) (hl : xs.length ≤ 1000000) (hm : ys.length ≤ 1000000) :
  Calls Tryz.prog 90 #[u, v] w fun e w' => e = .returned (.bool (within xs ys)) ∧ Below w.heap.size w w' := by
 have K1 := vc_rjoin_any hs ht hl hm;have HT := zH ht;have LJ := zH (show (join xs ys).length ≤ 1000000 by have := join_len xs ys; omega);have HR0 : within xs ys = true ↔ ∀ i, says (join xs ys) i = says ys i := by rw [Plain.within_iff, same_join]
 generalize within xs ys = r at *;have HR := zH HR0;have LM := zH hm;clear hs hl hm HR0;obtain ⟨a', cap', rfl, -, -, -, -⟩ := ht.parts;clear ht;go_enter Tryz.func90, Tryz.ntmps90
 go_wp2_with fail
 refine K1.mono ?_;rintro e w1 ⟨v1, rfl, ho, hb⟩;have K2 := vc_rsame_any r HR.out ho.seq (HT.out.below hb) LJ.out LM.out;have HB := zH hb;clear ho hb K1;go_wp2_with fail
 refine K2.mono ?_;rintro e w2 ⟨rfl, rfl⟩;go_wp2_with fail
 go_ret
 exact ⟨rfl, HB.out⟩
theorem vc_rwith_err (v : Value) (a n : Int) (w : World) (h : a < 0 ∨ 7 < a ∨ n < 0 ∨ 1073741824 < n) :
  Calls Tryz.prog 93 #[v, .int .i64 a, .int .i64 n] w fun e w' => e = .returned (.tuple #[.slice none 0 0, .int .i64 1]) ∧ ∃ m, w' = w.drewN m := by
 by_cases h1 : a < 0
 ·go_enter Tryz.func93, Tryz.ntmps93
  go_wp2_with fail
  all_goals go_ret2
  all_goals exact ⟨rfl, 0, rfl⟩
 ·by_cases h2 : 7 < a
  ·go_enter Tryz.func93, Tryz.ntmps93
   go_wp2_with fail
   all_goals go_ret2
   all_goals exact ⟨rfl, 0, rfl⟩
  ·by_cases h3 : n < 0
   ·go_enter Tryz.func93, Tryz.ntmps93
    go_wp2_with fail
    all_goals go_ret2
    all_goals exact ⟨rfl, 0, rfl⟩
   ·have h4 : 1073741824 < n := by omega
    clear h;go_enter Tryz.func93, Tryz.ntmps93
    go_wp2_with fail
    all_goals go_ret2
    all_goals exact ⟨rfl, 0, rfl⟩
theorem vc_rwith_ok {v : Value} {xs : Ints} {k0 : Nat} {n : Int} {w : World} (hs : SeqI w v xs) (hl : xs.length ≤ 1000000) (hk0 : k0 ≤ 7) (hn0 : 0 ≤ n) (hn1 : n ≤ 1073741824) :
  Calls Tryz.prog 93 #[v, .int .i64 (k0 : Int), .int .i64 n] w fun e w' => ∃ u, e = .returned (.tuple #[u, .int .i64 0]) ∧ OwnsI w.heap.size w' u (withN xs k0 n) ∧ Below w.heap.size w w' := by
 obtain ⟨a, cap, rfl, g1, g2, g0, h⟩ := hs.parts;have HS := zH h;have HTR := zH (trim_of_range (withF xs k0 n) (fun i => withF_pos xs k0 n hn0 i) (max xs.length (k0 + 1)));rw [show withN xs k0 n = laid (withF xs k0 n) (max xs.length (k0 + 1)) from rfl, ← HTR.out];clear HTR hs h g0 g2;obtain ⟨c, hc⟩ : ∃ c : Nat → Int, c = withF xs k0 n := ⟨_, rfl⟩;rw [← hc];have HC := zH hc;obtain ⟨N, hN⟩ : ∃ N : Nat, N = max xs.length (k0 + 1) := ⟨_, rfl⟩;rw [← hN];have n1 : xs.length ≤ N := by omega
 have n2 : k0 + 1 ≤ N := by omega
 have n3 : N ≤ 1000000 := by omega
 have HN := zH hN;clear hc hN hl;generalize hA : xs.length = la at *;clear hA;have q1 : ¬ (k0 : Int) < 0 := by omega
 have q2 : ¬ 7 < (k0 : Int) := by omega
 have q3 : ¬ n < 0 := by omega
 have q4 : ¬ 1073741824 < n := by omega
 go_enter Tryz.func93, Tryz.ntmps93
 go_wp2_with fail
 go_loopw [8, 9] (fun o i wr => ∃ k : Nat, k ≤ N ∧ i = .int .i64 k ∧ OwnsI w.heap.size wr o ((List.range k).map c) ∧ Below w.heap.size w wr) (fun _ i _ => N - (intOf i).toNat)
 case atStart => exact ⟨0, Nat.zero_le _, rfl, OwnsI.nil _ _, Below.refl _ _⟩
 case round =>
  obtain ⟨k, hk, rfl, ho, hb⟩ := hrel;have HO := zH ho;have HB := zH hb;have HL := zH (show ((List.range k).map c).length = k by simp);clear ho hb
  by_cases hlt : k < N
  ·have RP := zH (vc_range_push c k)
   by_cases he : k = k0
   ·have hz : c k = n := by rw [HC.out]; unfold withF; rw [if_pos he]
    rw [hz] at RP;subst he;clear hz
    by_cases h1 : k < la
    all_goals
     go_wp2_with (at_builtin; refine wpList_append_ints rfl (.tmp 38) (.tmp 40) rfl w.heap.size rfl (HO.out.alloc _) rfl (SeqI.one _ _) (by rw [HL.out]; simp; omega) (by have := HB.out.size; simp; omega) ?_)
     intro v' w1 ho' hg _;have O2 := zH ho';have G2 : Hid (Below w.heap.size w w1) := zH ((HB.out.alloc HB.out.size _).grown hg (by have := HB.out.size; simp; omega) (fun j hj => (HO.out.lt j hj).1));clear ho' hg;rw [RP.out] at O2;go_wp2_with fail
     go_roundw
     case rel => exact ⟨k + 1, by omega, by go_num, O2.out, G2.out⟩
     case measure => simp [intOf]; omega
   ·have K1 := vc_rat_any (HS.out.below HB.out) (k : Int)
    rw [saysI_nat] at K1;have hz : c k = says xs k := by rw [HC.out]; unfold withF; rw [if_neg he]
    rw [hz] at RP;generalize says xs k = x at *;clear hz;have he2 : ¬ (k : Int) = (k0 : Int) := by omega
    have he3 : ((k : Int) == (k0 : Int)) = false := by simpa using he2
    clear he he2
    by_cases h1 : k < la <;> by_cases h2 : k ≤ k0
    all_goals first | (exfalso; have := HN.out; omega) | skip
    all_goals
     go_wp2_with fail
     refine K1.mono ?_;rintro e w' ⟨rfl, rfl⟩;clear K1;go_wp2_with (at_builtin; refine wpList_append_ints rfl (.tmp 42) (.tmp 46) rfl w.heap.size rfl (HO.out.alloc _) rfl (SeqI.one _ _) (by rw [HL.out]; simp; omega) (by have := HB.out.size; simp; omega) ?_)
     intro v' w1 ho' hg _;have O2 := zH ho';have G2 : Hid (Below w.heap.size w w1) := zH ((HB.out.alloc HB.out.size _).grown hg (by have := HB.out.size; simp; omega) (fun j hj => (HO.out.lt j hj).1));clear ho' hg;rw [RP.out] at O2;go_wp2_with fail
     go_roundw
     case rel => exact ⟨k + 1, by omega, by go_num, O2.out, G2.out⟩
     case measure => simp [intOf]; omega
  ·obtain rfl : k = N := by omega
   have K3 := vc_rtrim_any HO.out.seq (by rw [HL.out]; exact n3);have q5 : ¬ k < la := by omega
   have q6 : ¬ k ≤ k0 := by omega
   go_wp2_with fail
   refine K3.mono ?_;rintro e w2 ⟨v2, rfl, ho, hb⟩;have O2 := zH (ho.mono HB.out.size);have G2 := zH (HB.out.trans (hb.mono HB.out.size));clear ho hb;go_wp2_with fail
   go_ret2
   exact ⟨_, rfl, O2.out, G2.out⟩
end Go.Proofs.YtfapkepfngddlaaGreat
