/- What the program's own functions of package vec leave: At, lay (for whatever function it is handed), and the functions that hand it one. What the program's own functions of package vec leave that hand lay a function: Trim, With, Join, Meet. What the program's own With, Within, Has of vectors leave. What the document's own functions of vectors leave: At, Trim, Lay, With, Same, Within, Equal, Copy. What the document's own Lay leaves, up and down. What the document's own With, Same, Equal, Copy of vectors leave. What the document's own With and Within of vectors leave. -/
import Derived.Test.YtmknpmamkjjiaaaVWords
import Derived.Lib.MinMax
import Derived.Shelf.Abstract
import Derived.Deep.RegionWith
import Derived.BigQuiet
import Derived.Deep.RegionHeld3
import Derived.Deep.Cut
import Derived.Laws.IdiomStrings
namespace Go.Proofs.Ytmknpmamkjjiaaa
open Go.RowKit Plain Go.Shelf
set_option linter.unusedVariables false

set_option maxRecDepth 100000 in
set_option maxHeartbeats 1000000 in
theorem vc_at_any {v : Value} {xs : Ints} {w : World} (hs : SeqI w v xs) (n : Int) :
  Calls Try.prog 21 #[v, .int .i64 n] w fun e w' => e = .returned (.int .i64 (saysI xs n)) ∧ w = w' := by
 obtain ⟨a, cap, rfl, g1, g2, g0, h⟩ := hs.parts
 by_cases h0 : n < 0
 ·have hq : saysI xs n = 0 := by unfold saysI; rw [if_neg (by omega)]
  rw [hq]
  clear hq h hs g0
  go_enter Try.func21, Try.ntmps21
  go_wp2_with fail
  go_ret
  exact ⟨rfl, rfl⟩
 ·obtain ⟨k, rfl⟩ : ∃ k : Nat, n = (k : Int) := ⟨n.toNat, by omega⟩
  rw [saysI_nat]
  by_cases hk : k < xs.length
  ·obtain ⟨b, o, c, hv, -, -, -, hc⟩ := h.spot (by omega)
   simp only [Value.slice.injEq] at hv
   obtain ⟨rfl, -, rfl⟩ := hv
   have c1 := hc k hk
   have hq : says xs k = max (xs.getD k 0) 0 := rfl
   rw [hq]
   generalize xs.getD k 0 = x at *
   clear hq h hs g0 hc
   go_enter Try.func21, Try.ntmps21
   go_wp2_with fail
   go_ret
   exact ⟨rfl, rfl⟩
  ·have hq : says xs k = 0 := says_end xs k (by omega)
   rw [hq]
   clear hq h hs g0
   go_enter Try.func21, Try.ntmps21
   go_wp2_with fail
   go_ret
   exact ⟨rfl, rfl⟩

def vc_Counts (w : World) (g : Nat) (lb : Array Value) (c : Nat → Int) (n : Nat) : Prop :=
 ∀ (W : World) (i : Nat), i < n → Below w.heap.size w W → Calls Try.prog g (#[.int .i64 (i : Int)] ++ lb) W fun e w' => e = .returned (.int .i64 (c i)) ∧ ∃ m, w' = W.drewN m

set_option maxRecDepth 100000 in
set_option maxHeartbeats 4000000 in
theorem vc_lay_any (g : Nat) (lb : Array Value) (eg : ∀ args w, (callFunc g args).run Try.prog w = .ok (.enter g args) w) (c : Nat → Int) (n : Nat) (hn : n ≤ 1000000) {w : World} (hc : vc_Counts w g lb c n) :
  Calls Try.prog 19 #[.int .i64 (n : Int), .func (.func g) #[] lb] w (MadeI w (laid c n)) := by
 have HC := Lib.hid hc
 clear hc
 go_enter Try.func19, Try.ntmps19
 go_wp2_with fail
 go_loopw [0] (fun i wr => ∃ k q : Nat, k ≤ n ∧ i = .int .i64 k ∧ laid c k = laid c n ∧ wr = w.drewN q) (fun i _ => (intOf i).toNat)
 case atStart => exact ⟨n, 0, Nat.le_refl _, rfl, rfl, rfl⟩
 case round =>
  obtain ⟨k, q, hk, rfl, hl, rfl⟩ := hrel
  match k, hk, hl with
  | 0, hk, hl =>
   have L0 := Lib.hid (show (laid c n).length = 0 by rw [← hl]; rfl)
   clear hl
   go_wp2_with (at_make; refine wpList_makeI rfl (.tmp 18) rfl 0 (laid c n).length rfl (by rw [L0.out]; rfl) (by rw [L0.out]; omega) ?_)
   intro w1 ho hb
   have O0 : Hid (OwnsI w.heap.size w1 (.slice (some ⟨w.heap.size, 0, none⟩) (laid c n).length (laid c n).length) (partI c (laid c n).length 0)) := Lib.hid (by rw [partI_zero]; exact ho)
   have G0 : Hid (Below w.heap.size w w1) := Lib.hid ((below_drewN (Below.refl _ _) _).trans hb)
   have LN := laid_len c n
   have PL := Lib.hid (partI_laid c n)
   clear ho hb
   generalize hM : (laid c n).length = M at *
   clear hM L0
   go_wp2_with fail
   go_loopw [22] (fun i wr => ∃ j : Nat, j ≤ M ∧ i = .int .i64 j ∧ OwnsI w.heap.size wr (.slice (some ⟨w.heap.size, 0, none⟩) M M) (partI c M j) ∧ Below w.heap.size w wr) (fun i _ => M - (intOf i).toNat)
   case atStart => exact ⟨0, by omega, rfl, O0.out, G0.out⟩
   case round =>
    obtain ⟨j, hj, rfl, ho, hb⟩ := hrel
    by_cases hlt : j < M
    ·have hcall := HC.out wr j (by omega) hb
     have HO := Lib.hid ho
     have HB := Lib.hid hb
     have HJ := Lib.hid (partI_next c M j)
     have HJ2 := Lib.hid (partI_len c M j)
     clear ho hb
     generalize c j = cj at *
     go_wp2_with (go_at_fn g; refine hcall.mono ?_; rintro e w' ⟨rfl, q', hq⟩; have ho' : OwnsI w.heap.size w' (.slice (some ⟨w.heap.size, 0, none⟩) M M) (partI c M j) := (by rw [hq]; exact HO.out.below (below_drewN (Below.refl _ _) q') (Nat.le_refl _)); have hb' : Below w.heap.size w w' := (by rw [hq]; exact below_drewN HB.out q'); have hc1 := ho'.cell j (by rw [HJ2.out]; exact hlt); have hf1 := ho'.free j; have O2 : Hid (OwnsI w.heap.size (w'.setCell ⟨w.heap.size, j, none⟩ (.int .i64 cj)) (.slice (some ⟨w.heap.size, 0, none⟩) M M) (partI c M (j + 1))) := Lib.hid (by rw [← HJ.out]; exact ho'.set j cj); have G2 := Lib.hid (hb'.setCell (p := ⟨w.heap.size, j, none⟩) (Nat.le_refl _) (.int .i64 cj)); clear hq ho' hb'; generalize (partI c M j).getD j 0 = x at *)
     exact ⟨⟨j + 1, by omega, by go_num, O2.out, G2.out⟩, by simp [intOf]; omega⟩
    ·obtain rfl : j = M := by omega
     have O2 := Lib.hid ho
     have G2 := Lib.hid hb
     clear ho hb
     rw [PL.out] at O2
     go_wp2_with fail
     go_ret
     exact ⟨_, rfl, O2.out, G2.out⟩
  | k + 1, hk, hl =>
   have hcall := HC.out (w.drewN q) k (by omega) (below_drewN (Below.refl _ _) q)
   have e1 : ((k + 1 : Nat) : Int) - 1 = (k : Int) := by omega
   by_cases h0 : c k = 0
   ·have HL := Lib.hid (laid_step c n k hl h0)
    rw [h0] at hcall
    clear hl
    go_wp2_with (go_at_fn g; refine hcall.mono ?_; rintro e w' ⟨rfl, q', rfl⟩)
    exact ⟨⟨k, _, by omega, rfl, HL.out, rfl⟩, by simp [intOf]⟩
   ·have L0 := Lib.hid (laid_stop c n k hl h0)
    have hb0 : (c k == 0) = false := by simpa using h0
    clear hl
    generalize c k = ck at *
    go_wp2_with (first | (go_at_fn g; refine hcall.mono ?_; rintro e w' ⟨rfl, q', rfl⟩) | (at_make; refine wpList_makeI rfl (.tmp 18) rfl ((k + 1 : Nat) : Int) (laid c n).length rfl (by rw [L0.out]) (by rw [L0.out]; omega) ?_))
    intro w1 ho hb
    have O0 : Hid (OwnsI w.heap.size w1 (.slice (some ⟨w.heap.size, 0, none⟩) (laid c n).length (laid c n).length) (partI c (laid c n).length 0)) := Lib.hid (by rw [partI_zero]; exact ho)
    have G0 : Hid (Below w.heap.size w w1) := Lib.hid ((below_drewN (Below.refl _ _) _).trans hb)
    have LN := laid_len c n
    have PL := Lib.hid (partI_laid c n)
    clear ho hb
    generalize hM : (laid c n).length = M at *
    clear hM L0
    go_wp2_with fail
    go_loopw [22] (fun i wr => ∃ j : Nat, j ≤ M ∧ i = .int .i64 j ∧ OwnsI w.heap.size wr (.slice (some ⟨w.heap.size, 0, none⟩) M M) (partI c M j) ∧ Below w.heap.size w wr) (fun i _ => M - (intOf i).toNat)
    case atStart => exact ⟨0, by omega, rfl, O0.out, G0.out⟩
    case round =>
     obtain ⟨j, hj, rfl, ho, hb⟩ := hrel
     by_cases hlt : j < M
     ·have hcall := HC.out wr j (by omega) hb
      have HO := Lib.hid ho
      have HB := Lib.hid hb
      have HJ := Lib.hid (partI_next c M j)
      have HJ2 := Lib.hid (partI_len c M j)
      clear ho hb
      generalize c j = cj at *
      go_wp2_with (go_at_fn g; refine hcall.mono ?_; rintro e w' ⟨rfl, q', hq⟩; have ho' : OwnsI w.heap.size w' (.slice (some ⟨w.heap.size, 0, none⟩) M M) (partI c M j) := (by rw [hq]; exact HO.out.below (below_drewN (Below.refl _ _) q') (Nat.le_refl _)); have hb' : Below w.heap.size w w' := (by rw [hq]; exact below_drewN HB.out q'); have hc1 := ho'.cell j (by rw [HJ2.out]; exact hlt); have hf1 := ho'.free j; have O2 : Hid (OwnsI w.heap.size (w'.setCell ⟨w.heap.size, j, none⟩ (.int .i64 cj)) (.slice (some ⟨w.heap.size, 0, none⟩) M M) (partI c M (j + 1))) := Lib.hid (by rw [← HJ.out]; exact ho'.set j cj); have G2 := Lib.hid (hb'.setCell (p := ⟨w.heap.size, j, none⟩) (Nat.le_refl _) (.int .i64 cj)); clear hq ho' hb'; generalize (partI c M j).getD j 0 = x at *)
      exact ⟨⟨j + 1, by omega, by go_num, O2.out, G2.out⟩, by simp [intOf]; omega⟩
     ·obtain rfl : j = M := by omega
      have O2 := Lib.hid ho
      have G2 := Lib.hid hb
      clear ho hb
      rw [PL.out] at O2
      go_wp2_with fail
      go_ret
      exact ⟨_, rfl, O2.out, G2.out⟩
end Go.Proofs.Ytmknpmamkjjiaaa
namespace Go.Proofs.Ytmknpmamkjjiaaa
open Go.RowKit Plain Go.Shelf
set_option linter.unusedVariables false

theorem vc_cell_box (w : World) (v : Value) (t : TypeId) : (w.alloc (.cells #[v] t)).cell? ⟨w.heap.size, 0, none⟩ = some v := cell_of_row _ _ 0 _ _ _ (heap_alloc_new w _)
theorem vc_size_box (w : World) (v : Value) (t : TypeId) : (w.alloc (.cells #[v] t)).heap.size = w.heap.size + 1 := by simp
theorem vc_below_box (w : World) (v : Value) (t : TypeId) : Below w.heap.size w (w.alloc (.cells #[v] t)) := (Below.refl _ _).alloc (Nat.le_refl _) _
theorem vc_cell_below {N : Nat} {w w' : World} {p : Addr} {v : Value} (h : w.cell? p = some v) (hb : Below N w w') (hN : w.heap.size ≤ N) : w'.cell? p = some v := (hb.cell (Nat.lt_of_lt_of_le (World.block_lt_of_cell? w p h) hN)).trans h

set_option maxRecDepth 100000 in
set_option maxHeartbeats 1000000 in
theorem vc_trimC {w : World} {B : Nat} {v : Value} {xs : Ints} (hB : w.cell? ⟨B, 0, none⟩ = some v) (hs : SeqI w v xs) (n : Nat) : vc_Counts w 44 #[.pointer (some ⟨B, 0, none⟩)] (says xs) n := by
 intro W i _ hb
 have c1 := vc_cell_below hB hb (Nat.le_refl _)
 have K := vc_at_any (hs.below hb) (i : Int)
 rw [saysI_nat] at K
 clear hB hs hb
 generalize says xs i = x at *
 go_enter Try.func44, Try.ntmps44
 go_wp2_with (go_at_call 21; refine K.mono ?_; rintro e w' ⟨rfl, rfl⟩)
 go_ret
 exact ⟨rfl, 0, rfl⟩

set_option maxRecDepth 100000 in
set_option maxHeartbeats 1000000 in
theorem vc_trim_any {v : Value} {xs : Ints} {w : World} (hs : SeqI w v xs) (hl : xs.length ≤ 1000000) : Calls Try.prog 31 #[v] w (MadeI w (trim xs)) := by
 obtain ⟨a, cap, rfl, g1, g2, g0, h⟩ := hs.parts
 have hB := vc_below_box w (.slice a xs.length cap) 31
 have KL := Lib.hid (vc_lay_any 44 #[.pointer (some ⟨w.heap.size, 0, none⟩)] (enters_of Try.func44 (by kernel_rfl) rfl) (says xs) xs.length hl (vc_trimC (vc_cell_box w (.slice a xs.length cap) 31) (h.below hB) xs.length))
 have HB := Lib.hid hB
 have HZ := Lib.hid (vc_size_box w (.slice a xs.length cap) 31)
 clear hs h g0 hB
 go_enter Try.func31, Try.ntmps31
 go_wp2_with fail
 refine KL.out.mono ?_
 rintro e u2 ⟨v2, rfl, ho, hb⟩
 have O2 := Lib.hid (ho.mono (by rw [HZ.out]; omega : w.heap.size ≤ _))
 have G2 := Lib.hid (HB.out.trans (hb.mono (by rw [HZ.out]; omega)))
 clear ho hb
 go_wp2_with fail
 go_ret
 exact ⟨_, rfl, O2.out, G2.out⟩

theorem vc_box2 (w : World) (u v : Value) (s t : TypeId) : ((w.alloc (.cells #[u] s)).alloc (.cells #[v] t)).cell? ⟨w.heap.size, 0, none⟩ = some u ∧ ((w.alloc (.cells #[u] s)).alloc (.cells #[v] t)).cell? ⟨w.heap.size + 1, 0, none⟩ = some v ∧ Below w.heap.size w ((w.alloc (.cells #[u] s)).alloc (.cells #[v] t)) ∧ ((w.alloc (.cells #[u] s)).alloc (.cells #[v] t)).heap.size = w.heap.size + 2 := by
 have h2 := vc_cell_box (w.alloc (.cells #[u] s)) v t
 rw [vc_size_box] at h2
 exact ⟨vc_cell_below (vc_cell_box w u s) (vc_below_box _ v t) (Nat.le_refl _), h2, (vc_below_box w u s).alloc (by simp) _, by simp⟩

set_option maxRecDepth 100000 in
set_option maxHeartbeats 4000000 in
theorem vc_joinC {w : World} {B C : Nat} {u v : Value} {xs ys : Ints} (hB : w.cell? ⟨B, 0, none⟩ = some u) (hC : w.cell? ⟨C, 0, none⟩ = some v) (hs : SeqI w u xs) (ht : SeqI w v ys) (n : Nat) :
  vc_Counts w 20 #[.pointer (some ⟨B, 0, none⟩), .pointer (some ⟨C, 0, none⟩)] (fun i => max (says xs i) (says ys i)) n := by
 intro W i _ hb
 have c1 := vc_cell_below hB hb (Nat.le_refl _)
 have c2 := vc_cell_below hC hb (Nat.le_refl _)
 have K1 : Hid (∀ w1, (∃ m, w1 = W.drewN m) → Calls Try.prog 21 #[u, .int .i64 (i : Int)] w1 fun e w' => e = .returned (.int .i64 (says xs i)) ∧ w1 = w') := Lib.hid fun w1 hm => by
  obtain ⟨m, rfl⟩ := hm
  have := vc_at_any ((hs.below hb).drawn m) (i : Int); rwa [saysI_nat] at this
 have K2 : Hid (∀ w1, (∃ m, w1 = W.drewN m) → Calls Try.prog 21 #[v, .int .i64 (i : Int)] w1 fun e w' => e = .returned (.int .i64 (says ys i)) ∧ w1 = w') := Lib.hid fun w1 hm => by
  obtain ⟨m, rfl⟩ := hm
  have := vc_at_any ((ht.below hb).drawn m) (i : Int); rwa [saysI_nat] at this
 clear hB hC hs ht hb
 show Calls _ _ _ _ (fun e w' => e = .returned (.int .i64 (max (says xs i) (says ys i))) ∧ _)
 generalize says xs i = x at *
 generalize says ys i = y at *
 go_enter Try.func20, Try.ntmps20
 go_wp2_with fail
 go_region_with (first
   | (go_at_call_of 21 u; refine (K1.out _ (by first | exact ⟨0, rfl⟩ | exact ⟨1, rfl⟩ | exact ⟨2, rfl⟩)).mono ?_; rintro e u2 ⟨rfl, rfl⟩)
   | (go_at_call_of 21 v; refine (K2.out _ (by first | exact ⟨0, rfl⟩ | exact ⟨1, rfl⟩ | exact ⟨2, rfl⟩)).mono ?_; rintro e u2 ⟨rfl, rfl⟩))
 all_goals (try go_wp2_with fail)
 all_goals go_ret
 all_goals exact ⟨rfl, 1, rfl⟩
set_option maxRecDepth 100000 in
set_option maxHeartbeats 1000000 in
theorem vc_join_any {u v : Value} {xs ys : Ints} {w : World} (hs : SeqI w u xs) (ht : SeqI w v ys) (hl : xs.length ≤ 1000000) (hm : ys.length ≤ 1000000) : Calls Try.prog 11 #[u, v] w (MadeI w (join xs ys)) := by
 obtain ⟨a, cap, rfl, g1, g2, g0, h⟩ := hs.parts
 obtain ⟨a', cap', rfl, g1', g2', g0', h'⟩ := ht.parts
 obtain ⟨b1, b2, hB, hZ⟩ := vc_box2 w (.slice a xs.length cap) (.slice a' ys.length cap') 31 31
 have e : max (xs.length : Int) (ys.length : Int) = ((max xs.length ys.length : Nat) : Int) := by omega
 have KL := Lib.hid (vc_lay_any 20 #[.pointer (some ⟨w.heap.size, 0, none⟩), .pointer (some ⟨w.heap.size + 1, 0, none⟩)] (enters_of Try.func20 (by kernel_rfl) rfl) (fun i => max (says xs i) (says ys i)) (max xs.length ys.length) (by omega) (vc_joinC b1 b2 (h.below hB) (h'.below hB) (max xs.length ys.length)))
 have HB := Lib.hid hB
 have HZ := Lib.hid hZ
 have HE := Lib.hid e
 clear hs h g0 hB hZ ht h' g0' b1 b2 e
 go_enter Try.func11, Try.ntmps11
 go_wp2_with fail
 rw [HE.out]
 refine KL.out.mono ?_
 rintro e u2 ⟨v2, rfl, ho, hb⟩
 have O2 := Lib.hid (ho.mono (by rw [HZ.out]; omega : w.heap.size ≤ _))
 have G2 := Lib.hid (HB.out.trans (hb.mono (by rw [HZ.out]; omega)))
 clear ho hb
 go_wp2_with fail
 go_ret
 exact ⟨_, rfl, O2.out, G2.out⟩

end Go.Proofs.Ytmknpmamkjjiaaa
namespace Go.Proofs.Ytmknpmamkjjiaaa
open Go.RowKit Plain Go.Shelf
set_option linter.unusedVariables false

theorem vc_box3 (w : World) (x y z : Value) (t : TypeId) : (w.alloc (.cells #[x, y, z] t)).cell? ⟨w.heap.size, 0, none⟩ = some x ∧ (w.alloc (.cells #[x, y, z] t)).cell? ⟨w.heap.size, 1, none⟩ = some y ∧ Below w.heap.size w (w.alloc (.cells #[x, y, z] t)) :=
 ⟨cell_of_row _ _ 0 _ _ _ (heap_alloc_new w _), cell_of_row _ _ 1 _ _ _ (heap_alloc_new w _), (Below.refl _ _).alloc (Nat.le_refl _) _⟩

set_option maxRecDepth 100000 in
set_option maxHeartbeats 4000000 in
theorem vc_has_any {v : Value} {xs : Ints} {w : World} (hs : SeqI w v xs) (p q r : Int) :
  Calls Try.prog 13 #[v, .agg #[.int .i64 p, .int .i64 q, .int .i64 r]] w fun e w' => e = .returned (.bool (decide (1 ≤ q) && decide (q ≤ saysI xs p))) ∧ Below w.heap.size w w' := by
 obtain ⟨c1, c2, hB⟩ := vc_box3 w (.int .i64 p) (.int .i64 q) (.int .i64 r) 47
 have HB := Lib.hid hB
 have KA : Hid (∀ m, Calls Try.prog 21 #[v, .int .i64 p] ((w.alloc (.cells #[.int .i64 p, .int .i64 q, .int .i64 r] 47)).drewN m) fun e w' => e = .returned (.int .i64 (saysI xs p)) ∧ (w.alloc (.cells #[.int .i64 p, .int .i64 q, .int .i64 r] 47)).drewN m = w') := Lib.hid fun m => vc_at_any ((hs.below hB).drawn m) p
 clear hs hB
 generalize saysI xs p = x at *
 by_cases h1 : 1 ≤ q
 ·rw [decide_eq_true h1]
  by_cases h2 : q ≤ x
  ·rw [decide_eq_true h2]
   have d1 : decide (1 ≤ q) = true := decide_eq_true h1
   have d2 : decide (q ≤ x) = true := decide_eq_true h2
   go_enter Try.func13, Try.ntmps13
   go_wp2_with fail
   go_quiet ((go_at_call 21; exact quiet_left (KA.out _)))
   go_wp2_with fail
   go_ret
   exact ⟨rfl, below_drewN HB.out _⟩
  ·rw [decide_eq_false h2]
   have d1 : decide (1 ≤ q) = true := decide_eq_true h1
   have d2 : decide (q ≤ x) = false := decide_eq_false h2
   go_enter Try.func13, Try.ntmps13
   go_wp2_with fail
   go_quiet ((go_at_call 21; exact quiet_left (KA.out _)))
   go_wp2_with fail
   go_ret
   exact ⟨rfl, below_drewN HB.out _⟩
 ·rw [decide_eq_false h1]
  have d1 : decide (1 ≤ q) = false := decide_eq_false h1
  go_enter Try.func13, Try.ntmps13
  go_wp2_with fail
  go_quiet (fail)
  go_wp2_with fail
  go_ret
  exact ⟨rfl, below_drewN HB.out _⟩

end Go.Proofs.Ytmknpmamkjjiaaa
namespace Go.Proofs.Ytmknpmamkjjiaaa
open Go.RowKit Plain
set_option linter.unusedVariables false

end Go.Proofs.Ytmknpmamkjjiaaa
namespace Go.Proofs.Ytmknpmamkjjiaaa
open Go.RowKit Plain
set_option linter.unusedVariables false

end Go.Proofs.Ytmknpmamkjjiaaa
namespace Go.Proofs.Ytmknpmamkjjiaaa
open Go.RowKit Plain
set_option linter.unusedVariables false

set_option maxRecDepth 100000 in
set_option maxHeartbeats 4000000 in
theorem vc_requal_yes {u v : Value} {xs : Ints} {w : World} (hs : SeqI w u xs) (ht : SeqI w v xs) :
  Calls Try.prog 38 #[u, v] w fun e w' => e = .returned (.bool true) ∧ ∃ n, w' = w.drewN n := by
 by_cases hp : 0 < xs.length
 ·obtain ⟨b1, o1, c1, rfl, g1, m1, -, k1⟩ := hs.spot hp
  obtain ⟨b2, o2, c2, rfl, g2, m2, -, k2⟩ := ht.spot hp
  have HU := Lib.hid k1
  have HV := Lib.hid k2
  have hm : maxLen = 9223372036854775807 := rfl
  rw [hm] at m1 m2
  clear hs ht k1 k2 hm
  go_enter Try.func38, Try.ntmps38
  go_wp2_with fail
  go_loopw [5] (fun i wr => ∃ k : Nat, k ≤ xs.length ∧ i = .int .i64 k ∧ ∃ n, wr = w.drewN n) (fun i _ => xs.length - (intOf i).toNat)
  case atStart => exact ⟨0, Nat.zero_le _, rfl, 0, rfl⟩
  case round =>
   obtain ⟨k, hk, rfl, n, rfl⟩ := hrel
   by_cases hlt : k < xs.length
   ·have c1' := HU.out k hlt
    have c2' := HV.out k hlt
    generalize xs.getD k 0 = x at *
    go_wp2_with fail
    go_quiet (fail)
    go_wp2_with fail
    go_roundw
    case rel => exact ⟨k + 1, by omega, by go_num, _, rfl⟩
    case measure => simp [intOf]; omega
   ·obtain rfl : k = xs.length := by omega
    go_wp2_with fail
    go_ret
    exact ⟨rfl, _, rfl⟩
 ·obtain rfl : xs = [] := List.eq_nil_of_length_eq_zero (by omega)
  obtain ⟨a1, c1, rfl, -⟩ := hs
  obtain ⟨a2, c2, rfl, -⟩ := ht
  simp only [List.length_nil]
  go_enter Try.func38, Try.ntmps38
  go_wp2_with fail
  go_loop [5] (fun i => i = .int .i64 0) (fun _ => 0)
  case atStart => rfl
  case round =>
   obtain rfl := hrel
   go_wp2_with fail
   go_ret
   exact ⟨rfl, 0, rfl⟩

set_option maxRecDepth 100000 in
set_option maxHeartbeats 4000000 in
theorem vc_requal_no {u v : Value} {xs ys : Ints} {w : World} (hs : SeqI w u xs) (ht : SeqI w v ys) (hne : ¬ xs = ys) :
  Calls Try.prog 38 #[u, v] w fun e w' => e = .returned (.bool false) ∧ ∃ n, w' = w.drewN n := by
 by_cases hl : xs.length = ys.length
 ·have hp : 0 < xs.length := by
   by_cases h : 0 < xs.length
   ·exact h
   ·exfalso
    apply hne
    rw [List.eq_nil_of_length_eq_zero (show xs.length = 0 by omega), List.eq_nil_of_length_eq_zero (show ys.length = 0 by omega)]
  have hex : ∃ j, j < xs.length ∧ xs.getD j 0 ≠ ys.getD j 0 := by
   refine Classical.byContradiction fun hno => hne ?_
   apply List.ext_getElem hl
   intro j h1 h2
   have hj : xs.getD j 0 = ys.getD j 0 := Classical.byContradiction fun h => hno ⟨j, h1, h⟩
   simpa [List.getD, List.getElem?_eq_getElem h1, List.getElem?_eq_getElem h2] using hj
  obtain ⟨b1, o1, c1, rfl, g1, m1, -, k1⟩ := hs.spot hp
  obtain ⟨b2, o2, c2, rfl, g2, m2, -, k2⟩ := ht.spot (by omega)
  rw [← hl] at k2 g2 ⊢
  have HU := Lib.hid k1
  have HV := Lib.hid k2
  have HEX := Lib.hid hex
  have hm : maxLen = 9223372036854775807 := rfl
  rw [hm] at m1 m2
  clear hs ht k1 k2 hm hl hex hne
  go_enter Try.func38, Try.ntmps38
  go_wp2_with fail
  go_loopw [5] (fun i wr => ∃ k : Nat, k ≤ xs.length ∧ i = .int .i64 k ∧ (∀ j, j < k → xs.getD j 0 = ys.getD j 0) ∧ ∃ n, wr = w.drewN n) (fun i _ => xs.length - (intOf i).toNat)
  case atStart => exact ⟨0, Nat.zero_le _, rfl, (fun j hj => absurd hj (by omega)), 0, rfl⟩
  case round =>
   obtain ⟨k, hk, rfl, hall, n, rfl⟩ := hrel
   have HALL := Lib.hid hall
   clear hall
   by_cases hlt : k < xs.length
   ·have c1' := HU.out k hlt
    have c2' := HV.out k hlt
    by_cases he : xs.getD k 0 = ys.getD k 0
    ·have HE := Lib.hid he
     rw [he] at c1'
     clear he
     have HALL2 : Hid (∀ j, j < k + 1 → xs.getD j 0 = ys.getD j 0) := Lib.hid (fun j hj => by
      by_cases h : j < k
      ·exact HALL.out j h
      ·obtain rfl : j = k := by omega
       exact HE.out)
     generalize ys.getD k 0 = x at *
     go_wp2_with fail
     go_quiet (fail)
     go_wp2_with fail
     go_roundw
     case rel => exact ⟨k + 1, by omega, by go_num, HALL2.out, _, rfl⟩
     case measure => simp [intOf]; omega
    ·generalize xs.getD k 0 = x at *
     generalize ys.getD k 0 = y at *
     have hb2 : (x != y) = true := bne_iff_ne.2 he
     clear he
     go_wp2_with fail
     go_quiet (fail)
     go_wp2_with fail
     go_ret
     exact ⟨rfl, _, World.drewN_drewN _ _ _⟩
   ·exfalso
    obtain ⟨j, hj, hne⟩ := HEX.out
    exact hne (HALL.out j (by omega))
 ·obtain ⟨a1, c1, rfl, -⟩ := hs
  obtain ⟨a2, c2, rfl, -⟩ := ht
  generalize xs.length = la at *
  generalize ys.length = lb at *
  have h1 : ¬ ((la : Int) = (lb : Int)) := by omega
  have h2 : ((la : Int) != (lb : Int)) = true := bne_iff_ne.2 h1
  clear hl h1 hne
  go_enter Try.func38, Try.ntmps38
  go_wp2_with fail
  go_ret
  exact ⟨rfl, 0, rfl⟩
theorem vc_requal_any {u v : Value} {xs ys : Ints} {w : World} (hs : SeqI w u xs) (ht : SeqI w v ys) :
  Calls Try.prog 38 #[u, v] w fun e w' => e = .returned (.bool (decide (xs = ys))) ∧ ∃ n, w' = w.drewN n := by
 by_cases h : xs = ys
 ·subst h
  rw [decide_eq_true rfl]
  exact vc_requal_yes hs ht
 ·rw [decide_eq_false h]
  exact vc_requal_no hs ht h

end Go.Proofs.Ytmknpmamkjjiaaa
namespace Go.Proofs.Ytmknpmamkjjiaaa
open Go.RowKit Plain
set_option linter.unusedVariables false

end Go.Proofs.Ytmknpmamkjjiaaa
