/- What the program's own functions of package vec leave: At, lay (for whatever function it is handed), and the functions that hand it one. What the program's own functions of package vec leave that hand lay a function: Trim, With, Join, Meet. What the program's own With, Within, Has of vectors leave. What the document's own functions of vectors leave: At, Trim, Lay, With, Same, Within, Equal, Copy. What the document's own Lay leaves, up and down. What the document's own With, Same, Equal, Copy of vectors leave. What the document's own With and Within of vectors leave. -/
import Derived.Test.YtmknpmamkjjiaaaGreatVWords
import Derived.Lib.MinMax
import Derived.Shelf.Abstract
import Derived.Deep.RegionWith
import Derived.BigQuiet
import Derived.Deep.RegionHeld3
import Derived.Deep.Cut
import Derived.Laws.IdiomStrings
namespace Go.Proofs.YtmknpmamkjjiaaaGreat
open Go.RowKit Plain Go.Shelf
set_option linter.unusedVariables false

set_option maxRecDepth 100000 in
set_option maxHeartbeats 1000000 in
/-- At -/
theorem vc_at_any {v : Value} {xs : Ints} {w : World} (hs : SeqI w v xs) (n : Int) :
  Calls Tryz.prog 29 #[v, .int .i64 n] w fun e w' => e = .returned (.int .i64 (saysI xs n)) ∧ w = w' := by
 obtain ⟨a, cap, rfl, g1, g2, g0, h⟩ := hs.parts
 by_cases h0 : n < 0
 ·have hq : saysI xs n = 0 := by unfold saysI; rw [if_neg (by omega)]
  rw [hq]
  clear hq h hs g0
  go_enter Tryz.func29, Tryz.ntmps29
  go_wp2_with fail
  go_ret
  exact ⟨rfl, rfl⟩
 ·obtain ⟨k, rfl⟩ : ∃ k : Nat, n = (k : Int) := ⟨n.toNat, by omega⟩
  rw [saysI_nat]
  by_cases hk : k < xs.length
  ·obtain ⟨b, o, c, hv, -, -, -, hc⟩ := h.spot (by omega)
   simp only [Value.slice.injEq] at hv
   obtain ⟨rfl, -, rfl⟩ := hv
   have c1 := hc k hk
   have hq : says xs k = max (xs.getD k 0) 0 := rfl
   rw [hq]
   generalize xs.getD k 0 = x at *
   clear hq h hs g0 hc
   go_enter Tryz.func29, Tryz.ntmps29
   go_wp2_with fail
   go_ret
   exact ⟨rfl, rfl⟩
  ·have hq : says xs k = 0 := says_end xs k (by omega)
   rw [hq]
   clear hq h hs g0
   go_enter Tryz.func29, Tryz.ntmps29
   go_wp2_with fail
   go_ret
   exact ⟨rfl, rfl⟩

/-- a function that is handed over: in whatever world behind w it says c of the first n, and leaves the world, but for draws -/
def vc_Counts (w : World) (g : Nat) (lb : Array Value) (c : Nat → Int) (n : Nat) : Prop :=
 ∀ (W : World) (i : Nat), i < n → Below w.heap.size w W → Calls Tryz.prog g (#[.int .i64 (i : Int)] ++ lb) W fun e w' => e = .returned (.int .i64 (c i)) ∧ ∃ m, w' = W.drewN m

set_option maxRecDepth 100000 in
set_option maxHeartbeats 4000000 in
/-- lay -/
theorem vc_lay_any (g : Nat) (lb : Array Value) (eg : ∀ args w, (callFunc g args).run Tryz.prog w = .ok (.enter g args) w) (c : Nat → Int) (n : Nat) (hn : n ≤ 1000000) {w : World} (hc : vc_Counts w g lb c n) :
  Calls Tryz.prog 49 #[.int .i64 (n : Int), .func (.func g) #[] lb] w (MadeI w (laid c n)) := by
 have HC := Lib.hid hc
 clear hc
 go_enter Tryz.func49, Tryz.ntmps49
 go_wp2_with fail
 go_loopw [0] (fun i wr => ∃ k q : Nat, k ≤ n ∧ i = .int .i64 k ∧ laid c k = laid c n ∧ wr = w.drewN q) (fun i _ => (intOf i).toNat)
 case atStart => exact ⟨n, 0, Nat.le_refl _, rfl, rfl, rfl⟩
 case round =>
  obtain ⟨k, q, hk, rfl, hl, rfl⟩ := hrel
  match k, hk, hl with
  | 0, hk, hl =>
   have L0 := Lib.hid (show (laid c n).length = 0 by rw [← hl]; rfl)
   clear hl
   go_wp2_with (at_make; refine wpList_makeI rfl (.tmp 18) rfl 0 (laid c n).length rfl (by rw [L0.out]; rfl) (by rw [L0.out]; omega) ?_)
   intro w1 ho hb
   have O0 : Hid (OwnsI w.heap.size w1 (.slice (some ⟨w.heap.size, 0, none⟩) (laid c n).length (laid c n).length) (partI c (laid c n).length 0)) := Lib.hid (by rw [partI_zero]; exact ho)
   have G0 : Hid (Below w.heap.size w w1) := Lib.hid ((below_drewN (Below.refl _ _) _).trans hb)
   have LN := laid_len c n
   have PL := Lib.hid (partI_laid c n)
   clear ho hb
   generalize hM : (laid c n).length = M at *
   clear hM L0
   go_wp2_with fail
   go_loopw [22] (fun i wr => ∃ j : Nat, j ≤ M ∧ i = .int .i64 j ∧ OwnsI w.heap.size wr (.slice (some ⟨w.heap.size, 0, none⟩) M M) (partI c M j) ∧ Below w.heap.size w wr) (fun i _ => M - (intOf i).toNat)
   case atStart => exact ⟨0, by omega, rfl, O0.out, G0.out⟩
   case round =>
    obtain ⟨j, hj, rfl, ho, hb⟩ := hrel
    by_cases hlt : j < M
    ·have hcall := HC.out wr j (by omega) hb
     have HO := Lib.hid ho
     have HB := Lib.hid hb
     have HJ := Lib.hid (partI_next c M j)
     have HJ2 := Lib.hid (partI_len c M j)
     clear ho hb
     generalize c j = cj at *
     go_wp2_with (go_at_fn g; refine hcall.mono ?_; rintro e w' ⟨rfl, q', hq⟩; have ho' : OwnsI w.heap.size w' (.slice (some ⟨w.heap.size, 0, none⟩) M M) (partI c M j) := (by rw [hq]; exact HO.out.below (below_drewN (Below.refl _ _) q') (Nat.le_refl _)); have hb' : Below w.heap.size w w' := (by rw [hq]; exact below_drewN HB.out q'); have hc1 := ho'.cell j (by rw [HJ2.out]; exact hlt); have hf1 := ho'.free j; have O2 : Hid (OwnsI w.heap.size (w'.setCell ⟨w.heap.size, j, none⟩ (.int .i64 cj)) (.slice (some ⟨w.heap.size, 0, none⟩) M M) (partI c M (j + 1))) := Lib.hid (by rw [← HJ.out]; exact ho'.set j cj); have G2 := Lib.hid (hb'.setCell (p := ⟨w.heap.size, j, none⟩) (Nat.le_refl _) (.int .i64 cj)); clear hq ho' hb'; generalize (partI c M j).getD j 0 = x at *)
     exact ⟨⟨j + 1, by omega, by go_num, O2.out, G2.out⟩, by simp [intOf]; omega⟩
    ·obtain rfl : j = M := by omega
     have O2 := Lib.hid ho
     have G2 := Lib.hid hb
     clear ho hb
     rw [PL.out] at O2
     go_wp2_with fail
     go_ret
     exact ⟨_, rfl, O2.out, G2.out⟩
  | k + 1, hk, hl =>
   have hcall := HC.out (w.drewN q) k (by omega) (below_drewN (Below.refl _ _) q)
   have e1 : ((k + 1 : Nat) : Int) - 1 = (k : Int) := by omega
   by_cases h0 : c k = 0
   ·have HL := Lib.hid (laid_step c n k hl h0)
    rw [h0] at hcall
    clear hl
    go_wp2_with (go_at_fn g; refine hcall.mono ?_; rintro e w' ⟨rfl, q', rfl⟩)
    exact ⟨⟨k, _, by omega, rfl, HL.out, rfl⟩, by simp [intOf]⟩
   ·have L0 := Lib.hid (laid_stop c n k hl h0)
    have hb0 : (c k == 0) = false := by simpa using h0
    clear hl
    generalize c k = ck at *
    go_wp2_with (first | (go_at_fn g; refine hcall.mono ?_; rintro e w' ⟨rfl, q', rfl⟩) | (at_make; refine wpList_makeI rfl (.tmp 18) rfl ((k + 1 : Nat) : Int) (laid c n).length rfl (by rw [L0.out]) (by rw [L0.out]; omega) ?_))
    intro w1 ho hb
    have O0 : Hid (OwnsI w.heap.size w1 (.slice (some ⟨w.heap.size, 0, none⟩) (laid c n).length (laid c n).length) (partI c (laid c n).length 0)) := Lib.hid (by rw [partI_zero]; exact ho)
    have G0 : Hid (Below w.heap.size w w1) := Lib.hid ((below_drewN (Below.refl _ _) _).trans hb)
    have LN := laid_len c n
    have PL := Lib.hid (partI_laid c n)
    clear ho hb
    generalize hM : (laid c n).length = M at *
    clear hM L0
    go_wp2_with fail
    go_loopw [22] (fun i wr => ∃ j : Nat, j ≤ M ∧ i = .int .i64 j ∧ OwnsI w.heap.size wr (.slice (some ⟨w.heap.size, 0, none⟩) M M) (partI c M j) ∧ Below w.heap.size w wr) (fun i _ => M - (intOf i).toNat)
    case atStart => exact ⟨0, by omega, rfl, O0.out, G0.out⟩
    case round =>
     obtain ⟨j, hj, rfl, ho, hb⟩ := hrel
     by_cases hlt : j < M
     ·have hcall := HC.out wr j (by omega) hb
      have HO := Lib.hid ho
      have HB := Lib.hid hb
      have HJ := Lib.hid (partI_next c M j)
      have HJ2 := Lib.hid (partI_len c M j)
      clear ho hb
      generalize c j = cj at *
      go_wp2_with (go_at_fn g; refine hcall.mono ?_; rintro e w' ⟨rfl, q', hq⟩; have ho' : OwnsI w.heap.size w' (.slice (some ⟨w.heap.size, 0, none⟩) M M) (partI c M j) := (by rw [hq]; exact HO.out.below (below_drewN (Below.refl _ _) q') (Nat.le_refl _)); have hb' : Below w.heap.size w w' := (by rw [hq]; exact below_drewN HB.out q'); have hc1 := ho'.cell j (by rw [HJ2.out]; exact hlt); have hf1 := ho'.free j; have O2 : Hid (OwnsI w.heap.size (w'.setCell ⟨w.heap.size, j, none⟩ (.int .i64 cj)) (.slice (some ⟨w.heap.size, 0, none⟩) M M) (partI c M (j + 1))) := Lib.hid (by rw [← HJ.out]; exact ho'.set j cj); have G2 := Lib.hid (hb'.setCell (p := ⟨w.heap.size, j, none⟩) (Nat.le_refl _) (.int .i64 cj)); clear hq ho' hb'; generalize (partI c M j).getD j 0 = x at *)
      exact ⟨⟨j + 1, by omega, by go_num, O2.out, G2.out⟩, by simp [intOf]; omega⟩
     ·obtain rfl : j = M := by omega
      have O2 := Lib.hid ho
      have G2 := Lib.hid hb
      clear ho hb
      rw [PL.out] at O2
      go_wp2_with fail
      go_ret
      exact ⟨_, rfl, O2.out, G2.out⟩
end Go.Proofs.YtmknpmamkjjiaaaGreat
namespace Go.Proofs.YtmknpmamkjjiaaaGreat
open Go.RowKit Plain Go.Shelf
set_option linter.unusedVariables false

/-- a variable of one cell that holds v -/
theorem vc_cell_box (w : World) (v : Value) (t : TypeId) : (w.alloc (.cells #[v] t)).cell? ⟨w.heap.size, 0, none⟩ = some v := cell_of_row _ _ 0 _ _ _ (heap_alloc_new w _)
theorem vc_size_box (w : World) (v : Value) (t : TypeId) : (w.alloc (.cells #[v] t)).heap.size = w.heap.size + 1 := by simp
theorem vc_below_box (w : World) (v : Value) (t : TypeId) : Below w.heap.size w (w.alloc (.cells #[v] t)) := (Below.refl _ _).alloc (Nat.le_refl _) _
theorem vc_cell_below {N : Nat} {w w' : World} {p : Addr} {v : Value} (h : w.cell? p = some v) (hb : Below N w w') (hN : w.heap.size ≤ N) : w'.cell? p = some v := (hb.cell (Nat.lt_of_lt_of_le (World.block_lt_of_cell? w p h) hN)).trans h

set_option maxRecDepth 100000 in
set_option maxHeartbeats 1000000 in
theorem vc_trimC {w : World} {B : Nat} {v : Value} {xs : Ints} (hB : w.cell? ⟨B, 0, none⟩ = some v) (hs : SeqI w v xs) (n : Nat) : vc_Counts w 50 #[.pointer (some ⟨B, 0, none⟩)] (says xs) n := by
 intro W i _ hb
 have c1 := vc_cell_below hB hb (Nat.le_refl _)
 have K := vc_at_any (hs.below hb) (i : Int)
 rw [saysI_nat] at K
 clear hB hs hb
 generalize says xs i = x at *
 go_enter Tryz.func50, Tryz.ntmps50
 go_wp2_with (go_at_call 29; refine K.mono ?_; rintro e w' ⟨rfl, rfl⟩)
 go_ret
 exact ⟨rfl, 0, rfl⟩

set_option maxRecDepth 100000 in
set_option maxHeartbeats 1000000 in
/-- Trim -/
theorem vc_trim_any {v : Value} {xs : Ints} {w : World} (hs : SeqI w v xs) (hl : xs.length ≤ 1000000) : Calls Tryz.prog 39 #[v] w (MadeI w (trim xs)) := by
 obtain ⟨a, cap, rfl, g1, g2, g0, h⟩ := hs.parts
 have hB := vc_below_box w (.slice a xs.length cap) 26
 have KL := Lib.hid (vc_lay_any 50 #[.pointer (some ⟨w.heap.size, 0, none⟩)] (enters_of Tryz.func50 (by kernel_rfl) rfl) (says xs) xs.length hl (vc_trimC (vc_cell_box w (.slice a xs.length cap) 26) (h.below hB) xs.length))
 have HB := Lib.hid hB
 have HZ := Lib.hid (vc_size_box w (.slice a xs.length cap) 26)
 clear hs h g0 hB
 go_enter Tryz.func39, Tryz.ntmps39
 go_wp2_with fail
 refine KL.out.mono ?_
 rintro e u2 ⟨v2, rfl, ho, hb⟩
 have O2 := Lib.hid (ho.mono (by rw [HZ.out]; omega : w.heap.size ≤ _))
 have G2 := Lib.hid (HB.out.trans (hb.mono (by rw [HZ.out]; omega)))
 clear ho hb
 go_wp2_with fail
 go_ret
 exact ⟨_, rfl, O2.out, G2.out⟩

end Go.Proofs.YtmknpmamkjjiaaaGreat
namespace Go.Proofs.YtmknpmamkjjiaaaGreat
open Go.RowKit Plain Go.Shelf
set_option linter.unusedVariables false

/-- a variable of three cells -/
theorem vc_box3 (w : World) (x y z : Value) (t : TypeId) : (w.alloc (.cells #[x, y, z] t)).cell? ⟨w.heap.size, 0, none⟩ = some x ∧ (w.alloc (.cells #[x, y, z] t)).cell? ⟨w.heap.size, 1, none⟩ = some y ∧ Below w.heap.size w (w.alloc (.cells #[x, y, z] t)) :=
 ⟨cell_of_row _ _ 0 _ _ _ (heap_alloc_new w _), cell_of_row _ _ 1 _ _ _ (heap_alloc_new w _), (Below.refl _ _).alloc (Nat.le_refl _) _⟩

set_option maxRecDepth 100000 in
set_option maxHeartbeats 4000000 in
/-- Has -/
theorem vc_has_any {v : Value} {xs : Ints} {w : World} (hs : SeqI w v xs) (p q r : Int) :
  Calls Tryz.prog 23 #[v, .agg #[.int .i64 p, .int .i64 q, .int .i64 r]] w fun e w' => e = .returned (.bool (decide (1 ≤ q) && decide (q ≤ saysI xs p))) ∧ Below w.heap.size w w' := by
 obtain ⟨c1, c2, hB⟩ := vc_box3 w (.int .i64 p) (.int .i64 q) (.int .i64 r) 54
 have HB := Lib.hid hB
 have KA : Hid (∀ m, Calls Tryz.prog 29 #[v, .int .i64 p] ((w.alloc (.cells #[.int .i64 p, .int .i64 q, .int .i64 r] 54)).drewN m) fun e w' => e = .returned (.int .i64 (saysI xs p)) ∧ (w.alloc (.cells #[.int .i64 p, .int .i64 q, .int .i64 r] 54)).drewN m = w') := Lib.hid fun m => vc_at_any ((hs.below hB).drawn m) p
 clear hs hB
 generalize saysI xs p = x at *
 by_cases h1 : 1 ≤ q
 ·rw [decide_eq_true h1]
  by_cases h2 : q ≤ x
  ·rw [decide_eq_true h2]
   have d1 : decide (1 ≤ q) = true := decide_eq_true h1
   have d2 : decide (q ≤ x) = true := decide_eq_true h2
   go_enter Tryz.func23, Tryz.ntmps23
   go_wp2_with fail
   go_quiet ((go_at_call 29; exact quiet_left (KA.out _)))
   go_wp2_with fail
   go_ret
   exact ⟨rfl, below_drewN HB.out _⟩
  ·rw [decide_eq_false h2]
   have d1 : decide (1 ≤ q) = true := decide_eq_true h1
   have d2 : decide (q ≤ x) = false := decide_eq_false h2
   go_enter Tryz.func23, Tryz.ntmps23
   go_wp2_with fail
   go_quiet ((go_at_call 29; exact quiet_left (KA.out _)))
   go_wp2_with fail
   go_ret
   exact ⟨rfl, below_drewN HB.out _⟩
 ·rw [decide_eq_false h1]
  have d1 : decide (1 ≤ q) = false := decide_eq_false h1
  go_enter Tryz.func23, Tryz.ntmps23
  go_wp2_with fail
  go_quiet (fail)
  go_wp2_with fail
  go_ret
  exact ⟨rfl, below_drewN HB.out _⟩

end Go.Proofs.YtmknpmamkjjiaaaGreat
namespace Go.Proofs.YtmknpmamkjjiaaaGreat
open Go.RowKit Plain
set_option linter.unusedVariables false

set_option maxRecDepth 100000 in
set_option maxHeartbeats 2000000 in
/-- At -/
theorem vc_rat_any {v : Value} {xs : Ints} {w : World} (hs : SeqI w v xs) (n : Int) :
  Calls Tryz.prog 25 #[v, .int .i64 n] w fun e w' => e = .returned (.int .i64 (saysI xs n)) ∧ w = w' := by
 obtain ⟨a, cap, rfl, g1, g2, g0, h⟩ := hs.parts
 have hq : ∀ k : Nat, k < xs.length → (k : Int) = n → 0 < xs.getD k 0 → saysI xs n = xs.getD k 0 := by
  intro k _ e hp; subst e; rw [saysI_nat]; unfold says; omega
 have hz : (∀ k : Nat, k < xs.length → (k : Int) = n → ¬ 0 < xs.getD k 0) → saysI xs n = 0 := by
  intro hall
  unfold saysI
  split
  ·obtain ⟨k, rfl⟩ : ∃ k : Nat, n = (k : Int) := ⟨n.toNat, by omega⟩
   show says xs k = 0
   by_cases hk : k < xs.length
   ·have := hall k hk rfl; unfold says; omega
   ·exact says_end xs k (by omega)
  ·rfl
 have hm : maxLen = 9223372036854775807 := rfl
 rw [hm] at g2
 have HQ := Lib.hid hq
 have HZ := Lib.hid hz
 have HS := Lib.hid h
 clear hs h g0 hq hz hm
 generalize saysI xs n = r at *
 go_enter Tryz.func25, Tryz.ntmps25
 go_wp2_with fail
 go_loop [5] (fun i => ∃ k : Nat, k ≤ xs.length ∧ i = .int .i64 k ∧ (∀ j : Nat, j < k → (j : Int) = n → ¬ 0 < xs.getD j 0)) (fun i => xs.length - (intOf i).toNat)
 case atStart => exact ⟨0, Nat.zero_le _, rfl, fun j hj => absurd hj (by omega)⟩
 case round =>
  obtain ⟨k, hk, rfl, hall⟩ := hrel
  have HA := Lib.hid hall
  clear hall
  by_cases hlt : k < xs.length
  ·obtain ⟨b, o, c, hv, -, -, -, hc⟩ := HS.out.spot (by omega)
   simp only [Value.slice.injEq] at hv
   obtain ⟨rfl, -, rfl⟩ := hv
   have c1 := hc k hlt
   clear hc
   by_cases he : (k : Int) = n
   ·subst he
    have hb2 : ((k : Int) == (k : Int)) = true := by simp
    by_cases hp : 0 < xs.getD k 0
    ·have hr := HQ.out k hlt rfl hp
     generalize xs.getD k 0 = x at *
     subst hr
     go_wp2_with fail
     go_ret
     exact ⟨rfl, rfl⟩
    ·have HA2 : Hid (∀ j : Nat, j < k + 1 → (j : Int) = (k : Int) → ¬ 0 < xs.getD j 0) := Lib.hid (fun j hj e => by
      by_cases h : j < k
      ·exact HA.out j h e
      ·obtain rfl : j = k := by omega
       exact hp)
     generalize xs.getD k 0 = x at c1 hp
     go_wp2_with fail
     go_round
     case rel => exact ⟨k + 1, by omega, by go_num, HA2.out⟩
     case measure => simp [intOf]; omega
   ·have hb1 : decide ((k : Int) = n) = false := decide_eq_false he
    have hb2 : ((k : Int) == n) = false := by simpa using he
    have HA2 : Hid (∀ j : Nat, j < k + 1 → (j : Int) = n → ¬ 0 < xs.getD j 0) := Lib.hid (fun j hj e => by
      by_cases h : j < k
      ·exact HA.out j h e
      ·obtain rfl : j = k := by omega
       exact absurd e he)
    go_wp2_with fail
    go_round
    case rel => exact ⟨k + 1, by omega, by go_num, HA2.out⟩
    case measure => simp [intOf]; omega
  ·obtain rfl : k = xs.length := by omega
   have hr := HZ.out fun j h e => by have := HA.out j h e; omega
   subst hr
   go_wp2_with fail
   go_ret
   exact ⟨rfl, rfl⟩

theorem vc_trim_step_pos {xs : Ints} {k : Nat} (h : 0 < xs.getD k 0) : (laid (says xs) (k + 1)).length = k + 1 := laid_some_len _ _ (by unfold says; omega)
theorem vc_trim_step_neg {xs : Ints} {k : Nat} (h : ¬ 0 < xs.getD k 0) : (laid (says xs) (k + 1)).length = (laid (says xs) k).length := by rw [laid_zero _ _ (by unfold says; omega)]
/-- what c says of the first k, one more -/
theorem vc_range_push (c : Nat → Int) (k : Nat) : (List.range k).map c ++ [c k] = (List.range (k + 1)).map c := by rw [List.range_succ, List.map_append]; rfl

set_option maxRecDepth 100000 in
set_option maxHeartbeats 4000000 in
/-- Trim -/
theorem vc_rtrim_any {v : Value} {xs : Ints} {w : World} (hs : SeqI w v xs) (hl : xs.length ≤ 1000000) :
  Calls Tryz.prog 33 #[v] w (MadeI w (trim xs)) := by
 obtain ⟨a, cap, rfl, g1, g2, g0, h⟩ := hs.parts
 have hm : maxLen = 9223372036854775807 := rfl
 rw [hm] at g2
 have HS := Lib.hid h
 have HT := Lib.hid (show trim xs = (List.range (laid (says xs) xs.length).length).map (says xs) from laid_range _ _)
 clear hs h g0 hm
 rw [HT.out]
 go_enter Tryz.func33, Tryz.ntmps33
 go_wp2_with fail
 go_loop [3, 4] (fun l i => ∃ k : Nat, k ≤ xs.length ∧ i = .int .i64 k ∧ l = .int .i64 ((laid (says xs) k).length - 1)) (fun _ i => xs.length - (intOf i).toNat)
 case atStart => exact ⟨0, Nat.zero_le _, rfl, rfl⟩
 case round =>
  obtain ⟨k, hk, rfl, rfl⟩ := hrel
  by_cases hlt : k < xs.length
  ·obtain ⟨b, o, c, hv, -, -, -, hc⟩ := HS.out.spot (by omega)
   simp only [Value.slice.injEq] at hv
   obtain ⟨rfl, -, rfl⟩ := hv
   have c1 := hc k hlt
   clear hc
   by_cases hp : 0 < xs.getD k 0
   ·have e := Lib.hid (vc_trim_step_pos hp)
    generalize (laid (says xs) k).length = q at *
    generalize xs.getD k 0 = x at *
    go_wp2_with fail
    go_round
    case rel => exact ⟨k + 1, by omega, by go_num, by rw [e.out]; go_num⟩
    case measure => simp [intOf]; omega
   ·have e := Lib.hid (vc_trim_step_neg hp)
    generalize xs.getD k 0 = x at *
    generalize hq : (laid (says xs) k).length = q at *
    have HQ := Lib.hid hq
    clear hq
    go_wp2_with fail
    go_round
    case rel => exact ⟨k + 1, by omega, by go_num, by rw [e.out]⟩
    case measure => simp [intOf]; omega
  ·obtain rfl : k = xs.length := by omega
   have hq := laid_len (says xs) xs.length
   generalize (laid (says xs) xs.length).length = q at *
   clear hk hlt
   go_wp2_with fail
   go_loopw [5, 6] (fun o i wr => ∃ k : Nat, k ≤ q ∧ i = .int .i64 k ∧ OwnsI w.heap.size wr o ((List.range k).map (says xs)) ∧ Below w.heap.size w wr) (fun _ i _ => q - (intOf i).toNat)
   case atStart => exact ⟨0, Nat.zero_le _, rfl, OwnsI.nil _ _, Below.refl _ _⟩
   case round =>
    obtain ⟨k, hk, rfl, ho, hb⟩ := hrel
    by_cases hlt : k < q
    ·have K := vc_rat_any (HS.out.below hb) (k : Int)
     rw [saysI_nat] at K
     have HO := Lib.hid ho
     have HB := Lib.hid hb
     have RP := Lib.hid (vc_range_push (says xs) k)
     have HL := Lib.hid (show ((List.range k).map (says xs)).length = k by simp)
     clear ho hb
     generalize says xs k = x at *
     go_wp2_with (first | (go_at_call 25; refine K.mono ?_; rintro e w' ⟨rfl, rfl⟩) | (at_builtin; refine wpList_append_ints rfl (.tmp 24) (.tmp 28) rfl w.heap.size rfl (HO.out.alloc _) rfl (SeqI.one _ x) (by rw [HL.out]; simp; omega) (by have := HB.out.size; simp; omega) ?_))
     intro v' w1 ho' hg _
     have O2 := Lib.hid ho'
     have G2 : Hid (Below w.heap.size w w1) := Lib.hid ((HB.out.alloc HB.out.size _).grown hg (by have := HB.out.size; simp; omega) (fun j hj => (HO.out.lt j hj).1))
     clear ho' hg
     rw [RP.out] at O2
     go_wp2_with fail
     go_roundw
     case rel => exact ⟨k + 1, by omega, by go_num, O2.out, G2.out⟩
     case measure => simp [intOf]; omega
    ·obtain rfl : k = q := by omega
     have O2 := Lib.hid ho
     have G2 := Lib.hid hb
     clear ho hb
     go_wp2_with fail
     go_ret
     exact ⟨_, rfl, O2.out, G2.out⟩

end Go.Proofs.YtmknpmamkjjiaaaGreat
namespace Go.Proofs.YtmknpmamkjjiaaaGreat
open Go.RowKit Plain
set_option linter.unusedVariables false

end Go.Proofs.YtmknpmamkjjiaaaGreat
namespace Go.Proofs.YtmknpmamkjjiaaaGreat
open Go.RowKit Plain
set_option linter.unusedVariables false

set_option maxRecDepth 100000 in
set_option maxHeartbeats 4000000 in
/-- Equal -/
theorem vc_requal_yes {u v : Value} {xs : Ints} {w : World} (hs : SeqI w u xs) (ht : SeqI w v xs) :
  Calls Tryz.prog 26 #[u, v] w fun e w' => e = .returned (.bool true) ∧ ∃ n, w' = w.drewN n := by
 by_cases hp : 0 < xs.length
 ·obtain ⟨b1, o1, c1, rfl, g1, m1, -, k1⟩ := hs.spot hp
  obtain ⟨b2, o2, c2, rfl, g2, m2, -, k2⟩ := ht.spot hp
  have HU := Lib.hid k1
  have HV := Lib.hid k2
  have hm : maxLen = 9223372036854775807 := rfl
  rw [hm] at m1 m2
  clear hs ht k1 k2 hm
  go_enter Tryz.func26, Tryz.ntmps26
  go_wp2_with fail
  go_loopw [5] (fun i wr => ∃ k : Nat, k ≤ xs.length ∧ i = .int .i64 k ∧ ∃ n, wr = w.drewN n) (fun i _ => xs.length - (intOf i).toNat)
  case atStart => exact ⟨0, Nat.zero_le _, rfl, 0, rfl⟩
  case round =>
   obtain ⟨k, hk, rfl, n, rfl⟩ := hrel
   by_cases hlt : k < xs.length
   ·have c1' := HU.out k hlt
    have c2' := HV.out k hlt
    generalize xs.getD k 0 = x at *
    go_wp2_with fail
    go_quiet (fail)
    go_wp2_with fail
    go_roundw
    case rel => exact ⟨k + 1, by omega, by go_num, _, rfl⟩
    case measure => simp [intOf]; omega
   ·obtain rfl : k = xs.length := by omega
    go_wp2_with fail
    go_ret
    exact ⟨rfl, _, rfl⟩
 ·obtain rfl : xs = [] := List.eq_nil_of_length_eq_zero (by omega)
  obtain ⟨a1, c1, rfl, -⟩ := hs
  obtain ⟨a2, c2, rfl, -⟩ := ht
  simp only [List.length_nil]
  go_enter Tryz.func26, Tryz.ntmps26
  go_wp2_with fail
  go_loop [5] (fun i => i = .int .i64 0) (fun _ => 0)
  case atStart => rfl
  case round =>
   obtain rfl := hrel
   go_wp2_with fail
   go_ret
   exact ⟨rfl, 0, rfl⟩

set_option maxRecDepth 100000 in
set_option maxHeartbeats 4000000 in
theorem vc_requal_no {u v : Value} {xs ys : Ints} {w : World} (hs : SeqI w u xs) (ht : SeqI w v ys) (hne : ¬ xs = ys) :
  Calls Tryz.prog 26 #[u, v] w fun e w' => e = .returned (.bool false) ∧ ∃ n, w' = w.drewN n := by
 by_cases hl : xs.length = ys.length
 ·have hp : 0 < xs.length := by
   by_cases h : 0 < xs.length
   ·exact h
   ·exfalso
    apply hne
    rw [List.eq_nil_of_length_eq_zero (show xs.length = 0 by omega), List.eq_nil_of_length_eq_zero (show ys.length = 0 by omega)]
  have hex : ∃ j, j < xs.length ∧ xs.getD j 0 ≠ ys.getD j 0 := by
   refine Classical.byContradiction fun hno => hne ?_
   apply List.ext_getElem hl
   intro j h1 h2
   have hj : xs.getD j 0 = ys.getD j 0 := Classical.byContradiction fun h => hno ⟨j, h1, h⟩
   simpa [List.getD, List.getElem?_eq_getElem h1, List.getElem?_eq_getElem h2] using hj
  obtain ⟨b1, o1, c1, rfl, g1, m1, -, k1⟩ := hs.spot hp
  obtain ⟨b2, o2, c2, rfl, g2, m2, -, k2⟩ := ht.spot (by omega)
  rw [← hl] at k2 g2 ⊢
  have HU := Lib.hid k1
  have HV := Lib.hid k2
  have HEX := Lib.hid hex
  have hm : maxLen = 9223372036854775807 := rfl
  rw [hm] at m1 m2
  clear hs ht k1 k2 hm hl hex hne
  go_enter Tryz.func26, Tryz.ntmps26
  go_wp2_with fail
  go_loopw [5] (fun i wr => ∃ k : Nat, k ≤ xs.length ∧ i = .int .i64 k ∧ (∀ j, j < k → xs.getD j 0 = ys.getD j 0) ∧ ∃ n, wr = w.drewN n) (fun i _ => xs.length - (intOf i).toNat)
  case atStart => exact ⟨0, Nat.zero_le _, rfl, (fun j hj => absurd hj (by omega)), 0, rfl⟩
  case round =>
   obtain ⟨k, hk, rfl, hall, n, rfl⟩ := hrel
   have HALL := Lib.hid hall
   clear hall
   by_cases hlt : k < xs.length
   ·have c1' := HU.out k hlt
    have c2' := HV.out k hlt
    by_cases he : xs.getD k 0 = ys.getD k 0
    ·have HE := Lib.hid he
     rw [he] at c1'
     clear he
     have HALL2 : Hid (∀ j, j < k + 1 → xs.getD j 0 = ys.getD j 0) := Lib.hid (fun j hj => by
      by_cases h : j < k
      ·exact HALL.out j h
      ·obtain rfl : j = k := by omega
       exact HE.out)
     generalize ys.getD k 0 = x at *
     go_wp2_with fail
     go_quiet (fail)
     go_wp2_with fail
     go_roundw
     case rel => exact ⟨k + 1, by omega, by go_num, HALL2.out, _, rfl⟩
     case measure => simp [intOf]; omega
    ·generalize xs.getD k 0 = x at *
     generalize ys.getD k 0 = y at *
     have hb2 : (x != y) = true := bne_iff_ne.2 he
     clear he
     go_wp2_with fail
     go_quiet (fail)
     go_wp2_with fail
     go_ret
     exact ⟨rfl, _, World.drewN_drewN _ _ _⟩
   ·exfalso
    obtain ⟨j, hj, hne⟩ := HEX.out
    exact hne (HALL.out j (by omega))
 ·obtain ⟨a1, c1, rfl, -⟩ := hs
  obtain ⟨a2, c2, rfl, -⟩ := ht
  generalize xs.length = la at *
  generalize ys.length = lb at *
  have h1 : ¬ ((la : Int) = (lb : Int)) := by omega
  have h2 : ((la : Int) != (lb : Int)) = true := bne_iff_ne.2 h1
  clear hl h1 hne
  go_enter Tryz.func26, Tryz.ntmps26
  go_wp2_with fail
  go_ret
  exact ⟨rfl, 0, rfl⟩
/-- Equal -/
theorem vc_requal_any {u v : Value} {xs ys : Ints} {w : World} (hs : SeqI w u xs) (ht : SeqI w v ys) :
  Calls Tryz.prog 26 #[u, v] w fun e w' => e = .returned (.bool (decide (xs = ys))) ∧ ∃ n, w' = w.drewN n := by
 by_cases h : xs = ys
 ·subst h
  rw [decide_eq_true rfl]
  exact vc_requal_yes hs ht
 ·rw [decide_eq_false h]
  exact vc_requal_no hs ht h

set_option maxRecDepth 100000 in
set_option maxHeartbeats 1000000 in
/-- Copy: a slice of the call's own that reads as the other did -/
theorem vc_rcopy_any {v : Value} {xs : Ints} {w : World} (hs : SeqI w v xs) (hlen : xs.length ≤ 1000000) :
  Calls Tryz.prog 16 #[v] w (MadeI w xs) := by
 obtain ⟨a, cap, rfl, h1, h2, h0, hs⟩ := hs.parts
 have hga : Below w.heap.size w (w.alloc (.cells #[] 3)) := (Below.refl _ _).alloc (Nat.le_refl _) _
 have S1 := Lib.hid (SeqI.below hs hga)
 clear hs h0
 go_enter Tryz.func16, Tryz.ntmps16
 go_wp2_with (at_builtin; refine wpList_append_ints rfl (.tmp 3) (.tmp 4) rfl w.heap.size rfl (OwnsI.empty w _ (Nat.le_refl _)) rfl S1.out (by simp; omega) (by simp) ?_)
 intro v1 W3 hv1 hg3 _
 have hgb : Below w.heap.size w W3 := hga.grown hg3 (by simp) (by intro k hk; cases hk; exact Nat.le_refl _)
 have V := Lib.hid hv1
 clear hg3 hga hv1
 go_wp2_with fail
 go_ret
 exact ⟨_, rfl, V.out, hgb⟩

end Go.Proofs.YtmknpmamkjjiaaaGreat
namespace Go.Proofs.YtmknpmamkjjiaaaGreat
open Go.RowKit Plain
set_option linter.unusedVariables false

end Go.Proofs.YtmknpmamkjjiaaaGreat
