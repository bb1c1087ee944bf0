/- What the program's own functions of package vec leave: At, lay (for whatever function it is handed), and the functions that hand it one. -/
import Derived.Test.YtogmafopgglelaaVWords
import Derived.Lib.MinMax
import Derived.Shelf.Abstract
import Derived.Deep.RegionWith
namespace Go.Proofs.Ytogmafopgglelaa
open Go.RowKit Plain Go.Shelf
set_option linter.unusedVariables false

set_option maxRecDepth 100000 in
set_option maxHeartbeats 1000000 in
/-- At -/
theorem at_any {v : Value} {xs : Ints} {w : World} (hs : SeqI w v xs) (n : Int) :
    Calls Try.prog 13 #[v, .int .i64 n] w fun e w' => e = .returned (.int .i64 (saysI xs n)) ∧ w = w' := by
  obtain ⟨a, cap, rfl, g1, g2, g0, h⟩ := hs.parts
  by_cases h0 : n < 0
  · have hq : saysI xs n = 0 := by unfold saysI; rw [if_neg (by omega)]
    rw [hq]
    clear hq h hs g0
    go_enter Try.func13, Try.ntmps13
    go_wp2_with fail
    go_ret
    exact ⟨rfl, rfl⟩
  · obtain ⟨k, rfl⟩ : ∃ k : Nat, n = (k : Int) := ⟨n.toNat, by omega⟩
    rw [saysI_nat]
    by_cases hk : k < xs.length
    · obtain ⟨b, o, c, hv, -, -, -, hc⟩ := h.spot (by omega)
      simp only [Value.slice.injEq] at hv
      obtain ⟨rfl, -, rfl⟩ := hv
      have c1 := hc k hk
      have hq : says xs k = max (xs.getD k 0) 0 := rfl
      rw [hq]
      generalize xs.getD k 0 = x at *
      clear hq h hs g0 hc
      go_enter Try.func13, Try.ntmps13
      go_wp2_with fail
      go_ret
      exact ⟨rfl, rfl⟩
    · have hq : says xs k = 0 := says_end xs k (by omega)
      rw [hq]
      clear hq h hs g0
      go_enter Try.func13, Try.ntmps13
      go_wp2_with fail
      go_ret
      exact ⟨rfl, rfl⟩

/-- a function that is handed over: in whatever world behind w it says c of the first n, and leaves the world, but for draws -/
def Counts (w : World) (g : Nat) (lb : Array Value) (c : Nat → Int) (n : Nat) : Prop :=
  ∀ (W : World) (i : Nat), i < n → Below w.heap.size w W → Calls Try.prog g (#[.int .i64 (i : Int)] ++ lb) W fun e w' => e = .returned (.int .i64 (c i)) ∧ ∃ m, w' = W.drewN m

set_option maxRecDepth 100000 in
set_option maxHeartbeats 4000000 in
/-- lay -/
theorem lay_any (g : Nat) (lb : Array Value) (eg : ∀ args w, (callFunc g args).run Try.prog w = .ok (.enter g args) w) (c : Nat → Int) (n : Nat) (hn : n ≤ 1000000) {w : World} (hc : Counts w g lb c n) :
    Calls Try.prog 24 #[.int .i64 (n : Int), .func (.func g) #[] lb] w (MadeI w (laid c n)) := by
  have HC := Lib.hid hc
  clear hc
  go_enter Try.func24, Try.ntmps24
  go_wp2_with fail
  go_loopw [0] (fun i wr => ∃ k q : Nat, k ≤ n ∧ i = .int .i64 k ∧ laid c k = laid c n ∧ wr = w.drewN q) (fun i _ => (intOf i).toNat)
  case atStart => exact ⟨n, 0, Nat.le_refl _, rfl, rfl, rfl⟩
  case round =>
    obtain ⟨k, q, hk, rfl, hl, rfl⟩ := hrel
    match k, hk, hl with
    | 0, hk, hl =>
      have L0 := Lib.hid (show (laid c n).length = 0 by rw [← hl]; rfl)
      clear hl
      go_wp2_with (at_make; refine wpList_makeI rfl (.tmp 18) rfl 0 (laid c n).length rfl (by rw [L0.out]; rfl) (by rw [L0.out]; omega) ?_)
      intro w1 ho hb
      have O0 : Hid (OwnsI w.heap.size w1 (.slice (some ⟨w.heap.size, 0, none⟩) (laid c n).length (laid c n).length) (partI c (laid c n).length 0)) := Lib.hid (by rw [partI_zero]; exact ho)
      have G0 : Hid (Below w.heap.size w w1) := Lib.hid ((below_drewN (Below.refl _ _) _).trans hb)
      have LN := laid_len c n
      have PL := Lib.hid (partI_laid c n)
      clear ho hb
      generalize hM : (laid c n).length = M at *
      clear hM L0
      go_wp2_with fail
      go_loopw [22] (fun i wr => ∃ j : Nat, j ≤ M ∧ i = .int .i64 j ∧ OwnsI w.heap.size wr (.slice (some ⟨w.heap.size, 0, none⟩) M M) (partI c M j) ∧ Below w.heap.size w wr) (fun i _ => M - (intOf i).toNat)
      case atStart => exact ⟨0, by omega, rfl, O0.out, G0.out⟩
      case round =>
        obtain ⟨j, hj, rfl, ho, hb⟩ := hrel
        by_cases hlt : j < M
        · have hcall := HC.out wr j (by omega) hb
          have HO := Lib.hid ho
          have HB := Lib.hid hb
          have HJ := Lib.hid (partI_next c M j)
          have HJ2 := Lib.hid (partI_len c M j)
          clear ho hb
          generalize c j = cj at *
          go_wp2_with (go_at_fn g; refine hcall.mono ?_; rintro e w' ⟨rfl, q', hq⟩; have ho' : OwnsI w.heap.size w' (.slice (some ⟨w.heap.size, 0, none⟩) M M) (partI c M j) := (by rw [hq]; exact HO.out.below (below_drewN (Below.refl _ _) q') (Nat.le_refl _)); have hb' : Below w.heap.size w w' := (by rw [hq]; exact below_drewN HB.out q'); have hc1 := ho'.cell j (by rw [HJ2.out]; exact hlt); have hf1 := ho'.free j; have O2 : Hid (OwnsI w.heap.size (w'.setCell ⟨w.heap.size, j, none⟩ (.int .i64 cj)) (.slice (some ⟨w.heap.size, 0, none⟩) M M) (partI c M (j + 1))) := Lib.hid (by rw [← HJ.out]; exact ho'.set j cj); have G2 := Lib.hid (hb'.setCell (p := ⟨w.heap.size, j, none⟩) (Nat.le_refl _) (.int .i64 cj)); clear hq ho' hb'; generalize (partI c M j).getD j 0 = x at *)
          exact ⟨⟨j + 1, by omega, by go_num, O2.out, G2.out⟩, by simp [intOf]; omega⟩
        · obtain rfl : j = M := by omega
          have O2 := Lib.hid ho
          have G2 := Lib.hid hb
          clear ho hb
          rw [PL.out] at O2
          go_wp2_with fail
          go_ret
          exact ⟨_, rfl, O2.out, G2.out⟩
    | k + 1, hk, hl =>
      have hcall := HC.out (w.drewN q) k (by omega) (below_drewN (Below.refl _ _) q)
      have e1 : ((k + 1 : Nat) : Int) - 1 = (k : Int) := by omega
      by_cases h0 : c k = 0
      · have HL := Lib.hid (laid_step c n k hl h0)
        rw [h0] at hcall
        clear hl
        go_wp2_with (go_at_fn g; refine hcall.mono ?_; rintro e w' ⟨rfl, q', rfl⟩)
        exact ⟨⟨k, _, by omega, rfl, HL.out, rfl⟩, by simp [intOf]⟩
      · have L0 := Lib.hid (laid_stop c n k hl h0)
        have hb0 : (c k == 0) = false := by simpa using h0
        clear hl
        generalize c k = ck at *
        go_wp2_with (first | (go_at_fn g; refine hcall.mono ?_; rintro e w' ⟨rfl, q', rfl⟩) | (at_make; refine wpList_makeI rfl (.tmp 18) rfl ((k + 1 : Nat) : Int) (laid c n).length rfl (by rw [L0.out]) (by rw [L0.out]; omega) ?_))
        intro w1 ho hb
        have O0 : Hid (OwnsI w.heap.size w1 (.slice (some ⟨w.heap.size, 0, none⟩) (laid c n).length (laid c n).length) (partI c (laid c n).length 0)) := Lib.hid (by rw [partI_zero]; exact ho)
        have G0 : Hid (Below w.heap.size w w1) := Lib.hid ((below_drewN (Below.refl _ _) _).trans hb)
        have LN := laid_len c n
        have PL := Lib.hid (partI_laid c n)
        clear ho hb
        generalize hM : (laid c n).length = M at *
        clear hM L0
        go_wp2_with fail
        go_loopw [22] (fun i wr => ∃ j : Nat, j ≤ M ∧ i = .int .i64 j ∧ OwnsI w.heap.size wr (.slice (some ⟨w.heap.size, 0, none⟩) M M) (partI c M j) ∧ Below w.heap.size w wr) (fun i _ => M - (intOf i).toNat)
        case atStart => exact ⟨0, by omega, rfl, O0.out, G0.out⟩
        case round =>
          obtain ⟨j, hj, rfl, ho, hb⟩ := hrel
          by_cases hlt : j < M
          · have hcall := HC.out wr j (by omega) hb
            have HO := Lib.hid ho
            have HB := Lib.hid hb
            have HJ := Lib.hid (partI_next c M j)
            have HJ2 := Lib.hid (partI_len c M j)
            clear ho hb
            generalize c j = cj at *
            go_wp2_with (go_at_fn g; refine hcall.mono ?_; rintro e w' ⟨rfl, q', hq⟩; have ho' : OwnsI w.heap.size w' (.slice (some ⟨w.heap.size, 0, none⟩) M M) (partI c M j) := (by rw [hq]; exact HO.out.below (below_drewN (Below.refl _ _) q') (Nat.le_refl _)); have hb' : Below w.heap.size w w' := (by rw [hq]; exact below_drewN HB.out q'); have hc1 := ho'.cell j (by rw [HJ2.out]; exact hlt); have hf1 := ho'.free j; have O2 : Hid (OwnsI w.heap.size (w'.setCell ⟨w.heap.size, j, none⟩ (.int .i64 cj)) (.slice (some ⟨w.heap.size, 0, none⟩) M M) (partI c M (j + 1))) := Lib.hid (by rw [← HJ.out]; exact ho'.set j cj); have G2 := Lib.hid (hb'.setCell (p := ⟨w.heap.size, j, none⟩) (Nat.le_refl _) (.int .i64 cj)); clear hq ho' hb'; generalize (partI c M j).getD j 0 = x at *)
            exact ⟨⟨j + 1, by omega, by go_num, O2.out, G2.out⟩, by simp [intOf]; omega⟩
          · obtain rfl : j = M := by omega
            have O2 := Lib.hid ho
            have G2 := Lib.hid hb
            clear ho hb
            rw [PL.out] at O2
            go_wp2_with fail
            go_ret
            exact ⟨_, rfl, O2.out, G2.out⟩
end Go.Proofs.Ytogmafopgglelaa
