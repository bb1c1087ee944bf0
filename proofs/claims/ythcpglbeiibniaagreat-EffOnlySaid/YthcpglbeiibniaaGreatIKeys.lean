/- What the program's own Keys and Under of items leave, and the function that Under hands to those. -/
import Derived.Test.YthcpglbeiibniaaGreatIWith
import Derived.Test.YthcpglbeiibniaaGreatZIn
import Derived.Deep.QuietTactic
import Derived.BigQuiet
namespace Go.Proofs.YthcpglbeiibniaaGreat
open Go.RowKit Plain
set_option linter.unusedVariables false

theorem drawnT {B : Nat} {w : World} {v : Value} {xs : List Txt} (h : OwnsT B w v xs) (n : Nat) : OwnsT B (w.drewN n) v xs := h.below (below_drewN (Below.refl _ _) n) (Nat.le_refl _)
theorem keyNew_zero (xs : List PItem) : keyNew xs 0 = true := rfl
theorem keyNew_succ (xs : List PItem) (p : Nat) : keyNew xs (p + 1) = !decide ((xs.getD (p + 1) default).key = (xs.getD p default).key) := by
  unfold keyNew
  rw [decide_eq_false (by omega : ¬ p + 1 = 0), Bool.false_or]
  rfl
set_option maxRecDepth 100000 in
set_option maxHeartbeats 4000000 in
/-- Keys -/
theorem ikeys_any {u : Value} {xs : List PItem} {w : World} (hu : SeqE LItem w u xs) (hx : xs.length ≤ 1000000) : Calls Tryz.prog 25 #[u] w (GivesT w (ikeys xs)) := by
  have HE := Lib.hid (keys_way xs)
  rw [← HE.out]
  obtain ⟨a, cap, rfl, g1, g2, g0, h⟩ := hu.parts
  have HS := Lib.hid h
  obtain ⟨n, hN⟩ : ∃ n, xs.length = n := ⟨_, rfl⟩
  rw [hN] at hx g1 ⊢
  have LN := Lib.hid hN
  have HLK := Lib.hid (keysUpTo_len xs n)
  clear hu h g0 hN HE
  go_enter Tryz.func25, Tryz.ntmps25
  go_wp2_with fail
  go_loopw [3, 4, 8] (fun z _ i wr => ∃ k : Nat, k ≤ n ∧ i = .int .i64 k ∧ OwnsT w.heap.size wr z (keysUpTo xs k) ∧ Below w.heap.size w wr) (fun _ _ i _ => n - (intOf i).toNat)
  case atStart => exact ⟨0, Nat.zero_le _, rfl, OwnsT.nil _ _, Below.refl _ _⟩
  case round =>
    obtain ⟨k, hk, rfl, ho, hb⟩ := hrel
    have HB := Lib.hid hb
    have hl := keysUpTo_len xs k
    obtain ⟨M, hM⟩ : ∃ M, (keysUpTo xs k).length = M := ⟨_, rfl⟩
    obtain ⟨a2, c2, rfl, g3, g4, ho2⟩ := ho.at M hM
    have HO := Lib.hid ho2
    have HM := Lib.hid hM
    rw [hM] at hl
    clear ho ho2 hb hM
    by_cases hlt : k < n
    · have HK : Hid (k < xs.length) := Lib.hid (by rw [LN.out]; exact hlt)
      obtain ⟨b, o, c, hv, -, -, -, hc⟩ := items_spot (HS.out.below HB.out) (by rw [LN.out]; omega)
      rw [LN.out] at hv
      simp only [Value.slice.injEq] at hv
      obtain ⟨rfl, -, rfl⟩ := hv
      have IX := Lib.hid (hc k HK.out)
      have S1 := Lib.hid (fun (W : World) => SeqT.one W (xs.getD k default).key)
      unfold tv at S1
      have PY := Lib.hid (fun h => keysUpTo_yes (xs := xs) (k := k) h)
      have PN := Lib.hid (fun h => keysUpTo_no (xs := xs) (k := k) h)
      by_cases h0 : k = 0
      · subst h0
        have HY := Lib.hid (PY.out (keyNew_zero xs))
        clear hc PY PN
        generalize xs.getD 0 default = x at *
        have O1 := Lib.hid (HO.out.alloc (.cells #[.string (bt x.key), .string (bt x.field), .int .i64 x.kind, .string (bt x.elem), .int .i64 x.n, .int .i64 x.dot.node, .int .i64 x.dot.seq, .int .i64 x.dot.pos] 39))
        have G1 := Lib.hid (HB.out.alloc HB.out.size (.cells #[.string (bt x.key), .string (bt x.field), .int .i64 x.kind, .string (bt x.elem), .int .i64 x.n, .int .i64 x.dot.node, .int .i64 x.dot.seq, .int .i64 x.dot.pos] 39))
        have IB : Hid (ItemAt (wr.alloc (.cells #[.string (bt x.key), .string (bt x.field), .int .i64 x.kind, .string (bt x.elem), .int .i64 x.n, .int .i64 x.dot.node, .int .i64 x.dot.seq, .int .i64 x.dot.pos] 39)) wr.heap.size 0 x) := Lib.hid ⟨by simp, by simp, by simp, by simp, by simp, by simp, by simp, by simp⟩
        obtain ⟨c0, c1, c2, c3, c4, c5, c6, c7⟩ := IX.out
        simp only [Nat.zero_mul, Nat.add_zero] at c0 c1 c2 c3 c4 c5 c6 c7
        go_upto_region 5 with fail
        clear c0 c1 c2 c3 c4 c5 c6 c7
        generalize (wr.alloc (.cells #[.string (bt x.key), .string (bt x.field), .int .i64 x.kind, .string (bt x.elem), .int .i64 x.n, .int .i64 x.dot.node, .int .i64 x.dot.seq, .int .i64 x.dot.pos] 39)) = wb at *
        obtain ⟨d0, d1, d2, d3, d4, d5, d6, d7⟩ := IB.out
        simp only [Nat.zero_add] at d1 d2 d3 d4 d5 d6 d7
        go_quiet (fail)
        go_wp2_with (at_builtin; refine wpList_append_texts rfl (.tmp 26) (.tmp 29) rfl w.heap.size rfl ((drawnT O1.out _).alloc _) rfl (S1.out _) (by rw [HM.out]; simp <;> omega) (by have := G1.out.size; simp; omega) ?_)
        intro v' w2 ho' hgr _
        have O2 := Lib.hid ho'
        have G2 : Hid (Below w.heap.size w w2) := Lib.hid (((below_drewN G1.out _).alloc G1.out.size _).grown hgr (by have := G1.out.size; simp; omega) (fun j hj => (O1.out.lt j hj).1))
        clear ho' hgr
        rw [← HY.out] at O2
        go_wp2_with fail
        go_roundw
        case rel => exact ⟨0 + 1, by omega, by go_num, O2.out, G2.out⟩
        case measure => simp [intOf]; omega
      · obtain ⟨p, rfl⟩ : ∃ p, k = p + 1 := ⟨k - 1, by omega⟩
        have IY := Lib.hid (hc p (by rw [LN.out]; omega))
        have HKN := Lib.hid (keyNew_succ xs p)
        have t1 := text_eq (xs.getD (p + 1) default).key (xs.getD p default).key
        clear hc
        generalize xs.getD (p + 1) default = x at *
        generalize xs.getD p default = y at *
        have O1 := Lib.hid (HO.out.alloc (.cells #[.string (bt x.key), .string (bt x.field), .int .i64 x.kind, .string (bt x.elem), .int .i64 x.n, .int .i64 x.dot.node, .int .i64 x.dot.seq, .int .i64 x.dot.pos] 39))
        have G1 := Lib.hid (HB.out.alloc HB.out.size (.cells #[.string (bt x.key), .string (bt x.field), .int .i64 x.kind, .string (bt x.elem), .int .i64 x.n, .int .i64 x.dot.node, .int .i64 x.dot.seq, .int .i64 x.dot.pos] 39))
        have IB : Hid (ItemAt (wr.alloc (.cells #[.string (bt x.key), .string (bt x.field), .int .i64 x.kind, .string (bt x.elem), .int .i64 x.n, .int .i64 x.dot.node, .int .i64 x.dot.seq, .int .i64 x.dot.pos] 39)) wr.heap.size 0 x) := Lib.hid ⟨by simp, by simp, by simp, by simp, by simp, by simp, by simp, by simp⟩
        have IY2 : Hid (ItemAt (wr.alloc (.cells #[.string (bt x.key), .string (bt x.field), .int .i64 x.kind, .string (bt x.elem), .int .i64 x.n, .int .i64 x.dot.node, .int .i64 x.dot.seq, .int .i64 x.dot.pos] 39)) b (o + p * 8) y) := Lib.hid (IY.out.below ((Below.refl wr.heap.size wr).alloc (Nat.le_refl _) _) IY.out.lt)
        have q0 : (((p + 1 : Nat) : Int) == 0) = false := by simp; omega
        have q1 : ((p : Int) + 1 == 0) = false := by simp; omega
        have q2 : IntKind.i64.wrap ((p : Int) + 1 - 1) = (p : Int) := by rw [show (p : Int) + 1 - 1 = p by omega]; exact IntWalk.i64_in _ (by omega)
        obtain ⟨c0, c1, c2, c3, c4, c5, c6, c7⟩ := IX.out
        go_upto_region 5 with fail
        clear c0 c1 c2 c3 c4 c5 c6 c7
        generalize (wr.alloc (.cells #[.string (bt x.key), .string (bt x.field), .int .i64 x.kind, .string (bt x.elem), .int .i64 x.n, .int .i64 x.dot.node, .int .i64 x.dot.seq, .int .i64 x.dot.pos] 39)) = wb at *
        obtain ⟨d0, d1, d2, d3, d4, d5, d6, d7⟩ := IB.out
        simp only [Nat.zero_add] at d1 d2 d3 d4 d5 d6 d7
        obtain ⟨y0, -⟩ := IY2.out
        cases hcv : decide (x.key = y.key) with
        | true =>
          rw [hcv] at t1 HKN
          have HY := Lib.hid (PN.out HKN.out)
          clear hcv PY PN
          rw [← HY.out] at O1
          go_quiet (fail)
          go_wp2_with fail
          go_roundw
          case rel => exact ⟨p + 1 + 1, by omega, by go_num, drawnT O1.out _, below_drewN G1.out _⟩
          case measure => simp [intOf]; omega
        | false =>
          rw [hcv] at t1 HKN
          have HY := Lib.hid (PY.out HKN.out)
          clear hcv PY PN
          go_quiet (fail)
          go_wp2_with (at_builtin; refine wpList_append_texts rfl (.tmp 26) (.tmp 29) rfl w.heap.size rfl ((drawnT O1.out _).alloc _) rfl (S1.out _) (by rw [HM.out]; simp <;> omega) (by have := G1.out.size; simp; omega) ?_)
          intro v' w2 ho' hgr _
          have O2 := Lib.hid ho'
          have G2 : Hid (Below w.heap.size w w2) := Lib.hid (((below_drewN G1.out _).alloc G1.out.size _).grown hgr (by have := G1.out.size; simp; omega) (fun j hj => (O1.out.lt j hj).1))
          clear ho' hgr
          rw [← HY.out] at O2
          go_wp2_with fail
          go_roundw
          case rel => exact ⟨p + 1 + 1, by omega, by go_num, O2.out, G2.out⟩
          case measure => simp [intOf]; omega
    · obtain rfl : k = n := by omega
      have KS := sort_texts HO.out HB.out HB.out.size (by rw [HM.out]; omega)
      generalize keysUpTo xs k = L at *
      go_wp2_with fail
      refine KS.mono ?_
      rintro e w2 ⟨rfl, hb, K⟩
      go_wp2_with fail
      refine K.mono ?_
      rintro e w3 ⟨u3, rfl, hr, hb3⟩
      have O := Lib.hid hr.seq
      have G := Lib.hid hb3
      obtain ⟨a3, c3, rfl, -⟩ := hr.seq.parts
      clear hr hb3 hb K KS
      go_wp2_with fail
      go_ret
      exact ⟨_, rfl, O.out, G.out⟩
end Go.Proofs.YthcpglbeiibniaaGreat
