/- What the program's own Right of effects leaves. (Written by gen-eright.py.) -/
import Derived.Test.YthcpglbeiibniaaGreatEFrm
import Derived.Deep.QuietTactic
import Derived.BigQuiet
namespace Go.Proofs.YthcpglbeiibniaaGreat
open Go.RowKit Plain
set_option linter.unusedVariables false

set_option maxRecDepth 100000 in
set_option maxHeartbeats 16000000 in
/-- Right -/
theorem eright_any (node seq : Int) {v : Value} {l : List PEff} {w : World} (hv : SeqE LEff w v l) (hn : l.length ≤ 1000000) (hd : ∀ e ∈ l, e.drops.length ≤ 1000000) :
    Calls Tryz.prog 8 #[.int .i64 node, .int .i64 seq, v] w (GivesB w (rightB node seq l)) := by
  have HI := Lib.hid (rightB_iff (node := node) (seq := seq) (l := l))
  have HDM := Lib.hid (fun k hk => hd _ (mem_defE (l := l) (k := k) hk))
  obtain ⟨a, cap, rfl, g1, g2, g0, h⟩ := hv.parts
  have HS := Lib.hid h
  clear hv h g0 hd
  obtain ⟨n, hN⟩ : ∃ n, l.length = n := ⟨_, rfl⟩
  rw [hN] at g1 hn HS HI HDM ⊢
  have LN := Lib.hid hN
  clear hN
  generalize rightB node seq l = r at *
  have HY : Hid ((∀ j, j < n → (0 < j → (l.getD (j - 1) default).pos < (l.getD j default).pos) ∧ eformedB node seq (l.getD j default) = true ∧ (l.getD j default).drops.any (unmadeB node seq (l.getD j default).pos) = false) → r = true) := Lib.hid (fun h => HI.out.2 fun j hj => ⟨(h j hj).1, (h j hj).2.1, by rw [past_any, (h j hj).2.2]; rfl⟩)
  have HN1 : Hid (∀ j, j < n → eformedB node seq (l.getD j default) = false → r = false) := Lib.hid (fun j hj h => by
    rw [Bool.eq_false_iff]
    intro e
    have := (HI.out.1 e j hj).2.1
    rw [h] at this
    cases this)
  have HN2 : Hid (∀ j, j < n → (l.getD j default).drops.any (unmadeB node seq (l.getD j default).pos) = true → r = false) := Lib.hid (fun j hj h => by
    rw [Bool.eq_false_iff]
    intro e
    have := (HI.out.1 e j hj).2.2
    rw [past_any, h] at this
    cases this)
  have HN3 : Hid (∀ j, j < n → 0 < j → ¬ (l.getD (j - 1) default).pos < (l.getD j default).pos → r = false) := Lib.hid (fun j hj hp h => by
    rw [Bool.eq_false_iff]
    intro e
    exact h ((HI.out.1 e j hj).1 hp))
  clear HI
  go_enter Tryz.func8, Tryz.ntmps8
  go_wp2_with fail
  go_loopw [7, 11] (fun _ i wr => ∃ k : Nat, k ≤ n ∧ i = .int .i64 k ∧ (∀ j, j < k → (0 < j → (l.getD (j - 1) default).pos < (l.getD j default).pos) ∧ eformedB node seq (l.getD j default) = true ∧ (l.getD j default).drops.any (unmadeB node seq (l.getD j default).pos) = false) ∧ Below w.heap.size w wr) (fun _ i _ => n - (intOf i).toNat)
  case atStart => exact ⟨0, Nat.zero_le _, rfl, fun j hj => absurd hj (by omega), Below.refl _ _⟩
  case round =>
    obtain ⟨k, hk, rfl, hall, hb⟩ := hrel
    have HA := Lib.hid hall
    have HB0 := Lib.hid hb
    clear hall hb
    by_cases hlt : k < n
    · obtain ⟨b, o, c, hv, -, -, -, hc⟩ := effs_spot (HS.out.below HB0.out) (by rw [LN.out]; omega)
      rw [LN.out] at hv
      simp only [Value.slice.injEq] at hv
      obtain ⟨rfl, -, rfl⟩ := hv
      have HNF := Lib.hid (HN1.out k hlt)
      have HNP := Lib.hid (HN2.out k hlt)
      have HNR := Lib.hid (HN3.out k hlt)
      have HAK : Hid ((0 < k → (l.getD (k - 1) default).pos < (l.getD k default).pos) → eformedB node seq (l.getD k default) = true → (l.getD k default).drops.any (unmadeB node seq (l.getD k default).pos) = false → (∀ j, j < k + 1 → (0 < j → (l.getD (j - 1) default).pos < (l.getD j default).pos) ∧ eformedB node seq (l.getD j default) = true ∧ (l.getD j default).drops.any (unmadeB node seq (l.getD j default).pos) = false)) := Lib.hid (fun h1 h2 h3 j hj => by
        by_cases e : j = k
        · rw [e]; exact ⟨h1, h2, h3⟩
        · exact HA.out j (by omega))
      have HM := Lib.hid (HDM.out k hlt)
      obtain ⟨dv, EX0, hsd⟩ := hc k (by rw [LN.out]; exact hlt)
      obtain ⟨da, dc, rfl, -, -, -, hsd⟩ := hsd.parts
      have EX := Lib.hid EX0
      clear EX0
      by_cases h0 : k = 0
      · subst h0
        have HXK := Lib.hid (HAK.out (fun k => absurd k (by omega)))
        clear hc HAK HNR
        generalize l.getD 0 default = x at *
        have KU0 := Lib.hid (fun (W : World) (a : Option Addr) (n c : Nat) (hs : SeqE LDot W (.slice a n c) x.drops) => eunmade_any node seq x hs HM.out)
        generalize x.drops.length = m at *
        have B1 := (Below.refl wr.heap.size wr).alloc (Nat.le_refl _) (.cells #[.int .i64 x.pos, .string (bt x.key), .string (bt x.field), .int .i64 x.kind, .string (bt x.elem), .int .i64 x.n, .slice da m dc] 35)
        have HB : Hid (Below w.heap.size w (wr.alloc (.cells #[.int .i64 x.pos, .string (bt x.key), .string (bt x.field), .int .i64 x.kind, .string (bt x.elem), .int .i64 x.n, .slice da m dc] 35))) := Lib.hid (HB0.out.trans (B1.mono HB0.out.size))
        have EB : Hid (EffAt (wr.alloc (.cells #[.int .i64 x.pos, .string (bt x.key), .string (bt x.field), .int .i64 x.kind, .string (bt x.elem), .int .i64 x.n, .slice da m dc] 35)) wr.heap.size 0 x (.slice da m dc)) := Lib.hid (effAt_box wr x da m dc)
        have SB : Hid (SeqE LDot (wr.alloc (.cells #[.int .i64 x.pos, .string (bt x.key), .string (bt x.field), .int .i64 x.kind, .string (bt x.elem), .int .i64 x.n, .slice da m dc] 35)) (.slice da m dc) x.drops) := Lib.hid (hsd.below_alloc _)
        clear B1 hsd
        obtain ⟨c0, c1, c2, c3, c4, c5, c6⟩ := EX.out
        simp only [Nat.zero_mul, Nat.add_zero] at c0 c1 c2 c3 c4 c5 c6
        go_upto_region 4 with fail
        clear c0 c1 c2 c3 c4 c5 c6
        generalize (wr.alloc (.cells #[.int .i64 x.pos, .string (bt x.key), .string (bt x.field), .int .i64 x.kind, .string (bt x.elem), .int .i64 x.n, .slice da m dc] 35)) = wb at *
        obtain ⟨c0, c1, c2, c3, c4, c5, c6⟩ := EB.out.zero
        go_quiet (fail)
        have W4 := Lib.hid (below_drewN HB.out nq)
        have S4 := Lib.hid (SB.out.drawn nq)
        have E4 := Lib.hid (EB.out.below (below_drewN (Below.refl wb.heap.size wb) nq) EB.out.lt)
        clear c0 c1 c2 c3 c4 c5 c6
        generalize wb.drewN nq = w4 at *
        obtain ⟨c0, c1, c2, c3, c4, c5, c6⟩ := E4.out.zero
        have KF := eformed_any node seq x S4.out
        cases hf : eformedB node seq x with
        | false =>
          rw [hf] at KF
          obtain rfl : r = false := HNF.out hf
          clear hf
          go_wp2_with fail
          refine KF.mono ?_
          rintro e w5 ⟨rfl, hb⟩
          have G5 := Lib.hid (W4.out.trans (hb.mono W4.out.size))
          clear hb c0 c1 c2 c3 c4 c5 c6 KF
          go_wp2_with fail
          go_ret
          exact ⟨rfl, G5.out⟩
        | true =>
          rw [hf] at KF
          go_wp2_with fail
          refine KF.mono ?_
          rintro e w5 ⟨rfl, hb⟩
          have G5 := Lib.hid (W4.out.trans (hb.mono W4.out.size))
          have E5 := Lib.hid (E4.out.below hb E4.out.lt)
          have KU := KU0.out _ _ _ _ (S4.out.below hb)
          clear hb c0 c1 c2 c3 c4 c5 c6 KF
          obtain ⟨c0, c1, c2, c3, c4, c5, c6⟩ := E5.out.zero
          cases hu : x.drops.any (unmadeB node seq x.pos) with
          | true =>
            rw [hu] at KU
            obtain rfl : r = false := HNP.out hu
            clear hu hf
            go_wp2_with fail
            refine KU.mono ?_
            rintro e w6 ⟨rfl, hb⟩
            have G6 := Lib.hid (G5.out.trans (hb.mono G5.out.size))
            clear hb c0 c1 c2 c3 c4 c5 c6 KU
            go_wp2_with fail
            go_ret
            exact ⟨rfl, G6.out⟩
          | false =>
            rw [hu] at KU
            have HX := Lib.hid (HXK.out hf hu)
            clear hu hf
            go_wp2_with fail
            refine KU.mono ?_
            rintro e w6 ⟨rfl, hb⟩
            have G6 := Lib.hid (G5.out.trans (hb.mono G5.out.size))
            clear hb c0 c1 c2 c3 c4 c5 c6 KU
            go_wp2_with fail
            go_roundw
            case rel => exact ⟨0 + 1, by omega, by go_num, HX.out, G6.out⟩
            case measure => simp [intOf]; omega
      · obtain ⟨p, rfl⟩ : ∃ p, k = p + 1 := ⟨k - 1, by omega⟩
        obtain ⟨dv', EY0, -⟩ := hc p (by rw [LN.out]; omega)
        have EY := Lib.hid EY0
        clear EY0
        replace HNR : Hid (¬ (l.getD p default).pos < (l.getD (p + 1) default).pos → r = false) := Lib.hid (fun h => HNR.out (by omega) (by rw [Nat.add_sub_cancel]; omega))
        have HXP : Hid ((l.getD p default).pos < (l.getD (p + 1) default).pos → eformedB node seq (l.getD (p + 1) default) = true → (l.getD (p + 1) default).drops.any (unmadeB node seq (l.getD (p + 1) default).pos) = false → (∀ j, j < p + 1 + 1 → (0 < j → (l.getD (j - 1) default).pos < (l.getD j default).pos) ∧ eformedB node seq (l.getD j default) = true ∧ (l.getD j default).drops.any (unmadeB node seq (l.getD j default).pos) = false)) := Lib.hid (fun h => HAK.out (fun _ => h))
        clear hc HAK
        generalize l.getD (p + 1) default = x at *
        generalize l.getD p default = y at *
        have KU0 := Lib.hid (fun (W : World) (a : Option Addr) (n c : Nat) (hs : SeqE LDot W (.slice a n c) x.drops) => eunmade_any node seq x hs HM.out)
        generalize x.drops.length = m at *
        have B1 := (Below.refl wr.heap.size wr).alloc (Nat.le_refl _) (.cells #[.int .i64 x.pos, .string (bt x.key), .string (bt x.field), .int .i64 x.kind, .string (bt x.elem), .int .i64 x.n, .slice da m dc] 35)
        have HB : Hid (Below w.heap.size w (wr.alloc (.cells #[.int .i64 x.pos, .string (bt x.key), .string (bt x.field), .int .i64 x.kind, .string (bt x.elem), .int .i64 x.n, .slice da m dc] 35))) := Lib.hid (HB0.out.trans (B1.mono HB0.out.size))
        have EB : Hid (EffAt (wr.alloc (.cells #[.int .i64 x.pos, .string (bt x.key), .string (bt x.field), .int .i64 x.kind, .string (bt x.elem), .int .i64 x.n, .slice da m dc] 35)) wr.heap.size 0 x (.slice da m dc)) := Lib.hid (effAt_box wr x da m dc)
        have SB : Hid (SeqE LDot (wr.alloc (.cells #[.int .i64 x.pos, .string (bt x.key), .string (bt x.field), .int .i64 x.kind, .string (bt x.elem), .int .i64 x.n, .slice da m dc] 35)) (.slice da m dc) x.drops) := Lib.hid (hsd.below_alloc _)
        have EP : Hid ((wr.alloc (.cells #[.int .i64 x.pos, .string (bt x.key), .string (bt x.field), .int .i64 x.kind, .string (bt x.elem), .int .i64 x.n, .slice da m dc] 35)).cell? ⟨b, o + p * 7, none⟩ = some (.int .i64 y.pos)) := Lib.hid ((B1.cell (p := ⟨b, o + p * 7, none⟩) EY.out.lt).trans EY.out.c0)
        clear B1 hsd
        have q1 : (0 : Int) < (p : Int) + 1 := by omega
        have q2 : IntKind.i64.wrap ((p : Int) + 1 - 1) = (p : Int) := by rw [show (p : Int) + 1 - 1 = p by omega]; exact IntWalk.i64_in _ (by omega)
        have q4 : IntKind.i64.wrap (p : Int) = (p : Int) := IntWalk.i64_in _ (by omega)
        have q3 : (p : Int) < (n : Int) := by omega
        obtain ⟨c0, c1, c2, c3, c4, c5, c6⟩ := EX.out
        go_upto_region 4 with fail
        clear c0 c1 c2 c3 c4 c5 c6
        generalize (wr.alloc (.cells #[.int .i64 x.pos, .string (bt x.key), .string (bt x.field), .int .i64 x.kind, .string (bt x.elem), .int .i64 x.n, .slice da m dc] 35)) = wb at *
        obtain ⟨c0, c1, c2, c3, c4, c5, c6⟩ := EB.out.zero
        have yp := EP.out
        by_cases hr : y.pos < x.pos
        · have HXK := Lib.hid (HXP.out hr)
          have hr1 : ¬ x.pos ≤ y.pos := by omega
          clear hr
          go_quiet (fail)
          clear yp hr1
          have W4 := Lib.hid (below_drewN HB.out nq)
          have S4 := Lib.hid (SB.out.drawn nq)
          have E4 := Lib.hid (EB.out.below (below_drewN (Below.refl wb.heap.size wb) nq) EB.out.lt)
          clear c0 c1 c2 c3 c4 c5 c6
          generalize wb.drewN nq = w4 at *
          obtain ⟨c0, c1, c2, c3, c4, c5, c6⟩ := E4.out.zero
          have KF := eformed_any node seq x S4.out
          cases hf : eformedB node seq x with
          | false =>
            rw [hf] at KF
            obtain rfl : r = false := HNF.out hf
            clear hf
            go_wp2_with fail
            refine KF.mono ?_
            rintro e w5 ⟨rfl, hb⟩
            have G5 := Lib.hid (W4.out.trans (hb.mono W4.out.size))
            clear hb c0 c1 c2 c3 c4 c5 c6 KF
            go_wp2_with fail
            go_ret
            exact ⟨rfl, G5.out⟩
          | true =>
            rw [hf] at KF
            go_wp2_with fail
            refine KF.mono ?_
            rintro e w5 ⟨rfl, hb⟩
            have G5 := Lib.hid (W4.out.trans (hb.mono W4.out.size))
            have E5 := Lib.hid (E4.out.below hb E4.out.lt)
            have KU := KU0.out _ _ _ _ (S4.out.below hb)
            clear hb c0 c1 c2 c3 c4 c5 c6 KF
            obtain ⟨c0, c1, c2, c3, c4, c5, c6⟩ := E5.out.zero
            cases hu : x.drops.any (unmadeB node seq x.pos) with
            | true =>
              rw [hu] at KU
              obtain rfl : r = false := HNP.out hu
              clear hu hf
              go_wp2_with fail
              refine KU.mono ?_
              rintro e w6 ⟨rfl, hb⟩
              have G6 := Lib.hid (G5.out.trans (hb.mono G5.out.size))
              clear hb c0 c1 c2 c3 c4 c5 c6 KU
              go_wp2_with fail
              go_ret
              exact ⟨rfl, G6.out⟩
            | false =>
              rw [hu] at KU
              have HX := Lib.hid (HXK.out hf hu)
              clear hu hf
              go_wp2_with fail
              refine KU.mono ?_
              rintro e w6 ⟨rfl, hb⟩
              have G6 := Lib.hid (G5.out.trans (hb.mono G5.out.size))
              clear hb c0 c1 c2 c3 c4 c5 c6 KU
              go_wp2_with fail
              go_roundw
              case rel => exact ⟨p + 1 + 1, by omega, by go_num, HX.out, G6.out⟩
              case measure => simp [intOf]; omega
        · obtain rfl : r = false := HNR.out hr
          have hr1 : x.pos ≤ y.pos := by omega
          clear hr
          go_quiet (fail)
          go_wp2_with fail
          go_ret
          exact ⟨rfl, below_drewN HB.out _⟩
    · obtain rfl : k = n := by omega
      obtain rfl : r = true := HY.out HA.out
      go_wp2_with fail
      go_ret
      exact ⟨rfl, HB0.out⟩
end Go.Proofs.YthcpglbeiibniaaGreat
