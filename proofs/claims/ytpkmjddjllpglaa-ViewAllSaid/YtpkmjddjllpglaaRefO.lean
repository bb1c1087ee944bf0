/- What the document's own Once of texts leaves (the walk). -/
import Derived.Test.YtpkmjddjllpglaaOnce
import Derived.Deep.LoopGhost
import Derived.BigQuiet
namespace Go.Proofs.Ytpkmjddjllpglaa
open Go.RowKit Plain
set_option linter.unusedVariables false

theorem gt_test (s t : Txt) : (!(Op.bytesLess (bt s).toList (bt t).toList || (bt s).toList == (bt t).toList)) = decide (t < s) := by
  rw [text_lt, text_eq]
  by_cases h : s < t
  · simp [h, lt_asymm h]
  · by_cases e : s = t
    · subst e; simp [lt_irrefl]
    · simp [h, e, lt_total h e]

set_option maxRecDepth 100000 in
set_option maxHeartbeats 8000000 in
/-- Once -/
theorem ronce_any {v : Value} {xs : List Txt} {w : World} (hv : SeqT w v xs) (hn : xs.length ≤ 1000000) :
    Calls Try.prog 21 #[v] w (MadeT w (once xs)) := by
  obtain ⟨a, cap, rfl, g1, g2, g0, h⟩ := hv.parts
  have HS := Lib.hid h
  have hm : maxLen = 9223372036854775807 := rfl
  rw [hm] at g2
  obtain ⟨n, hN⟩ : ∃ n, xs.length = n := ⟨_, rfl⟩
  rw [hN] at g1 hn ⊢
  have LN := Lib.hid hN
  clear hv h g0 hm hN
  go_enter Try.func21, Try.ntmps21
  go_wp2_with fail
  go_loopg [3, 4, 5, 6] n (fun gg o _ _ _ wr => ∃ out : List Txt, n - out.length ≤ gg ∧ OwnsT w.heap.size wr o out ∧ Below w.heap.size w wr ∧ Aside (Grows xs out))
  case atStart => exact ⟨[], by simp, OwnsT.nil _ _, Below.refl _ _, grows_nil xs⟩
  case round =>
    obtain ⟨out, hg, ho, hb, HG⟩ := hrel
    have HB := Lib.hid hb
    have ol := grows_len HG.out
    rw [LN.out] at ol
    obtain ⟨M, hM⟩ : ∃ M, out.length = M := ⟨_, rfl⟩
    obtain ⟨ao, co, rfl, o1, o2, ho'⟩ := ho.at M hM
    rw [hM] at hg ol
    have HO := Lib.hid ho'
    have HM := Lib.hid hM
    clear ho ho' hb hM
    go_wp2_with fail
    go_loopw [4, 5, 6] (fun b ok i wr' => ∃ (k : Nat) (bb : Txt) (oo : Bool), k ≤ n ∧ i = .int .i64 k ∧ b = .string (bt bb) ∧ ok = .bool oo ∧ Best xs out k oo bb ∧ ∃ q, wr' = wr.drewN q) (fun _ _ i _ => n - (intOf i).toNat)
    case atStart => exact ⟨0, [], false, Nat.zero_le _, rfl, rfl, rfl, best_zero xs out, 0, rfl⟩
    case round =>
      obtain ⟨k, bb, oo, hk, rfl, rfl, rfl, hbest, q, rfl⟩ := hrel
      have HBE := Lib.hid hbest
      clear hbest
      by_cases hlt : k < n
      · have hkl : k < xs.length := by rw [LN.out]; exact hlt
        obtain ⟨b, o, c, hv, -, -, -, hc⟩ := (HS.out.below HB.out).spot (by omega)
        rw [LN.out] at hv
        simp only [Value.slice.injEq] at hv
        obtain ⟨rfl, -, rfl⟩ := hv
        have c1 := hc k hkl
        unfold tv at c1
        clear hc
        have HK := Lib.hid hkl
        clear hkl
        have t3 := text_lt (xs.getD k []) bb
        by_cases he : M = 0
        · have hov : Over out (xs.getD k []) := by rw [List.eq_nil_of_length_eq_zero (HM.out.trans he)]; exact fun _ h => absurd h (by simp)
          have HOV := Lib.hid hov
          clear hov
          subst he
          obtain ⟨X, hX⟩ : ∃ X, bt (xs.getD k []) = X := ⟨_, rfl⟩
          have HX := Lib.hid hX
          obtain ⟨Y, hY⟩ : ∃ Y, bt bb = Y := ⟨_, rfl⟩
          have HY := Lib.hid hY
          rw [hX] at c1 t3
          rw [hY] at t3 ⊢
          clear hX hY
          cases oo with
          | false =>
            have HB2 := Lib.hid (best_take HBE.out HK.out HOV.out (fun h => absurd h (by decide)))
            go_wp2_with fail
            go_quiet (fail)
            go_wp2_with fail
            go_roundw
            case rel => exact ⟨k + 1, xs.getD k [], true, by omega, by go_num, by rw [HX.out], rfl, HB2.out, _, rfl⟩
            case measure => simp [intOf]; omega

          | true =>
            by_cases hl : xs.getD k [] < bb
            · have HB2 := Lib.hid (best_take HBE.out HK.out HOV.out (fun _ => hl))
              rw [decide_eq_true hl] at t3
              clear hl
              go_wp2_with fail
              go_quiet (fail)
              go_wp2_with fail
              go_roundw
              case rel => exact ⟨k + 1, xs.getD k [], true, by omega, by go_num, by rw [HX.out], rfl, HB2.out, _, rfl⟩
              case measure => simp [intOf]; omega

            · have HB2 := Lib.hid (best_skip HBE.out (fun _ => ⟨rfl, hl⟩))
              rw [decide_eq_false hl] at t3
              clear hl
              go_wp2_with fail
              go_quiet (fail)
              go_wp2_with fail
              go_roundw
              case rel => exact ⟨k + 1, bb, true, by omega, by go_num, by rw [HY.out], rfl, HB2.out, _, rfl⟩
              case measure => simp [intOf]; omega
        · obtain ⟨p, rfl⟩ : ∃ p, M = p + 1 := ⟨M - 1, by omega⟩
          obtain ⟨b2, p2, d2, hv2, -, -, -, hc2⟩ := HO.out.seq.spot (by rw [HM.out]; omega)
          rw [HM.out] at hv2
          simp only [Value.slice.injEq] at hv2
          obtain ⟨rfl, -, rfl⟩ := hv2
          have c2 := hc2 p (by rw [HM.out]; omega)
          unfold tv at c2
          have hlast : out.getLast? = some (out.getD p []) := by
            rw [List.getLast?_eq_getElem?, HM.out, Nat.add_sub_cancel]
            have : p < out.length := by rw [HM.out]; omega
            simp [List.getD, List.getElem?_eq_getElem this]
          have t2 := gt_test (xs.getD k []) (out.getD p [])
          have hOV := over_last HG.out.rising hlast (xs.getD k [])
          have HOVI := Lib.hid hOV
          have q2 : ((p : Int) + 1 == 0) = false := by simp; omega
          have q3 : (((p + 1 : Nat) : Int) == 0) = false := by simp; omega
          clear hc2 hlast hOV he
          obtain ⟨Z, hZ⟩ : ∃ Z, bt (out.getD p []) = Z := ⟨_, rfl⟩
          rw [hZ] at c2 t2
          clear hZ
          obtain ⟨X, hX⟩ : ∃ X, bt (xs.getD k []) = X := ⟨_, rfl⟩
          have HX := Lib.hid hX
          obtain ⟨Y, hY⟩ : ∃ Y, bt bb = Y := ⟨_, rfl⟩
          have HY := Lib.hid hY
          rw [hX] at c1 t2 t3
          rw [hY] at t3 ⊢
          clear hX hY
          by_cases hgt : out.getD p [] < xs.getD k []
          · have HOV := Lib.hid (HOVI.out.2 hgt)
            rw [decide_eq_true hgt] at t2
            clear hgt
            cases oo with
            | false =>
              have HB2 := Lib.hid (best_take HBE.out HK.out HOV.out (fun h => absurd h (by decide)))
              go_wp2_with fail
              go_quiet (fail)
              go_wp2_with fail
              go_roundw
              case rel => exact ⟨k + 1, xs.getD k [], true, by omega, by go_num, by rw [HX.out], rfl, HB2.out, _, rfl⟩
              case measure => simp [intOf]; omega

            | true =>
              by_cases hl : xs.getD k [] < bb
              · have HB2 := Lib.hid (best_take HBE.out HK.out HOV.out (fun _ => hl))
                rw [decide_eq_true hl] at t3
                clear hl
                go_wp2_with fail
                go_quiet (fail)
                go_wp2_with fail
                go_roundw
                case rel => exact ⟨k + 1, xs.getD k [], true, by omega, by go_num, by rw [HX.out], rfl, HB2.out, _, rfl⟩
                case measure => simp [intOf]; omega

              · have HB2 := Lib.hid (best_skip HBE.out (fun _ => ⟨rfl, hl⟩))
                rw [decide_eq_false hl] at t3
                clear hl
                go_wp2_with fail
                go_quiet (fail)
                go_wp2_with fail
                go_roundw
                case rel => exact ⟨k + 1, bb, true, by omega, by go_num, by rw [HY.out], rfl, HB2.out, _, rfl⟩
                case measure => simp [intOf]; omega
          · have HB2 := Lib.hid (best_skip HBE.out (fun h => absurd (HOVI.out.1 h) hgt))
            rw [decide_eq_false hgt] at t2
            clear hgt
            go_wp2_with fail
            go_quiet (fail)
            go_wp2_with fail
            go_roundw
            case rel => exact ⟨k + 1, bb, oo, by omega, by go_num, by rw [HY.out], rfl, HB2.out, _, rfl⟩
            case measure => simp [intOf]; omega
      · obtain rfl : k = n := by omega
        have HBE2 := Lib.hid (show Best xs out xs.length oo bb by rw [LN.out]; exact HBE.out)
        cases oo with
        | false =>
          have HE := Lib.hid (grows_end HG.out HBE2.out)
          have O2 := Lib.hid (show OwnsT w.heap.size (wr.drewN q) (.slice ao M co) (once xs) by rw [HE.out]; exact HO.out.below (below_drewN (Below.refl _ _) q) (Nat.le_refl _))
          have G2 := Lib.hid (below_drewN HB.out q)
          go_wp2_with fail
          go_ret
          exact ⟨_, rfl, O2.out, G2.out⟩
        | true =>
          have HG2 := grows_push HG.out HBE2.out
          have hl2 := grows_len HG2
          rw [LN.out, List.length_append, HM.out] at hl2
          simp only [List.length_cons, List.length_nil] at hl2
          have HGA : Aside (Grows xs (out ++ [bb])) := HG2
          have O1 := Lib.hid (HO.out.below (below_drewN (Below.refl _ _) q) (Nat.le_refl _))
          have G1 := Lib.hid (below_drewN HB.out q)
          have S1 := Lib.hid (show SeqT ((wr.drewN q).alloc (.cells #[.string (bt bb)] 9)) (.slice (some ⟨wr.heap.size, 0, none⟩) 1 1) [bb] from SeqT.one (wr.drewN q) bb)
          clear HG2
          go_wp2_with (at_builtin; refine wpList_append_texts rfl (.tmp 48) (.tmp 50) rfl w.heap.size rfl (O1.out.alloc _) rfl S1.out (by rw [HM.out]; simp; omega) (by have := HB.out.size; simp; omega) ?_)
          intro v' w1 ho' hgr _
          have O2 := Lib.hid ho'
          have G2 : Hid (Below w.heap.size w w1) := Lib.hid ((G1.out.alloc G1.out.size _).grown hgr (by have := HB.out.size; simp; omega) (fun j hj => (O1.out.lt j hj).1))
          have HL2 := Lib.hid (show (out ++ [bb]).length = M + 1 by rw [List.length_append, HM.out]; rfl)
          clear ho' hgr
          go_wp2_with fail
          go_roundg (k - (M + 1))
          case measure => omega
          case rel => exact ⟨out ++ [bb], by rw [HL2.out]; omega, O2.out, G2.out, HGA⟩
end Go.Proofs.Ytpkmjddjllpglaa
