/- What the program's own Right of texts leaves. -/
import Derived.Test.YtklgnmhbfdjoeaaZBeg
namespace Go.Proofs.Ytklgnmhbfdjoeaa
open Go.RowKit Plain
set_option linter.unusedVariables false

theorem right_yes {xs : List Txt} (hl : xs.length ≤ 8) (h : RightTo xs xs.length) : rightB xs = true := right_iff.2 (right_zone hl h)
theorem right_form {xs : List Txt} {k : Nat} (hk : k < xs.length) (h : prefixB (xs.getD k []) = false) : rightB xs = false := by
  cases e : rightB xs with
  | false => rfl
  | true =>
    have := (zone_right (right_iff.1 e)).2.1 k hk
    rw [h] at this
    exact absurd this (by decide)
theorem right_near {xs : List Txt} {k : Nat} (hk : k + 1 < xs.length) (h : ¬ xs.getD k [] < xs.getD (k + 1) [] ∨ beg (xs.getD (k + 1) []) (xs.getD k []) = true) : rightB xs = false := by
  cases e : rightB xs with
  | false => rfl
  | true =>
    have := (zone_right (right_iff.1 e)).2.2 (k + 1) (by omega) hk
    rw [Nat.add_sub_cancel] at this
    rcases h with h | h
    · exact absurd this.1 h
    · rw [h] at this
      exact absurd this.2 (by decide)
theorem right_long {xs : List Txt} (hl : ¬ xs.length ≤ 8) : rightB xs = false := by
  cases e : rightB xs with
  | false => rfl
  | true => exact absurd (zone_right (right_iff.1 e)).1 hl

set_option maxRecDepth 100000 in
set_option maxHeartbeats 4000000 in
/-- Right -/
theorem zright_any {v : Value} {xs : List Txt} {w : World} (hv : SeqT w v xs) (hn : xs.length ≤ 1000000) :
    Calls Try.prog 13 #[v] w fun e w' => e = .returned (.bool (rightB xs)) ∧ ∃ q, w' = w.drewN q := by
  obtain ⟨a, cap, rfl, g1, g2, g0, h⟩ := hv.parts
  have HS := Lib.hid h
  have HY := Lib.hid (right_yes (xs := xs))
  have HF := Lib.hid (fun k hk h => right_form (xs := xs) (k := k) hk h)
  have HN := Lib.hid (fun k hk h => right_near (xs := xs) (k := k) hk h)
  have HL := Lib.hid (right_long (xs := xs))
  have hm : maxLen = 9223372036854775807 := rfl
  rw [hm] at g2
  clear hv h g0 hm
  generalize rightB xs = r at *
  by_cases hl : xs.length ≤ 8
  · have hd : ((xs.length : Nat) : Int) ≤ 8 := by omega
    go_enter Try.func13, Try.ntmps13
    go_wp2_with fail
    go_loopw [3, 4, 10] (fun _ _ i wr => ∃ k : Nat, k ≤ xs.length ∧ i = .int .i64 k ∧ Aside (RightTo xs k) ∧ ∃ q, wr = w.drewN q) (fun _ _ i _ => xs.length - (intOf i).toNat)
    case atStart => exact ⟨0, Nat.zero_le _, rfl, rightTo_zero xs, 0, rfl⟩
    case round =>
      obtain ⟨k, hk, rfl, HR, q, rfl⟩ := hrel
      by_cases hlt : k < xs.length
      · obtain ⟨b, o, c, hv, -, -, -, hc⟩ := HS.out.spot (by omega)
        simp only [Value.slice.injEq] at hv
        obtain ⟨rfl, -, rfl⟩ := hv
        have c1 := hc k hlt
        unfold tv at c1
        have KP := Lib.hid (fun W => zprefix_any (xs.getD k []) W)
        cases hp : prefixB (xs.getD k []) with
        | false =>
          obtain rfl : r = false := HF.out k hlt hp
          rw [hp] at KP
          clear hc hp
          generalize bt (xs.getD k []) = X at *
          go_wp2_with fail
          refine (KP.out _).mono ?_
          rintro e w' ⟨rfl, rfl⟩
          go_wp2_with fail
          go_ret
          exact ⟨rfl, _, rfl⟩
        | true =>
          rw [hp] at KP
          by_cases h0 : 0 < k
          · obtain ⟨p, rfl⟩ : ∃ p, k = p + 1 := ⟨k - 1, by omega⟩
            have c2 := hc p (by omega)
            unfold tv at c2
            have KH := Lib.hid (fun W => hasPrefixL (xs.getD (p + 1) []) (xs.getD p []) W)
            have t1 := text_lt (xs.getD p []) (xs.getD (p + 1) [])
            have HNX := Lib.hid (fun h => rightTo_next HR.out hp (fun _ => by rw [Nat.add_sub_cancel]; exact h))
            have HNR := Lib.hid (HN.out p hlt)
            have q1 : (0 : Int) < (p : Int) + 1 := by omega
            have q2 : (0 : Int) < ((p + 1 : Nat) : Int) := by omega
            clear hc hp h0
            by_cases hlt2 : xs.getD p [] < xs.getD (p + 1) []
            · rw [decide_eq_true hlt2] at t1
              cases hb : beg (xs.getD (p + 1) []) (xs.getD p []) with
              | true =>
                obtain rfl : r = false := HNR.out (.inr hb)
                rw [hb] at KH
                clear hlt2 hb HNX HNR
                generalize bt (xs.getD p []) = Y at *
                generalize bt (xs.getD (p + 1) []) = X at *
                go_wp2_with fail
                refine (KP.out _).mono ?_
                rintro e w' ⟨rfl, rfl⟩
                go_wp2_with fail
                refine (KH.out _).mono ?_
                rintro e w2 ⟨rfl, rfl⟩
                go_wp2_with fail
                go_ret
                exact ⟨rfl, _, rfl⟩
              | false =>
                have HR2 : Hid (RightTo xs (p + 1 + 1)) := Lib.hid (HNX.out ⟨hlt2, hb⟩)
                rw [hb] at KH
                clear hlt2 hb HNX HNR
                generalize bt (xs.getD p []) = Y at *
                generalize bt (xs.getD (p + 1) []) = X at *
                go_wp2_with fail
                refine (KP.out _).mono ?_
                rintro e w' ⟨rfl, rfl⟩
                go_wp2_with fail
                refine (KH.out _).mono ?_
                rintro e w2 ⟨rfl, rfl⟩
                go_wp2_with fail
                go_roundw
                case rel => exact ⟨p + 1 + 1, by omega, by go_num, HR2.out, _, rfl⟩
                case measure => simp [intOf]; omega
            · rw [decide_eq_false hlt2] at t1
              obtain rfl : r = false := HNR.out (.inl hlt2)
              clear hlt2 HNX HNR KH
              generalize bt (xs.getD p []) = Y at *
              generalize bt (xs.getD (p + 1) []) = X at *
              go_wp2_with fail
              refine (KP.out _).mono ?_
              rintro e w' ⟨rfl, rfl⟩
              go_wp2_with fail
              go_ret
              exact ⟨rfl, _, rfl⟩
          · obtain rfl : k = 0 := by omega
            rw [Nat.add_zero] at c1
            have HR2 : Hid (RightTo xs (0 + 1)) := Lib.hid (rightTo_next HR.out hp (fun h => absurd h h0))
            clear hc hp h0
            generalize bt (xs.getD 0 []) = X at *
            go_wp2_with fail
            refine (KP.out _).mono ?_
            rintro e w' ⟨rfl, rfl⟩
            go_wp2_with fail
            go_roundw
            case rel => exact ⟨0 + 1, by omega, by go_num, HR2.out, _, rfl⟩
            case measure => simp [intOf]; omega
      · obtain rfl : k = xs.length := by omega
        obtain rfl : r = true := HY.out hl HR.out
        go_wp2_with fail
        go_ret
        exact ⟨rfl, _, rfl⟩
  · obtain rfl : r = false := HL.out hl
    have hd : ¬ ((xs.length : Nat) : Int) ≤ 8 := by omega
    have hd2 : (8 : Int) < ((xs.length : Nat) : Int) := by omega
    go_enter Try.func13, Try.ntmps13
    go_wp2_with fail
    go_ret
    exact ⟨rfl, 0, rfl⟩
end Go.Proofs.Ytklgnmhbfdjoeaa
