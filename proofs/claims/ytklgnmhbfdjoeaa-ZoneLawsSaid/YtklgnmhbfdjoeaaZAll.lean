/- What the program's own coversAll of heads leaves. -/
import Derived.Test.YtklgnmhbfdjoeaaZHeads
import Derived.Laws.BytesArg
namespace Go.Proofs.Ytklgnmhbfdjoeaa
open Go.RowKit Plain
set_option linter.unusedVariables false

/-- a text of one byte, out of a slice of one -/
theorem one_run (k : Nat) (W : World) : (convert 43 9 (.slice (some ⟨W.heap.size, 0, none⟩) 1 1)).run Try.prog (W.alloc (.cells #[.int .u8 (k : Int)] 5)) = .ok (.string (bt [UInt8.ofNat k])) (W.alloc (.cells #[.int .u8 (k : Int)] 5)) := by
  have e : bt [UInt8.ofNat k] = strOfNums [(k : Int)] := by
    unfold strOfNums bt
    simp
  rw [e]
  refine run_convert_bytes_arg _ 43 5 Try.underlying43 Try.underlying5 W.heap.size 0 1 1 [(k : Int)] rfl (fun i hi => ?_) 9 Try.underlying9
  obtain rfl : i = 0 := by omega
  simp
theorem ofNat_toNat8 {k : Nat} (h : k < 256) : (UInt8.ofNat k).toNat = k := by
  rw [UInt8.toNat_ofNat']
  exact Nat.mod_eq_of_lt h

set_option maxRecDepth 100000 in
set_option maxHeartbeats 2000000 in
/-- coversAll -/
theorem zall_any {v : Value} {zs : List Txt} {w : World} (hv : SeqT w v zs) (hr : Rising zs) (ha : Apart1 zs) (hn : zs.length ≤ 1000000) :
    Calls Try.prog 29 #[v] w fun e w' => e = .returned (.bool (allB zs)) ∧ Below w.heap.size w w' := by
  obtain ⟨a, cap, rfl, g1, g2, g0, h⟩ := hv.parts
  have KB := Lib.hid (fun (W : World) (hb : Below w.heap.size w W) (s : Txt) => zbegins_any (h.below hb) hr ha hn s)
  have HT := Lib.hid (allB_true (z := zs))
  have HF := Lib.hid (fun b hb h g => allB_false (z := zs) b hb h g)
  clear hv h g0 g1 g2 hr ha
  generalize allB zs = r at *
  go_enter Try.func29, Try.ntmps29
  go_wp2_with fail
  go_loopw [3, 4] (fun _ i wr => ∃ k : Nat, k ≤ 256 ∧ i = .int .i64 k ∧ Aside (allTo zs k) ∧ Below w.heap.size w wr) (fun _ i _ => 256 - (intOf i).toNat)
  case atStart => exact ⟨0, Nat.zero_le _, rfl, (fun b hb => absurd hb (Nat.not_lt_zero _)), Below.refl _ _⟩
  case round =>
    obtain ⟨k, hk, rfl, HA, hb⟩ := hrel
    have HB := Lib.hid hb
    clear hb
    by_cases hlt : k < 256
    · have hlz : (k : Int) < 256 := by omega
      have hc := ofNat_toNat8 hlt
      have K := zletter_any (UInt8.ofNat k) wr
      rw [hc] at K
      have HNX : Hid ((okByte (UInt8.ofNat k) = true → covers zs [UInt8.ofNat k] = true) → allTo zs (k + 1)) := Lib.hid (fun h b hb => by
        by_cases e : b = k
        · rw [e]; exact h
        · exact HA.out b (by omega))
      have HFK := Lib.hid (HF.out k hlt)
      have C1 := Lib.hid (one_run k)
      have KB1 := Lib.hid (fun (W : World) (hb : Below w.heap.size w W) => KB.out W hb [UInt8.ofNat k])
      have hw8 : IntKind.u8.wrap (k : Int) = (k : Int) := by simp [IntKind.wrap, IntKind.bits, IntKind.signed]; omega
      cases hl : okByte (UInt8.ofNat k) with
      | false =>
        have HA2 : Hid (allTo zs (k + 1)) := Lib.hid (HNX.out (fun h => by rw [hl] at h; exact absurd h (by decide)))
        rw [hl] at K
        clear hl HNX HFK C1 KB1 hc
        go_wp2_with fail
        refine K.mono ?_
        rintro e w' ⟨rfl, rfl⟩
        go_wp2_with fail
        go_roundw
        case rel => exact ⟨k + 1, by omega, by go_num, HA2.out, HB.out⟩
        case measure => simp [intOf]; omega
      | true =>
        rw [hl] at K HFK HNX
        have c1 := C1.out wr
        have K2 := KB1.out _ (HB.out.alloc HB.out.size (.cells #[.int .u8 (k : Int)] 5))
        have G1 := Lib.hid (HB.out.alloc HB.out.size (.cells #[.int .u8 (k : Int)] 5))
        cases hcv : covers zs [UInt8.ofNat k] with
        | true =>
          have HA2 : Hid (allTo zs (k + 1)) := Lib.hid (HNX.out (fun _ => hcv))
          rw [hcv] at K2
          clear hl HNX HFK KB1 hc hcv
          generalize bt [UInt8.ofNat k] = X at *
          go_wp2_with fail
          refine K.mono ?_
          rintro e w' ⟨rfl, rfl⟩
          go_wp2_with fail
          refine K2.mono ?_
          rintro e w' ⟨rfl, q, rfl⟩
          have G2 := Lib.hid (below_drewN G1.out q)
          go_wp2_with fail
          go_roundw
          case rel => exact ⟨k + 1, by omega, by go_num, HA2.out, G2.out⟩
          case measure => simp [intOf]; omega
        | false =>
          obtain rfl : r = false := HFK.out rfl hcv
          rw [hcv] at K2
          clear hl HNX HFK KB1 hc hcv
          generalize bt [UInt8.ofNat k] = X at *
          go_wp2_with fail
          refine K.mono ?_
          rintro e w' ⟨rfl, rfl⟩
          go_wp2_with fail
          refine K2.mono ?_
          rintro e w' ⟨rfl, q, rfl⟩
          have G2 := Lib.hid (below_drewN G1.out q)
          go_wp2_with fail
          go_ret
          exact ⟨rfl, G2.out⟩
    · obtain rfl : k = 256 := by omega
      obtain rfl : r = true := HT.out HA.out
      go_wp2_with fail
      go_ret
      exact ⟨rfl, HB.out⟩
end Go.Proofs.Ytklgnmhbfdjoeaa
