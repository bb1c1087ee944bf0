/- What num.Add, num.Total and the document's own Add answer: the sum where it is one of 64 bits, else 0 and 5; for all integers of 64 bits, lists of at most 2^30. -/
import Derived.Test.YtpkmjddjllpglaaRows
import Derived.Test.YtpkmjddjllpglaaNmSum
import Derived.WalkKit
import Derived.Outline
import Derived.Lib.Hide
namespace Go.Proofs.Ytpkmjddjllpglaa.Nm
open Go.RowKit Plain
set_option linter.unusedVariables false

theorem ret2_int {k l : IntKind} {a b c d : Int} (h : a = b) (i : c = d) : Ending.returned (.tuple #[.int k a, .int l c]) = .returned (.tuple #[.int k b, .int l d]) := by rw [h, i]
theorem no (a : Int) (h : ¬ fits a) : sumV a = 0 ∧ sumE a = 5 := by simp [sumV, sumE, h]
theorem yes (a : Int) (h : fits a) : sumV a = a ∧ sumE a = 0 := by simp [sumV, sumE, h]
theorem tot_any (b off len cap : Nat) (zs : List Int) (w : World) (hz : len ≤ zs.length) (hbig : len ≤ 1073741824) (hwf : ∀ n ∈ zs, fits n) (hc : ∀ j, j < zs.length → w.cell? ⟨b, off + j, none⟩ = some (.int .i64 (zs.getD j 0))) :
    Calls Try.prog 22 #[.slice (some ⟨b, off, none⟩) len cap] w fun e w' => e = .returned (.tuple #[.int .i64 (sumV (tot (zs.take len))), .int .i64 (sumE (tot (zs.take len)))]) ∧ w = w' := by
  go_enter Try.func22, Try.ntmps22
  go_wp2
  go_loop [4, 5, 13] (fun u l i => ∃ k : Nat, k ≤ len ∧ i = .int .i64 k ∧ u = .int .i64 (ups (zs.take k)) ∧ l = .int .i64 (los (zs.take k))) (fun _ _ i => len - (intOf i).toNat)
  case atStart => exact ⟨0, Nat.zero_le _, rfl, rfl, rfl⟩
  case round =>
    obtain ⟨k, hk, rfl, rfl, rfl⟩ := hrel
    have b1 := ups_bd (zs.take k) (fun n hn => hwf n (List.mem_of_mem_take hn))
    have b2 := los_bd (zs.take k)
    have hl : (zs.take k).length = k := by rw [List.length_take]; omega
    rw [hl] at b1 b2
    have b3 : -2305843009213693952 ≤ ups (zs.take k) ∧ ups (zs.take k) ≤ 2305843009213693952 ∧ los (zs.take k) ≤ 4611686018427387904 ∧ 0 ≤ los (zs.take k) := by omega
    clear b1 b2 hl
    by_cases hlt : k < len
    · have hcell := hc k (by omega)
      have hx : fits (zs.getD k 0) := by
        have : k < zs.length := by omega
        have e : zs.getD k 0 = zs[k] := by simp [List.getD, List.getElem?_eq_getElem this]
        rw [e]; exact hwf _ (List.getElem_mem _)
      have e1 := ups_snoc zs k (by omega)
      have e2 := los_snoc zs k (by omega)
      have e3 := and_low (zs.getD k 0)
      generalize zs.getD k 0 = x at *
      generalize ups (zs.take k) = u at *
      generalize los (zs.take k) = l at *
      have hx1 : -9223372036854775808 ≤ x := hx.1
      have hx2 : x ≤ 9223372036854775807 := hx.2
      have hm1 : 0 ≤ x % 4294967296 := by omega
      have hm2 : x % 4294967296 < 4294967296 := by omega
      have E1 := Lib.hid e1
      have E2 := Lib.hid e2
      clear e1 e2 hx hc hwf
      go_wp2
      go_round
      case rel => exact ⟨k + 1, by omega, by go_num, by rw [E1.out], by rw [E2.out]⟩
      case measure => simp [intOf]; omega
    · obtain rfl : k = len := by omega
      have e := tot_halves (zs.take k)
      have E := Lib.hid e
      have e3 := and_low (los (zs.take k))
      generalize ups (zs.take k) = u at *
      generalize los (zs.take k) = l at *
      clear e hc hwf
      have hm1 : 0 ≤ l % 4294967296 := by omega
      have hm2 : l % 4294967296 < 4294967296 := by omega
      have hd1 : 0 ≤ l / 4294967296 := by omega
      have hd2 : l / 4294967296 ≤ 1073741824 := by omega
      by_cases hr : -2147483648 ≤ u + l / 4294967296 ∧ u + l / 4294967296 ≤ 2147483647
      · obtain ⟨hr1, hr2⟩ := hr
        have e4 := or_join (u + l / 4294967296) (l % 4294967296) hr1 hr2 hm1 hm2
        have F := Lib.hid (join_halves u l)
        have G := Lib.hid ((fits_halves u l).2 ⟨hr1, hr2⟩)
        go_wp2
        go_ret2
        exact ⟨ret2_int (by rw [E.out, F.out, (yes _ G.out).1]) (by rw [E.out, (yes _ G.out).2]), rfl⟩
      · have G := Lib.hid (fun h => hr ((fits_halves u l).1 h))
        by_cases hr1 : u + l / 4294967296 < -2147483648
        · go_wp2
          go_ret2
          exact ⟨ret2_int (by rw [E.out, (no _ G.out).1]) (by rw [E.out, (no _ G.out).2]), rfl⟩
        · have hr2 : 2147483647 < u + l / 4294967296 := by omega
          clear hr
          go_wp2
          go_ret2
          exact ⟨ret2_int (by rw [E.out, (no _ G.out).1]) (by rw [E.out, (no _ G.out).2]), rfl⟩

theorem tot_none (cap : Nat) (w : World) :
    Calls Try.prog 22 #[.slice none 0 cap] w fun e w' => e = .returned (.tuple #[.int .i64 0, .int .i64 0]) ∧ w = w' := by
  go_enter Try.func22, Try.ntmps22
  go_wp2
  go_loop [4, 5, 13] (fun u l i => i = .int .i64 0 ∧ u = .int .i64 0 ∧ l = .int .i64 0) (fun _ _ i => 0)
  case atStart => exact ⟨rfl, rfl, rfl⟩
  case round =>
    obtain ⟨rfl, rfl, rfl⟩ := hrel
    have e3 := and_low 0
    have e4 := or_join 0 0 (by omega) (by omega) (by omega) (by omega)
    simp only [Int.zero_mul, Int.zero_emod, Int.zero_add] at e3 e4
    go_wp2
    go_ret2
    exact ⟨rfl, rfl⟩

theorem refAdd_yes (a b : Int) (w : World) (ha : fits a) (hb : fits b) (h : fits (a + b)) :
    Calls Try.prog 31 #[.int .i64 a, .int .i64 b] w fun e w' => e = .returned (.tuple #[.int .i64 (a + b), .int .i64 0]) ∧ w = w' := by
  unfold fits at ha hb h
  obtain ⟨ha1, ha2⟩ := ha
  obtain ⟨hb1, hb2⟩ := hb
  obtain ⟨h1, h2⟩ := h
  by_cases hp : 0 < b
  · have hq : ¬ 9223372036854775807 - b < a := by omega
    go_enter Try.func31, Try.ntmps31
    go_wp2
    go_ret2
    exact ⟨rfl, rfl⟩
  · by_cases hn : b < 0
    · have hq : ¬ a < -9223372036854775808 - b := by omega
      go_enter Try.func31, Try.ntmps31
      go_wp2
      go_ret2
      exact ⟨rfl, rfl⟩
    · go_enter Try.func31, Try.ntmps31
      go_wp2
      go_ret2
      exact ⟨rfl, rfl⟩
theorem refAdd_no (a b : Int) (w : World) (ha : fits a) (hb : fits b) (h : ¬ fits (a + b)) :
    Calls Try.prog 31 #[.int .i64 a, .int .i64 b] w fun e w' => e = .returned (.tuple #[.int .i64 0, .int .i64 5]) ∧ w = w' := by
  unfold fits at ha hb h
  obtain ⟨ha1, ha2⟩ := ha
  obtain ⟨hb1, hb2⟩ := hb
  by_cases hp : 0 < b
  · have hq : 9223372036854775807 - b < a := by omega
    go_enter Try.func31, Try.ntmps31
    go_wp2
    go_ret2
    exact ⟨rfl, rfl⟩
  · have hn : b < 0 := by omega
    have hq : a < -9223372036854775808 - b := by omega
    go_enter Try.func31, Try.ntmps31
    go_wp2
    go_ret2
    exact ⟨rfl, rfl⟩
theorem refAdd_any (a b : Int) (w : World) (ha : fits a) (hb : fits b) :
    Calls Try.prog 31 #[.int .i64 a, .int .i64 b] w fun e w' => e = .returned (.tuple #[.int .i64 (sumV (a + b)), .int .i64 (sumE (a + b))]) ∧ w = w' := by
  by_cases h : fits (a + b)
  · rw [(yes _ h).1, (yes _ h).2]; exact refAdd_yes a b w ha hb h
  · rw [(no _ h).1, (no _ h).2]; exact refAdd_no a b w ha hb h
end Go.Proofs.Ytpkmjddjllpglaa.Nm
