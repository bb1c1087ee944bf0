/- crc.More and crc.Sum over slices that read as a list of bytes (the words are XWords'). -/
import Derived.Test.YtehlbddcgnclaaaDoorFour
namespace Go.Proofs.YtehlbddcgnclaaaDoor
open Go.RowKit Plain
set_option linter.unusedVariables false

theorem not_u32 (s : BitVec 32) : bits .xor .u32 IntKind.u32.max (s.toNat : Int) = ((~~~ s).toNat : Int) := by
  have h := u32_xor_nat 4294967295 s.toNat (by omega) s.isLt
  have e : (~~~ s).toNat = 4294967295 ^^^ s.toNat := by
    rw [← BitVec.allOnes_xor, BitVec.toNat_xor]
    rfl
  rw [e]
  exact h
theorem xor_u32 (r s : BitVec 32) : bits .xor .u32 (r.toNat : Int) (s.toNat : Int) = ((r ^^^ s).toNat : Int) := by
  rw [u32_xor_nat _ _ r.isLt s.isLt, BitVec.toNat_xor]
theorem xor_byte (r : BitVec 32) (c : BitVec 8) : bits .xor .u32 (r.toNat : Int) (c.toNat : Int) = ((r ^^^ wide c).toNat : Int) := by
  rw [← wide_toNat]; exact xor_u32 r (wide c)

theorem more_some (b off len cap : Nat) (xs : Bytes) (s : BitVec 32) (w : World) (hT : HasTab w) (hlen : xs.length = len) (hbig : len ≤ 9223372036854775807) (hc : ∀ j, j < xs.length → w.cell? ⟨b, off + j, none⟩ = some (bv (xs.getD j 0#8))) :
    Calls Tryd.prog 38 #[.int .u32 s.toNat, .slice (some ⟨b, off, none⟩) len cap] w fun e w' => e = .returned (.int .u32 (more s xs).toNat) ∧ w = w' := by
  have HL := Lib.hid hlen
  have HC := Lib.hid hc
  have e0 := not_u32 s
  have hs := s.isLt
  have E : Hid (more s xs = ~~~ feed (~~~ s) xs) := Lib.hid rfl
  generalize more s xs = z at *
  have H0 : Hid (feed (~~~ s) [] = ~~~ s) := Lib.hid rfl
  generalize (~~~ s) = t at *
  clear hlen hc
  go_enter Tryd.func38, Tryd.ntmps38
  go_wp2_with fail
  clear e0 hs
  go_loop [5, 12] (fun r i => ∃ k : Nat, k ≤ len ∧ i = .int .i64 k ∧ r = .int .u32 (feed t (xs.take k)).toNat) (fun _ i => len - (intOf i).toNat)
  case atStart => exact ⟨0, Nat.zero_le _, rfl, rfl⟩
  case round =>
    obtain ⟨k, hk, rfl, rfl⟩ := hrel
    by_cases hlt : k < len
    · have hcell := HC.out k (by rw [HL.out]; exact hlt)
      unfold bv at hcell
      have FS := Lib.hid (feed_snoc t xs k (by rw [HL.out]; exact hlt))
      generalize feed t (xs.take k) = r at *
      generalize xs.getD k 0#8 = c at *
      have hr := r.isLt
      have hcc := c.isLt
      have e1 := xor_byte r c
      have K1 := Lib.hid (fun u h => four_any (r ^^^ wide c) u h)
      have K2 := Lib.hid (fun u h => four_any (s4 (r ^^^ wide c)) u h)
      have G := Lib.hid hT
      clear HC HL
      have FE : Hid (stepB r c = s4 (s4 (r ^^^ wide c))) := Lib.hid rfl
      generalize (r ^^^ wide c) = r1 at *
      clear hT
      go_wp2_with fail
      refine (K1.out _ G.out).mono ?_
      rintro e u ⟨rfl, rfl⟩
      go_wp2_with fail
      refine (K2.out _ G.out).mono ?_
      rintro e u ⟨rfl, rfl⟩
      go_wp2_with fail
      go_round
      case rel => exact ⟨k + 1, by omega, by go_num, by rw [FS.out, FE.out]⟩
      case measure => simp [intOf]; omega
    · obtain rfl : k = len := by omega
      have ht : xs.take k = xs := List.take_of_length_le (by rw [HL.out]; omega)
      rw [ht]
      have e1 := not_u32 (feed t xs)
      clear ht HC HL
      generalize feed t xs = r at *
      generalize (~~~ r) = q at *
      have hr := r.isLt
      go_wp2_with fail
      go_ret
      exact ⟨ret_int (by rw [E.out]), rfl⟩

theorem more_zero (a : Option Addr) (cap : Nat) (s : BitVec 32) (w : World) :
    Calls Tryd.prog 38 #[.int .u32 s.toNat, .slice a 0 cap] w fun e w' => e = .returned (.int .u32 s.toNat) ∧ w = w' := by
  have e0 := not_u32 s
  have hs := s.isLt
  have E : Hid (~~~ (~~~ s) = s) := Lib.hid (BitVec.not_not ..)
  generalize (~~~ s) = t at *
  go_enter Tryd.func38, Tryd.ntmps38
  go_wp2_with fail
  clear e0 hs
  go_loop [5, 12] (fun r i => i = .int .i64 0 ∧ r = .int .u32 t.toNat) (fun _ _ => 0)
  case atStart => exact ⟨rfl, rfl⟩
  case round =>
    obtain ⟨rfl, rfl⟩ := hrel
    have e1 := not_u32 t
    generalize (~~~ t) = q at *
    have ht := t.isLt
    go_wp2_with fail
    go_ret
    exact ⟨ret_int (by rw [E.out]), rfl⟩

/-- crc.More over a slice that reads as xs -/
theorem more_seq {w : World} {v : Value} {xs : Bytes} (h : Seq w v xs) (hT : HasTab w) (s : BitVec 32) :
    Calls Tryd.prog 38 #[.int .u32 s.toNat, v] w fun e w' => e = .returned (.int .u32 (more s xs).toNat) ∧ w = w' := by
  obtain ⟨a, cap, rfl, h1, h2, h0, h3⟩ := h
  by_cases hp : 0 < xs.length
  · obtain ⟨b, off, rfl, hc⟩ := h3 hp
    exact more_some b off xs.length cap xs s w hT rfl (by unfold maxLen at h2; omega) hc
  · obtain rfl : xs = [] := List.eq_nil_of_length_eq_zero (by omega)
    rw [more_nil]
    exact more_zero a cap s w

/-- crc.Sum over a slice that reads as xs -/
theorem sum_seq {w : World} {v : Value} {xs : Bytes} (h : Seq w v xs) (hT : HasTab w) :
    Calls Tryd.prog 39 #[v] w fun e w' => e = .returned (.int .u32 (sum xs).toNat) ∧ w = w' := by
  have K := Lib.hid (more_seq h hT 0#32)
  obtain ⟨a, cap, rfl, h1, h2, h0, h3⟩ := h
  have E : Hid (sum xs = more 0#32 xs) := Lib.hid rfl
  have Z : Hid ((0#32).toNat = 0) := Lib.hid rfl
  generalize sum xs = z at *
  generalize more 0#32 xs = y at *
  generalize (0#32).toNat = o at *
  have K2 := K.out
  rw [Z.out] at K2
  have K3 := Lib.hid K2
  clear K2 K h3 hT
  go_enter Tryd.func39, Tryd.ntmps39
  go_wp2_with fail
  refine K3.out.mono ?_
  rintro e u ⟨rfl, rfl⟩
  go_wp2_with fail
  go_ret
  exact ⟨ret_int (by rw [E.out]), rfl⟩

theorem HasTab.below {w w' : World} (h : HasTab w) (hb : Below w.heap.size w w') : HasTab w' := fun i hi => by
  have hlt : 0 < w.heap.size := World.block_lt_of_cell? w ⟨0, i, none⟩ (h i hi)
  exact (hb.cell (p := ⟨0, i, none⟩) hlt).trans (h i hi)
end Go.Proofs.YtehlbddcgnclaaaDoor
