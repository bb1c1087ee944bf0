/- What the program's own functions of package bin leave: PutInt, Int. -/
import Derived.Test.YtehlbddcgnclaaaDoorConcat
import Derived.Test.YtehlbddcgnclaaaDoorClone
import Derived.Test.YtehlbddcgnclaaaDoorMore
import Derived.Deep.RegionWith
import Derived.OwnWalk
namespace Go.Proofs.YtehlbddcgnclaaaDoor
open Go.RowKit Plain
set_option linter.unusedVariables false

/-- what a reader answers: a number or a text, what stands behind it (a slice of the call's own), no error -/
def ReadT (n : Value) (w : World) (ys : Bytes) (e : Ending) (w' : World) : Prop := ∃ v, e = .returned (.tuple #[n, v, .int .i64 0]) ∧ Owns w.heap.size w' v ys ∧ Below w.heap.size w w'

/-- the eight bytes, of which the first k are laid -/
def part (n : Int) (k : Nat) : Bytes := (iform n).take k ++ List.replicate (8 - k) 0#8
theorem part_len (n : Int) (k : Nat) (h : k ≤ 8) : (part n k).length = 8 := by unfold part; rw [List.length_append, List.length_take, List.length_replicate, iform_len]; omega
theorem part_next (n : Int) : ∀ k, k < 8 → (part n k).set k (low n k) = part n (k + 1)
  | 0, _ => rfl
  | 1, _ => rfl
  | 2, _ => rfl
  | 3, _ => rfl
  | 4, _ => rfl
  | 5, _ => rfl
  | 6, _ => rfl
  | 7, _ => rfl
  | k + 8, h => absurd h (by omega)
theorem shr_low (n : Int) (k : Nat) (hk : k < 8) : (n / 2 ^ (8 * k)) % 256 = ((low n k).toNat : Int) := by
  unfold low
  rw [by8_toNat _ (Nat.mod_lt _ (by omega))]
  match k, hk with
  | 0, _ => simp; omega
  | 1, _ => simp; omega
  | 2, _ => simp; omega
  | 3, _ => simp; omega
  | 4, _ => simp; omega
  | 5, _ => simp; omega
  | 6, _ => simp; omega
  | 7, _ => simp; omega

set_option maxRecDepth 100000 in
set_option maxHeartbeats 1000000 in
theorem putInt_any {v : Value} {xs : Bytes} {w : World} (hs : Seq w v xs) (hlen : xs.length ≤ 900000000) (n : Int) (h1 : -9223372036854775808 ≤ n) (h2 : n ≤ 9223372036854775807) :
    Calls Tryd.prog 37 #[v, .int .i64 n] w (Made w (xs ++ iform n)) := by
  have S0 := Lib.hid hs
  obtain ⟨a, cap, rfl, g1, g2, g0, -⟩ := hs.parts
  have hO : (w.alloc (.cells #[.int .u8 0, .int .u8 0, .int .u8 0, .int .u8 0, .int .u8 0, .int .u8 0, .int .u8 0, .int .u8 0] 70)).ownsRow w.heap.size 70 1 (.slice (some ⟨w.heap.size, 0, none⟩) 8 8) 8 ((part n 0).map bv) :=
    World.ownsRow_lit w _ 8 (Nat.le_refl _) (by unfold maxLen; omega) rfl
  have hB : Below w.heap.size w (w.alloc (.cells #[.int .u8 0, .int .u8 0, .int .u8 0, .int .u8 0, .int .u8 0, .int .u8 0, .int .u8 0, .int .u8 0] 70)) := (Below.refl _ _).alloc (Nat.le_refl _) _
  have O0 := Lib.hid hO
  have B0 := Lib.hid hB
  clear hs g0 hO hB
  go_enter Tryd.func37, Tryd.ntmps37
  go_wp2_with fail
  go_loopw [7] (fun i wr => ∃ k : Nat, k ≤ 8 ∧ i = .int .i64 k ∧ wr.ownsRow w.heap.size 70 1 (.slice (some ⟨w.heap.size, 0, none⟩) 8 8) 8 ((part n k).map bv) ∧ Below w.heap.size w wr) (fun i _ => 8 - (intOf i).toNat)
  case atStart => exact ⟨0, by omega, rfl, O0.out, B0.out⟩
  case round =>
    obtain ⟨k, hk, rfl, ho, hb⟩ := hrel
    by_cases hlt : k < 8
    · have hc := ho.cellAt k (by omega)
      have hc' : wr.cell? ⟨w.heap.size, k, none⟩ = some (bv ((part n k).getD k 0#8)) := by rw [hc, getD_map _ _ (by rw [part_len n k hk]; exact hlt)]
      have hf := ho.frozenAt k
      have hst := ho.stored k (bv (low n k))
      have hst2 : (wr.setCell ⟨w.heap.size, k, none⟩ (bv (low n k))).ownsRow w.heap.size 70 1 (.slice (some ⟨w.heap.size, 0, none⟩) 8 8) 8 ((part n (k + 1)).map bv) := by
        rw [← part_next n k hlt, List.map_set]; exact hst.1
      have hb2 : Below w.heap.size w (wr.setCell ⟨w.heap.size, k, none⟩ (bv (low n k))) := hb.setCell (Nat.le_refl _) _
      have O2 := Lib.hid hst2
      have B2 := Lib.hid hb2
      have hq := shr_low n k hlt
      generalize (part n k).getD k 0#8 = x at *
      unfold bv at hc'
      generalize low n k = y at *
      have hy := y.isLt
      have HQ := Lib.hid hq
      clear hc hst hst2 hb2 ho hb hq
      go_wp2_with fail
      rw [HQ.out]
      exact ⟨⟨k + 1, by omega, by go_num, O2.out, B2.out⟩, by simp [intOf]; omega⟩
    · obtain rfl : k = 8 := by omega
      have hq : Seq wr (.slice (some ⟨w.heap.size, 0, none⟩) 8 8) (iform n) := seq_of_row (by rw [show iform n = part n 8 from rfl]; exact ho) rfl
      have HQ := Lib.hid hq
      have HB := Lib.hid hb
      clear hq ho hb
      have hl8 := iform_len n
      generalize iform n = z at *
      have HL := Lib.hid hl8
      clear hl8
      go_wp2_with fail
      refine (concat_two _ _ _ (cell_of_row _ _ 0 _ 22 (0, 0) (heap_alloc_new wr _)) (cell_of_row _ _ 1 _ 22 (0, 0) (heap_alloc_new wr _)) ((S0.out.below HB.out).below_alloc _) (HQ.out.below_alloc _) (by rw [HL.out]; omega)).mono ?_
      rintro e w2 ⟨v2, rfl, ho2, hb2⟩
      have hbe : Below w.heap.size w w2 := (HB.out.alloc HB.out.size _).trans (hb2.mono (by have := HB.out.size; simp; omega))
      have O2 := Lib.hid (ho2.mono (by have := HB.out.size; simp; omega : w.heap.size ≤ _))
      clear ho2 hb2
      go_wp2_with fail
      go_ret
      exact ⟨_, rfl, O2.out, hbe⟩

theorem sgn_small (a : Nat) (h : a < 9223372036854775808) : sgn a = (a : Int) := by unfold sgn; rw [if_pos h]
theorem pow256 (k : Nat) (h : k < 8) : 256 ^ k ≤ 72057594037927936 := by
  have h1 : 256 ^ k ≤ 256 ^ 7 := Nat.pow_le_pow_right (by omega) (by omega)
  have e : 256 ^ 7 = 72057594037927936 := by decide +kernel
  omega
theorem i64_or_top (a y : Nat) (ha : a < 18446744073709551616) (hy : y < 18446744073709551616) : bits .or .i64 (a : Int) (wrap64 (y : Int)) = IntKind.i64.wrap ((a ||| y : Nat) : Int) := by
  show IntKind.i64.wrap ((BitVec.ofInt 64 (a : Int) ||| BitVec.ofInt 64 (wrap64 (y : Int))).toNat : Int) = _
  have e1 : (BitVec.ofInt 64 (a : Int)).toNat = a := by rw [BitVec.toNat_ofInt]; omega
  have e2 : (BitVec.ofInt 64 (wrap64 (y : Int))).toNat = y := by rw [BitVec.toNat_ofInt]; unfold wrap64; omega
  rw [BitVec.toNat_or, e1, e2]
theorem wrap_sgn (u : Nat) (h : u < 18446744073709551616) : IntKind.i64.wrap (u : Int) = sgn u := by
  rw [IntKind.wrap_i64]
  unfold sgn
  split <;> omega
theorem or_sgn (a k x : Nat) (hk : k < 8) (ha : a < 256 ^ k) (hx : x < 256) : bits .or .i64 (a : Int) (wrap64 ((x : Int) * 2 ^ (8 * k))) = sgn (a + x * 256 ^ k) := by
  have h1 := pow256 k hk
  have h2 : x * 256 ^ k ≤ 255 * 72057594037927936 := Nat.mul_le_mul (by omega) h1
  have e : ((x : Int) * 2 ^ (8 * k)) = ((x * 256 ^ k : Nat) : Int) := by
    rw [Int.natCast_mul, Int.natCast_pow, Int.pow_mul]
    rfl
  have e2 : 256 ^ k = 2 ^ (8 * k) := by rw [Nat.pow_mul]
  rw [e]
  have hj : (x * 256 ^ k) ||| a = x * 256 ^ k + a := nat_join (8 * k) _ _ (by rw [e2]; exact Nat.mul_mod_left _ _) (by rw [← e2]; exact ha)
  rw [i64_or_top a _ (by omega) (by omega), Nat.or_comm, hj, Nat.add_comm, wrap_sgn _ (by omega)]

set_option maxRecDepth 100000 in
set_option maxHeartbeats 2000000 in
theorem int_ok {v : Value} {xs : Bytes} {w : World} (hs : Seq w v xs) (hlen : xs.length ≤ 1000000000) (h8 : 8 ≤ xs.length) :
    Calls Tryd.prog 42 #[v] w (ReadT (.int .i64 (sgn (ival (xs.take 8)))) w (xs.drop 8)) := by
  obtain ⟨b, o, cap, rfl, g1, g2, hs, hc⟩ := hs.spot (by omega)
  have hf := hs.from 8 h8
  have KC := Lib.hid (clone_some hf (by rw [List.length_drop]; omega))
  have HC := Lib.hid hc
  have hD : ∀ k, k < xs.length → ival (xs.take (k + 1)) = ival (xs.take k) + (xs.getD k 0#8).toNat * 256 ^ k := fun k hk => by
    rw [List.take_succ_eq_append_getElem hk, ival_snoc, List.length_take, Nat.min_eq_left (by omega)]
    simp [List.getD, hk]
  have hI : ∀ k, k ≤ xs.length → ival (xs.take k) < 256 ^ k := fun k hk => by
    have := ival_lt (xs.take k)
    rw [List.length_take, Nat.min_eq_left hk] at this
    exact this
  have HD := Lib.hid hD
  have HI := Lib.hid hI
  have hm : maxLen = 9223372036854775807 := rfl
  rw [hm] at g2
  generalize List.drop 8 xs = ys at *
  generalize hL : xs.length = len at *
  have hlc : (len : Int) ≤ cap := by omega
  have h8i : (8 : Int) ≤ len := by omega
  have h8c : (8 : Int) ≤ cap := by omega
  clear hs hf hm hL hc hD hI
  go_enter Tryd.func42, Tryd.ntmps42
  go_wp2_with fail
  go_loop [5, 14] (fun n i => ∃ k : Nat, k ≤ 8 ∧ i = .int .i64 k ∧ n = .int .i64 (sgn (ival (xs.take k)))) (fun _ i => 8 - (intOf i).toNat)
  case atStart => exact ⟨0, by omega, rfl, rfl⟩
  case round =>
    obtain ⟨k, hk, rfl, rfl⟩ := hrel
    by_cases hlt : k < 8
    · have hcell := HC.out k (by omega)
      unfold bv at hcell
      have hd := HD.out k (by omega)
      have hi := HI.out k (by omega)
      have h1 := pow256 k hlt
      rw [sgn_small (ival (xs.take k)) (by omega)]
      have e := or_sgn (ival (xs.take k)) k (xs.getD k 0#8).toNat hlt hi (xs.getD k 0#8).isLt
      rw [← hd] at e
      have E := Lib.hid e
      generalize ival (xs.take k) = a at *
      generalize xs.getD k 0#8 = x at *
      have hx := x.isLt
      clear hd hi e h1
      go_wp2_with fail
      go_round
      case rel => exact ⟨k + 1, by omega, by go_num, by rw [E.out]⟩
      case measure => simp [intOf]; omega
    · obtain rfl : k = 8 := by omega
      by_cases hcs : cap = 8
      · subst hcs
        obtain rfl : len = 8 := by omega
        rw [if_pos rfl] at KC
        simp only [Nat.sub_self] at KC
        go_wp2_with fail
        refine KC.out.mono ?_
        rintro e w1 ⟨v1, rfl, ho1, hb1⟩
        have O1 := Lib.hid ho1
        clear ho1
        go_wp2_with fail
        go_ret3
        exact ⟨_, rfl, O1.out, hb1⟩
      · rw [if_neg hcs] at KC
        go_wp2_with fail
        refine KC.out.mono ?_
        rintro e w1 ⟨v1, rfl, ho1, hb1⟩
        have O1 := Lib.hid ho1
        clear ho1
        go_wp2_with fail
        go_ret3
        exact ⟨_, rfl, O1.out, hb1⟩
end Go.Proofs.YtehlbddcgnclaaaDoor
