/- What the program's own functions of package bin leave: Int, PutText, Text. -/
import Derived.Test.YtbfhhlbnhcngfaaBin2
import Derived.Deep.RegionWith
import Derived.Deep.RegionHeld3
namespace Go.Proofs.Ytbfhhlbnhcngfaa
open Go.RowKit Plain
set_option linter.unusedVariables false

theorem sgn_small (a : Nat) (h : a < 9223372036854775808) : sgn a = (a : Int) := by unfold sgn; rw [if_pos h]
theorem pow256 (k : Nat) (h : k < 8) : 256 ^ k ≤ 72057594037927936 := by
  have h1 : 256 ^ k ≤ 256 ^ 7 := Nat.pow_le_pow_right (by omega) (by omega)
  have e : 256 ^ 7 = 72057594037927936 := by decide +kernel
  omega
theorem i64_or_top (a y : Nat) (ha : a < 18446744073709551616) (hy : y < 18446744073709551616) : bits .or .i64 (a : Int) (wrap64 (y : Int)) = IntKind.i64.wrap ((a ||| y : Nat) : Int) := by
  show IntKind.i64.wrap ((BitVec.ofInt 64 (a : Int) ||| BitVec.ofInt 64 (wrap64 (y : Int))).toNat : Int) = _
  have e1 : (BitVec.ofInt 64 (a : Int)).toNat = a := by rw [BitVec.toNat_ofInt]; omega
  have e2 : (BitVec.ofInt 64 (wrap64 (y : Int))).toNat = y := by rw [BitVec.toNat_ofInt]; unfold wrap64; omega
  rw [BitVec.toNat_or, e1, e2]
theorem wrap_sgn (u : Nat) (h : u < 18446744073709551616) : IntKind.i64.wrap (u : Int) = sgn u := by
  rw [IntKind.wrap_i64]
  unfold sgn
  split <;> omega
theorem or_sgn (a k x : Nat) (hk : k < 8) (ha : a < 256 ^ k) (hx : x < 256) : bits .or .i64 (a : Int) (wrap64 ((x : Int) * 2 ^ (8 * k))) = sgn (a + x * 256 ^ k) := by
  have h1 := pow256 k hk
  have h2 : x * 256 ^ k ≤ 255 * 72057594037927936 := Nat.mul_le_mul (by omega) h1
  have e : ((x : Int) * 2 ^ (8 * k)) = ((x * 256 ^ k : Nat) : Int) := by
    rw [Int.natCast_mul, Int.natCast_pow, Int.pow_mul]
    rfl
  have e2 : 256 ^ k = 2 ^ (8 * k) := by rw [Nat.pow_mul]
  rw [e]
  have hj : (x * 256 ^ k) ||| a = x * 256 ^ k + a := nat_join (8 * k) _ _ (by rw [e2]; exact Nat.mul_mod_left _ _) (by rw [← e2]; exact ha)
  rw [i64_or_top a _ (by omega) (by omega), Nat.or_comm, hj, Nat.add_comm, wrap_sgn _ (by omega)]

set_option maxRecDepth 100000 in
set_option maxHeartbeats 2000000 in
theorem int_ok {v : Value} {xs : Bytes} {w : World} (hs : Seq w v xs) (hlen : xs.length ≤ 1000000) (h8 : 8 ≤ xs.length) :
    Calls Try.prog 17 #[v] w (ReadT (.int .i64 (sgn (ival (xs.take 8)))) w (xs.drop 8)) := by
  obtain ⟨b, o, cap, rfl, g1, g2, hs, hc⟩ := hs.spot (by omega)
  have hf := hs.from 8 h8
  have KC := Lib.hid (clone_some hf (by rw [List.length_drop]; omega))
  have HC := Lib.hid hc
  have hD : ∀ k, k < xs.length → ival (xs.take (k + 1)) = ival (xs.take k) + (xs.getD k 0#8).toNat * 256 ^ k := fun k hk => by
    rw [List.take_succ_eq_append_getElem hk, ival_snoc, List.length_take, Nat.min_eq_left (by omega)]
    simp [List.getD, hk]
  have hI : ∀ k, k ≤ xs.length → ival (xs.take k) < 256 ^ k := fun k hk => by
    have := ival_lt (xs.take k)
    rw [List.length_take, Nat.min_eq_left hk] at this
    exact this
  have HD := Lib.hid hD
  have HI := Lib.hid hI
  have hm : maxLen = 9223372036854775807 := rfl
  rw [hm] at g2
  generalize List.drop 8 xs = ys at *
  generalize hL : xs.length = len at *
  have hlc : (len : Int) ≤ cap := by omega
  have h8i : (8 : Int) ≤ len := by omega
  have h8c : (8 : Int) ≤ cap := by omega
  clear hs hf hm hL hc hD hI
  go_enter Try.func17, Try.ntmps17
  go_wp2_with fail
  go_loop [5, 14] (fun n i => ∃ k : Nat, k ≤ 8 ∧ i = .int .i64 k ∧ n = .int .i64 (sgn (ival (xs.take k)))) (fun _ i => 8 - (intOf i).toNat)
  case atStart => exact ⟨0, by omega, rfl, rfl⟩
  case round =>
    obtain ⟨k, hk, rfl, rfl⟩ := hrel
    by_cases hlt : k < 8
    · have hcell := HC.out k (by omega)
      unfold bv at hcell
      have hd := HD.out k (by omega)
      have hi := HI.out k (by omega)
      have h1 := pow256 k hlt
      rw [sgn_small (ival (xs.take k)) (by omega)]
      have e := or_sgn (ival (xs.take k)) k (xs.getD k 0#8).toNat hlt hi (xs.getD k 0#8).isLt
      rw [← hd] at e
      have E := Lib.hid e
      generalize ival (xs.take k) = a at *
      generalize xs.getD k 0#8 = x at *
      have hx := x.isLt
      clear hd hi e h1
      go_wp2_with fail
      go_round
      case rel => exact ⟨k + 1, by omega, by go_num, by rw [E.out]⟩
      case measure => simp [intOf]; omega
    · obtain rfl : k = 8 := by omega
      by_cases hcs : cap = 8
      · subst hcs
        obtain rfl : len = 8 := by omega
        rw [if_pos rfl] at KC
        simp only [Nat.sub_self] at KC
        go_wp2_with fail
        refine KC.out.mono ?_
        rintro e w1 ⟨v1, rfl, ho1, hb1⟩
        have O1 := Lib.hid ho1
        clear ho1
        go_wp2_with fail
        go_ret3
        exact ⟨_, rfl, O1.out, hb1⟩
      · rw [if_neg hcs] at KC
        go_wp2_with fail
        refine KC.out.mono ?_
        rintro e w1 ⟨v1, rfl, ho1, hb1⟩
        have O1 := Lib.hid ho1
        clear ho1
        go_wp2_with fail
        go_ret3
        exact ⟨_, rfl, O1.out, hb1⟩

set_option maxRecDepth 100000 in
set_option maxHeartbeats 1000000 in
theorem putText_err (v : Value) (t : ByteArray) (w : World) (ht : 65536 < t.size) (hm : t.size ≤ 9223372036854775807) :
    Calls Try.prog 14 #[v, .string t] w fun e w' => e = .returned (.tuple #[.slice none 0 0, .int .i64 4]) ∧ w = w' := by
  go_enter Try.func14, Try.ntmps14
  go_wp2_with fail
  go_ret2
  exact ⟨rfl, rfl⟩

theorem heap_new2 (w : World) (x y : Obj) : ((w.alloc x).alloc y).heap[w.heap.size + 1]? = some y := by
  have h := heap_alloc_new (w.alloc x) y
  rw [show (w.alloc x).heap.size = w.heap.size + 1 by simp] at h
  exact h

set_option maxRecDepth 100000 in
set_option maxHeartbeats 1000000 in
theorem putText_ok {v : Value} {xs : Bytes} {w : World} (hs : Seq w v xs) (hlen : xs.length ≤ 100000) (t : ByteArray) (ht : t.size ≤ 65536) :
    Calls Try.prog 14 #[v, .string t] w (MadeT w (xs ++ tform t)) := by
  have hl := form_len8 t.size (by omega)
  have K1 := Lib.hid (numForm_any t.size (by omega))
  have S0 := Lib.hid hs
  have E : Hid (form t.size ++ bs t = tform t) := Lib.hid rfl
  have hbl := Lib.hid (bs_len t)
  obtain ⟨a, cap, rfl, h1, h2, h0, -⟩ := hs.parts
  have KB := fun u => bytes_run u t
  clear hs h0
  generalize form t.size = z at *
  generalize tform t = y at *
  go_enter Try.func14, Try.ntmps14
  go_wp2_with fail
  refine (K1.out _).mono ?_
  rintro e w1 ⟨v1, rfl, ho1, hb1⟩
  obtain ⟨a1, c1, rfl, -, -, ho1, -⟩ := ho1.parts
  have O1 := Lib.hid ho1
  have B1 := Lib.hid hb1
  clear ho1
  go_wp2_with fail
  have hg := grownCap_ge w1 t.size 0 5
  have hgm := grownCap_le_maxLen w1 t.size 0 5 (by unfold maxLen; omega)
  have hq : ∀ fr o, Seq ((w1.alloc (.cells (bytesRow t (grownCap w1 t.size 0 5)) 5 fr)).alloc o).drew (.slice (some ⟨w1.heap.size, 0, none⟩) t.size (grownCap w1 t.size 0 5)) (bs t) := fun fr o =>
    ((seq_text w1 t (by omega) _ hg hgm fr).below_alloc o).of_cell (fun _ => rfl)
  generalize grownCap w1 t.size 0 5 = G at *
  refine (concat_three (w1.heap.size + 1) 3 (((w1.alloc (.cells (bytesRow t G) 5 ((bytesRow t G).size, (bytesRow t G).size + 1))).alloc (.cells #[.slice a xs.length cap, .slice a1 z.length c1, .slice (some ⟨w1.heap.size, 0, none⟩) t.size G] 22)).drew) (by exact cell_of_row _ _ 0 _ 22 (0, 0) (heap_new2 w1 _ _)) (by exact cell_of_row _ _ 1 _ 22 (0, 0) (heap_new2 w1 _ _)) (by exact cell_of_row _ _ 2 _ 22 (0, 0) (heap_new2 w1 _ _))
    ((((S0.out.below B1.out).below_alloc _).below_alloc _).of_cell (fun _ => rfl)) (((O1.out.seq.below_alloc _).below_alloc _).of_cell (fun _ => rfl)) (hq _ _) (by rw [hbl.out]; omega)).mono ?_
  rintro e w2 ⟨v2, rfl, ho2, hb2⟩
  have hsz := B1.out.size
  have hbe : Below w.heap.size w w2 := (((B1.out.alloc hsz _).alloc (by simp; omega) _).drew).trans (hb2.mono (by simp; omega))
  have O2 := Lib.hid (ho2.mono (by simp; omega : w.heap.size ≤ _))
  rw [E.out] at O2
  clear ho2 hb2 hq
  go_wp2_with fail
  go_ret2
  exact ⟨_, rfl, O2.out, hbe⟩
