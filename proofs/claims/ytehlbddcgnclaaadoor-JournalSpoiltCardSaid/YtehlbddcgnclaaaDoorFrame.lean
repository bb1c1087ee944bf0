/- What the program's own functions of package frame leave: putHead, head, sumOf. -/
import Derived.Test.YtehlbddcgnclaaaDoorInt
import Derived.Test.YtehlbddcgnclaaaDoorSum
import Derived.Test.YtehlbddcgnclaaaDoorFMath
import Derived.Test.YtehlbddcgnclaaaDoorList
namespace Go.Proofs.YtehlbddcgnclaaaDoor
open Go.RowKit Plain
set_option linter.unusedVariables false

theorem join_lt (s size : Nat) (hs : s < 4294967296) (hz : size < 4294967296) : s * 4294967296 ||| size = s * 4294967296 + size :=
  nat_join 32 _ _ (by rw [show 2 ^ 32 = 4294967296 by decide]; exact Nat.mul_mod_left _ _) (by omega)
theorem put_int (size s : Nat) (hs : s < 4294967296) (hz : size < 4294967296) : bits .or .i64 (wrap64 ((s : Int) * 4294967296)) (size : Int) = sgn (s * 4294967296 + size) := by
  show IntKind.i64.wrap ((BitVec.ofInt 64 (wrap64 ((s : Int) * 4294967296)) ||| BitVec.ofInt 64 (size : Int)).toNat : Int) = _
  have e1 : (BitVec.ofInt 64 (wrap64 ((s : Int) * 4294967296))).toNat = s * 4294967296 := by rw [BitVec.toNat_ofInt]; unfold wrap64; omega
  have e2 : (BitVec.ofInt 64 (size : Int)).toNat = size := by rw [BitVec.toNat_ofInt]; omega
  rw [BitVec.toNat_or, e1, e2, join_lt s size hs hz, wrap_sgn _ (by omega)]
theorem sgn_bd (u : Nat) (h : u < 18446744073709551616) : -9223372036854775808 ≤ sgn u ∧ sgn u ≤ 9223372036854775807 := by
  unfold sgn; split <;> omega
theorem iform_put (size s : Nat) (hs : s < 4294967296) (hz : size < 4294967296) : iform (sgn (s * 4294967296 + size)) = le4 size ++ le4 s := by
  have e : (sgn (s * 4294967296 + size) % 18446744073709551616).toNat = s * 4294967296 + size := by unfold sgn; split <;> omega
  unfold iform low le4
  rw [e]
  have h : ∀ a b : Nat, a = b → by8 a = by8 b := fun a b h => by rw [h]
  simp only [List.cons_append, List.nil_append]
  refine List.cons_eq_cons.2 ⟨h _ _ (by omega), List.cons_eq_cons.2 ⟨h _ _ (by omega), List.cons_eq_cons.2 ⟨h _ _ (by omega), List.cons_eq_cons.2 ⟨h _ _ (by omega), List.cons_eq_cons.2 ⟨h _ _ (by omega), List.cons_eq_cons.2 ⟨h _ _ (by omega), List.cons_eq_cons.2 ⟨h _ _ (by omega), List.cons_eq_cons.2 ⟨h _ _ (by omega), rfl⟩⟩⟩⟩⟩⟩⟩⟩

set_option maxRecDepth 100000 in
theorem putHead_any (size : Nat) (s : BitVec 32) (w : World) (hz : size < 4294967296) :
    Calls Tryd.prog 31 #[.int .i64 size, .int .u32 s.toNat] w (Made w (le4 size ++ le4 s.toNat)) := by
  have hs := s.isLt
  have e := put_int size s.toNat hs hz
  have hb := sgn_bd (s.toNat * 4294967296 + size) (by omega)
  have K := Lib.hid (putInt_any (Seq.nil w) (by simp) _ hb.1 hb.2)
  rw [iform_put size s.toNat hs hz, List.nil_append] at K
  clear hb
  generalize sgn (s.toNat * 4294967296 + size) = m at *
  generalize le4 size ++ le4 s.toNat = ys at *
  go_enter Tryd.func31, Tryd.ntmps31
  go_wp2_with fail
  refine K.out.mono ?_
  rintro e w1 ⟨v1, rfl, ho1, hb1⟩
  have O1 := Lib.hid ho1
  clear ho1
  go_wp2_with fail
  go_ret
  exact ⟨_, rfl, O1.out, hb1⟩

theorem ival_append (a b : Bytes) : ival (a ++ b) = ival a + 256 ^ a.length * ival b := by
  induction a with
  | nil => simp [ival]
  | cons c r ih =>
    rw [List.cons_append, ival, ih, ival, List.length_cons, Nat.pow_succ, Nat.mul_add, Nat.add_assoc, Nat.mul_comm (256 ^ r.length) 256, Nat.mul_assoc]
theorem ival_eight (xs : Bytes) (h : 8 ≤ xs.length) : ival (xs.take 8) = ival (xs.take 4) + 4294967296 * ival ((xs.drop 4).take 4) := by
  have e : xs.take 8 = xs.take 4 ++ (xs.drop 4).take 4 := List.take_add (i := 4) (j := 4)
  rw [e, ival_append, List.length_take, Nat.min_eq_left (by omega)]
theorem head_nums (xs : Bytes) (h : 8 ≤ xs.length) : sgn (ival (xs.take 8)) % 4294967296 = (ival (xs.take 4) : Int) ∧ sgn (ival (xs.take 8)) / 4294967296 % 4294967296 = (ival ((xs.drop 4).take 4) : Int) := by
  have h1 := ival4_lt (xs.take 4) (by rw [List.length_take]; omega)
  have h2 := ival4_lt ((xs.drop 4).take 4) (by rw [List.length_take, List.length_drop]; omega)
  rw [ival_eight xs h]
  unfold sgn
  constructor <;> split <;> omega

set_option maxRecDepth 100000 in
theorem head_any {v : Value} {xs : Bytes} {w : World} (hs : Seq w v xs) (hlen : xs.length ≤ 1000000000) (h8 : 8 ≤ xs.length) :
    Calls Tryd.prog 40 #[v] w fun e w' => e = .returned (.tuple #[.int .i64 (ival (xs.take 4)), .int .u32 (ival ((xs.drop 4).take 4))]) ∧ Below w.heap.size w w' := by
  have K := Lib.hid (int_ok hs hlen h8)
  obtain ⟨a, cap, rfl, g1, g2, g0, -⟩ := hs.parts
  have E := Lib.hid (head_nums xs h8)
  clear hs g0
  generalize sgn (ival (xs.take 8)) = q at *
  go_enter Tryd.func40, Tryd.ntmps40
  go_wp2_with fail
  refine K.out.mono ?_
  rintro e w1 ⟨v1, rfl, ho1, hb1⟩
  go_wp2_with fail
  go_ret2
  exact ⟨by rw [E.out.1, E.out.2]; rfl, hb1⟩

/-- the sum over the number and the record -/
theorem sumOf_any {u v : Value} {xs ys : Bytes} {w : World} (hu : Seq w u xs) (hv : Seq w v ys) (hT : HasTab w) :
    Calls Tryd.prog 32 #[u, v] w fun e w' => e = .returned (.int .u32 (sum (xs ++ ys)).toNat) ∧ w = w' := by
  have K1 := Lib.hid (sum_seq hu hT)
  have K2 := Lib.hid (more_seq hv hT (sum xs))
  rw [sum_append] at K2
  obtain ⟨a1, c1, rfl, -, -, -, -⟩ := hu.parts
  obtain ⟨a2, c2, rfl, -, -, -, -⟩ := hv.parts
  clear hu hv hT
  generalize sum (xs ++ ys) = z at *
  generalize sum xs = s at *
  go_enter Tryd.func32, Tryd.ntmps32
  go_wp2_with fail
  refine K1.out.mono ?_
  rintro e w1 ⟨rfl, rfl⟩
  go_wp2_with fail
  refine K2.out.mono ?_
  rintro e w1 ⟨rfl, rfl⟩
  go_wp2_with fail
  go_ret
  exact ⟨rfl, rfl⟩
end Go.Proofs.YtehlbddcgnclaaaDoor
