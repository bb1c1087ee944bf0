/- What the program's own functions of package bin leave: Num, PutInt, Int, PutText, Text. -/
import Derived.Test.YtbfhhlbnhcngfaaBin
import Derived.Deep.RegionWith
namespace Go.Proofs.Ytbfhhlbnhcngfaa
open Go.RowKit Plain
set_option linter.unusedVariables false

/-- what a reader answers: a number or a text, what stands behind it (a slice of the call's own), no error -/
def ReadT (n : Value) (w : World) (ys : Bytes) (e : Ending) (w' : World) : Prop := ∃ v, e = .returned (.tuple #[n, v, .int .i64 0]) ∧ Owns w.heap.size w' v ys ∧ Below w.heap.size w w'

set_option maxRecDepth 100000 in
set_option maxHeartbeats 1000000 in
theorem num_ok {v : Value} {xs : Bytes} {w : World} (hs : Seq w v xs) (hlen : xs.length ≤ 1000000) {n s : Nat} (hr : read xs = (n, s, 0)) :
    Calls Try.prog 16 #[v] w (ReadT (.int .i64 n) w (xs.drop s)) := by
  obtain ⟨-, h1, h2, h3, h4⟩ := read_back hr
  obtain ⟨b, o, cap, rfl, g1, g2, hs, -⟩ := hs.spot (by omega)
  have K1 := Lib.hid (readNum_seq hs)
  rw [hr] at K1
  unfold RdT at K1
  have hf := hs.from s h4
  have KC := Lib.hid (clone_some hf (by rw [List.length_drop]; omega))
  have hm : maxLen = 9223372036854775807 := rfl
  rw [hm] at g2
  generalize List.drop s xs = ys at *
  generalize hL : xs.length = len at *
  have hsi : (s : Int) ≤ len := by omega
  have hsc : (s : Int) ≤ cap := by omega
  clear hr hs hf hm hL
  by_cases hcs : cap = s
  · rw [if_pos hcs] at KC
    subst hcs
    obtain rfl : cap = len := by omega
    simp only [Nat.sub_self] at KC
    go_enter Try.func16, Try.ntmps16
    go_wp2_with fail
    refine K1.out.mono ?_
    rintro e w1 ⟨rfl, rfl⟩
    go_wp2_with fail
    refine KC.out.mono ?_
    rintro e w1 ⟨v1, rfl, ho1, hb1⟩
    have O1 := Lib.hid ho1
    clear ho1
    go_wp2_with fail
    go_ret3
    exact ⟨_, rfl, O1.out, hb1⟩
  · rw [if_neg hcs] at KC
    go_enter Try.func16, Try.ntmps16
    go_wp2_with fail
    refine K1.out.mono ?_
    rintro e w1 ⟨rfl, rfl⟩
    go_wp2_with fail
    refine KC.out.mono ?_
    rintro e w1 ⟨v1, rfl, ho1, hb1⟩
    have O1 := Lib.hid ho1
    clear ho1
    go_wp2_with fail
    go_ret3
    exact ⟨_, rfl, O1.out, hb1⟩

set_option maxRecDepth 100000 in
set_option maxHeartbeats 1000000 in
theorem num_err {v : Value} {xs : Bytes} {w : World} (hs : Seq w v xs) (hr : read xs = (0, 0, 2) ∨ read xs = (0, 0, 3)) :
    Calls Try.prog 16 #[v] w fun e w' => (e = .returned (.tuple #[.int .i64 0, .slice none 0 0, .int .i64 2]) ∨ e = .returned (.tuple #[.int .i64 0, .slice none 0 0, .int .i64 3])) ∧ w = w' := by
  have K1 := Lib.hid (readNum_seq hs)
  unfold RdT at K1
  clear hs
  rcases hr with hr | hr
  · rw [hr] at K1
    clear hr
    go_enter Try.func16, Try.ntmps16
    go_wp2_with fail
    refine K1.out.mono ?_
    rintro e w1 ⟨rfl, rfl⟩
    go_wp2_with fail
    go_ret3
    exact ⟨.inl rfl, rfl⟩
  · rw [hr] at K1
    clear hr
    go_enter Try.func16, Try.ntmps16
    go_wp2_with fail
    refine K1.out.mono ?_
    rintro e w1 ⟨rfl, rfl⟩
    go_wp2_with fail
    go_ret3
    exact ⟨.inr rfl, rfl⟩

/-- the eight bytes, of which the first k are laid -/
def part (n : Int) (k : Nat) : Bytes := (iform n).take k ++ List.replicate (8 - k) 0#8
theorem part_len (n : Int) (k : Nat) (h : k ≤ 8) : (part n k).length = 8 := by unfold part; rw [List.length_append, List.length_take, List.length_replicate, iform_len]; omega
theorem part_next (n : Int) : ∀ k, k < 8 → (part n k).set k (low n k) = part n (k + 1)
  | 0, _ => rfl
  | 1, _ => rfl
  | 2, _ => rfl
  | 3, _ => rfl
  | 4, _ => rfl
  | 5, _ => rfl
  | 6, _ => rfl
  | 7, _ => rfl
  | k + 8, h => absurd h (by omega)
theorem shr_low (n : Int) (k : Nat) (hk : k < 8) : (n / 2 ^ (8 * k)) % 256 = ((low n k).toNat : Int) := by
  unfold low
  rw [by8_toNat _ (Nat.mod_lt _ (by omega))]
  match k, hk with
  | 0, _ => simp; omega
  | 1, _ => simp; omega
  | 2, _ => simp; omega
  | 3, _ => simp; omega
  | 4, _ => simp; omega
  | 5, _ => simp; omega
  | 6, _ => simp; omega
  | 7, _ => simp; omega

theorem seq_of_row {B : Nat} {e : TypeId} {w : World} {g n cap : Nat} {xs : Bytes} (h : w.ownsRow B e 1 (.slice (some ⟨g, 0, none⟩) n cap) n (xs.map bv)) (hl : xs.length = n) : Seq w (.slice (some ⟨g, 0, none⟩) n cap) xs := by
  have h' := h
  rcases h.2 with ⟨h0, _⟩ | ⟨g', cap', cur, h0, hb, hg, hnc, hcm, hcs, htake⟩
  · simp at h0
  · simp only [Value.slice.injEq, Option.some.injEq, Addr.mk.injEq, and_true, true_and] at h0
    obtain ⟨rfl, rfl⟩ := h0
    refine ⟨_, cap, by rw [hl], by omega, hcm, (by simp), fun hp => ⟨g, 0, rfl, fun j hj => ?_⟩⟩
    have := World.ownsRow.cellAt h' j (by omega)
    rw [Nat.zero_add, this, getD_map xs j hj]

set_option maxRecDepth 100000 in
set_option maxHeartbeats 1000000 in
theorem putInt_any {v : Value} {xs : Bytes} {w : World} (hs : Seq w v xs) (hlen : xs.length ≤ 900000) (n : Int) (h1 : -9223372036854775808 ≤ n) (h2 : n ≤ 9223372036854775807) :
    Calls Try.prog 12 #[v, .int .i64 n] w (Made w (xs ++ iform n)) := by
  have S0 := Lib.hid hs
  obtain ⟨a, cap, rfl, g1, g2, g0, -⟩ := hs.parts
  have hO : (w.alloc (.cells #[.int .u8 0, .int .u8 0, .int .u8 0, .int .u8 0, .int .u8 0, .int .u8 0, .int .u8 0, .int .u8 0] 49)).ownsRow w.heap.size 49 1 (.slice (some ⟨w.heap.size, 0, none⟩) 8 8) 8 ((part n 0).map bv) :=
    World.ownsRow_lit w _ 8 (Nat.le_refl _) (by unfold maxLen; omega) rfl
  have hB : Below w.heap.size w (w.alloc (.cells #[.int .u8 0, .int .u8 0, .int .u8 0, .int .u8 0, .int .u8 0, .int .u8 0, .int .u8 0, .int .u8 0] 49)) := (Below.refl _ _).alloc (Nat.le_refl _) _
  have O0 := Lib.hid hO
  have B0 := Lib.hid hB
  clear hs g0 hO hB
  go_enter Try.func12, Try.ntmps12
  go_wp2_with fail
  go_loopw [7] (fun i wr => ∃ k : Nat, k ≤ 8 ∧ i = .int .i64 k ∧ wr.ownsRow w.heap.size 49 1 (.slice (some ⟨w.heap.size, 0, none⟩) 8 8) 8 ((part n k).map bv) ∧ Below w.heap.size w wr) (fun i _ => 8 - (intOf i).toNat)
  case atStart => exact ⟨0, by omega, rfl, O0.out, B0.out⟩
  case round =>
    obtain ⟨k, hk, rfl, ho, hb⟩ := hrel
    by_cases hlt : k < 8
    · have hc := ho.cellAt k (by omega)
      have hc' : wr.cell? ⟨w.heap.size, k, none⟩ = some (bv ((part n k).getD k 0#8)) := by rw [hc, getD_map _ _ (by rw [part_len n k hk]; exact hlt)]
      have hf := ho.frozenAt k
      have hst := ho.stored k (bv (low n k))
      have hst2 : (wr.setCell ⟨w.heap.size, k, none⟩ (bv (low n k))).ownsRow w.heap.size 49 1 (.slice (some ⟨w.heap.size, 0, none⟩) 8 8) 8 ((part n (k + 1)).map bv) := by
        rw [← part_next n k hlt, List.map_set]; exact hst.1
      have hb2 : Below w.heap.size w (wr.setCell ⟨w.heap.size, k, none⟩ (bv (low n k))) := hb.setCell (Nat.le_refl _) _
      have O2 := Lib.hid hst2
      have B2 := Lib.hid hb2
      have hq := shr_low n k hlt
      generalize (part n k).getD k 0#8 = x at *
      unfold bv at hc'
      generalize low n k = y at *
      have hy := y.isLt
      have HQ := Lib.hid hq
      clear hc hst hst2 hb2 ho hb hq
      go_wp2_with fail
      rw [HQ.out]
      exact ⟨⟨k + 1, by omega, by go_num, O2.out, B2.out⟩, by simp [intOf]; omega⟩
    · obtain rfl : k = 8 := by omega
      have hq : Seq wr (.slice (some ⟨w.heap.size, 0, none⟩) 8 8) (iform n) := seq_of_row (by rw [show iform n = part n 8 from rfl]; exact ho) rfl
      have HQ := Lib.hid hq
      have HB := Lib.hid hb
      clear hq ho hb
      have hl8 := iform_len n
      generalize iform n = z at *
      have HL := Lib.hid hl8
      clear hl8
      go_wp2_with fail
      refine (concat_two _ _ _ (cell_of_row _ _ 0 _ 22 (0, 0) (heap_alloc_new wr _)) (cell_of_row _ _ 1 _ 22 (0, 0) (heap_alloc_new wr _)) ((S0.out.below HB.out).below_alloc _) (HQ.out.below_alloc _) (by rw [HL.out]; omega)).mono ?_
      rintro e w2 ⟨v2, rfl, ho2, hb2⟩
      have hbe : Below w.heap.size w w2 := (HB.out.alloc HB.out.size _).trans (hb2.mono (by have := HB.out.size; simp; omega))
      have O2 := Lib.hid (ho2.mono (by have := HB.out.size; simp; omega : w.heap.size ≤ _))
      clear ho2 hb2
      go_wp2_with fail
      go_ret
      exact ⟨_, rfl, O2.out, hbe⟩
