/- MORE WORDS FOR BYTES, OF NO PACKAGE: a slice's dimensions, a cell of an owned slice, literals, worlds behind one or two new blocks, draws, integers that fit, quiet calls. -/
import Derived.Test.YtehlbddcgnclaaaDoorWords
import Derived.IntWalk
import Derived.Deep.QuietTactic
namespace Go.Proofs.YtehlbddcgnclaaaDoor
open Go.RowKit Plain
set_option linter.unusedVariables false

theorem quiet_drawn {P : Program} {f : FuncId} {args : Array Value} {w : World} {n : Nat} {v : Value}
    (h : Calls P f args (w.drewN n) fun e w' => e = .returned v ∧ ∃ m, w' = (w.drewN n).drewN m) : Calls P f args (w.drewN n) fun e w'' => e = .returned v ∧ ∃ m, w'' = w.drewN m :=
  h.mono fun _ _ ⟨he, m, hm⟩ => ⟨he, n + m, by rw [hm, World.drewN_drewN]⟩
theorem i64_in {n : Int} (h : (Lit.int .i64 n).wf = true) : -9223372036854775808 ≤ n ∧ n ≤ 9223372036854775807 := by simpa [Lit.wf, IntKind.min, IntKind.max, IntKind.signed, IntKind.bits] using h
theorem Seq.dims {w : World} {a : Option Addr} {n cap : Nat} {xs : Bytes} (h : Seq w (.slice a n cap) xs) : xs.length = n ∧ n ≤ cap ∧ cap ≤ 9223372036854775807 := by
  obtain ⟨a', cap', hv, h1, h2, -, -⟩ := h
  simp only [Value.slice.injEq] at hv
  obtain ⟨rfl, rfl, rfl⟩ := hv
  exact ⟨rfl, h1, h2⟩
/-- a cell of a slice of the call's own -/
theorem Owns.cell {B : Nat} {w : World} {g n cap : Nat} {xs : Bytes} (h : Owns B w (.slice (some ⟨g, 0, none⟩) n cap) xs) (j : Nat) (hj : j < xs.length) : w.cell? ⟨g, j, none⟩ = some (bv (xs.getD j 0#8)) := by
  have hn := h.seq.dims.1
  have h' : w.ownsRow B 5 1 (.slice (some ⟨g, 0, none⟩) n cap) n (xs.map bv) := by rw [← hn]; unfold Owns at h; rw [← hn] at h; exact h
  rw [World.ownsRow.cellAt h' j (by omega), getD_map xs j hj]
/-- its parts, the length under a name of yours -/
theorem Owns.at {B : Nat} {w : World} {v : Value} {xs : Bytes} (h : Owns B w v xs) (n : Nat) (hn : xs.length = n) : ∃ a cap, v = .slice a n cap ∧ (n : Int) ≤ cap ∧ (cap : Int) ≤ 9223372036854775807 ∧ Owns B w (.slice a n cap) xs := by
  subst hn
  obtain ⟨a, cap, rfl, h1, h2, h3, -⟩ := h.parts
  have hm : maxLen = 9223372036854775807 := rfl
  exact ⟨a, cap, rfl, by omega, by omega, h3⟩
/-- min(a, lim), without a parting (with Derived.Lib.MinMax) -/
theorem min_eq {a lim m : Nat} (h : (a ≤ lim ∧ a = m) ∨ (¬ a ≤ lim ∧ m = lim)) : min (a : Int) (lim : Int) = (m : Int) := by omega
theorem seq_of_row {B : Nat} {e : TypeId} {w : World} {g n cap : Nat} {xs : Bytes} (h : w.ownsRow B e 1 (.slice (some ⟨g, 0, none⟩) n cap) n (xs.map bv)) (hl : xs.length = n) : Seq w (.slice (some ⟨g, 0, none⟩) n cap) xs := by
  have h' := h
  rcases h.2 with ⟨h0, _⟩ | ⟨g', cap', cur, h0, hb, hg, hnc, hcm, hcs, htake⟩
  · simp at h0
  · simp only [Value.slice.injEq, Option.some.injEq, Addr.mk.injEq, and_true, true_and] at h0
    obtain ⟨rfl, rfl⟩ := h0
    refine ⟨_, cap, by rw [hl], by omega, hcm, (by simp), fun hp => ⟨g, 0, rfl, fun j hj => ?_⟩⟩
    have := World.ownsRow.cellAt h' j (by omega)
    rw [Nat.zero_add, this, getD_map xs j hj]
theorem le_alloc (w : World) (o : Obj) : w.heap.size ≤ (w.alloc o).heap.size := by simp
theorem one_le_alloc2 (w : World) (o p : Obj) : w.heap.size + 1 ≤ ((w.alloc o).alloc p).heap.size := by simp
theorem alloc_le (w : World) (o : Obj) : (w.alloc o).heap.size ≤ w.heap.size + 1 := by simp
theorem below_first (w : World) (o : Obj) {w1 : World} (h : Below (w.heap.size + 1) (w.alloc o) w1) : Below w.heap.size w w1 := ((Below.refl _ _).alloc (Nat.le_refl _) _).trans (h.mono (by omega))
theorem Owns.empty1 (w : World) (o : Obj) (B : Nat) (hB : B ≤ w.heap.size + 1) : Owns B ((w.alloc o).alloc (.cells #[] 5)) (.slice (some ⟨w.heap.size + 1, 0, none⟩) 0 0) [] := by
  have h := Owns.empty (w.alloc o) B (by simpa using hB)
  rw [show (w.alloc o).heap.size = w.heap.size + 1 by simp] at h
  exact h
theorem below_empty1 {w w1 : World} {o : Obj} (hg : ((w.alloc o).alloc (.cells #[] 5)).grownBy w1 (Value.ownBlock (.slice (some ⟨w.heap.size + 1, 0, none⟩) 0 0))) : Below (w.heap.size + 1) (w.alloc o) w1 := by
  refine ((Below.refl _ _).alloc (by simp) _).grown hg (by simp) ?_
  intro k hk
  simp [Value.ownBlock] at hk
  omega
/-- bytes that are written out in the program's text -/
theorem seq_lit (w : World) (xs : Bytes) (C : Array Value) (hC : C.toList = xs.map bv) (hl : xs.length ≤ 1000000) : Seq (w.alloc (.cells C 5)) (.slice (some ⟨w.heap.size, 0, none⟩) xs.length xs.length) xs := by
  have h := World.ownsRow_lit (base := w.heap.size) (e := 5) (size := 1) w C xs.length (Nat.le_refl _) (by unfold maxLen; omega) (by rw [← Array.length_toList, hC, List.length_map, Nat.mul_one])
  rw [hC] at h
  exact seq_of_row h rfl
/-- the same, marked as it is behind []byte("..") -/
theorem seq_litF (w : World) (xs : Bytes) (C : Array Value) (fr : Nat × Nat) (hC : C.toList = xs.map bv) (hl : xs.length ≤ 1000000) : Seq (w.alloc (.cells C 5 fr)) (.slice (some ⟨w.heap.size, 0, none⟩) xs.length xs.length) xs := by
  refine ⟨_, xs.length, rfl, Nat.le_refl _, by unfold maxLen; omega, (by simp), fun _ => ⟨w.heap.size, 0, rfl, fun j hj => ?_⟩⟩
  refine (cell_of_row _ w.heap.size (0 + j) _ 5 fr (heap_alloc_new w _)).trans ?_
  rw [Nat.zero_add, ← Array.getElem?_toList, hC, getD_map xs j hj]
theorem i64_small (n : Int) (h : -9223372036854775808 ≤ n ∧ n ≤ 9223372036854775807) : IntKind.i64.wrap n = n := by
  rw [IntKind.wrap_i64]; omega
theorem Seq.cong {w : World} {v u : Value} {xs : Bytes} (h : Seq w v xs) (e : u = v) : Seq w u xs := by rw [e]; exact h
theorem Seq.drawn {w : World} {v : Value} {xs : Bytes} (h : Seq w v xs) (n : Nat) : Seq (w.drewN n) v xs := h.below (below_drewN (Below.refl _ _) n)
theorem ret_bool {a b : Bool} (h : a = b) : Ending.returned (.bool a) = .returned (.bool b) := by rw [h]
theorem u8_of (n : Int) (h : (Lit.int .u8 n).wf = true) : ∃ a : BitVec 8, n = (a.toNat : Int) := by
  have h : 0 ≤ n ∧ n ≤ 255 := by simpa [Lit.wf, IntKind.min, IntKind.max, IntKind.signed, IntKind.bits] using h
  refine ⟨BitVec.ofInt 8 n, ?_⟩
  rw [BitVec.toNat_ofInt]
  omega
theorem byte_xor (a b : BitVec 8) : bits .xor .u8 (a.toNat : Int) (b.toNat : Int) = ((a ^^^ b).toNat : Int) := by
  rw [u8_xor_nat _ _ a.isLt b.isLt, BitVec.toNat_xor]
theorem map_set (xs : Bytes) (k : Nat) (c : BitVec 8) : (xs.set k c).map bv = (xs.map bv).set k (bv c) := by
  simp [List.map_set]

end Go.Proofs.YtehlbddcgnclaaaDoor
