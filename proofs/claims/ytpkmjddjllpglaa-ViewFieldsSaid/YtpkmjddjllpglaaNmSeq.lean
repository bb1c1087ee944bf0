/- Slices that read as a list of 64-bit integers; num.Total over them. -/
import Derived.Test.YtpkmjddjllpglaaNmCalls
import Derived.Maps.AppendAt
import Derived.OpenShut
namespace Go.Proofs.Ytpkmjddjllpglaa.Nm
open Go.RowKit Plain
set_option linter.unusedVariables false

/-- v is a slice whose elements read as xs -/
def Seq (w : World) (v : Value) (xs : List Int) : Prop :=
  ∃ a cap, v = .slice a xs.length cap ∧ xs.length ≤ cap ∧ cap ≤ maxLen ∧
    (0 < xs.length → ∃ b off, a = some ⟨b, off, none⟩ ∧ ∀ j, j < xs.length → w.cell? ⟨b, off + j, none⟩ = some (.int .i64 (xs.getD j 0)))

theorem Seq.nil (w : World) (a : Option Addr) (cap : Nat) (h : cap ≤ maxLen) : Seq w (.slice a 0 cap) [] := ⟨a, cap, rfl, Nat.zero_le _, h, fun h => absurd h (by simp)⟩

theorem Seq.of_cell {w w' : World} {v : Value} {xs : List Int} (h : Seq w v xs) (hc : ∀ a, w'.cell? a = w.cell? a) : Seq w' v xs := by
  obtain ⟨a, cap, rfl, h1, h2, h3⟩ := h
  refine ⟨a, cap, rfl, h1, h2, fun hp => ?_⟩
  obtain ⟨b, off, rfl, g⟩ := h3 hp
  exact ⟨b, off, rfl, fun j hj => (hc _).trans (g j hj)⟩

theorem Seq.below {w w' : World} {v : Value} {xs : List Int} (h : Seq w v xs) (hb : Below w.heap.size w w') : Seq w' v xs := by
  obtain ⟨a, cap, rfl, h1, h2, h3⟩ := h
  refine ⟨a, cap, rfl, h1, h2, fun hp => ?_⟩
  obtain ⟨b, off, rfl, hc⟩ := h3 hp
  refine ⟨b, off, rfl, fun j hj => ?_⟩
  have hlt : b < w.heap.size := World.block_lt_of_cell? w ⟨b, off + j, none⟩ (hc j hj)
  exact (hb.cell (p := ⟨b, off + j, none⟩) hlt).trans (hc j hj)

theorem Seq.cut {w : World} {v : Value} {xs : List Int} (h : Seq w v xs) (n : Nat) : ∃ a cap, v = .slice a xs.length cap ∧ xs.length ≤ cap ∧ cap ≤ maxLen ∧ Seq w (.slice a (xs.take n).length cap) (xs.take n) := by
  obtain ⟨a, cap, rfl, h1, h2, h3⟩ := h
  refine ⟨a, cap, rfl, h1, h2, a, cap, rfl, ?_, h2, fun hp => ?_⟩
  · have := List.length_take_le n xs; have := List.length_take (i := n) (l := xs); omega
  · have hl := List.length_take (i := n) (l := xs)
    obtain ⟨b, off, rfl, hc⟩ := h3 (by omega)
    refine ⟨b, off, rfl, fun j hj => ?_⟩
    rw [hc j (by omega)]
    simp [List.getD, show j < n by omega]

/-- the first element, and what is left -/
theorem Seq.head {w : World} {v : Value} {x : Int} {xs : List Int} (h : Seq w v (x :: xs)) :
    ∃ b o cap, v = .slice (some ⟨b, o, none⟩) (xs.length + 1) cap ∧ xs.length + 1 ≤ cap ∧ cap ≤ maxLen ∧ w.cell? ⟨b, o, none⟩ = some (.int .i64 x) ∧
      (cap ≠ 1 → Seq w (.slice (some ⟨b, o + 1, none⟩) xs.length (cap - 1)) xs) ∧ (cap = 1 → xs = []) := by
  obtain ⟨a, cap, rfl, h1, h2, h3⟩ := h
  obtain ⟨b, o, rfl, hc⟩ := h3 (by simp)
  simp only [List.length_cons] at h1 hc
  refine ⟨b, o, cap, rfl, h1, h2, by simpa using hc 0 (by omega), fun hne => ⟨_, _, rfl, by omega, by omega, fun hp => ⟨b, o + 1, rfl, fun j hj => ?_⟩⟩, fun he => List.eq_nil_of_length_eq_zero (by omega)⟩
  have := hc (j + 1) (by omega)
  rw [show o + 1 + j = o + (j + 1) by omega, this]
  simp [List.getD]

theorem tot_none' (a : Option Addr) (cap : Nat) (w : World) :
    Calls Try.prog 22 #[.slice a 0 cap] w fun e w' => e = .returned (.tuple #[.int .i64 0, .int .i64 0]) ∧ w = w' := by
  go_enter Try.func22, Try.ntmps22
  go_wp2
  go_loop [4, 5, 13] (fun u l i => i = .int .i64 0 ∧ u = .int .i64 0 ∧ l = .int .i64 0) (fun _ _ i => 0)
  case atStart => exact ⟨rfl, rfl, rfl⟩
  case round =>
    obtain ⟨rfl, rfl, rfl⟩ := hrel
    have e3 := and_low 0
    have e4 := or_join 0 0 (by omega) (by omega) (by omega) (by omega)
    simp only [Int.zero_mul, Int.zero_emod, Int.zero_add] at e3 e4
    go_wp2
    go_ret2
    exact ⟨rfl, rfl⟩

/-- num.Total over a slice that reads as xs -/
theorem tot_seq {w : World} {v : Value} {xs : List Int} (h : Seq w v xs) (hn : xs.length ≤ 1073741824) (hf : ∀ n ∈ xs, fits n) :
    Calls Try.prog 22 #[v] w fun e w' => e = .returned (.tuple #[.int .i64 (sumV (tot xs)), .int .i64 (sumE (tot xs))]) ∧ w = w' := by
  obtain ⟨a, cap, rfl, h1, h2, h3⟩ := h
  by_cases hp : 0 < xs.length
  · obtain ⟨b, off, rfl, hc⟩ := h3 hp
    have := tot_any b off xs.length cap xs w (Nat.le_refl _) hn hf hc
    rw [List.take_length] at this
    exact this
  · obtain rfl : xs = [] := List.eq_nil_of_length_eq_zero (by omega)
    exact tot_none' a cap w

/-- a slice of the call's own that reads as xs -/
def Owns (B : Nat) (w : World) (v : Value) (xs : List Int) : Prop := w.ownsRow B 2 1 v xs.length (xs.map (Value.int .i64))

theorem Owns.nil (B : Nat) (w : World) : Owns B w (.slice none 0 0) [] := World.ownsRow_nil _ _ _ _

theorem getD_map (xs : List Int) (j : Nat) (hj : j < xs.length) : (xs.map (Value.int .i64))[j]? = some (.int .i64 (xs.getD j 0)) := by
  simp [List.getD, List.getElem?_eq_getElem hj]

theorem Owns.seq {B : Nat} {w : World} {v : Value} {xs : List Int} (h : Owns B w v xs) : Seq w v xs := by
  have h' := h
  rcases h.2 with ⟨rfl, hn⟩ | ⟨g, cap, cur, rfl, hb, hg, hnc, hcm, hcs, htake⟩
  · obtain rfl : xs = [] := List.eq_nil_of_length_eq_zero hn
    exact Seq.nil w none 0 (Nat.zero_le _)
  · refine ⟨_, cap, rfl, hnc, hcm, fun hp => ⟨g, 0, rfl, fun j hj => ?_⟩⟩
    have := World.ownsRow.cellAt h' j (by omega)
    rw [Nat.zero_add, this, getD_map xs j hj]

def Apart (u v : Value) : Prop := u.ownBlock = none ∨ u.ownBlock ≠ v.ownBlock

/-- one element more: what the law on append leaves -/
theorem Owns.push {B : Nat} {w wr w1 : World} {u u' v : Value} {xs ys : List Int} {x : Int} {o : Obj} (hB : B ≤ wr.heap.size)
    (hu : Owns B wr u xs) (hv : Owns B wr v ys) (ha : Apart v u) (hb : Below B w wr)
    (hown : w1.ownsRow B 2 1 u' (xs.length + 1) (xs.map (Value.int .i64) ++ [.int .i64 x])) (hgrow : (wr.alloc o).grownBy w1 u.ownBlock)
    (hat : u'.ownBlock = u.ownBlock ∨ u'.ownBlock = some (wr.heap.size + 1)) :
    Owns B w1 u' (xs ++ [x]) ∧ Owns B w1 v ys ∧ Apart v u' ∧ Below B w w1 ∧ B ≤ w1.heap.size := by
  have hs : (wr.alloc o).heap.size = wr.heap.size + 1 := by simp
  refine ⟨by unfold Owns; simpa using hown, World.ownsRow.kept (World.ownsRow.alloc hv o) hgrow ha, ?_, (hb.alloc hB o).grown hgrow (by omega) (fun k hk => (World.ownsRow.lt hu k hk).1), by have := hgrow.size; omega⟩
  rcases hat with h | h
  · unfold Apart; rw [h]; exact ha
  · unfold Apart; rw [h]
    cases hvb : v.ownBlock with
    | none => exact .inl rfl
    | some k => right; have := (World.ownsRow.lt hv k hvb).2; intro e; cases e; omega
/-- a slice that came in: nil, or cells that hold the numbers zs, each of its kind -/
def IsRow (k : IntKind) (w : World) (a : Option Addr) (len cap : Nat) (zs : List Int) : Prop :=
  (a = none ∧ len = 0 ∧ cap = 0 ∧ zs = []) ∨
  ∃ x, a = some x ∧ len ≤ cap ∧ cap ≤ maxLen ∧ zs.length = cap ∧ (∀ i, i < zs.length → w.cell? (x.add i) = some (.int k (zs.getD i 0))) ∧ ∀ n ∈ zs, (Lit.int k n).wf = true

theorem row_seq {w : World} {a : Option Addr} {len cap : Nat} {zs : List Int} (h : IsRow .i64 w a len cap zs) :
    Seq w (.slice a len cap) (zs.take len) ∧ (zs.take len).length = len ∧ (a = none → cap = 0) ∧ ∀ n ∈ zs.take len, fits n := by
  rcases h with ⟨rfl, rfl, rfl, rfl⟩ | ⟨x, rfl, hl, hm, hz, hc, hw⟩
  · exact ⟨Seq.nil w none 0 (Nat.zero_le _), rfl, fun _ => rfl, by simp⟩
  · have hlen : (zs.take len).length = len := by rw [List.length_take]; omega
    refine ⟨⟨some x, cap, by rw [hlen], by omega, hm, fun hp => ?_⟩, hlen, (by simp), fun n hn => ?_⟩
    · obtain ⟨b, off, rfl, g⟩ := ints_at hc (by omega)
      refine ⟨b, off, rfl, fun j hj => ?_⟩
      rw [g j (by omega)]
      simp [List.getD, show j < len by omega]
    · have := hw n (List.mem_of_mem_take hn)
      simpa [Lit.wf, IntKind.min, IntKind.max, IntKind.signed, IntKind.bits, fits] using this

/-- its first n: what 'l[:min(len(l), n)]' reads as, and whether it is cut -/
theorem row_cut {w : World} {a : Option Addr} {len cap : Nat} {zs : List Int} (h : IsRow .i64 w a len cap zs) (n : Nat) :
    ∃ (xs : List Int) (m : Nat), ((len ≤ n ∧ len = m) ∨ (¬ len ≤ n ∧ m = n)) ∧ xs.length = m ∧ Seq w (.slice a m cap) xs ∧ m ≤ n ∧ len ≤ cap ∧ (a = none → cap = 0) ∧ ∀ x ∈ xs, fits x := by
  obtain ⟨hs, hl, hn, hf⟩ := row_seq h
  obtain ⟨a', cap', hv, h1, h2, hcut⟩ := Seq.cut hs n
  simp only [Value.slice.injEq] at hv
  obtain ⟨rfl, -, rfl⟩ := hv
  have hlen := List.length_take (i := n) (l := zs.take len)
  refine ⟨(zs.take len).take n, _, ?_, rfl, hcut, by omega, by omega, hn, fun x hx => hf x (List.mem_of_mem_take hx)⟩
  by_cases hb : len ≤ n
  · left; omega
  · right; omega
end Go.Proofs.Ytpkmjddjllpglaa.Nm
