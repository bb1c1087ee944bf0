/- WORDS FOR INTS: slices that read as a list of numbers (nil, empty, cut), slices of the call's own, append, make. (Turned out of words/XWords, XMore, XMake.) -/
import Derived.Test.YtmknpmamkjjiaaaGreatEls
import Derived.Test.YtmknpmamkjjiaaaGreatVMath
import Derived.Deep.OwnRows
import Derived.OwnWalk
namespace Go.Proofs.YtmknpmamkjjiaaaGreat
open Go.RowKit Plain
set_option linter.unusedVariables false

/-- v is a slice whose elements read as xs -/
def SeqI (w : World) (v : Value) (xs : Ints) : Prop :=
 ∃ a cap, v = .slice a xs.length cap ∧ xs.length ≤ cap ∧ cap ≤ maxLen ∧ (a = none → cap = 0) ∧
  (0 < xs.length → ∃ b off, a = some ⟨b, off, none⟩ ∧ ∀ j, j < xs.length → w.cell? ⟨b, off + j, none⟩ = some (Value.int .i64 (xs.getD j 0)))
theorem SeqI.nil (w : World) : SeqI w (.slice none 0 0) [] := ⟨none, 0, rfl, Nat.zero_le _, Nat.zero_le _, fun _ => rfl, fun h => absurd h (by simp)⟩
/-- what stands below N stays -/
theorem SeqI.below' {N : Nat} {w w' : World} {v : Value} {xs : Ints} (h : SeqI w v xs) (hb : Below N w w') (hN : w.heap.size ≤ N) : SeqI w' v xs := by
 obtain ⟨a, cap, rfl, h1, h2, h0, h3⟩ := h
 refine ⟨a, cap, rfl, h1, h2, h0, fun hp => ?_⟩
 obtain ⟨b, off, rfl, hc⟩ := h3 hp
 refine ⟨b, off, rfl, fun j hj => ?_⟩
 have hlt : b < w.heap.size := World.block_lt_of_cell? w ⟨b, off + j, none⟩ (hc j hj)
 exact (hb.cell (p := ⟨b, off + j, none⟩) (show b < N by omega)).trans (hc j hj)
theorem SeqI.below {w w' : World} {v : Value} {xs : Ints} (h : SeqI w v xs) (hb : Below w.heap.size w w') : SeqI w' v xs := SeqI.below' h hb (Nat.le_refl _)
/-- its parts -/
theorem SeqI.parts {w : World} {v : Value} {xs : Ints} (h : SeqI w v xs) : ∃ a cap, v = .slice a xs.length cap ∧ xs.length ≤ cap ∧ cap ≤ maxLen ∧ (a = none → cap = 0) ∧ SeqI w (.slice a xs.length cap) xs := by
 have h' := h
 obtain ⟨a, cap, rfl, h1, h2, h0, h3⟩ := h
 exact ⟨a, cap, rfl, h1, h2, h0, h'⟩
/-- where there is something it lies in a block -/
theorem SeqI.spot {w : World} {v : Value} {xs : Ints} (h : SeqI w v xs) (hp : 0 < xs.length) : ∃ b o cap, v = .slice (some ⟨b, o, none⟩) xs.length cap ∧ xs.length ≤ cap ∧ cap ≤ maxLen ∧ SeqI w (.slice (some ⟨b, o, none⟩) xs.length cap) xs ∧ ∀ j, j < xs.length → w.cell? ⟨b, o + j, none⟩ = some (Value.int .i64 (xs.getD j 0)) := by
 have h' := h
 obtain ⟨a, cap, rfl, h1, h2, h0, h3⟩ := h
 obtain ⟨b, o, rfl, hc⟩ := h3 hp
 exact ⟨b, o, cap, rfl, h1, h2, h', hc⟩
def OwnsI (B : Nat) (w : World) (v : Value) (xs : Ints) : Prop := w.ownsRow B 3 1 v xs.length (xs.map (Value.int .i64))
theorem OwnsI.nil (B : Nat) (w : World) : OwnsI B w (.slice none 0 0) [] := World.ownsRow_nil _ _ _ _
theorem getD_mapI (xs : Ints) (j : Nat) (hj : j < xs.length) : (xs.map (Value.int .i64))[j]? = some (Value.int .i64 (xs.getD j 0)) := by
 simp [List.getD, List.getElem?_eq_getElem hj]
theorem OwnsI.seq {B : Nat} {w : World} {v : Value} {xs : Ints} (h : OwnsI B w v xs) : SeqI w v xs := by
 have h' := h
 rcases h.2 with ⟨rfl, hn⟩ | ⟨g, cap, cur, rfl, hb, hg, hnc, hcm, hcs, htake⟩
 ·obtain rfl : xs = [] := List.eq_nil_of_length_eq_zero hn
  exact SeqI.nil w
 ·refine ⟨_, cap, rfl, hnc, hcm, (by simp), fun hp => ⟨g, 0, rfl, fun j hj => ?_⟩⟩
  have := World.ownsRow.cellAt h' j (by omega)
  rw [Nat.zero_add, this, getD_mapI xs j hj]
theorem OwnsI.parts {B : Nat} {w : World} {v : Value} {xs : Ints} (h : OwnsI B w v xs) : ∃ a cap, v = .slice a xs.length cap ∧ xs.length ≤ cap ∧ cap ≤ maxLen ∧ OwnsI B w (.slice a xs.length cap) xs ∧ (a = none → cap = 0) := by
 obtain ⟨a, cap, rfl, h1, h2, h0, hs⟩ := h.seq.parts
 exact ⟨a, cap, rfl, h1, h2, h, h0⟩
theorem OwnsI.lt {B : Nat} {w : World} {v : Value} {xs : Ints} (h : OwnsI B w v xs) : ∀ k, v.ownBlock = some k → B ≤ k ∧ k < w.heap.size := World.ownsRow.lt h
theorem OwnsI.alloc {B : Nat} {w : World} {v : Value} {xs : Ints} (h : OwnsI B w v xs) (o : Obj) : OwnsI B (w.alloc o) v xs := World.ownsRow.alloc h o
theorem OwnsI.mono {B C : Nat} {w : World} {v : Value} {xs : Ints} (h : OwnsI B w v xs) (hc : C ≤ B) : OwnsI C w v xs := by
 refine ⟨h.1, ?_⟩
 rcases h.2 with hn | ⟨g, cap, cur, hv, hb, hg⟩
 ·exact .inl hn
 ·exact .inr ⟨g, cap, cur, hv, by omega, hg⟩
/-- a later world in which what is old stands -/
theorem OwnsI.below {B N : Nat} {w w' : World} {v : Value} {xs : Ints} (h : OwnsI B w v xs) (hb : Below N w w') (hN : w.heap.size ≤ N) : OwnsI B w' v xs := by
 refine ⟨h.1, ?_⟩
 rcases h.2 with hn | ⟨g, cap, cur, hv, hb', hg, hr⟩
 ·exact .inl hn
 ·have hlt : g < w.heap.size := (Array.getElem?_eq_some_iff.1 hg).1
  exact .inr ⟨g, cap, cur, hv, hb', (hb.block g (by omega)).trans hg, hr⟩
theorem OwnsI.empty (w : World) (B : Nat) (hB : B ≤ w.heap.size) : OwnsI B (w.alloc (.cells #[] 3)) (.slice (some ⟨w.heap.size, 0, none⟩) 0 0) [] :=
 World.ownsRow_lit w #[] 0 hB (Nat.zero_le _) rfl
theorem OwnsI.one (w : World) (B : Nat) (x : Int) (hB : B ≤ w.heap.size) : OwnsI B (w.alloc (.cells #[Value.int .i64 x] 3)) (.slice (some ⟨w.heap.size, 0, none⟩) 1 1) [x] :=
 World.ownsRow_lit w #[Value.int .i64 x] 1 hB (by unfold maxLen; omega) rfl
/-- the one number that an append of one lays -/
theorem SeqI.one (w : World) (x : Int) : SeqI (w.alloc (.cells #[.int .i64 x] 3)) (.slice (some ⟨w.heap.size, 0, none⟩) 1 1) [x] :=
 (OwnsI.one w w.heap.size x (Nat.le_refl _)).seq
/-- what a function that makes numbers answers: a slice of its own that reads as xs -/
def MadeI (w : World) (xs : Ints) (e : Ending) (w' : World) : Prop := ∃ v, e = .returned v ∧ OwnsI w.heap.size w' v xs ∧ Below w.heap.size w w'
theorem infoI : (Tryz.prog.info? 3).map (fun i => (i.zero, i.size, i.bytes)) = some (some (.int .i64 0), 1, 8) := by kernel_rfl
theorem ints_oneCell (ys : Ints) : ∀ u ∈ ys.map (Value.int .i64), u.oneCell' = true := by
 intro u hu
 obtain ⟨c, -, rfl⟩ := List.mem_map.1 hu
 rfl
/-- append of whatever slice reads as ys to a slice of the call's own -/
theorem wpList_append_ints {w : World} {ops : Array Oper} {rest : List Oper} {o : Oper} {act : Act} {Q : Exit → Act → World → Prop} (hgd : o.guard = none) (s x : Operand)
  (ho : o.op = .call { callee := .builtin .append, args := #[s, x], argTypes := #[26, 26] }) (B : Nat) {v u : Value} {xs ys : Ints}
  (hs : act.eval s = v) (hown : OwnsI B w v xs) (hx : act.eval x = u) (hseq : SeqI w u ys) (hlen : xs.length + ys.length ≤ 1073741824) (hbase : B ≤ w.heap.size)
  (h : ∀ v' w', OwnsI B w' v' (xs ++ ys) → w.grownBy w' v.ownBlock → (v'.ownBlock = v.ownBlock ∨ v'.ownBlock = some w.heap.size) → wpList Tryz.prog ops Q rest (act.put o.dst v') w') : wpList Tryz.prog ops Q (o :: rest) act w := by
 obtain ⟨i0, hi, hz0, hz1, hz2⟩ := info_parts infoI
 obtain ⟨a, cap, rfl, h1, h2, h0, h3⟩ := hseq
 cases a with
 | none =>
  obtain rfl := h0 rfl
  obtain rfl : ys = [] := List.eq_nil_of_length_eq_zero (by omega)
  refine wpList_append_own_none hgd s x 26 ho B 3 i0 1 Tryz.underlying26 hi v _ _ hs hown hx (h v w ?_ (World.grownBy.refl _ _) (.inl rfl))
  rw [List.append_nil]; exact hown
 | some ad =>
  refine wpList_append_own_at _ hgd s x 26 ho B 3 i0 (.int .i64 0) 1 8 Tryz.underlying26 hi hz0 hz1 hz2 rfl (by decide) v _ _ hs hown ad ys.length cap (ys.map (Value.int .i64)) hx (by simp) ?_ (ints_oneCell _) (by unfold maxLen; omega) (by omega) hbase ?_
  ·intro j u hu
   have hj : j < ys.length := by
    have := (List.getElem?_eq_some_iff.1 hu).1
    simpa using this
   obtain ⟨b, off, he, hc⟩ := h3 (by omega)
   cases he
   rw [getD_mapI ys j hj] at hu
   cases hu
   rw [Addr.add_lit]
   exact hc j hj
  ·intro v' w' hown' hg _ hat
   exact h v' w' (by unfold OwnsI; rw [List.length_append, List.map_append]; exact hown') hg hat
theorem SeqI.dims {w : World} {a : Option Addr} {n cap : Nat} {xs : Ints} (h : SeqI w (.slice a n cap) xs) : xs.length = n ∧ n ≤ cap ∧ cap ≤ 9223372036854775807 := by
 obtain ⟨a', cap', hv, h1, h2, -, -⟩ := h
 simp only [Value.slice.injEq] at hv
 obtain ⟨rfl, rfl, rfl⟩ := hv
 exact ⟨rfl, h1, h2⟩
/-- a cell of a slice of the call's own -/
theorem OwnsI.cell {B : Nat} {w : World} {g n cap : Nat} {xs : Ints} (h : OwnsI B w (.slice (some ⟨g, 0, none⟩) n cap) xs) (j : Nat) (hj : j < xs.length) : w.cell? ⟨g, j, none⟩ = some (Value.int .i64 (xs.getD j 0)) := by
 have hn := h.seq.dims.1
 have h' : w.ownsRow B 3 1 (.slice (some ⟨g, 0, none⟩) n cap) n (xs.map (Value.int .i64)) := by rw [← hn]; unfold OwnsI at h; rw [← hn] at h; exact h
 rw [World.ownsRow.cellAt h' j (by omega), getD_mapI xs j hj]
/-- its parts, the length under a name of yours -/
theorem OwnsI.at {B : Nat} {w : World} {v : Value} {xs : Ints} (h : OwnsI B w v xs) (n : Nat) (hn : xs.length = n) : ∃ a cap, v = .slice a n cap ∧ (n : Int) ≤ cap ∧ (cap : Int) ≤ 9223372036854775807 ∧ OwnsI B w (.slice a n cap) xs := by
 subst hn
 obtain ⟨a, cap, rfl, h1, h2, h3, -⟩ := h.parts
 have hm : maxLen = 9223372036854775807 := rfl
 exact ⟨a, cap, rfl, by omega, by omega, h3⟩
theorem SeqI.drawn {w : World} {v : Value} {xs : Ints} (h : SeqI w v xs) (n : Nat) : SeqI (w.drewN n) v xs := h.below (below_drewN (Below.refl _ _) n)
theorem map_setI (xs : Ints) (k : Nat) (c : Int) : (xs.set k c).map (Value.int .i64) = (xs.map (Value.int .i64)).set k (Value.int .i64 c) := by
 simp [List.map_set]
/-- make([]number, n): noughts, in a slice of the call's own -/
theorem wpList_makeI {w : World} {ops : Array Oper} {rest : List Oper} {o : Oper} {a : Act} {Q : Exit → Act → World → Prop} (hg : o.guard = none) (l : Operand) (ho : o.op = Op.makeSlice 26 l l)
  (m : Int) (n : Nat) (hl : a.eval l = .int .i64 m) (hm : m = (n : Int)) (hn : n ≤ 16777216)
  (h : ∀ w', OwnsI w.heap.size w' (.slice (some ⟨w.heap.size, 0, none⟩) n n) (List.replicate n 0) → Below w.heap.size w w' → wpList Tryz.prog ops Q rest (a.put o.dst (.slice (some ⟨w.heap.size, 0, none⟩) n n)) w') :
  wpList Tryz.prog ops Q (o :: rest) a w := by
 subst hm
 obtain ⟨i0, hi, hz0, hz1, hz2⟩ := info_parts infoI
 refine wpList_make_row w hg l l 26 ho 3 i0 (.int .i64 0) Tryz.underlying26 hi hz0 hz1 rfl .i64 .i64 n hl hl (by rw [hz2]; omega) (by omega) ?_
 refine h _ ?_ ((Below.refl _ _).alloc (Nat.le_refl _) _)
 have hr := World.ownsRow_lit (base := w.heap.size) (e := 3) (size := 1) w (madeCells #[.int .i64 0] n) n (Nat.le_refl _) (by unfold maxLen; omega) (by rw [size_madeCells, Nat.mul_one])
 rw [toList_madeCells_one] at hr
 have e : List.replicate n (Value.int .i64 0) = (List.replicate n 0).map (Value.int .i64) := by rw [List.map_replicate]
 rw [e] at hr
 unfold OwnsI
 rw [List.length_replicate]
 exact hr

/-! ### stores, and what a row hands over -/
theorem OwnsI.free {B : Nat} {w : World} {g n cap : Nat} {xs : Ints} (h : OwnsI B w (.slice (some ⟨g, 0, none⟩) n cap) xs) (j : Nat) : w.frozen? ⟨g, j, none⟩ = false := by
 have hn := h.seq.dims.1
 have h' : w.ownsRow B 3 1 (.slice (some ⟨g, 0, none⟩) n cap) n (xs.map (Value.int .i64)) := by rw [← hn]; unfold OwnsI at h; rw [← hn] at h; exact h
 exact World.ownsRow.frozenAt h' j
theorem OwnsI.set {B : Nat} {w : World} {g n cap : Nat} {xs : Ints} (h : OwnsI B w (.slice (some ⟨g, 0, none⟩) n cap) xs) (j : Nat) (x : Int) : OwnsI B (w.setCell ⟨g, j, none⟩ (.int .i64 x)) (.slice (some ⟨g, 0, none⟩) n cap) (xs.set j x) := by
 have hn := h.seq.dims.1
 have h' : w.ownsRow B 3 1 (.slice (some ⟨g, 0, none⟩) n cap) n (xs.map (Value.int .i64)) := by rw [← hn]; unfold OwnsI at h; rw [← hn] at h; exact h
 have hs := (World.ownsRow.stored h' j (Value.int .i64 x)).1
 rw [← map_setI] at hs
 unfold OwnsI
 rw [List.length_set, hn]
 exact hs
theorem OwnsI.block {B : Nat} {w : World} {g n cap : Nat} {xs : Ints} (h : OwnsI B w (.slice (some ⟨g, 0, none⟩) n cap) xs) : B ≤ g ∧ g < w.heap.size := h.lt g rfl
theorem row_seqI {w : World} {a : Option Addr} {len cap : Nat} {zs : List Int} (h : IsRow .i64 w a len cap zs) :
  ∃ xs : Ints, SeqI w (.slice a len cap) xs ∧ xs.length = len ∧ len ≤ cap := by
 rcases h with ⟨rfl, rfl, rfl, rfl⟩ | ⟨x, rfl, hl, hm, hz, hc, hw⟩
 ·exact ⟨[], SeqI.nil w, rfl, Nat.le_refl _⟩
 ·have hlen : (zs.take len).length = len := by rw [List.length_take]; omega
  refine ⟨zs.take len, ⟨some x, cap, by rw [hlen], by omega, hm, (by simp), fun hp => ?_⟩, hlen, hl⟩
  obtain ⟨b, off, rfl, g⟩ := ints_at hc (by omega)
  refine ⟨b, off, rfl, fun j hj => ?_⟩
  rw [g j (by omega)]
  simp [List.getD, show j < len by omega]
end Go.Proofs.YtmknpmamkjjiaaaGreat
