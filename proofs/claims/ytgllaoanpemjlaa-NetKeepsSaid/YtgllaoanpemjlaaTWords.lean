/- WORDS FOR TEXTS: slices that read as a list of texts (nil, empty, cut), slices of the call's own, append, make. (Turned out of words/XWords, XMore, XMake.) -/
import Derived.Test.YtgllaoanpemjlaaBase
import Derived.Test.YtgllaoanpemjlaaZMath
import Derived.Laws.Cover1
import Derived.Sort.Walk0
import Derived.Deep.OwnRows
import Derived.OwnWalk
namespace Go.Proofs.Ytgllaoanpemjlaa
open Go.RowKit Plain
set_option linter.unusedVariables false

/-- a text, and its bytes -/
def bt (t : Txt) : ByteArray := ⟨t.toArray⟩
def tx (s : ByteArray) : Txt := s.data.toList
theorem tx_bt (t : Txt) : tx (bt t) = t := rfl
theorem bt_tx (s : ByteArray) : bt (tx s) = s := rfl
theorem bt_inj {a b : Txt} (h : bt a = bt b) : a = b := by rw [← tx_bt a, h, tx_bt]
theorem bt_size (t : Txt) : (bt t).size = t.length := rfl
/-- a text as the model has it -/
def tv (t : Txt) : Value := .string (bt t)
/-- v is a slice whose elements read as xs -/
def SeqT (w : World) (v : Value) (xs : List Txt) : Prop :=
  ∃ a cap, v = .slice a xs.length cap ∧ xs.length ≤ cap ∧ cap ≤ maxLen ∧ (a = none → cap = 0) ∧
    (0 < xs.length → ∃ b off, a = some ⟨b, off, none⟩ ∧ ∀ j, j < xs.length → w.cell? ⟨b, off + j, none⟩ = some (tv (xs.getD j [])))
theorem SeqT.nil (w : World) : SeqT w (.slice none 0 0) [] := ⟨none, 0, rfl, Nat.zero_le _, Nat.zero_le _, fun _ => rfl, fun h => absurd h (by simp)⟩
theorem SeqT.empty (w : World) (a : Addr) (cap : Nat) (h : cap ≤ maxLen) : SeqT w (.slice (some a) 0 cap) [] := ⟨some a, cap, rfl, Nat.zero_le _, h, (by simp), fun h => absurd h (by simp)⟩
theorem SeqT.of_cell {w w' : World} {v : Value} {xs : List Txt} (h : SeqT w v xs) (hc : ∀ a, w'.cell? a = w.cell? a) : SeqT w' v xs := by
  obtain ⟨a, cap, rfl, h1, h2, h0, h3⟩ := h
  refine ⟨a, cap, rfl, h1, h2, h0, fun hp => ?_⟩
  obtain ⟨b, off, rfl, g⟩ := h3 hp
  exact ⟨b, off, rfl, fun j hj => (hc _).trans (g j hj)⟩
/-- what stands below N stays -/
theorem SeqT.below' {N : Nat} {w w' : World} {v : Value} {xs : List Txt} (h : SeqT w v xs) (hb : Below N w w') (hN : w.heap.size ≤ N) : SeqT w' v xs := by
  obtain ⟨a, cap, rfl, h1, h2, h0, h3⟩ := h
  refine ⟨a, cap, rfl, h1, h2, h0, fun hp => ?_⟩
  obtain ⟨b, off, rfl, hc⟩ := h3 hp
  refine ⟨b, off, rfl, fun j hj => ?_⟩
  have hlt : b < w.heap.size := World.block_lt_of_cell? w ⟨b, off + j, none⟩ (hc j hj)
  exact (hb.cell (p := ⟨b, off + j, none⟩) (show b < N by omega)).trans (hc j hj)
theorem SeqT.below {w w' : World} {v : Value} {xs : List Txt} (h : SeqT w v xs) (hb : Below w.heap.size w w') : SeqT w' v xs := SeqT.below' h hb (Nat.le_refl _)
theorem SeqT.below_alloc {w : World} {v : Value} {xs : List Txt} (h : SeqT w v xs) (o : Obj) : SeqT (w.alloc o) v xs := h.below ((Below.refl _ _).alloc (Nat.le_refl _) _)
/-- its parts -/
theorem SeqT.parts {w : World} {v : Value} {xs : List Txt} (h : SeqT w v xs) : ∃ a cap, v = .slice a xs.length cap ∧ xs.length ≤ cap ∧ cap ≤ maxLen ∧ (a = none → cap = 0) ∧ SeqT w (.slice a xs.length cap) xs := by
  have h' := h
  obtain ⟨a, cap, rfl, h1, h2, h0, h3⟩ := h
  exact ⟨a, cap, rfl, h1, h2, h0, h'⟩
/-- where there is something it lies in a block -/
theorem SeqT.spot {w : World} {v : Value} {xs : List Txt} (h : SeqT w v xs) (hp : 0 < xs.length) : ∃ b o cap, v = .slice (some ⟨b, o, none⟩) xs.length cap ∧ xs.length ≤ cap ∧ cap ≤ maxLen ∧ SeqT w (.slice (some ⟨b, o, none⟩) xs.length cap) xs ∧ ∀ j, j < xs.length → w.cell? ⟨b, o + j, none⟩ = some (tv (xs.getD j [])) := by
  have h' := h
  obtain ⟨a, cap, rfl, h1, h2, h0, h3⟩ := h
  obtain ⟨b, o, rfl, hc⟩ := h3 hp
  exact ⟨b, o, cap, rfl, h1, h2, h', hc⟩
/-- the first k -/
theorem SeqT.first {w : World} {a : Option Addr} {n cap : Nat} {xs : List Txt} (h : SeqT w (.slice a n cap) xs) (k : Nat) (hk : k ≤ xs.length) : SeqT w (.slice a k cap) (xs.take k) := by
  obtain ⟨a', cap', hv, h1, h2, h0, h3⟩ := h
  simp only [Value.slice.injEq] at hv
  obtain ⟨rfl, rfl, rfl⟩ := hv
  have hl : (xs.take k).length = k := by rw [List.length_take]; omega
  refine ⟨a, cap, by rw [hl], by omega, h2, h0, fun hp => ?_⟩
  obtain ⟨b, off, rfl, hc⟩ := h3 (by omega)
  refine ⟨b, off, rfl, fun j hj => ?_⟩
  rw [hc j (by omega)]
  simp [List.getD, show j < k by omega]
def OwnsT (B : Nat) (w : World) (v : Value) (xs : List Txt) : Prop := w.ownsRow B 9 1 v xs.length (xs.map tv)
theorem OwnsT.nil (B : Nat) (w : World) : OwnsT B w (.slice none 0 0) [] := World.ownsRow_nil _ _ _ _
theorem getD_mapT (xs : List Txt) (j : Nat) (hj : j < xs.length) : (xs.map tv)[j]? = some (tv (xs.getD j [])) := by
  simp [List.getD, List.getElem?_eq_getElem hj]
theorem OwnsT.seq {B : Nat} {w : World} {v : Value} {xs : List Txt} (h : OwnsT B w v xs) : SeqT w v xs := by
  have h' := h
  rcases h.2 with ⟨rfl, hn⟩ | ⟨g, cap, cur, rfl, hb, hg, hnc, hcm, hcs, htake⟩
  · obtain rfl : xs = [] := List.eq_nil_of_length_eq_zero hn
    exact SeqT.nil w
  · refine ⟨_, cap, rfl, hnc, hcm, (by simp), fun hp => ⟨g, 0, rfl, fun j hj => ?_⟩⟩
    have := World.ownsRow.cellAt h' j (by omega)
    rw [Nat.zero_add, this, getD_mapT xs j hj]
theorem OwnsT.parts {B : Nat} {w : World} {v : Value} {xs : List Txt} (h : OwnsT B w v xs) : ∃ a cap, v = .slice a xs.length cap ∧ xs.length ≤ cap ∧ cap ≤ maxLen ∧ OwnsT B w (.slice a xs.length cap) xs ∧ (a = none → cap = 0) := by
  obtain ⟨a, cap, rfl, h1, h2, h0, hs⟩ := h.seq.parts
  exact ⟨a, cap, rfl, h1, h2, h, h0⟩
theorem OwnsT.lt {B : Nat} {w : World} {v : Value} {xs : List Txt} (h : OwnsT B w v xs) : ∀ k, v.ownBlock = some k → B ≤ k ∧ k < w.heap.size := World.ownsRow.lt h
theorem OwnsT.alloc {B : Nat} {w : World} {v : Value} {xs : List Txt} (h : OwnsT B w v xs) (o : Obj) : OwnsT B (w.alloc o) v xs := World.ownsRow.alloc h o
theorem OwnsT.mono {B C : Nat} {w : World} {v : Value} {xs : List Txt} (h : OwnsT B w v xs) (hc : C ≤ B) : OwnsT C w v xs := by
  refine ⟨h.1, ?_⟩
  rcases h.2 with hn | ⟨g, cap, cur, hv, hb, hg⟩
  · exact .inl hn
  · exact .inr ⟨g, cap, cur, hv, by omega, hg⟩
/-- a later world in which what is old stands -/
theorem OwnsT.below {B N : Nat} {w w' : World} {v : Value} {xs : List Txt} (h : OwnsT B w v xs) (hb : Below N w w') (hN : w.heap.size ≤ N) : OwnsT B w' v xs := by
  refine ⟨h.1, ?_⟩
  rcases h.2 with hn | ⟨g, cap, cur, hv, hb', hg, hr⟩
  · exact .inl hn
  · have hlt : g < w.heap.size := (Array.getElem?_eq_some_iff.1 hg).1
    exact .inr ⟨g, cap, cur, hv, hb', (hb.block g (by omega)).trans hg, hr⟩
theorem OwnsT.empty (w : World) (B : Nat) (hB : B ≤ w.heap.size) : OwnsT B (w.alloc (.cells #[] 9)) (.slice (some ⟨w.heap.size, 0, none⟩) 0 0) [] :=
  World.ownsRow_lit w #[] 0 hB (Nat.zero_le _) rfl
theorem OwnsT.one (w : World) (B : Nat) (x : Txt) (hB : B ≤ w.heap.size) : OwnsT B (w.alloc (.cells #[tv x] 9)) (.slice (some ⟨w.heap.size, 0, none⟩) 1 1) [x] :=
  World.ownsRow_lit w #[tv x] 1 hB (by unfold maxLen; omega) rfl
/-- the one number that an append of one lays -/
theorem SeqT.one (w : World) (x : Txt) : SeqT (w.alloc (.cells #[tv x] 9)) (.slice (some ⟨w.heap.size, 0, none⟩) 1 1) [x] :=
  (OwnsT.one w w.heap.size x (Nat.le_refl _)).seq
/-- what a function that makes numbers answers: a slice of its own that reads as xs -/
def MadeT (w : World) (xs : List Txt) (e : Ending) (w' : World) : Prop := ∃ v, e = .returned v ∧ OwnsT w.heap.size w' v xs ∧ Below w.heap.size w w'
theorem infoT : (Try.prog.info? 9).map (fun i => (i.zero, i.size, i.bytes)) = some (some (.string ByteArray.empty), 1, 16) := by kernel_rfl
theorem texts_oneCell (ys : List Txt) : ∀ u ∈ ys.map tv, u.oneCell' = true := by
  intro u hu
  obtain ⟨c, -, rfl⟩ := List.mem_map.1 hu
  rfl
theorem SeqT.dims {w : World} {a : Option Addr} {n cap : Nat} {xs : List Txt} (h : SeqT w (.slice a n cap) xs) : xs.length = n ∧ n ≤ cap ∧ cap ≤ 9223372036854775807 := by
  obtain ⟨a', cap', hv, h1, h2, -, -⟩ := h
  simp only [Value.slice.injEq] at hv
  obtain ⟨rfl, rfl, rfl⟩ := hv
  exact ⟨rfl, h1, h2⟩
/-- a cell of a slice of the call's own -/
theorem OwnsT.cell {B : Nat} {w : World} {g n cap : Nat} {xs : List Txt} (h : OwnsT B w (.slice (some ⟨g, 0, none⟩) n cap) xs) (j : Nat) (hj : j < xs.length) : w.cell? ⟨g, j, none⟩ = some (tv (xs.getD j [])) := by
  have hn := h.seq.dims.1
  have h' : w.ownsRow B 9 1 (.slice (some ⟨g, 0, none⟩) n cap) n (xs.map tv) := by rw [← hn]; unfold OwnsT at h; rw [← hn] at h; exact h
  rw [World.ownsRow.cellAt h' j (by omega), getD_mapT xs j hj]
/-- its parts, the length under a name of yours -/
theorem OwnsT.at {B : Nat} {w : World} {v : Value} {xs : List Txt} (h : OwnsT B w v xs) (n : Nat) (hn : xs.length = n) : ∃ a cap, v = .slice a n cap ∧ (n : Int) ≤ cap ∧ (cap : Int) ≤ 9223372036854775807 ∧ OwnsT B w (.slice a n cap) xs := by
  subst hn
  obtain ⟨a, cap, rfl, h1, h2, h3, -⟩ := h.parts
  have hm : maxLen = 9223372036854775807 := rfl
  exact ⟨a, cap, rfl, by omega, by omega, h3⟩
theorem seqT_of_row {B : Nat} {e : TypeId} {w : World} {g n cap : Nat} {xs : List Txt} (h : w.ownsRow B e 1 (.slice (some ⟨g, 0, none⟩) n cap) n (xs.map tv)) (hl : xs.length = n) : SeqT w (.slice (some ⟨g, 0, none⟩) n cap) xs := by
  have h' := h
  rcases h.2 with ⟨h0, _⟩ | ⟨g', cap', cur, h0, hb, hg, hnc, hcm, hcs, htake⟩
  · simp at h0
  · simp only [Value.slice.injEq, Option.some.injEq, Addr.mk.injEq, and_true, true_and] at h0
    obtain ⟨rfl, rfl⟩ := h0
    refine ⟨_, cap, by rw [hl], by omega, hcm, (by simp), fun hp => ⟨g, 0, rfl, fun j hj => ?_⟩⟩
    have := World.ownsRow.cellAt h' j (by omega)
    rw [Nat.zero_add, this, getD_mapT xs j hj]
theorem OwnsT.empty1 (w : World) (o : Obj) (B : Nat) (hB : B ≤ w.heap.size + 1) : OwnsT B ((w.alloc o).alloc (.cells #[] 9)) (.slice (some ⟨w.heap.size + 1, 0, none⟩) 0 0) [] := by
  have h := OwnsT.empty (w.alloc o) B (by simpa using hB)
  rw [show (w.alloc o).heap.size = w.heap.size + 1 by simp] at h
  exact h
theorem below_empty1T {w w1 : World} {o : Obj} (hg : ((w.alloc o).alloc (.cells #[] 9)).grownBy w1 (Value.ownBlock (.slice (some ⟨w.heap.size + 1, 0, none⟩) 0 0))) : Below (w.heap.size + 1) (w.alloc o) w1 := by
  refine ((Below.refl _ _).alloc (by simp) _).grown hg (by simp) ?_
  intro k hk
  simp [Value.ownBlock] at hk
  omega
/-- numbers that are written out in the program's text -/
theorem seqT_lit (w : World) (xs : List Txt) (C : Array Value) (hC : C.toList = xs.map tv) (hl : xs.length ≤ 1000000) : SeqT (w.alloc (.cells C 9)) (.slice (some ⟨w.heap.size, 0, none⟩) xs.length xs.length) xs := by
  have h := World.ownsRow_lit (base := w.heap.size) (e := 9) (size := 1) w C xs.length (Nat.le_refl _) (by unfold maxLen; omega) (by rw [← Array.length_toList, hC, List.length_map, Nat.mul_one])
  rw [hC] at h
  exact seqT_of_row h rfl
theorem SeqT.cong {w : World} {v u : Value} {xs : List Txt} (h : SeqT w v xs) (e : u = v) : SeqT w u xs := by rw [e]; exact h
theorem SeqT.drawn {w : World} {v : Value} {xs : List Txt} (h : SeqT w v xs) (n : Nat) : SeqT (w.drewN n) v xs := h.below (below_drewN (Below.refl _ _) n)
theorem map_setT (xs : List Txt) (k : Nat) (c : Txt) : (xs.set k c).map tv = (xs.map tv).set k (tv c) := by
  simp [List.map_set]
/-! ### stores, and what a row hands over -/
theorem OwnsT.free {B : Nat} {w : World} {g n cap : Nat} {xs : List Txt} (h : OwnsT B w (.slice (some ⟨g, 0, none⟩) n cap) xs) (j : Nat) : w.frozen? ⟨g, j, none⟩ = false := by
  have hn := h.seq.dims.1
  have h' : w.ownsRow B 9 1 (.slice (some ⟨g, 0, none⟩) n cap) n (xs.map tv) := by rw [← hn]; unfold OwnsT at h; rw [← hn] at h; exact h
  exact World.ownsRow.frozenAt h' j
theorem OwnsT.set {B : Nat} {w : World} {g n cap : Nat} {xs : List Txt} (h : OwnsT B w (.slice (some ⟨g, 0, none⟩) n cap) xs) (j : Nat) (x : Txt) : OwnsT B (w.setCell ⟨g, j, none⟩ (tv x)) (.slice (some ⟨g, 0, none⟩) n cap) (xs.set j x) := by
  have hn := h.seq.dims.1
  have h' : w.ownsRow B 9 1 (.slice (some ⟨g, 0, none⟩) n cap) n (xs.map tv) := by rw [← hn]; unfold OwnsT at h; rw [← hn] at h; exact h
  have hs := (World.ownsRow.stored h' j (tv x)).1
  rw [← map_setT] at hs
  unfold OwnsT
  rw [List.length_set, hn]
  exact hs
theorem OwnsT.block {B : Nat} {w : World} {g n cap : Nat} {xs : List Txt} (h : OwnsT B w (.slice (some ⟨g, 0, none⟩) n cap) xs) : B ≤ g ∧ g < w.heap.size := h.lt g rfl

/-- s[k] -/
theorem index_run (s : Txt) (k : Nat) (hk : k < s.length) (w : World) : (Instr.index 9 (.string (bt s)) (.int .i64 (k : Int))).run Try.prog w = .ok (.int .u8 ((s.getD k 0).toNat : Int)) w := by
  rw [run_index_string w _ _ _ _ Try.underlying9]
  have hs := bt_size s
  rw [dif_pos (by omega)]
  congr 2
  show (((bt s).data[((k : Int)).toNat]'(by simp [bt]; omega)).toNat : Int) = _
  simp [bt, List.getD, List.getElem?_eq_getElem hk]
theorem toList_bt (s : Txt) : (bt s).toList = s := by
  rw [ByteArray.toList_eq]
  rfl
/-- how the model compares texts -/
theorem text_eq (s t : Txt) : ((bt s).toList == (bt t).toList) = decide (s = t) := by rw [toList_bt, toList_bt]; by_cases h : s = t <;> simp [h]
theorem text_lt (s t : Txt) : Op.bytesLess (bt s).toList (bt t).toList = decide (s < t) := by rw [toList_bt, toList_bt]; exact bytesLess_eq s t

end Go.Proofs.Ytgllaoanpemjlaa
