/- WORDS FOR TEXTS: slices that read as a list of texts (nil, empty, cut), slices of the call's own, append, make. (Turned out of words/XWords, XMore, XMake.) -/
import Derived.Test.YtmknpmamkjjiaaaGreatEls
import Derived.Test.YtmknpmamkjjiaaaGreatMaths
import Derived.Laws.Cover1
import Derived.Sort.Walk0
import Derived.Deep.OwnRows
import Derived.OwnWalk
namespace Go.Proofs.YtmknpmamkjjiaaaGreat
open Go.RowKit Plain
set_option linter.unusedVariables false

/-- a text, and its bytes -/
def bt (t : Txt) : ByteArray := ⟨t.toArray⟩
def tx (s : ByteArray) : Txt := s.data.toList
theorem tx_bt (t : Txt) : tx (bt t) = t := rfl
theorem bt_inj {a b : Txt} (h : bt a = bt b) : a = b := by rw [← tx_bt a, h, tx_bt]
theorem bt_size (t : Txt) : (bt t).size = t.length := rfl
/-- a text as the model has it -/
def tv (t : Txt) : Value := .string (bt t)
/-- v is a slice whose elements read as xs -/
def SeqT (w : World) (v : Value) (xs : List Txt) : Prop :=
 ∃ a cap, v = .slice a xs.length cap ∧ xs.length ≤ cap ∧ cap ≤ maxLen ∧ (a = none → cap = 0) ∧
  (0 < xs.length → ∃ b off, a = some ⟨b, off, none⟩ ∧ ∀ j, j < xs.length → w.cell? ⟨b, off + j, none⟩ = some (tv (xs.getD j [])))
theorem SeqT.nil (w : World) : SeqT w (.slice none 0 0) [] := ⟨none, 0, rfl, Nat.zero_le _, Nat.zero_le _, fun _ => rfl, fun h => absurd h (by simp)⟩
/-- what stands below N stays -/
theorem SeqT.below' {N : Nat} {w w' : World} {v : Value} {xs : List Txt} (h : SeqT w v xs) (hb : Below N w w') (hN : w.heap.size ≤ N) : SeqT w' v xs := by
 obtain ⟨a, cap, rfl, h1, h2, h0, h3⟩ := h
 refine ⟨a, cap, rfl, h1, h2, h0, fun hp => ?_⟩
 obtain ⟨b, off, rfl, hc⟩ := h3 hp
 refine ⟨b, off, rfl, fun j hj => ?_⟩
 have hlt : b < w.heap.size := World.block_lt_of_cell? w ⟨b, off + j, none⟩ (hc j hj)
 exact (hb.cell (p := ⟨b, off + j, none⟩) (show b < N by omega)).trans (hc j hj)
theorem SeqT.below {w w' : World} {v : Value} {xs : List Txt} (h : SeqT w v xs) (hb : Below w.heap.size w w') : SeqT w' v xs := SeqT.below' h hb (Nat.le_refl _)
theorem SeqT.below_alloc {w : World} {v : Value} {xs : List Txt} (h : SeqT w v xs) (o : Obj) : SeqT (w.alloc o) v xs := h.below ((Below.refl _ _).alloc (Nat.le_refl _) _)
/-- its parts -/
theorem SeqT.parts {w : World} {v : Value} {xs : List Txt} (h : SeqT w v xs) : ∃ a cap, v = .slice a xs.length cap ∧ xs.length ≤ cap ∧ cap ≤ maxLen ∧ (a = none → cap = 0) ∧ SeqT w (.slice a xs.length cap) xs := by
 have h' := h
 obtain ⟨a, cap, rfl, h1, h2, h0, h3⟩ := h
 exact ⟨a, cap, rfl, h1, h2, h0, h'⟩
/-- where there is something it lies in a block -/
theorem SeqT.spot {w : World} {v : Value} {xs : List Txt} (h : SeqT w v xs) (hp : 0 < xs.length) : ∃ b o cap, v = .slice (some ⟨b, o, none⟩) xs.length cap ∧ xs.length ≤ cap ∧ cap ≤ maxLen ∧ SeqT w (.slice (some ⟨b, o, none⟩) xs.length cap) xs ∧ ∀ j, j < xs.length → w.cell? ⟨b, o + j, none⟩ = some (tv (xs.getD j [])) := by
 have h' := h
 obtain ⟨a, cap, rfl, h1, h2, h0, h3⟩ := h
 obtain ⟨b, o, rfl, hc⟩ := h3 hp
 exact ⟨b, o, cap, rfl, h1, h2, h', hc⟩
def OwnsT (B : Nat) (w : World) (v : Value) (xs : List Txt) : Prop := w.ownsRow B 9 1 v xs.length (xs.map tv)
theorem OwnsT.nil (B : Nat) (w : World) : OwnsT B w (.slice none 0 0) [] := World.ownsRow_nil _ _ _ _
theorem getD_mapT (xs : List Txt) (j : Nat) (hj : j < xs.length) : (xs.map tv)[j]? = some (tv (xs.getD j [])) := by
 simp [List.getD, List.getElem?_eq_getElem hj]
theorem OwnsT.seq {B : Nat} {w : World} {v : Value} {xs : List Txt} (h : OwnsT B w v xs) : SeqT w v xs := by
 have h' := h
 rcases h.2 with ⟨rfl, hn⟩ | ⟨g, cap, cur, rfl, hb, hg, hnc, hcm, hcs, htake⟩
 ·obtain rfl : xs = [] := List.eq_nil_of_length_eq_zero hn
  exact SeqT.nil w
 ·refine ⟨_, cap, rfl, hnc, hcm, (by simp), fun hp => ⟨g, 0, rfl, fun j hj => ?_⟩⟩
  have := World.ownsRow.cellAt h' j (by omega)
  rw [Nat.zero_add, this, getD_mapT xs j hj]
theorem OwnsT.parts {B : Nat} {w : World} {v : Value} {xs : List Txt} (h : OwnsT B w v xs) : ∃ a cap, v = .slice a xs.length cap ∧ xs.length ≤ cap ∧ cap ≤ maxLen ∧ OwnsT B w (.slice a xs.length cap) xs ∧ (a = none → cap = 0) := by
 obtain ⟨a, cap, rfl, h1, h2, h0, hs⟩ := h.seq.parts
 exact ⟨a, cap, rfl, h1, h2, h, h0⟩
theorem OwnsT.lt {B : Nat} {w : World} {v : Value} {xs : List Txt} (h : OwnsT B w v xs) : ∀ k, v.ownBlock = some k → B ≤ k ∧ k < w.heap.size := World.ownsRow.lt h
theorem OwnsT.alloc {B : Nat} {w : World} {v : Value} {xs : List Txt} (h : OwnsT B w v xs) (o : Obj) : OwnsT B (w.alloc o) v xs := World.ownsRow.alloc h o
theorem OwnsT.mono {B C : Nat} {w : World} {v : Value} {xs : List Txt} (h : OwnsT B w v xs) (hc : C ≤ B) : OwnsT C w v xs := by
 refine ⟨h.1, ?_⟩
 rcases h.2 with hn | ⟨g, cap, cur, hv, hb, hg⟩
 ·exact .inl hn
 ·exact .inr ⟨g, cap, cur, hv, by omega, hg⟩
/-- a later world in which what is old stands -/
theorem OwnsT.below {B N : Nat} {w w' : World} {v : Value} {xs : List Txt} (h : OwnsT B w v xs) (hb : Below N w w') (hN : w.heap.size ≤ N) : OwnsT B w' v xs := by
 refine ⟨h.1, ?_⟩
 rcases h.2 with hn | ⟨g, cap, cur, hv, hb', hg, hr⟩
 ·exact .inl hn
 ·have hlt : g < w.heap.size := (Array.getElem?_eq_some_iff.1 hg).1
  exact .inr ⟨g, cap, cur, hv, hb', (hb.block g (by omega)).trans hg, hr⟩
theorem OwnsT.one (w : World) (B : Nat) (x : Txt) (hB : B ≤ w.heap.size) : OwnsT B (w.alloc (.cells #[tv x] 9)) (.slice (some ⟨w.heap.size, 0, none⟩) 1 1) [x] :=
 World.ownsRow_lit w #[tv x] 1 hB (by unfold maxLen; omega) rfl
/-- the one number that an append of one lays -/
theorem SeqT.one (w : World) (x : Txt) : SeqT (w.alloc (.cells #[tv x] 9)) (.slice (some ⟨w.heap.size, 0, none⟩) 1 1) [x] :=
 (OwnsT.one w w.heap.size x (Nat.le_refl _)).seq
/-- what a function that makes numbers answers: a slice of its own that reads as xs -/
def MadeT (w : World) (xs : List Txt) (e : Ending) (w' : World) : Prop := ∃ v, e = .returned v ∧ OwnsT w.heap.size w' v xs ∧ Below w.heap.size w w'
theorem infoT : (Tryz.prog.info? 9).map (fun i => (i.zero, i.size, i.bytes)) = some (some (.string ByteArray.empty), 1, 16) := by kernel_rfl
theorem texts_oneCell (ys : List Txt) : ∀ u ∈ ys.map tv, u.oneCell' = true := by
 intro u hu
 obtain ⟨c, -, rfl⟩ := List.mem_map.1 hu
 rfl
/-- append of whatever slice reads as ys to a slice of the call's own -/
theorem wpList_append_texts {w : World} {ops : Array Oper} {rest : List Oper} {o : Oper} {act : Act} {Q : Exit → Act → World → Prop} (hgd : o.guard = none) (s x : Operand)
  (ho : o.op = .call { callee := .builtin .append, args := #[s, x], argTypes := #[66, 66] }) (B : Nat) {v u : Value} {xs ys : List Txt}
  (hs : act.eval s = v) (hown : OwnsT B w v xs) (hx : act.eval x = u) (hseq : SeqT w u ys) (hlen : xs.length + ys.length ≤ 1073741824) (hbase : B ≤ w.heap.size)
  (h : ∀ v' w', OwnsT B w' v' (xs ++ ys) → w.grownBy w' v.ownBlock → (v'.ownBlock = v.ownBlock ∨ v'.ownBlock = some w.heap.size) → wpList Tryz.prog ops Q rest (act.put o.dst v') w') : wpList Tryz.prog ops Q (o :: rest) act w := by
 obtain ⟨i0, hi, hz0, hz1, hz2⟩ := info_parts infoT
 obtain ⟨a, cap, rfl, h1, h2, h0, h3⟩ := hseq
 cases a with
 | none =>
  obtain rfl := h0 rfl
  obtain rfl : ys = [] := List.eq_nil_of_length_eq_zero (by omega)
  refine wpList_append_own_none hgd s x 66 ho B 9 i0 1 Tryz.underlying66 hi v _ _ hs hown hx (h v w ?_ (World.grownBy.refl _ _) (.inl rfl))
  rw [List.append_nil]; exact hown
 | some ad =>
  refine wpList_append_own_at _ hgd s x 66 ho B 9 i0 (.string ByteArray.empty) 1 16 Tryz.underlying66 hi hz0 hz1 hz2 rfl (by decide) v _ _ hs hown ad ys.length cap (ys.map tv) hx (by simp) ?_ (texts_oneCell _) (by unfold maxLen; omega) (by omega) hbase ?_
  ·intro j u hu
   have hj : j < ys.length := by
    have := (List.getElem?_eq_some_iff.1 hu).1
    simpa using this
   obtain ⟨b, off, he, hc⟩ := h3 (by omega)
   cases he
   rw [getD_mapT ys j hj] at hu
   cases hu
   rw [Addr.add_lit]
   exact hc j hj
  ·intro v' w' hown' hg _ hat
   exact h v' w' (by unfold OwnsT; rw [List.length_append, List.map_append]; exact hown') hg hat
theorem SeqT.dims {w : World} {a : Option Addr} {n cap : Nat} {xs : List Txt} (h : SeqT w (.slice a n cap) xs) : xs.length = n ∧ n ≤ cap ∧ cap ≤ 9223372036854775807 := by
 obtain ⟨a', cap', hv, h1, h2, -, -⟩ := h
 simp only [Value.slice.injEq] at hv
 obtain ⟨rfl, rfl, rfl⟩ := hv
 exact ⟨rfl, h1, h2⟩
/-- a cell of a slice of the call's own -/
theorem OwnsT.cell {B : Nat} {w : World} {g n cap : Nat} {xs : List Txt} (h : OwnsT B w (.slice (some ⟨g, 0, none⟩) n cap) xs) (j : Nat) (hj : j < xs.length) : w.cell? ⟨g, j, none⟩ = some (tv (xs.getD j [])) := by
 have hn := h.seq.dims.1
 have h' : w.ownsRow B 9 1 (.slice (some ⟨g, 0, none⟩) n cap) n (xs.map tv) := by rw [← hn]; unfold OwnsT at h; rw [← hn] at h; exact h
 rw [World.ownsRow.cellAt h' j (by omega), getD_mapT xs j hj]
/-- its parts, the length under a name of yours -/
theorem OwnsT.at {B : Nat} {w : World} {v : Value} {xs : List Txt} (h : OwnsT B w v xs) (n : Nat) (hn : xs.length = n) : ∃ a cap, v = .slice a n cap ∧ (n : Int) ≤ cap ∧ (cap : Int) ≤ 9223372036854775807 ∧ OwnsT B w (.slice a n cap) xs := by
 subst hn
 obtain ⟨a, cap, rfl, h1, h2, h3, -⟩ := h.parts
 have hm : maxLen = 9223372036854775807 := rfl
 exact ⟨a, cap, rfl, by omega, by omega, h3⟩
/-! ### stores, and what a row hands over -/
theorem OwnsT.free {B : Nat} {w : World} {g n cap : Nat} {xs : List Txt} (h : OwnsT B w (.slice (some ⟨g, 0, none⟩) n cap) xs) (j : Nat) : w.frozen? ⟨g, j, none⟩ = false := by
 have hn := h.seq.dims.1
 have h' : w.ownsRow B 9 1 (.slice (some ⟨g, 0, none⟩) n cap) n (xs.map tv) := by rw [← hn]; unfold OwnsT at h; rw [← hn] at h; exact h
 exact World.ownsRow.frozenAt h' j
theorem OwnsT.block {B : Nat} {w : World} {g n cap : Nat} {xs : List Txt} (h : OwnsT B w (.slice (some ⟨g, 0, none⟩) n cap) xs) : B ≤ g ∧ g < w.heap.size := h.lt g rfl

/-- s[k] -/
theorem index_run (s : Txt) (k : Nat) (hk : k < s.length) (w : World) : (Instr.index 9 (.string (bt s)) (.int .i64 (k : Int))).run Tryz.prog w = .ok (.int .u8 ((s.getD k 0).toNat : Int)) w := by
 rw [run_index_string w _ _ _ _ Tryz.underlying9]
 have hs := bt_size s
 rw [dif_pos (by omega)]
 congr 2
 show (((bt s).data[((k : Int)).toNat]'(by simp [bt]; omega)).toNat : Int) = _
 simp [bt, List.getD, List.getElem?_eq_getElem hk]
theorem toList_bt (s : Txt) : (bt s).toList = s := by
 rw [ByteArray.toList_eq]
 rfl
/-- how the model compares texts -/
theorem text_eq (s t : Txt) : ((bt s).toList == (bt t).toList) = decide (s = t) := by rw [toList_bt, toList_bt]; by_cases h : s = t <;> simp [h]
theorem text_lt (s t : Txt) : Op.bytesLess (bt s).toList (bt t).toList = decide (s < t) := by rw [toList_bt, toList_bt]; exact bytesLess_eq s t

end Go.Proofs.YtmknpmamkjjiaaaGreat
