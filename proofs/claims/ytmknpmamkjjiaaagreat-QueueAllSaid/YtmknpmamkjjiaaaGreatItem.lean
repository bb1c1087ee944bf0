/- WORDS FOR ITEMS AND DOTS: how they lie in memory, slices of them, what an argument that is one, or a list of them, hands over. -/
import Derived.Test.YtmknpmamkjjiaaaGreatEls
import Derived.Test.YtmknpmamkjjiaaaGreatTWords
import Derived.Test.YtmknpmamkjjiaaaGreatMaths
import Derived.Lib.SmallJoins
import Derived.OpenShut
import Derived.Deep.Slices
import Derived.Deep.Strs
namespace Go.Proofs.YtmknpmamkjjiaaaGreat
open Go.RowKit Plain
set_option linter.unusedVariables false

/-- a dot as the model has it -/
def cellsDt (d : PDot) : List Value := [.int .i64 d.node, .int .i64 d.seq, .int .i64 d.pos]
def dv (d : PDot) : Value := .agg #[.int .i64 d.node, .int .i64 d.seq, .int .i64 d.pos]
/-- an item as the model has it -/
def cellsIt (x : PItem) : List Value := [tv x.key, tv x.field, .int .i64 x.kind, tv x.elem, .int .i64 x.n, .int .i64 x.dot.node, .int .i64 x.dot.seq, .int .i64 x.dot.pos]
def itv (x : PItem) : Value := .agg #[tv x.key, tv x.field, .int .i64 x.kind, tv x.elem, .int .i64 x.n, .int .i64 x.dot.node, .int .i64 x.dot.seq, .int .i64 x.dot.pos]
def zeroDt : Value := .agg #[.int .i64 0, .int .i64 0, .int .i64 0]
def zeroIt : Value := .agg #[.string ByteArray.empty, .string ByteArray.empty, .int .i64 0, .string ByteArray.empty, .int .i64 0, .int .i64 0, .int .i64 0, .int .i64 0]
theorem infoDt : (Tryz.prog.info? 54).map (fun i => (i.zero, i.size, i.bytes)) = some (some zeroDt, 3, 24) := by kernel_rfl
theorem infoIt : (Tryz.prog.info? 79).map (fun i => (i.zero, i.size, i.bytes)) = some (some zeroIt, 8, 88) := by kernel_rfl
theorem oneDt {vs : List Value} {d : PDot} (h : vs = cellsDt d) : ∀ u ∈ vs, u.oneCell' = true := by
 subst h
 intro u hu
 simp only [cellsDt, List.mem_cons, List.not_mem_nil, or_false] at hu
 rcases hu with rfl | rfl | rfl <;> rfl
theorem oneIt {vs : List Value} {x : PItem} (h : vs = cellsIt x) : ∀ u ∈ vs, u.oneCell' = true := by
 subst h
 intro u hu
 simp only [cellsIt, List.mem_cons, List.not_mem_nil, or_false] at hu
 rcases hu with rfl | rfl | rfl | rfl | rfl | rfl | rfl | rfl <;> rfl
theorem lenDt {vs : List Value} {d : PDot} (h : vs = cellsDt d) : vs.length = 3 := by subst h; rfl
theorem lenIt {vs : List Value} {x : PItem} (h : vs = cellsIt x) : vs.length = 8 := by subst h; rfl
theorem zsDt : zeroDt.cells.size = 3 := rfl
theorem zsIt : zeroIt.cells.size = 8 := rfl
def LDot : El PDot where
 k := 3
 E := 54
 S := 59
 zero := zeroDt
 bytes := 24
 R := fun _ _ vs d => vs = cellsDt d
 pos := by decide
 small := by decide
 len := lenDt
 one := oneDt
 mono := fun h _ => h
 agree := fun h _ => h
 und := Tryz.underlying59
 info := infoDt
 zsize := zsDt
def LItem : El PItem where
 k := 8
 E := 79
 S := 84
 zero := zeroIt
 bytes := 88
 R := fun _ _ vs x => vs = cellsIt x
 pos := by decide
 small := by decide
 len := lenIt
 one := oneIt
 mono := fun h _ => h
 agree := fun h _ => h
 und := Tryz.underlying84
 info := infoIt
 zsize := zsIt
theorem flat_dot : Flat LDot := fun h => h
theorem flat_item : Flat LItem := fun h => h
/-- the cells of an item at a place -/
structure ItemAt (w : World) (b o : Nat) (x : PItem) : Prop where
 c0 : w.cell? ⟨b, o, none⟩ = some (.string (bt x.key))
 c1 : w.cell? ⟨b, o + 1, none⟩ = some (.string (bt x.field))
 c2 : w.cell? ⟨b, o + 2, none⟩ = some (.int .i64 x.kind)
 c3 : w.cell? ⟨b, o + 3, none⟩ = some (.string (bt x.elem))
 c4 : w.cell? ⟨b, o + 4, none⟩ = some (.int .i64 x.n)
 c5 : w.cell? ⟨b, o + 5, none⟩ = some (.int .i64 x.dot.node)
 c6 : w.cell? ⟨b, o + 6, none⟩ = some (.int .i64 x.dot.seq)
 c7 : w.cell? ⟨b, o + 7, none⟩ = some (.int .i64 x.dot.pos)
structure DotAt (w : World) (b o : Nat) (d : PDot) : Prop where
 c0 : w.cell? ⟨b, o, none⟩ = some (.int .i64 d.node)
 c1 : w.cell? ⟨b, o + 1, none⟩ = some (.int .i64 d.seq)
 c2 : w.cell? ⟨b, o + 2, none⟩ = some (.int .i64 d.pos)
theorem ItemAt.below {N : Nat} {w w' : World} {b o : Nat} {x : PItem} (h : ItemAt w b o x) (hb : Below N w w') (hN : b < N) : ItemAt w' b o x :=
 ⟨(hb.cell (p := ⟨b, o, none⟩) hN).trans h.c0, (hb.cell (p := ⟨b, o + 1, none⟩) hN).trans h.c1, (hb.cell (p := ⟨b, o + 2, none⟩) hN).trans h.c2, (hb.cell (p := ⟨b, o + 3, none⟩) hN).trans h.c3,
  (hb.cell (p := ⟨b, o + 4, none⟩) hN).trans h.c4, (hb.cell (p := ⟨b, o + 5, none⟩) hN).trans h.c5, (hb.cell (p := ⟨b, o + 6, none⟩) hN).trans h.c6, (hb.cell (p := ⟨b, o + 7, none⟩) hN).trans h.c7⟩
theorem ItemAt.lt {w : World} {b o : Nat} {x : PItem} (h : ItemAt w b o x) : b < w.heap.size := World.block_lt_of_cell? w ⟨b, o, none⟩ h.c0
theorem DotAt.below {N : Nat} {w w' : World} {b o : Nat} {x : PDot} (h : DotAt w b o x) (hb : Below N w w') (hN : b < N) : DotAt w' b o x :=
 ⟨(hb.cell (p := ⟨b, o, none⟩) hN).trans h.c0, (hb.cell (p := ⟨b, o + 1, none⟩) hN).trans h.c1, (hb.cell (p := ⟨b, o + 2, none⟩) hN).trans h.c2⟩
theorem DotAt.lt {w : World} {b o : Nat} {x : PDot} (h : DotAt w b o x) : b < w.heap.size := World.block_lt_of_cell? w ⟨b, o, none⟩ h.c0
theorem getD_at {α : Type} [Inhabited α] {xs : List α} {j : Nat} (hj : j < xs.length) : xs[j]? = some (xs.getD j default) := by
 simp [List.getD, List.getElem?_eq_getElem hj]
/-- where there are items they lie in a block -/
theorem items_spot {w : World} {v : Value} {xs : List PItem} (h : SeqE LItem w v xs) (hp : 0 < xs.length) : ∃ b o cap, v = .slice (some ⟨b, o, none⟩) xs.length cap ∧ xs.length ≤ cap ∧ cap ≤ 9223372036854775807 ∧ SeqE LItem w (.slice (some ⟨b, o, none⟩) xs.length cap) xs ∧ ∀ j, j < xs.length → ItemAt w b (o + j * 8) (xs.getD j default) := by
 obtain ⟨b, o, cap, e, h1, h2, h3, hc⟩ := h.spot hp
 refine ⟨b, o, cap, e, h1, h2, h3, fun j hj => ?_⟩
 obtain ⟨vs, hr, hv⟩ := hc j _ (getD_at hj)
 obtain rfl : vs = cellsIt (xs.getD j default) := hr
 have g := fun i u (hu : (cellsIt (xs.getD j default))[i]? = some u) => hv i u hu
 refine ⟨g 0 _ rfl, ?_, ?_, ?_, ?_, ?_, ?_, ?_⟩
 ·rw [Nat.add_assoc]; exact g 1 _ rfl
 ·rw [Nat.add_assoc]; exact g 2 _ rfl
 ·rw [Nat.add_assoc]; exact g 3 _ rfl
 ·rw [Nat.add_assoc]; exact g 4 _ rfl
 ·rw [Nat.add_assoc]; exact g 5 _ rfl
 ·rw [Nat.add_assoc]; exact g 6 _ rfl
 ·rw [Nat.add_assoc]; exact g 7 _ rfl
theorem dots_spot {w : World} {v : Value} {xs : List PDot} (h : SeqE LDot w v xs) (hp : 0 < xs.length) : ∃ b o cap, v = .slice (some ⟨b, o, none⟩) xs.length cap ∧ xs.length ≤ cap ∧ cap ≤ 9223372036854775807 ∧ SeqE LDot w (.slice (some ⟨b, o, none⟩) xs.length cap) xs ∧ ∀ j, j < xs.length → DotAt w b (o + j * 3) (xs.getD j default) := by
 obtain ⟨b, o, cap, e, h1, h2, h3, hc⟩ := h.spot hp
 refine ⟨b, o, cap, e, h1, h2, h3, fun j hj => ?_⟩
 obtain ⟨vs, hr, hv⟩ := hc j _ (getD_at hj)
 obtain rfl : vs = cellsDt (xs.getD j default) := hr
 have g := fun i u (hu : (cellsDt (xs.getD j default))[i]? = some u) => hv i u hu
 refine ⟨g 0 _ rfl, ?_, ?_⟩
 ·rw [Nat.add_assoc]; exact g 1 _ rfl
 ·rw [Nat.add_assoc]; exact g 2 _ rfl
theorem one_item (w : World) (x : PItem) : SeqE LItem (w.alloc (.cells #[.string (bt x.key), .string (bt x.field), .int .i64 x.kind, .string (bt x.elem), .int .i64 x.n, .int .i64 x.dot.node, .int .i64 x.dot.seq, .int .i64 x.dot.pos] 79)) (.slice (some ⟨w.heap.size, 0, none⟩) 1 1) [x] := by
 have h := SeqE.one (L := LItem) (w := w) (vs := cellsIt x) (x := x) rfl (cellsIt x).toArray (by simp)
 exact h

/-! ### arguments -/
theorem tx_le {s : ByteArray} (h : s.size ≤ maxLen) : (tx s).length ≤ 9223372036854775807 := by
 have e : (tx s).length = s.size := by unfold tx ByteArray.size; exact Array.length_toList
 rw [e]
 exact h
/-- numbers of the model's range -/
def dotOk (d : PDot) : Prop := (Lit.int .i64 d.node).wf = true ∧ (Lit.int .i64 d.seq).wf = true ∧ (Lit.int .i64 d.pos).wf = true
theorem cellsOfDot : Tryz.prog.cellsOf 54 = 3 := by kernel_rfl
section
open Go.ChangeShapes Go.WideShapes Go.Joins
set_option maxRecDepth 100000
theorem dot_of_trod {H : Type} {enc : TypeId × Value → H} {W : World} {n : Nat} {cs : List Value} {y : DataW H × List MemPlace} (ht : DataW.trod enc Tryz.prog W 0 (fun _ => true) true n 54 cs = some y) : ∃ d, cs = cellsDt d ∧ dotOk d := by
 obtain ⟨y0, y1, y2, n', -, hl, h0, h1, h2⟩ := Go.Deep.trod_struct3 Tryz.underlying54 ht
 rw [cellsOfDot] at hl
 have e1 : Tryz.prog.cellsOf 3 = 1 := by kernel_rfl
 match cs, hl with
 | [x0, x1, x2], _ =>
  simp [e1] at h0 h1 h2
  obtain ⟨a, g0, -, w0⟩ := DataW.trod_int Tryz.underlying3 h0
  obtain ⟨b, g1, -, w1⟩ := DataW.trod_int Tryz.underlying3 h1
  obtain ⟨c, g2, -, w2⟩ := DataW.trod_int Tryz.underlying3 h2
  simp at g0 g1 g2
  subst g0 g1 g2
  exact ⟨⟨a, b, c⟩, rfl, w0, w1, w2⟩
end
end Go.Proofs.YtmknpmamkjjiaaaGreat
