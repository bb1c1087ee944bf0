/- WORDS FOR ITEMS AND DOTS: how they lie in memory, slices of them, what an argument that is one, or a list of them, hands over. How the model compares dots and items. -/
import Derived.Test.YtfapkepfngddlaaGreatEls
import Derived.Test.YtfapkepfngddlaaGreatByGet
import Derived.Test.YtfapkepfngddlaaGreatMaths
import Derived.Lib.SmallJoins
import Derived.OpenShut
import Derived.Deep.Slices
import Derived.Deep.Strs
import Derived.Laws.StructEq
set_option maxRecDepth 100000
set_option maxHeartbeats 64000000
namespace Go.Proofs.YtfapkepfngddlaaGreat
open Go.RowKit Plain
set_option linter.unusedVariables false
def cellsDt (d : PDot) : List Value := [.int .i64 d.node, .int .i64 d.seq, .int .i64 d.pos]
def dv (d : PDot) : Value := .agg #[.int .i64 d.node, .int .i64 d.seq, .int .i64 d.pos]
def cellsIt (x : PItem) : List Value := [tv x.key, tv x.field, .int .i64 x.kind, tv x.elem, .int .i64 x.n, .int .i64 x.dot.node, .int .i64 x.dot.seq, .int .i64 x.dot.pos]
def itv (x : PItem) : Value := .agg #[tv x.key, tv x.field, .int .i64 x.kind, tv x.elem, .int .i64 x.n, .int .i64 x.dot.node, .int .i64 x.dot.seq, .int .i64 x.dot.pos]
def zeroDt : Value := .agg #[.int .i64 0, .int .i64 0, .int .i64 0]
def zeroIt : Value := .agg #[.string ByteArray.empty, .string ByteArray.empty, .int .i64 0, .string ByteArray.empty, .int .i64 0, .int .i64 0, .int .i64 0, .int .i64 0]
theorem infoDt : (Tryz.prog.info? 45).map (fun i => (i.zero, i.size, i.bytes)) = some (some zeroDt, 3, 24) := by kernel_rfl
theorem infoIt : (Tryz.prog.info? 47).map (fun i => (i.zero, i.size, i.bytes)) = some (some zeroIt, 8, 88) := by kernel_rfl
theorem oneDt {vs : List Value} {d : PDot} (h : vs = cellsDt d) : ∀ u ∈ vs, u.oneCell' = true := by
 subst h;intro u hu;simp only [cellsDt, List.mem_cons, List.not_mem_nil, or_false] at hu
 rcases hu with rfl | rfl | rfl <;> rfl
theorem oneIt {vs : List Value} {x : PItem} (h : vs = cellsIt x) : ∀ u ∈ vs, u.oneCell' = true := by
 subst h;intro u hu;simp only [cellsIt, List.mem_cons, List.not_mem_nil, or_false] at hu
 rcases hu with rfl | rfl | rfl | rfl | rfl | rfl | rfl | rfl <;> rfl
theorem lenDt {vs : List Value} {d : PDot} (h : vs = cellsDt d) : vs.length = 3 := by subst h; rfl
theorem lenIt {vs : List Value} {x : PItem} (h : vs = cellsIt x) : vs.length = 8 := by subst h; rfl
theorem zsDt : zeroDt.cells.size = 3 := rfl
theorem zsIt : zeroIt.cells.size = 8 := rfl
def LDot : El PDot where
 k := 3
 E := 45
 S := 52
 zero := zeroDt
 bytes := 24
 R := fun _ _ vs d => vs = cellsDt d
 pos := by decide
 small := by decide
 len := lenDt
 one := oneDt
 mono := fun h _ => h
 agree := fun h _ => h
 und := Tryz.underlying52
 info := infoDt
 zsize := zsDt
def LItem : El PItem where
 k := 8
 E := 47
 S := 25
 zero := zeroIt
 bytes := 88
 R := fun _ _ vs x => vs = cellsIt x
 pos := by decide
 small := by decide
 len := lenIt
 one := oneIt
 mono := fun h _ => h
 agree := fun h _ => h
 und := Tryz.underlying25
 info := infoIt
 zsize := zsIt
theorem flat_dot : Flat LDot := fun h => h
theorem flat_item : Flat LItem := fun h => h
structure ItemAt (w : World) (b o : Nat) (x : PItem) : Prop where
 c0 : w.cell? ⟨b, o, none⟩ = some (.string (bt x.key))
 c1 : w.cell? ⟨b, o + 1, none⟩ = some (.string (bt x.field))
 c2 : w.cell? ⟨b, o + 2, none⟩ = some (.int .i64 x.kind)
 c3 : w.cell? ⟨b, o + 3, none⟩ = some (.string (bt x.elem))
 c4 : w.cell? ⟨b, o + 4, none⟩ = some (.int .i64 x.n)
 c5 : w.cell? ⟨b, o + 5, none⟩ = some (.int .i64 x.dot.node)
 c6 : w.cell? ⟨b, o + 6, none⟩ = some (.int .i64 x.dot.seq)
 c7 : w.cell? ⟨b, o + 7, none⟩ = some (.int .i64 x.dot.pos)
structure DotAt (w : World) (b o : Nat) (d : PDot) : Prop where
 c0 : w.cell? ⟨b, o, none⟩ = some (.int .i64 d.node)
 c1 : w.cell? ⟨b, o + 1, none⟩ = some (.int .i64 d.seq)
 c2 : w.cell? ⟨b, o + 2, none⟩ = some (.int .i64 d.pos)
theorem ItemAt.below {N : Nat} {w w' : World} {b o : Nat} {x : PItem} (h : ItemAt w b o x) (hb : Below N w w') (hN : b < N) : ItemAt w' b o x :=
 ⟨(hb.cell (p := ⟨b, o, none⟩) hN).trans h.c0, (hb.cell (p := ⟨b, o + 1, none⟩) hN).trans h.c1, (hb.cell (p := ⟨b, o + 2, none⟩) hN).trans h.c2, (hb.cell (p := ⟨b, o + 3, none⟩) hN).trans h.c3,
  (hb.cell (p := ⟨b, o + 4, none⟩) hN).trans h.c4, (hb.cell (p := ⟨b, o + 5, none⟩) hN).trans h.c5, (hb.cell (p := ⟨b, o + 6, none⟩) hN).trans h.c6, (hb.cell (p := ⟨b, o + 7, none⟩) hN).trans h.c7⟩
theorem ItemAt.lt {w : World} {b o : Nat} {x : PItem} (h : ItemAt w b o x) : b < w.heap.size := World.block_lt_of_cell? w ⟨b, o, none⟩ h.c0
theorem DotAt.below {N : Nat} {w w' : World} {b o : Nat} {x : PDot} (h : DotAt w b o x) (hb : Below N w w') (hN : b < N) : DotAt w' b o x :=
 ⟨(hb.cell (p := ⟨b, o, none⟩) hN).trans h.c0, (hb.cell (p := ⟨b, o + 1, none⟩) hN).trans h.c1, (hb.cell (p := ⟨b, o + 2, none⟩) hN).trans h.c2⟩
theorem DotAt.lt {w : World} {b o : Nat} {x : PDot} (h : DotAt w b o x) : b < w.heap.size := World.block_lt_of_cell? w ⟨b, o, none⟩ h.c0
theorem getD_at {α : Type} [Inhabited α] {xs : List α} {j : Nat} (hj : j < xs.length) : xs[j]? = some (xs.getD j default) := by
 simp [List.getD, List.getElem?_eq_getElem hj]
theorem items_spot {w : World} {v : Value} {xs : List PItem} (h : SeqE LItem w v xs) (hp : 0 < xs.length) : ∃ b o cap, v = .slice (some ⟨b, o, none⟩) xs.length cap ∧ xs.length ≤ cap ∧ cap ≤ 9223372036854775807 ∧ SeqE LItem w (.slice (some ⟨b, o, none⟩) xs.length cap) xs ∧ ∀ j, j < xs.length → ItemAt w b (o + j * 8) (xs.getD j default) := by
 obtain ⟨b, o, cap, e, h1, h2, h3, hc⟩ := h.spot hp;refine ⟨b, o, cap, e, h1, h2, h3, fun j hj => ?_⟩;obtain ⟨vs, hr, hv⟩ := hc j _ (getD_at hj);obtain rfl : vs = cellsIt (xs.getD j default) := hr;have g := fun i u (hu : (cellsIt (xs.getD j default))[i]? = some u) => hv i u hu
 refine ⟨g 0 _ rfl, ?_, ?_, ?_, ?_, ?_, ?_, ?_⟩
 ·rw [Nat.add_assoc]; exact g 1 _ rfl
 ·rw [Nat.add_assoc]; exact g 2 _ rfl
 ·rw [Nat.add_assoc]; exact g 3 _ rfl
 ·rw [Nat.add_assoc]; exact g 4 _ rfl
 ·rw [Nat.add_assoc]; exact g 5 _ rfl
 ·rw [Nat.add_assoc]; exact g 6 _ rfl
 ·rw [Nat.add_assoc]; exact g 7 _ rfl
theorem dots_spot {w : World} {v : Value} {xs : List PDot} (h : SeqE LDot w v xs) (hp : 0 < xs.length) : ∃ b o cap, v = .slice (some ⟨b, o, none⟩) xs.length cap ∧ xs.length ≤ cap ∧ cap ≤ 9223372036854775807 ∧ SeqE LDot w (.slice (some ⟨b, o, none⟩) xs.length cap) xs ∧ ∀ j, j < xs.length → DotAt w b (o + j * 3) (xs.getD j default) := by
 obtain ⟨b, o, cap, e, h1, h2, h3, hc⟩ := h.spot hp;refine ⟨b, o, cap, e, h1, h2, h3, fun j hj => ?_⟩;obtain ⟨vs, hr, hv⟩ := hc j _ (getD_at hj);obtain rfl : vs = cellsDt (xs.getD j default) := hr;have g := fun i u (hu : (cellsDt (xs.getD j default))[i]? = some u) => hv i u hu
 refine ⟨g 0 _ rfl, ?_, ?_⟩
 ·rw [Nat.add_assoc]; exact g 1 _ rfl
 ·rw [Nat.add_assoc]; exact g 2 _ rfl
theorem one_item (w : World) (x : PItem) : SeqE LItem (w.alloc (.cells #[.string (bt x.key), .string (bt x.field), .int .i64 x.kind, .string (bt x.elem), .int .i64 x.n, .int .i64 x.dot.node, .int .i64 x.dot.seq, .int .i64 x.dot.pos] 47)) (.slice (some ⟨w.heap.size, 0, none⟩) 1 1) [x] := by
 have h := SeqE.one (L := LItem) (w := w) (vs := cellsIt x) (x := x) rfl (cellsIt x).toArray (by simp);exact h
theorem tx_le {s : ByteArray} (h : s.size ≤ maxLen) : (tx s).length ≤ 9223372036854775807 := by
 have e : (tx s).length = s.size := by unfold tx ByteArray.size; exact Array.length_toList
 rw [e];exact h
def dotOk (d : PDot) : Prop := (Lit.int .i64 d.node).wf = true ∧ (Lit.int .i64 d.seq).wf = true ∧ (Lit.int .i64 d.pos).wf = true
def itemOk (x : PItem) : Prop := (Lit.int .i64 x.kind).wf = true ∧ (Lit.int .i64 x.n).wf = true ∧ dotOk x.dot ∧ x.key.length ≤ 9223372036854775807 ∧ x.field.length ≤ 9223372036854775807 ∧ x.elem.length ≤ 9223372036854775807
theorem cellsOfDot : Tryz.prog.cellsOf 45 = 3 := by kernel_rfl
theorem cellsOfItem : Tryz.prog.cellsOf 47 = 8 := by kernel_rfl
section
open Go.ChangeShapes Go.WideShapes Go.Joins
set_option maxRecDepth 100000
theorem dot_of_trod {H : Type} {enc : TypeId × Value → H} {W : World} {n : Nat} {cs : List Value} {y : DataW H × List MemPlace} (ht : DataW.trod enc Tryz.prog W 0 (fun _ => true) true n 45 cs = some y) : ∃ d, cs = cellsDt d ∧ dotOk d := by
 obtain ⟨y0, y1, y2, n', -, hl, h0, h1, h2⟩ := Go.Deep.trod_struct3 Tryz.underlying45 ht;rw [cellsOfDot] at hl;have e1 : Tryz.prog.cellsOf 3 = 1 := by kernel_rfl
 match cs, hl with
 | [x0, x1, x2], _ =>
  simp [e1] at h0 h1 h2
  obtain ⟨a, g0, -, w0⟩ := DataW.trod_int Tryz.underlying3 h0;obtain ⟨b, g1, -, w1⟩ := DataW.trod_int Tryz.underlying3 h1;obtain ⟨c, g2, -, w2⟩ := DataW.trod_int Tryz.underlying3 h2;simp at g0 g1 g2
  subst g0 g1 g2;exact ⟨⟨a, b, c⟩, rfl, w0, w1, w2⟩
theorem item_of_cells {H : Type} {enc : TypeId × Value → H} {W : World} {n : Nat} {cs : List Value} {y : DataW H × List MemPlace} (ht : DataW.trod enc Tryz.prog W 0 (fun _ => true) true n 47 cs = some y) : ∃ x, cs = cellsIt x ∧ itemOk x := by
 obtain ⟨ys, n', -, -, hl, hlen, hf⟩ := DataW.trod_struct Tryz.underlying47 ht;rw [cellsOfItem] at hl;have e1 : Tryz.prog.cellsOf 3 = 1 := by kernel_rfl
 have e2 : Tryz.prog.cellsOf 9 = 1 := by kernel_rfl
 have e3 : Tryz.prog.cellsOf 2 = 1 := by kernel_rfl
 match cs, hl with
 | [x0, x1, x2, x3, x4, x5, x6, x7], _ =>
  match ys, hlen with
  | [y0, y1, y2, y3, y4, y5], _ =>
   have h0 := hf 0 _ rfl;have h1 := hf 1 _ rfl;have h2 := hf 2 _ rfl;have h3 := hf 3 _ rfl;have h4 := hf 4 _ rfl;have h5 := hf 5 _ rfl;simp [e1, e2, e3, cellsOfDot] at h0 h1 h2 h3 h4 h5
   obtain ⟨s0, g0, -, l0⟩ := DataW.trod_string Tryz.underlying9 h0;obtain ⟨s1, g1, -, l1⟩ := DataW.trod_string Tryz.underlying9 h1;obtain ⟨a2, g2, -, w2⟩ := DataW.trod_int Tryz.underlying3 h2;obtain ⟨s3, g3, -, l3⟩ := DataW.trod_string Tryz.underlying9 h3;obtain ⟨a4, g4, -, w4⟩ := DataW.trod_int Tryz.underlying2 h4;obtain ⟨d, g5, wd⟩ := dot_of_trod h5;simp at g0 g1 g2 g3 g4
   subst g0 g1 g2 g3 g4;simp only [cellsDt, List.cons.injEq, and_true] at g5
   obtain ⟨rfl, rfl, rfl⟩ := g5;exact ⟨⟨tx s0, tx s1, a2, tx s3, a4, d⟩, rfl, w2, w4, wd, tx_le l0, tx_le l1, tx_le l3⟩
end
theorem fields_dot : Tryz.prog.underlying 45 = some (.struct (Tryz.prog.fieldsOf 45)) := by kernel_rfl
theorem held_dot : Tryz.prog.stoodInHeld 45 = false := by kernel_rfl
theorem fields_item : Tryz.prog.underlying 47 = some (.struct (Tryz.prog.fieldsOf 47)) := by kernel_rfl
theorem held_item : Tryz.prog.stoodInHeld 47 = false := by kernel_rfl
theorem dot_dec (d e : PDot) : decide (d = e) = (decide (d.node = e.node) && (decide (d.seq = e.seq) && decide (d.pos = e.pos))) := by
 rw [Bool.eq_iff_iff, Bool.and_eq_true, Bool.and_eq_true, decide_eq_true_iff, decide_eq_true_iff, decide_eq_true_iff, decide_eq_true_iff];exact ⟨fun h => by subst h; exact ⟨rfl, rfl, rfl⟩, fun ⟨h1, h2, h3⟩ => pdot_ext h1 h2 h3⟩
theorem item_dec (x y : PItem) : decide (x = y) = (decide (x.key = y.key) && (decide (x.field = y.field) && (decide (x.kind = y.kind) && (decide (x.elem = y.elem) && (decide (x.n = y.n) && decide (x.dot = y.dot)))))) := by
 rw [Bool.eq_iff_iff];simp only [Bool.and_eq_true, decide_eq_true_iff]
 exact ⟨fun h => by subst h; exact ⟨rfl, rfl, rfl, rfl, rfl, rfl⟩, fun ⟨h1, h2, h3, h4, h5, h6⟩ => pitem_ext h1 h2 h3 h4 h5 h6⟩
theorem eq_dot (k : Nat) (d e : PDot) (w : World) : (Op.equalIn (k + 2) 45 (.agg #[.int .i64 d.node, .int .i64 d.seq, .int .i64 d.pos]) (.agg #[.int .i64 e.node, .int .i64 e.seq, .int .i64 e.pos])).run Tryz.prog w = .ok (decide (d = e)) w := by
 rw [run_equalIn_agg w (k + 1) _ _ _ fields_dot held_dot, dot_dec];simp [Program.fieldsOf, Tryz.underlying45, Tryz.underlying3, Tryz.isAgg3, Tryz.sizeOf3, Op.eqFields, go_sem]
 by_cases h1 : d.node = e.node
 ·by_cases h2 : d.seq = e.seq
  ·by_cases h3 : d.pos = e.pos <;> simp [h1, h2, h3]
  ·simp [h1, h2]
 ·simp [h1]
theorem txt_dec (s t : Txt) : ((bt s).toList == (bt t).toList) = decide (s = t) := text_eq s t
theorem eq_item (k : Nat) (x y : PItem) (w : World) : (Op.equalIn (k + 3) 47 (.agg #[.string (bt x.key), .string (bt x.field), .int .i64 x.kind, .string (bt x.elem), .int .i64 x.n, .int .i64 x.dot.node, .int .i64 x.dot.seq, .int .i64 x.dot.pos])
  (.agg #[.string (bt y.key), .string (bt y.field), .int .i64 y.kind, .string (bt y.elem), .int .i64 y.n, .int .i64 y.dot.node, .int .i64 y.dot.seq, .int .i64 y.dot.pos])).run Tryz.prog w = .ok (decide (x = y)) w := by
 rw [run_equalIn_agg w (k + 2) _ _ _ fields_item held_item, item_dec];have e1 := txt_dec x.key y.key;have e2 := txt_dec x.field y.field;have e3 := txt_dec x.elem y.elem;have e4 := eq_dot k x.dot y.dot w;generalize bt x.key = K1 at *;generalize bt y.key = K2 at *;generalize bt x.field = F1 at *;generalize bt y.field = F2 at *;generalize bt x.elem = E1 at *;generalize bt y.elem = E2 at *
 by_cases h1 : x.key = y.key
 ·by_cases h2 : x.field = y.field
  ·by_cases h3 : x.kind = y.kind
   ·by_cases h4 : x.elem = y.elem
    ·by_cases h5 : x.n = y.n
     ·generalize decide (x.dot = y.dot) = b at *
      cases b
      ·simp [Program.fieldsOf, Tryz.underlying47, Tryz.underlying3, Tryz.underlying2, Tryz.underlying9, Tryz.isAgg3, Tryz.isAgg2, Tryz.isAgg9, Tryz.isAgg45, Tryz.sizeOf45, Op.eqFields, run_equalIn_int, run_equalIn_string, part, e1, e2, e3, e4, h1, h2, h3, h4, h5]
      ·simp [Program.fieldsOf, Tryz.underlying47, Tryz.underlying3, Tryz.underlying2, Tryz.underlying9, Tryz.isAgg3, Tryz.isAgg2, Tryz.isAgg9, Tryz.isAgg45, Tryz.sizeOf45, Op.eqFields, run_equalIn_int, run_equalIn_string, part, e1, e2, e3, e4, h1, h2, h3, h4, h5]
     ·simp [Program.fieldsOf, Tryz.underlying47, Tryz.underlying3, Tryz.underlying2, Tryz.underlying9, Tryz.isAgg3, Tryz.isAgg2, Tryz.isAgg9, Op.eqFields, run_equalIn_int, run_equalIn_string, part, e1, e2, e3, h1, h2, h3, h4, h5]
    ·simp [Program.fieldsOf, Tryz.underlying47, Tryz.underlying3, Tryz.underlying2, Tryz.underlying9, Tryz.isAgg3, Tryz.isAgg2, Tryz.isAgg9, Op.eqFields, run_equalIn_int, run_equalIn_string, part, e1, e2, e3, h1, h2, h3, h4]
   ·simp [Program.fieldsOf, Tryz.underlying47, Tryz.underlying3, Tryz.underlying2, Tryz.underlying9, Tryz.isAgg3, Tryz.isAgg2, Tryz.isAgg9, Op.eqFields, run_equalIn_int, run_equalIn_string, part, e1, e2, h1, h2, h3]
  ·simp [Program.fieldsOf, Tryz.underlying47, Tryz.underlying3, Tryz.underlying2, Tryz.underlying9, Tryz.isAgg3, Tryz.isAgg2, Tryz.isAgg9, Op.eqFields, run_equalIn_int, run_equalIn_string, part, e1, e2, h1, h2]
 ·simp [Program.fieldsOf, Tryz.underlying47, Tryz.underlying3, Tryz.underlying2, Tryz.underlying9, Tryz.isAgg3, Tryz.isAgg2, Tryz.isAgg9, Op.eqFields, run_equalIn_int, run_equalIn_string, part, e1, h1]
theorem eql_dot (d e : PDot) (w : World) : (binOp .eql 45 (.agg #[.int .i64 d.node, .int .i64 d.seq, .int .i64 d.pos]) (.agg #[.int .i64 e.node, .int .i64 e.seq, .int .i64 e.pos])).run Tryz.prog w = .ok (.bool (decide (d = e))) w := by
 rw [run_eql_struct, eq_dot 9998]
 rfl
theorem neq_item (x y : PItem) (w : World) : (binOp .neq 47 (.agg #[.string (bt x.key), .string (bt x.field), .int .i64 x.kind, .string (bt x.elem), .int .i64 x.n, .int .i64 x.dot.node, .int .i64 x.dot.seq, .int .i64 x.dot.pos])
  (.agg #[.string (bt y.key), .string (bt y.field), .int .i64 y.kind, .string (bt y.elem), .int .i64 y.n, .int .i64 y.dot.node, .int .i64 y.dot.seq, .int .i64 y.dot.pos])).run Tryz.prog w = .ok (.bool (!decide (x = y))) w := by
 rw [run_neq_struct, eq_item 9997]
 rfl
theorem eql_item (x y : PItem) (w : World) : (binOp .eql 47 (.agg #[.string (bt x.key), .string (bt x.field), .int .i64 x.kind, .string (bt x.elem), .int .i64 x.n, .int .i64 x.dot.node, .int .i64 x.dot.seq, .int .i64 x.dot.pos])
  (.agg #[.string (bt y.key), .string (bt y.field), .int .i64 y.kind, .string (bt y.elem), .int .i64 y.n, .int .i64 y.dot.node, .int .i64 y.dot.seq, .int .i64 y.dot.pos])).run Tryz.prog w = .ok (.bool (decide (x = y))) w := by
 rw [run_eql_struct, eq_item 9997]
 rfl
end Go.Proofs.YtfapkepfngddlaaGreat
