/- WORDS FOR ITEMS AND DOTS: how they lie in memory, slices of them, what an argument that is one, or a list of them, hands over. How the model compares dots and items. -/
import Derived.Test.YtajfliemmfdnhaaGreatEls
import Derived.Test.YtajfliemmfdnhaaGreatGives
import Derived.Test.YtajfliemmfdnhaaGreatMaths
import Derived.Lib.SmallJoins
import Derived.OpenShut
import Derived.Deep.Slices
import Derived.Deep.Strs
import Derived.Laws.StructEq
import Derived.Test.YtajfliemmfdnhaaGreatElGs
import Derived.Maps.OwnSet
import Derived.DeepKeys5
import Derived.Deep.LoopGhost
import Derived.BigQuiet
import Derived.Shelf.Abstract
import Derived.Deep.Cut
import Derived.Lib.SliceRun
namespace Go.Proofs.YtajfliemmfdnhaaGreat
open Go.RowKit Plain
set_option linter.unusedVariables false

def cellsDt (d : PDot) : List Value := [.int .i64 d.node, .int .i64 d.seq, .int .i64 d.pos]
def dv (d : PDot) : Value := .agg #[.int .i64 d.node, .int .i64 d.seq, .int .i64 d.pos]
def itv (x : PItem) : Value := .agg #[tv x.key, tv x.field, .int .i64 x.kind, tv x.elem, .int .i64 x.n, .int .i64 x.dot.node, .int .i64 x.dot.seq, .int .i64 x.dot.pos]
def zeroDt : Value := .agg #[.int .i64 0, .int .i64 0, .int .i64 0]
theorem infoDt : (Tryz.prog.info? 53).map (fun i => (i.zero, i.size, i.bytes)) = some (some zeroDt, 3, 24) := by kernel_rfl
theorem oneDt {vs : List Value} {d : PDot} (h : vs = cellsDt d) : ∀ u ∈ vs, u.oneCell' = true := by
 subst h
 intro u hu
 simp only [cellsDt, List.mem_cons, List.not_mem_nil, or_false] at hu
 rcases hu with rfl | rfl | rfl <;> rfl
theorem lenDt {vs : List Value} {d : PDot} (h : vs = cellsDt d) : vs.length = 3 := by subst h; rfl
theorem zsDt : zeroDt.cells.size = 3 := rfl
def LDot : El PDot where
 k := 3
 E := 53
 S := 63
 zero := zeroDt
 bytes := 24
 R := fun _ _ vs d => vs = cellsDt d
 pos := by decide
 small := by decide
 len := lenDt
 one := oneDt
 mono := fun h _ => h
 agree := fun h _ => h
 und := Tryz.underlying63
 info := infoDt
 zsize := zsDt
theorem flat_dot : Flat LDot := fun h => h
structure ItemAt (w : World) (b o : Nat) (x : PItem) : Prop where
 c0 : w.cell? ⟨b, o, none⟩ = some (.string (bt x.key))
 c1 : w.cell? ⟨b, o + 1, none⟩ = some (.string (bt x.field))
 c2 : w.cell? ⟨b, o + 2, none⟩ = some (.int .i64 x.kind)
 c3 : w.cell? ⟨b, o + 3, none⟩ = some (.string (bt x.elem))
 c4 : w.cell? ⟨b, o + 4, none⟩ = some (.int .i64 x.n)
 c5 : w.cell? ⟨b, o + 5, none⟩ = some (.int .i64 x.dot.node)
 c6 : w.cell? ⟨b, o + 6, none⟩ = some (.int .i64 x.dot.seq)
 c7 : w.cell? ⟨b, o + 7, none⟩ = some (.int .i64 x.dot.pos)
structure DotAt (w : World) (b o : Nat) (d : PDot) : Prop where
 c0 : w.cell? ⟨b, o, none⟩ = some (.int .i64 d.node)
 c1 : w.cell? ⟨b, o + 1, none⟩ = some (.int .i64 d.seq)
 c2 : w.cell? ⟨b, o + 2, none⟩ = some (.int .i64 d.pos)
theorem ItemAt.below {N : Nat} {w w' : World} {b o : Nat} {x : PItem} (h : ItemAt w b o x) (hb : Below N w w') (hN : b < N) : ItemAt w' b o x :=
 ⟨(hb.cell (p := ⟨b, o, none⟩) hN).trans h.c0, (hb.cell (p := ⟨b, o + 1, none⟩) hN).trans h.c1, (hb.cell (p := ⟨b, o + 2, none⟩) hN).trans h.c2, (hb.cell (p := ⟨b, o + 3, none⟩) hN).trans h.c3,
  (hb.cell (p := ⟨b, o + 4, none⟩) hN).trans h.c4, (hb.cell (p := ⟨b, o + 5, none⟩) hN).trans h.c5, (hb.cell (p := ⟨b, o + 6, none⟩) hN).trans h.c6, (hb.cell (p := ⟨b, o + 7, none⟩) hN).trans h.c7⟩
theorem ItemAt.lt {w : World} {b o : Nat} {x : PItem} (h : ItemAt w b o x) : b < w.heap.size := World.block_lt_of_cell? w ⟨b, o, none⟩ h.c0
theorem DotAt.below {N : Nat} {w w' : World} {b o : Nat} {x : PDot} (h : DotAt w b o x) (hb : Below N w w') (hN : b < N) : DotAt w' b o x :=
 ⟨(hb.cell (p := ⟨b, o, none⟩) hN).trans h.c0, (hb.cell (p := ⟨b, o + 1, none⟩) hN).trans h.c1, (hb.cell (p := ⟨b, o + 2, none⟩) hN).trans h.c2⟩
theorem DotAt.lt {w : World} {b o : Nat} {x : PDot} (h : DotAt w b o x) : b < w.heap.size := World.block_lt_of_cell? w ⟨b, o, none⟩ h.c0
theorem getD_at {α : Type} [Inhabited α] {xs : List α} {j : Nat} (hj : j < xs.length) : xs[j]? = some (xs.getD j default) := by
 simp [List.getD, List.getElem?_eq_getElem hj]
theorem dots_spot {w : World} {v : Value} {xs : List PDot} (h : SeqE LDot w v xs) (hp : 0 < xs.length) : ∃ b o cap, v = .slice (some ⟨b, o, none⟩) xs.length cap ∧ xs.length ≤ cap ∧ cap ≤ 9223372036854775807 ∧ SeqE LDot w (.slice (some ⟨b, o, none⟩) xs.length cap) xs ∧ ∀ j, j < xs.length → DotAt w b (o + j * 3) (xs.getD j default) := by
 obtain ⟨b, o, cap, e, h1, h2, h3, hc⟩ := h.spot hp
 refine ⟨b, o, cap, e, h1, h2, h3, fun j hj => ?_⟩
 obtain ⟨vs, hr, hv⟩ := hc j _ (getD_at hj)
 obtain rfl : vs = cellsDt (xs.getD j default) := hr
 have g := fun i u (hu : (cellsDt (xs.getD j default))[i]? = some u) => hv i u hu
 refine ⟨g 0 _ rfl, ?_, ?_⟩
 ·rw [Nat.add_assoc]; exact g 1 _ rfl
 ·rw [Nat.add_assoc]; exact g 2 _ rfl
theorem tx_le {s : ByteArray} (h : s.size ≤ maxLen) : (tx s).length ≤ 9223372036854775807 := by
 have e : (tx s).length = s.size := by unfold tx ByteArray.size; exact Array.length_toList
 rw [e]
 exact h
def dotOk (d : PDot) : Prop := (Lit.int .i64 d.node).wf = true ∧ (Lit.int .i64 d.seq).wf = true ∧ (Lit.int .i64 d.pos).wf = true
theorem cellsOfDot : Tryz.prog.cellsOf 53 = 3 := by kernel_rfl
section
open Go.ChangeShapes Go.WideShapes Go.Joins
set_option maxRecDepth 100000
theorem dot_of_trod {H : Type} {enc : TypeId × Value → H} {W : World} {n : Nat} {cs : List Value} {y : DataW H × List MemPlace} (ht : DataW.trod enc Tryz.prog W 0 (fun _ => true) true n 53 cs = some y) : ∃ d, cs = cellsDt d ∧ dotOk d := by
 obtain ⟨y0, y1, y2, n', -, hl, h0, h1, h2⟩ := Go.Deep.trod_struct3 Tryz.underlying53 ht
 rw [cellsOfDot] at hl
 have e1 : Tryz.prog.cellsOf 3 = 1 := by kernel_rfl
 match cs, hl with
 | [x0, x1, x2], _ =>
  simp [e1] at h0 h1 h2
  obtain ⟨a, g0, -, w0⟩ := DataW.trod_int Tryz.underlying3 h0
  obtain ⟨b, g1, -, w1⟩ := DataW.trod_int Tryz.underlying3 h1
  obtain ⟨c, g2, -, w2⟩ := DataW.trod_int Tryz.underlying3 h2
  simp at g0 g1 g2
  subst g0 g1 g2
  exact ⟨⟨a, b, c⟩, rfl, w0, w1, w2⟩
end
end Go.Proofs.YtajfliemmfdnhaaGreat
namespace Go.Proofs.YtajfliemmfdnhaaGreat
open Go.RowKit Plain
set_option linter.unusedVariables false

theorem fields_dot : Tryz.prog.underlying 53 = some (.struct (Tryz.prog.fieldsOf 53)) := by kernel_rfl
theorem held_dot : Tryz.prog.stoodInHeld 53 = false := by kernel_rfl
theorem dot_dec (d e : PDot) : decide (d = e) = (decide (d.node = e.node) && (decide (d.seq = e.seq) && decide (d.pos = e.pos))) := by
 rw [Bool.eq_iff_iff, Bool.and_eq_true, Bool.and_eq_true, decide_eq_true_iff, decide_eq_true_iff, decide_eq_true_iff, decide_eq_true_iff]
 exact ⟨fun h => by subst h; exact ⟨rfl, rfl, rfl⟩, fun ⟨h1, h2, h3⟩ => pdot_ext h1 h2 h3⟩
set_option maxRecDepth 100000 in
theorem eq_dot (k : Nat) (d e : PDot) (w : World) : (Op.equalIn (k + 2) 53 (.agg #[.int .i64 d.node, .int .i64 d.seq, .int .i64 d.pos]) (.agg #[.int .i64 e.node, .int .i64 e.seq, .int .i64 e.pos])).run Tryz.prog w = .ok (decide (d = e)) w := by
 rw [run_equalIn_agg w (k + 1) _ _ _ fields_dot held_dot, dot_dec]
 simp [Program.fieldsOf, Tryz.underlying53, Tryz.underlying3, Tryz.isAgg3, Tryz.sizeOf3, Op.eqFields, go_sem]
 by_cases h1 : d.node = e.node
 ·by_cases h2 : d.seq = e.seq
  ·by_cases h3 : d.pos = e.pos <;> simp [h1, h2, h3]
  ·simp [h1, h2]
 ·simp [h1]
end Go.Proofs.YtajfliemmfdnhaaGreat
namespace Go.Proofs.YtajfliemmfdnhaaGreat
open Go.RowKit Plain Go.Maps
set_option linter.unusedVariables false
set_option maxRecDepth 100000

def kd (d : PDot) : Lit := (DataW.agg [.lit (.int .i64 d.node), .lit (.int .i64 d.seq), .lit (.int .i64 d.pos)] : DataW Unit).asKey
def SetAt (w : World) (b : Nat) (ds : List PDot) : Prop := ∃ (D : DataW Unit) (n : Nat), n ≤ ds.length ∧ w.ownsMap Tryz.prog 53 unitElem b n D ∧ ∀ d, dotOk d → Maps.has D (kd d) = hasDot ds d
theorem SetAt.lt {w : World} {b : Nat} {ds : List PDot} (h : SetAt w b ds) : b < w.heap.size := by
 obtain ⟨D, n, -, ho, -⟩ := h
 exact ho.lt
theorem SetAt.below {w w' : World} {B b : Nat} {ds : List PDot} (h : SetAt w b ds) (hb : Below B w w') (hB : b < B) : SetAt w' b ds := by
 obtain ⟨D, n, hn, ho, hh⟩ := h
 obtain ⟨es, clock, hblk, r⟩ := ho
 exact ⟨D, n, hn, ⟨es, clock, (hb.block b hB).trans hblk, r⟩, hh⟩
end Go.Proofs.YtajfliemmfdnhaaGreat
namespace Go.Proofs.YtajfliemmfdnhaaGreat
open Go.RowKit Plain
set_option linter.unusedVariables false

def shortB1 (x : PItem) : Bool := decide (x.key.length ≤ 300) && (decide (x.field.length ≤ 300) && decide (x.elem.length ≤ 300))
theorem short1_iff {x : PItem} : shortB1 x = true ↔ x.key.length ≤ 300 ∧ x.field.length ≤ 300 ∧ x.elem.length ≤ 300 := by
 unfold shortB1
 rw [Bool.and_eq_true, Bool.and_eq_true, decide_eq_true_iff, decide_eq_true_iff, decide_eq_true_iff]
theorem mem_def {α : Type} [Inhabited α] {xs : List α} {j : Nat} (hj : j < xs.length) : xs.getD j default ∈ xs := List.mem_of_getElem? (getD_at hj)
end Go.Proofs.YtajfliemmfdnhaaGreat
namespace Go.Proofs.YtajfliemmfdnhaaGreat
open Go.RowKit Plain
set_option linter.unusedVariables false

set_option maxRecDepth 100000 in
set_option maxHeartbeats 2000000 in
theorem ior_any (xs : List Int) (n g : Nat) (w : World) (hn : xs.length = n) (hp : n ≤ 1000) (hc : ∀ j, j < n → w.cell? ⟨g, j, none⟩ = some (.int .i64 (xs.getD j 0))) :
  Calls Tryz.prog 101 #[.slice (some ⟨g, 0, none⟩) n n] w fun e w' => e = .returned (.int .i64 (firstNZ xs)) ∧ w' = w := by
 have hit : ∀ (l : List Int) (k : Nat), k < l.length → (∀ j, j < k → l.getD j 0 = 0) → l.getD k 0 ≠ 0 → firstNZ l = l.getD k 0 := by
  intro l
  induction l with
  | nil => intro k h; simp at h
  | cons c l ih =>
   intro k hk ha hh
   cases k with
   | zero => simp only [List.getD_cons_zero] at hh ⊢; rw [firstNZ, if_neg hh]
   | succ k =>
    have h0 := ha 0 (by omega)
    simp only [List.getD_cons_zero] at h0
    simp only [List.getD_cons_succ] at hh ⊢
    rw [firstNZ, if_pos h0]
    exact ih k (by simpa using hk) (fun j hj => by have := ha (j + 1) (by omega); simpa using this) hh
 have none : ∀ l : List Int, (∀ j, j < l.length → l.getD j 0 = 0) → firstNZ l = 0 := by
  intro l
  induction l with
  | nil => intro _; rfl
  | cons c l ih =>
   intro ha
   have h0 := ha 0 (by simp)
   simp only [List.getD_cons_zero] at h0
   rw [firstNZ, if_pos h0]
   exact ih fun j hj => by have := ha (j + 1) (by simpa using hj); simpa using this
 have HH := Lib.hid (hit xs)
 have HN := Lib.hid (none xs)
 have HC := Lib.hid hc
 rw [hn] at HH HN
 clear hit none hc hn
 generalize firstNZ xs = r at *
 obtain ⟨f, hf⟩ : ∃ f : Nat → Int, (fun j => xs.getD j 0) = f := ⟨_, rfl⟩
 have HF := Lib.hid (fun j => congrFun hf j)
 clear hf
 go_enter Tryz.func101, Tryz.ntmps101
 go_wp2_with fail
 go_loop [8] (fun i => ∃ k : Nat, k ≤ n ∧ i = .int .i64 k ∧ ∀ j, j < k → xs.getD j 0 = 0) (fun i => n - (intOf i).toNat)
 case atStart => exact ⟨0, Nat.zero_le _, rfl, fun j hj => absurd hj (by omega)⟩
 case round =>
  obtain ⟨k, hk, rfl, hall⟩ := hrel
  have HA := Lib.hid hall
  clear hall
  by_cases hlt : k < n
  ·have c0 := HC.out k hlt
   have hnx := Lib.hid (HH.out k hlt HA.out)
   have hz : Hid (xs.getD k 0 = 0 → ∀ j, j < k + 1 → xs.getD j 0 = 0) := Lib.hid (fun e j hj => by
    by_cases e2 : j = k
    ·rw [e2]; exact e
    ·exact HA.out j (by omega))
   generalize xs.getD k 0 = c at *
   by_cases hc0 : c = 0
   ·have HX := Lib.hid (hz.out hc0)
    subst hc0
    go_wp2_with fail
    go_round
    case rel => exact ⟨k + 1, by omega, by go_num, HX.out⟩
    case measure => simp [intOf]; omega
   ·obtain rfl : r = c := hnx.out hc0
    go_wp2_with fail
    go_ret
    exact ⟨rfl, rfl⟩
  ·obtain rfl : k = n := by omega
   obtain rfl : r = 0 := HN.out HA.out
   go_wp2_with fail
   go_ret
   exact ⟨rfl, rfl⟩
end Go.Proofs.YtajfliemmfdnhaaGreat
