/- WORDS FOR SETS OF DOTS: a map keyed by dots, what it holds, a look-up, a store. What the document's own Short, Size, Copy of items leave. What the program's own those (of items), slices.Clone of items, and cmp.Or leave. -/
import Derived.Test.YtlpcpbangmonaaaItem
import Derived.Test.YtlpcpbangmonaaaElGs
import Derived.Maps.OwnSet
import Derived.DeepKeys5
import Derived.Deep.LoopGhost
import Derived.BigQuiet
import Derived.Test.YtlpcpbangmonaaaMaths
import Derived.Shelf.Abstract
import Derived.Deep.Cut
import Derived.Lib.SliceRun
namespace Go.Proofs.Ytlpcpbangmonaaa
open Go.RowKit Plain Go.Maps
set_option linter.unusedVariables false
set_option maxRecDepth 100000

theorem laidOut : laidOutB Try.prog = true := by kernel_rfl
theorem rowDot : 73 < Try.prog.types.size := by decide +kernel
theorem wideDot : (match Try.prog.underlying 73 with | some (.array _ _) | some (.struct _) => true | _ => false) = true := by rw [Try.underlying73]
theorem keyDot : Try.prog.keyTypeAt (Try.prog.types.size + 1) 73 = true := by kernel_rfl
theorem lawDot : Keyed Try.prog 73 := Keyed.of_law (deep_law_laid laidOut (m := 2) (by omega) rowDot (by kernel_rfl) wideDot)
theorem shut_dot {H : Type} {enc : TypeId × Value → H} {W : World} {base : Nat} {sp : Nat → Bool} {held : Bool} {d : PDot} (h : dotOk d) :
    DataW.Trod enc Try.prog W base sp held 73 (dv d) (.agg [.lit (.int .i64 d.node), .lit (.int .i64 d.seq), .lit (.int .i64 d.pos)]) [] := by
  obtain ⟨h1, h2, h3⟩ := h
  refine ⟨2, ?_⟩
  show DataW.trod enc Try.prog W base sp held (1 + 1) 73 [.int .i64 d.node, .int .i64 d.seq, .int .i64 d.pos] = _
  rw [DataW.trod_step]
  unfold DataW.trodStep
  have e1 : Try.prog.cellsOf 3 = 1 := by kernel_rfl
  simp [Try.underlying73, Try.underlying3, cellsOfDot, e1, DataW.trod, h1, h2, h3]
/-- what a dot reads as, as a key -/
def kd (d : PDot) : Lit := (DataW.agg [.lit (.int .i64 d.node), .lit (.int .i64 d.seq), .lit (.int .i64 d.pos)] : DataW Unit).asKey
theorem keyOf_dot {d : PDot} (h : dotOk d) : keyOf Try.prog 73 (dv d) = some (kd d) :=
  (keyOf_asKey (P := Try.prog) (H := Unit) (enc := fun _ => ()) (w := default) (base := 0) (sp := fun _ => true) (held := true) keyDot wideDot (v := dv d) (by
    unfold Value.formed dv
    rw [Try.underlying73, cellsOfDot]
    rfl) (shut_dot h)).1
theorem dv_inj {a b : PDot} (h : dv a = dv b) : a = b := by
  unfold dv at h
  simp only [Value.agg.injEq, Array.mk.injEq, List.cons.injEq, Value.int.injEq, true_and, and_true] at h
  exact pdot_ext h.1 h.2.1 h.2.2
theorem kd_inj {a b : PDot} (ha : dotOk a) (hb : dotOk b) (h : kd a = kd b) : a = b := by
  have h1 := keyOf_dot ha
  rw [h] at h1
  exact dv_inj (lawDot.inj h1 (keyOf_dot hb))
theorem kd_key {a : PDot} (ha : dotOk a) : WideAt.IsKeyLit (kd a) := lawDot.key (keyOf_dot ha)
theorem hasDot_snoc (ds : List PDot) (a d : PDot) : hasDot (ds ++ [a]) d = (hasDot ds d || decide (a = d)) := by
  unfold hasDot
  rw [List.any_append]
  simp
/-- block b is a set of dots: those of ds -/
def SetAt (w : World) (b : Nat) (ds : List PDot) : Prop := ∃ (D : DataW Unit) (n : Nat), n ≤ ds.length ∧ w.ownsMap Try.prog 73 unitElem b n D ∧ ∀ d, dotOk d → Maps.has D (kd d) = hasDot ds d
theorem SetAt.lt {w : World} {b : Nat} {ds : List PDot} (h : SetAt w b ds) : b < w.heap.size := by
  obtain ⟨D, n, -, ho, -⟩ := h
  exact ho.lt
theorem SetAt.made (w : World) : SetAt (w.alloc (.map #[] 0)) w.heap.size [] := ⟨.map [], 0, Nat.le_refl _, World.ownsMap_made _ _ _ _, fun d _ => rfl⟩
theorem SetAt.kept {w w' : World} {row : Option Nat} {b : Nat} {ds : List PDot} (h : SetAt w b ds) (hg : w.grownBy w' row) (hr : some b ≠ row) : SetAt w' b ds := by
  obtain ⟨D, n, hn, ho, hh⟩ := h
  exact ⟨D, n, hn, ho.kept hg hr, hh⟩
theorem SetAt.below {w w' : World} {B b : Nat} {ds : List PDot} (h : SetAt w b ds) (hb : Below B w w') (hB : b < B) : SetAt w' b ds := by
  obtain ⟨D, n, hn, ho, hh⟩ := h
  obtain ⟨es, clock, hblk, r⟩ := ho
  exact ⟨D, n, hn, ⟨es, clock, (hb.block b hB).trans hblk, r⟩, hh⟩
theorem SetAt.alloc {w : World} {b : Nat} {ds : List PDot} (h : SetAt w b ds) (o : Obj) : SetAt (w.alloc o) b ds := h.kept (World.grownBy_alloc w o none) (by simp)
theorem SetAt.put {w' : World} {b n : Nat} {ds : List PDot} {D : DataW Unit} {a : PDot} (ha : dotOk a) (hn : n ≤ ds.length) (hD : IsMap D) (hh : ∀ d, dotOk d → Maps.has D (kd d) = hasDot ds d)
    (ho : w'.ownsMap Try.prog 73 unitElem b (n + 1) (D.put (kd a) (.agg []))) : SetAt w' b (ds ++ [a]) := by
  refine ⟨_, n + 1, by rw [List.length_append]; simp; omega, ho, fun d hd => ?_⟩
  rw [hasDot_snoc]
  by_cases e : a = d
  · subst e
    rw [has_put_same hD (kd_key ha), decide_eq_true rfl, Bool.or_true]
  · rw [has_put_other (fun k => e (kd_inj ha hd k.symm)), hh d hd, decide_eq_false e, Bool.or_false]
end Go.Proofs.Ytlpcpbangmonaaa
namespace Go.Proofs.Ytlpcpbangmonaaa
open Go.RowKit Plain
set_option linter.unusedVariables false

def shortB1 (x : PItem) : Bool := decide (x.key.length ≤ 300) && (decide (x.field.length ≤ 300) && decide (x.elem.length ≤ 300))
def shortI (xs : List PItem) : Bool := decide (xs.length ≤ 60) && xs.all shortB1
theorem short1_iff {x : PItem} : shortB1 x = true ↔ x.key.length ≤ 300 ∧ x.field.length ≤ 300 ∧ x.elem.length ≤ 300 := by
  unfold shortB1
  rw [Bool.and_eq_true, Bool.and_eq_true, decide_eq_true_iff, decide_eq_true_iff, decide_eq_true_iff]
theorem shortI_iff {xs : List PItem} : shortI xs = true ↔ xs.length ≤ 60 ∧ ∀ x ∈ xs, shortB1 x = true := by
  unfold shortI
  rw [Bool.and_eq_true, decide_eq_true_iff, List.all_eq_true]
theorem mem_def {α : Type} [Inhabited α] {xs : List α} {j : Nat} (hj : j < xs.length) : xs.getD j default ∈ xs := List.mem_of_getElem? (getD_at hj)
theorem shortI_no {xs : List PItem} {k : Nat} (hk : k < xs.length) (h : shortB1 (xs.getD k default) = false) : shortI xs = false := by
  cases e : shortI xs with
  | false => rfl
  | true =>
    have := (shortI_iff.1 e).2 _ (mem_def hk)
    rw [h] at this
    exact absurd this (by decide)
theorem shortI_yes {xs : List PItem} (hl : xs.length ≤ 60) (h : ∀ j, j < xs.length → shortB1 (xs.getD j default) = true) : shortI xs = true := shortI_iff.2 ⟨hl, fun x hx => by
  obtain ⟨j, hj, rfl⟩ := List.getElem_of_mem hx
  have := h j hj
  rwa [show xs.getD j default = xs[j] by simp [List.getD, List.getElem?_eq_getElem hj]] at this⟩
theorem shortI_long {xs : List PItem} (hl : ¬ xs.length ≤ 60) : shortI xs = false := by
  cases e : shortI xs with
  | false => rfl
  | true => exact absurd (shortI_iff.1 e).1 hl

end Go.Proofs.Ytlpcpbangmonaaa
namespace Go.Proofs.Ytlpcpbangmonaaa
open Go.RowKit Plain
set_option linter.unusedVariables false

theorem itv_eq3 (x : PItem) : itv x = .agg #[.string (bt x.key), .string (bt x.field), .int .i64 x.kind, .string (bt x.elem), .int .i64 x.n, .int .i64 x.dot.node, .int .i64 x.dot.seq, .int .i64 x.dot.pos] := rfl

end Go.Proofs.Ytlpcpbangmonaaa
