/- WORDS FOR SETS OF DOTS: a map keyed by dots, what it holds, a look-up, a store. -/
import Derived.Test.YtkmiodpaanohoaaGreatItem
import Derived.Test.YtkmiodpaanohoaaGreatElG
import Derived.Maps.OwnSet
import Derived.DeepKeys5
namespace Go.Proofs.YtkmiodpaanohoaaGreat
open Go.RowKit Plain Go.Maps
set_option linter.unusedVariables false
set_option maxRecDepth 100000

theorem laidOut : laidOutB Tryz.prog = true := by kernel_rfl
theorem rowDot : 36 < Tryz.prog.types.size := by decide +kernel
theorem wideDot : (match Tryz.prog.underlying 36 with | some (.array _ _) | some (.struct _) => true | _ => false) = true := by rw [Tryz.underlying36]
theorem keyDot : Tryz.prog.keyTypeAt (Tryz.prog.types.size + 1) 36 = true := by kernel_rfl
theorem lawDot : Keyed Tryz.prog 36 := Keyed.of_law (deep_law_laid laidOut (m := 2) (by omega) rowDot (by kernel_rfl) wideDot)
theorem shut_dot {H : Type} {enc : TypeId × Value → H} {W : World} {base : Nat} {sp : Nat → Bool} {held : Bool} {d : PDot} (h : dotOk d) :
    DataW.Trod enc Tryz.prog W base sp held 36 (dv d) (.agg [.lit (.int .i64 d.node), .lit (.int .i64 d.seq), .lit (.int .i64 d.pos)]) [] := by
  obtain ⟨h1, h2, h3⟩ := h
  refine ⟨2, ?_⟩
  show DataW.trod enc Tryz.prog W base sp held (1 + 1) 36 [.int .i64 d.node, .int .i64 d.seq, .int .i64 d.pos] = _
  rw [DataW.trod_step]
  unfold DataW.trodStep
  have e1 : Tryz.prog.cellsOf 3 = 1 := by kernel_rfl
  simp [Tryz.underlying36, Tryz.underlying3, cellsOfDot, e1, DataW.trod, h1, h2, h3]
/-- what a dot reads as, as a key -/
def kd (d : PDot) : Lit := (DataW.agg [.lit (.int .i64 d.node), .lit (.int .i64 d.seq), .lit (.int .i64 d.pos)] : DataW Unit).asKey
theorem keyOf_dot {d : PDot} (h : dotOk d) : keyOf Tryz.prog 36 (dv d) = some (kd d) :=
  (keyOf_asKey (P := Tryz.prog) (H := Unit) (enc := fun _ => ()) (w := default) (base := 0) (sp := fun _ => true) (held := true) keyDot wideDot (v := dv d) (by
    unfold Value.formed dv
    rw [Tryz.underlying36, cellsOfDot]
    rfl) (shut_dot h)).1
theorem dv_inj {a b : PDot} (h : dv a = dv b) : a = b := by
  unfold dv at h
  simp only [Value.agg.injEq, Array.mk.injEq, List.cons.injEq, Value.int.injEq, true_and, and_true] at h
  exact pdot_ext h.1 h.2.1 h.2.2
theorem kd_inj {a b : PDot} (ha : dotOk a) (hb : dotOk b) (h : kd a = kd b) : a = b := by
  have h1 := keyOf_dot ha
  rw [h] at h1
  exact dv_inj (lawDot.inj h1 (keyOf_dot hb))
theorem kd_key {a : PDot} (ha : dotOk a) : WideAt.IsKeyLit (kd a) := lawDot.key (keyOf_dot ha)
theorem hasDot_snoc (ds : List PDot) (a d : PDot) : hasDot (ds ++ [a]) d = (hasDot ds d || decide (a = d)) := by
  unfold hasDot
  rw [List.any_append]
  simp
/-- block b is a set of dots: those of ds -/
def SetAt (w : World) (b : Nat) (ds : List PDot) : Prop := ∃ (D : DataW Unit) (n : Nat), n ≤ ds.length ∧ w.ownsMap Tryz.prog 36 unitElem b n D ∧ ∀ d, dotOk d → Maps.has D (kd d) = hasDot ds d
theorem SetAt.lt {w : World} {b : Nat} {ds : List PDot} (h : SetAt w b ds) : b < w.heap.size := by
  obtain ⟨D, n, -, ho, -⟩ := h
  exact ho.lt
theorem SetAt.made (w : World) : SetAt (w.alloc (.map #[] 0)) w.heap.size [] := ⟨.map [], 0, Nat.le_refl _, World.ownsMap_made _ _ _ _, fun d _ => rfl⟩
theorem SetAt.kept {w w' : World} {row : Option Nat} {b : Nat} {ds : List PDot} (h : SetAt w b ds) (hg : w.grownBy w' row) (hr : some b ≠ row) : SetAt w' b ds := by
  obtain ⟨D, n, hn, ho, hh⟩ := h
  exact ⟨D, n, hn, ho.kept hg hr, hh⟩
theorem SetAt.below {w w' : World} {B b : Nat} {ds : List PDot} (h : SetAt w b ds) (hb : Below B w w') (hB : b < B) : SetAt w' b ds := by
  obtain ⟨D, n, hn, ho, hh⟩ := h
  obtain ⟨es, clock, hblk, r⟩ := ho
  exact ⟨D, n, hn, ⟨es, clock, (hb.block b hB).trans hblk, r⟩, hh⟩
theorem SetAt.alloc {w : World} {b : Nat} {ds : List PDot} (h : SetAt w b ds) (o : Obj) : SetAt (w.alloc o) b ds := h.kept (World.grownBy_alloc w o none) (by simp)
theorem SetAt.put {w' : World} {b n : Nat} {ds : List PDot} {D : DataW Unit} {a : PDot} (ha : dotOk a) (hn : n ≤ ds.length) (hD : IsMap D) (hh : ∀ d, dotOk d → Maps.has D (kd d) = hasDot ds d)
    (ho : w'.ownsMap Tryz.prog 36 unitElem b (n + 1) (D.put (kd a) (.agg []))) : SetAt w' b (ds ++ [a]) := by
  refine ⟨_, n + 1, by rw [List.length_append]; simp; omega, ho, fun d hd => ?_⟩
  rw [hasDot_snoc]
  by_cases e : a = d
  · subst e
    rw [has_put_same hD (kd_key ha), decide_eq_true rfl, Bool.or_true]
  · rw [has_put_other (fun k => e (kd_inj ha hd k.symm)), hh d hd, decide_eq_false e, Bool.or_false]
theorem zeroUnit (w : World) : (zeroValue 62).run Tryz.prog w = .ok (.agg #[]) w := by kernel_rfl
end Go.Proofs.YtkmiodpaanohoaaGreat
