/- WORDS FOR SETS OF DOTS: a map keyed by dots, what it holds, a look-up, a store. What the document's own Short, Size, Copy of items leave. What the program's own those (of items), slices.Clone of items, and cmp.Or leave. -/
import Derived.Test.YtkanklppgioacaaItem
import Derived.Test.YtkanklppgioacaaElGs
import Derived.Maps.OwnSet
import Derived.DeepKeys5
import Derived.Deep.LoopGhost
import Derived.BigQuiet
import Derived.Test.YtkanklppgioacaaMaths
import Derived.Shelf.Abstract
import Derived.Deep.Cut
import Derived.Lib.SliceRun
namespace Go.Proofs.Ytkanklppgioacaa
open Go.RowKit Plain Go.Maps
set_option linter.unusedVariables false
set_option maxRecDepth 100000

theorem laidOut : laidOutB Try.prog = true := by kernel_rfl
theorem rowDot : 71 < Try.prog.types.size := by decide +kernel
theorem wideDot : (match Try.prog.underlying 71 with | some (.array _ _) | some (.struct _) => true | _ => false) = true := by rw [Try.underlying71]
theorem keyDot : Try.prog.keyTypeAt (Try.prog.types.size + 1) 71 = true := by kernel_rfl
theorem lawDot : Keyed Try.prog 71 := Keyed.of_law (deep_law_laid laidOut (m := 2) (by omega) rowDot (by kernel_rfl) wideDot)
theorem shut_dot {H : Type} {enc : TypeId × Value → H} {W : World} {base : Nat} {sp : Nat → Bool} {held : Bool} {d : PDot} (h : dotOk d) :
    DataW.Trod enc Try.prog W base sp held 71 (dv d) (.agg [.lit (.int .i64 d.node), .lit (.int .i64 d.seq), .lit (.int .i64 d.pos)]) [] := by
  obtain ⟨h1, h2, h3⟩ := h
  refine ⟨2, ?_⟩
  show DataW.trod enc Try.prog W base sp held (1 + 1) 71 [.int .i64 d.node, .int .i64 d.seq, .int .i64 d.pos] = _
  rw [DataW.trod_step]
  unfold DataW.trodStep
  have e1 : Try.prog.cellsOf 3 = 1 := by kernel_rfl
  simp [Try.underlying71, Try.underlying3, cellsOfDot, e1, DataW.trod, h1, h2, h3]
/-- what a dot reads as, as a key -/
def kd (d : PDot) : Lit := (DataW.agg [.lit (.int .i64 d.node), .lit (.int .i64 d.seq), .lit (.int .i64 d.pos)] : DataW Unit).asKey
theorem keyOf_dot {d : PDot} (h : dotOk d) : keyOf Try.prog 71 (dv d) = some (kd d) :=
  (keyOf_asKey (P := Try.prog) (H := Unit) (enc := fun _ => ()) (w := default) (base := 0) (sp := fun _ => true) (held := true) keyDot wideDot (v := dv d) (by
    unfold Value.formed dv
    rw [Try.underlying71, cellsOfDot]
    rfl) (shut_dot h)).1
theorem dv_inj {a b : PDot} (h : dv a = dv b) : a = b := by
  unfold dv at h
  simp only [Value.agg.injEq, Array.mk.injEq, List.cons.injEq, Value.int.injEq, true_and, and_true] at h
  exact pdot_ext h.1 h.2.1 h.2.2
theorem kd_inj {a b : PDot} (ha : dotOk a) (hb : dotOk b) (h : kd a = kd b) : a = b := by
  have h1 := keyOf_dot ha
  rw [h] at h1
  exact dv_inj (lawDot.inj h1 (keyOf_dot hb))
theorem kd_key {a : PDot} (ha : dotOk a) : WideAt.IsKeyLit (kd a) := lawDot.key (keyOf_dot ha)
theorem hasDot_snoc (ds : List PDot) (a d : PDot) : hasDot (ds ++ [a]) d = (hasDot ds d || decide (a = d)) := by
  unfold hasDot
  rw [List.any_append]
  simp
/-- block b is a set of dots: those of ds -/
def SetAt (w : World) (b : Nat) (ds : List PDot) : Prop := ∃ (D : DataW Unit) (n : Nat), n ≤ ds.length ∧ w.ownsMap Try.prog 71 unitElem b n D ∧ ∀ d, dotOk d → Maps.has D (kd d) = hasDot ds d
theorem SetAt.lt {w : World} {b : Nat} {ds : List PDot} (h : SetAt w b ds) : b < w.heap.size := by
  obtain ⟨D, n, -, ho, -⟩ := h
  exact ho.lt
theorem SetAt.made (w : World) : SetAt (w.alloc (.map #[] 0)) w.heap.size [] := ⟨.map [], 0, Nat.le_refl _, World.ownsMap_made _ _ _ _, fun d _ => rfl⟩
theorem SetAt.kept {w w' : World} {row : Option Nat} {b : Nat} {ds : List PDot} (h : SetAt w b ds) (hg : w.grownBy w' row) (hr : some b ≠ row) : SetAt w' b ds := by
  obtain ⟨D, n, hn, ho, hh⟩ := h
  exact ⟨D, n, hn, ho.kept hg hr, hh⟩
theorem SetAt.below {w w' : World} {B b : Nat} {ds : List PDot} (h : SetAt w b ds) (hb : Below B w w') (hB : b < B) : SetAt w' b ds := by
  obtain ⟨D, n, hn, ho, hh⟩ := h
  obtain ⟨es, clock, hblk, r⟩ := ho
  exact ⟨D, n, hn, ⟨es, clock, (hb.block b hB).trans hblk, r⟩, hh⟩
theorem SetAt.alloc {w : World} {b : Nat} {ds : List PDot} (h : SetAt w b ds) (o : Obj) : SetAt (w.alloc o) b ds := h.kept (World.grownBy_alloc w o none) (by simp)
theorem SetAt.put {w' : World} {b n : Nat} {ds : List PDot} {D : DataW Unit} {a : PDot} (ha : dotOk a) (hn : n ≤ ds.length) (hD : IsMap D) (hh : ∀ d, dotOk d → Maps.has D (kd d) = hasDot ds d)
    (ho : w'.ownsMap Try.prog 71 unitElem b (n + 1) (D.put (kd a) (.agg []))) : SetAt w' b (ds ++ [a]) := by
  refine ⟨_, n + 1, by rw [List.length_append]; simp; omega, ho, fun d hd => ?_⟩
  rw [hasDot_snoc]
  by_cases e : a = d
  · subst e
    rw [has_put_same hD (kd_key ha), decide_eq_true rfl, Bool.or_true]
  · rw [has_put_other (fun k => e (kd_inj ha hd k.symm)), hh d hd, decide_eq_false e, Bool.or_false]
end Go.Proofs.Ytkanklppgioacaa
namespace Go.Proofs.Ytkanklppgioacaa
open Go.RowKit Plain
set_option linter.unusedVariables false

def shortB1 (x : PItem) : Bool := decide (x.key.length ≤ 300) && (decide (x.field.length ≤ 300) && decide (x.elem.length ≤ 300))
def shortI (xs : List PItem) : Bool := decide (xs.length ≤ 60) && xs.all shortB1
theorem short1_iff {x : PItem} : shortB1 x = true ↔ x.key.length ≤ 300 ∧ x.field.length ≤ 300 ∧ x.elem.length ≤ 300 := by
  unfold shortB1
  rw [Bool.and_eq_true, Bool.and_eq_true, decide_eq_true_iff, decide_eq_true_iff, decide_eq_true_iff]
theorem shortI_iff {xs : List PItem} : shortI xs = true ↔ xs.length ≤ 60 ∧ ∀ x ∈ xs, shortB1 x = true := by
  unfold shortI
  rw [Bool.and_eq_true, decide_eq_true_iff, List.all_eq_true]
theorem mem_def {α : Type} [Inhabited α] {xs : List α} {j : Nat} (hj : j < xs.length) : xs.getD j default ∈ xs := List.mem_of_getElem? (getD_at hj)
theorem shortI_no {xs : List PItem} {k : Nat} (hk : k < xs.length) (h : shortB1 (xs.getD k default) = false) : shortI xs = false := by
  cases e : shortI xs with
  | false => rfl
  | true =>
    have := (shortI_iff.1 e).2 _ (mem_def hk)
    rw [h] at this
    exact absurd this (by decide)
theorem shortI_yes {xs : List PItem} (hl : xs.length ≤ 60) (h : ∀ j, j < xs.length → shortB1 (xs.getD j default) = true) : shortI xs = true := shortI_iff.2 ⟨hl, fun x hx => by
  obtain ⟨j, hj, rfl⟩ := List.getElem_of_mem hx
  have := h j hj
  rwa [show xs.getD j default = xs[j] by simp [List.getD, List.getElem?_eq_getElem hj]] at this⟩
theorem shortI_long {xs : List PItem} (hl : ¬ xs.length ≤ 60) : shortI xs = false := by
  cases e : shortI xs with
  | false => rfl
  | true => exact absurd (shortI_iff.1 e).1 hl

end Go.Proofs.Ytkanklppgioacaa
namespace Go.Proofs.Ytkanklppgioacaa
open Go.RowKit Plain
set_option linter.unusedVariables false

theorem itv_eq3 (x : PItem) : itv x = .agg #[.string (bt x.key), .string (bt x.field), .int .i64 x.kind, .string (bt x.elem), .int .i64 x.n, .int .i64 x.dot.node, .int .i64 x.dot.seq, .int .i64 x.dot.pos] := rfl

set_option maxRecDepth 100000 in
set_option maxHeartbeats 2000000 in
/-- cmp.Or of integers -/
theorem ior_any (xs : List Int) (n g : Nat) (w : World) (hn : xs.length = n) (hp : n ≤ 1000) (hc : ∀ j, j < n → w.cell? ⟨g, j, none⟩ = some (.int .i64 (xs.getD j 0))) :
    Calls Try.prog 73 #[.slice (some ⟨g, 0, none⟩) n n] w fun e w' => e = .returned (.int .i64 (firstNZ xs)) ∧ w' = w := by
  have hit : ∀ (l : List Int) (k : Nat), k < l.length → (∀ j, j < k → l.getD j 0 = 0) → l.getD k 0 ≠ 0 → firstNZ l = l.getD k 0 := by
    intro l
    induction l with
    | nil => intro k h; simp at h
    | cons c l ih =>
      intro k hk ha hh
      cases k with
      | zero => simp only [List.getD_cons_zero] at hh ⊢; rw [firstNZ, if_neg hh]
      | succ k =>
        have h0 := ha 0 (by omega)
        simp only [List.getD_cons_zero] at h0
        simp only [List.getD_cons_succ] at hh ⊢
        rw [firstNZ, if_pos h0]
        exact ih k (by simpa using hk) (fun j hj => by have := ha (j + 1) (by omega); simpa using this) hh
  have none : ∀ l : List Int, (∀ j, j < l.length → l.getD j 0 = 0) → firstNZ l = 0 := by
    intro l
    induction l with
    | nil => intro _; rfl
    | cons c l ih =>
      intro ha
      have h0 := ha 0 (by simp)
      simp only [List.getD_cons_zero] at h0
      rw [firstNZ, if_pos h0]
      exact ih fun j hj => by have := ha (j + 1) (by simpa using hj); simpa using this
  have HH := Lib.hid (hit xs)
  have HN := Lib.hid (none xs)
  have HC := Lib.hid hc
  rw [hn] at HH HN
  clear hit none hc hn
  generalize firstNZ xs = r at *
  obtain ⟨f, hf⟩ : ∃ f : Nat → Int, (fun j => xs.getD j 0) = f := ⟨_, rfl⟩
  have HF := Lib.hid (fun j => congrFun hf j)
  clear hf
  go_enter Try.func73, Try.ntmps73
  go_wp2_with fail
  go_loop [8] (fun i => ∃ k : Nat, k ≤ n ∧ i = .int .i64 k ∧ ∀ j, j < k → xs.getD j 0 = 0) (fun i => n - (intOf i).toNat)
  case atStart => exact ⟨0, Nat.zero_le _, rfl, fun j hj => absurd hj (by omega)⟩
  case round =>
    obtain ⟨k, hk, rfl, hall⟩ := hrel
    have HA := Lib.hid hall
    clear hall
    by_cases hlt : k < n
    · have c0 := HC.out k hlt
      have hnx := Lib.hid (HH.out k hlt HA.out)
      have hz : Hid (xs.getD k 0 = 0 → ∀ j, j < k + 1 → xs.getD j 0 = 0) := Lib.hid (fun e j hj => by
        by_cases e2 : j = k
        · rw [e2]; exact e
        · exact HA.out j (by omega))
      generalize xs.getD k 0 = c at *
      by_cases hc0 : c = 0
      · have HX := Lib.hid (hz.out hc0)
        subst hc0
        go_wp2_with fail
        go_round
        case rel => exact ⟨k + 1, by omega, by go_num, HX.out⟩
        case measure => simp [intOf]; omega
      · obtain rfl : r = c := hnx.out hc0
        go_wp2_with fail
        go_ret
        exact ⟨rfl, rfl⟩
    · obtain rfl : k = n := by omega
      obtain rfl : r = 0 := HN.out HA.out
      go_wp2_with fail
      go_ret
      exact ⟨rfl, rfl⟩
end Go.Proofs.Ytkanklppgioacaa
