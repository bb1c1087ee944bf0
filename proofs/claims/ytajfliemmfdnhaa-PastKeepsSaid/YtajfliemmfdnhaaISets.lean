/- WORDS FOR SETS OF DOTS: a map keyed by dots, what it holds, a look-up, a store. What the document's own Short, Size, Copy of items leave. What the program's own those (of items), slices.Clone of items, and cmp.Or leave. -/
import Derived.Test.YtajfliemmfdnhaaEqI
import Derived.Test.YtajfliemmfdnhaaElGs
import Derived.Maps.OwnSet
import Derived.DeepKeys5
import Derived.Deep.LoopGhost
import Derived.BigQuiet
import Derived.Test.YtajfliemmfdnhaaMaths
import Derived.Shelf.Abstract
import Derived.Deep.Cut
import Derived.Lib.SliceRun
namespace Go.Proofs.Ytajfliemmfdnhaa
open Go.RowKit Plain Go.Maps
set_option linter.unusedVariables false
set_option maxRecDepth 100000

def kd (d : PDot) : Lit := (DataW.agg [.lit (.int .i64 d.node), .lit (.int .i64 d.seq), .lit (.int .i64 d.pos)] : DataW Unit).asKey
def SetAt (w : World) (b : Nat) (ds : List PDot) : Prop := ∃ (D : DataW Unit) (n : Nat), n ≤ ds.length ∧ w.ownsMap Try.prog 50 unitElem b n D ∧ ∀ d, dotOk d → Maps.has D (kd d) = hasDot ds d
theorem SetAt.lt {w : World} {b : Nat} {ds : List PDot} (h : SetAt w b ds) : b < w.heap.size := by
 obtain ⟨D, n, -, ho, -⟩ := h
 exact ho.lt
theorem SetAt.kept {w w' : World} {row : Option Nat} {b : Nat} {ds : List PDot} (h : SetAt w b ds) (hg : w.grownBy w' row) (hr : some b ≠ row) : SetAt w' b ds := by
 obtain ⟨D, n, hn, ho, hh⟩ := h
 exact ⟨D, n, hn, ho.kept hg hr, hh⟩
theorem SetAt.below {w w' : World} {B b : Nat} {ds : List PDot} (h : SetAt w b ds) (hb : Below B w w') (hB : b < B) : SetAt w' b ds := by
 obtain ⟨D, n, hn, ho, hh⟩ := h
 obtain ⟨es, clock, hblk, r⟩ := ho
 exact ⟨D, n, hn, ⟨es, clock, (hb.block b hB).trans hblk, r⟩, hh⟩
end Go.Proofs.Ytajfliemmfdnhaa
namespace Go.Proofs.Ytajfliemmfdnhaa
open Go.RowKit Plain
set_option linter.unusedVariables false

theorem mem_def {α : Type} [Inhabited α] {xs : List α} {j : Nat} (hj : j < xs.length) : xs.getD j default ∈ xs := List.mem_of_getElem? (getD_at hj)
end Go.Proofs.Ytajfliemmfdnhaa
namespace Go.Proofs.Ytajfliemmfdnhaa
open Go.RowKit Plain
set_option linter.unusedVariables false

set_option maxRecDepth 100000 in
set_option maxHeartbeats 2000000 in
theorem ior_any (xs : List Int) (n g : Nat) (w : World) (hn : xs.length = n) (hp : n ≤ 1000) (hc : ∀ j, j < n → w.cell? ⟨g, j, none⟩ = some (.int .i64 (xs.getD j 0))) :
  Calls Try.prog 84 #[.slice (some ⟨g, 0, none⟩) n n] w fun e w' => e = .returned (.int .i64 (firstNZ xs)) ∧ w' = w := by
 have hit : ∀ (l : List Int) (k : Nat), k < l.length → (∀ j, j < k → l.getD j 0 = 0) → l.getD k 0 ≠ 0 → firstNZ l = l.getD k 0 := by
  intro l
  induction l with
  | nil => intro k h; simp at h
  | cons c l ih =>
   intro k hk ha hh
   cases k with
   | zero => simp only [List.getD_cons_zero] at hh ⊢; rw [firstNZ, if_neg hh]
   | succ k =>
    have h0 := ha 0 (by omega)
    simp only [List.getD_cons_zero] at h0
    simp only [List.getD_cons_succ] at hh ⊢
    rw [firstNZ, if_pos h0]
    exact ih k (by simpa using hk) (fun j hj => by have := ha (j + 1) (by omega); simpa using this) hh
 have none : ∀ l : List Int, (∀ j, j < l.length → l.getD j 0 = 0) → firstNZ l = 0 := by
  intro l
  induction l with
  | nil => intro _; rfl
  | cons c l ih =>
   intro ha
   have h0 := ha 0 (by simp)
   simp only [List.getD_cons_zero] at h0
   rw [firstNZ, if_pos h0]
   exact ih fun j hj => by have := ha (j + 1) (by simpa using hj); simpa using this
 have HH := Lib.hid (hit xs)
 have HN := Lib.hid (none xs)
 have HC := Lib.hid hc
 rw [hn] at HH HN
 clear hit none hc hn
 generalize firstNZ xs = r at *
 obtain ⟨f, hf⟩ : ∃ f : Nat → Int, (fun j => xs.getD j 0) = f := ⟨_, rfl⟩
 have HF := Lib.hid (fun j => congrFun hf j)
 clear hf
 go_enter Try.func84, Try.ntmps84
 go_wp2_with fail
 go_loop [8] (fun i => ∃ k : Nat, k ≤ n ∧ i = .int .i64 k ∧ ∀ j, j < k → xs.getD j 0 = 0) (fun i => n - (intOf i).toNat)
 case atStart => exact ⟨0, Nat.zero_le _, rfl, fun j hj => absurd hj (by omega)⟩
 case round =>
  obtain ⟨k, hk, rfl, hall⟩ := hrel
  have HA := Lib.hid hall
  clear hall
  by_cases hlt : k < n
  ·have c0 := HC.out k hlt
   have hnx := Lib.hid (HH.out k hlt HA.out)
   have hz : Hid (xs.getD k 0 = 0 → ∀ j, j < k + 1 → xs.getD j 0 = 0) := Lib.hid (fun e j hj => by
    by_cases e2 : j = k
    ·rw [e2]; exact e
    ·exact HA.out j (by omega))
   generalize xs.getD k 0 = c at *
   by_cases hc0 : c = 0
   ·have HX := Lib.hid (hz.out hc0)
    subst hc0
    go_wp2_with fail
    go_round
    case rel => exact ⟨k + 1, by omega, by go_num, HX.out⟩
    case measure => simp [intOf]; omega
   ·obtain rfl : r = c := hnx.out hc0
    go_wp2_with fail
    go_ret
    exact ⟨rfl, rfl⟩
  ·obtain rfl : k = n := by omega
   obtain rfl : r = 0 := HN.out HA.out
   go_wp2_with fail
   go_ret
   exact ⟨rfl, rfl⟩
end Go.Proofs.Ytajfliemmfdnhaa
