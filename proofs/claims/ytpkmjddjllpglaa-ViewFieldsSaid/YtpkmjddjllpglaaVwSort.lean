/- slices.Sort and slices.Compact of texts of the call's own: but for the row nothing changes; the program's own risingOnce. -/
import Derived.Test.YtpkmjddjllpglaaShelfC
import Derived.Test.YtpkmjddjllpglaaI64
import Derived.Lib.OwnKind
namespace Go.Proofs.Ytpkmjddjllpglaa
open Go.RowKit Plain
set_option linter.unusedVariables false

theorem grown_put {w u : World} {g off : Nat} {d : Array Txt} (hb : w.grownBy u (some g)) (n : Nat) (os : Array Obj) : w.grownBy (Sort.grow (Sort.putRow encStr (Sort.ahead u n) g off d) os) (some g) := by
  refine ⟨hb.os, hb.tape, hb.output, ?_, fun k hk hne => ?_⟩
  · have := hb.size
    rw [Sort.size_grow, Sort.size_putRow]
    show w.heap.size ≤ u.heap.size + os.size
    omega
  · have hsz := hb.size
    have hlt : k < u.heap.size := by omega
    rw [Sort.heap_grow_old _ _ (by rw [Sort.size_putRow]; exact hlt)]
    refine Eq.trans ?_ (hb.block k hk hne)
    show ((Sort.ahead u n).heap.modify g _)[k]? = u.heap[k]?
    rw [Array.getElem?_modify, if_neg (fun e => hne (by rw [e]))]
    rfl
/-- a row that was sorted stands, whatever else grows -/
def StaysT (w : World) (r : Option Nat) (u : Value) (xs : List Txt) : Prop := SeqT w u xs ∧ ∀ W q, w.grownBy W q → (r = none ∨ r ≠ q) → SeqT W u xs
/-- slices.Sort of texts of the call's own, then slices.Compact: but for the row nothing changes -/
theorem sort_textsG {B : Nat} {v : Value} {xs : List Txt} {w : World} (hv : OwnsT B w v xs) (hx : xs.length ≤ 1000000) :
    Calls Try.prog 29 #[v] w fun e w' => e = .returned (.tuple #[]) ∧ w.grownBy w' v.ownBlock ∧ Calls Try.prog 30 #[v] w' fun e w'' => ∃ u, e = .returned u ∧ StaysT w'' v.ownBlock u (once xs) ∧ w.grownBy w'' v.ownBlock := by
  have hlt := hv.lt
  have hcase : (v = .slice none 0 0 ∧ xs = []) ∨ ∃ g c, v = .slice (some ⟨g, 0, none⟩) xs.length c ∧ xs.length ≤ c ∧ c ≤ maxLen ∧ B ≤ g ∧ g < w.heap.size := by
    rcases hv.2 with ⟨rfl, hn⟩ | ⟨g, cap, cur, rfl, h1, hg, hnc, hcm, -, -⟩
    · exact .inl ⟨rfl, List.eq_nil_of_length_eq_zero hn⟩
    · exact .inr ⟨g, cap, rfl, hnc, hcm, h1, (hlt g rfl).2⟩
  rcases hcase with ⟨rfl, rfl⟩ | ⟨g, c, rfl, h1, h2, h3, h4⟩
  · refine (Try.slices_Sort_string_none none 0 w).mono fun e w' ⟨he, hw⟩ => ?_
    subst hw
    refine ⟨he, World.grownBy.refl _ _, ?_⟩
    exact (Try.slices_Compact_string_empty none 0 w').mono fun e w'' ⟨he, hw⟩ => ⟨_, he, ⟨SeqT.nil _, fun W q _ _ => SeqT.nil W⟩, by rw [hw]; exact World.grownBy.refl _ _⟩
  · have hH := holds_of_owns hv
    refine (Try.slices_Sort_string g 0 c xs w hH h4 (by omega)).mono fun e w' ⟨he, n, os, hw⟩ => ?_
    have hl : (xs.mergeSort fun x y => decide (x ≤ y)).length = xs.length := List.length_mergeSort _
    have hH2 : Sort.Holds encStr w' g 0 (xs.mergeSort fun x y => decide (x ≤ y)).toArray := by rw [hw]; exact holds_put hH (by simp [hl]) h4 n os
    have hb2 : w.grownBy w' (some g) := by rw [hw]; exact grown_put (World.grownBy.refl _ _) n os
    have h4' : g < w'.heap.size := by have := hb2.size; omega
    have hm : maxLen = 9223372036854775807 := rfl
    refine ⟨he, hb2, ?_⟩
    have K := Try.slices_Compact_string g 0 c (xs.mergeSort fun x y => decide (x ≤ y)) w' hH2 (by omega) (by omega)
    rw [hl] at K
    refine K.mono fun e w'' ⟨he, q, hw2⟩ => ?_
    have hlc : (once xs).length ≤ xs.length := once_len xs
    rw [compact_sort] at he hw2
    have hH3 : Sort.Holds encStr w'' g 0 (once xs ++ List.replicate (xs.length - (once xs).length) []).toArray := by
      rw [hw2, ← Sort.grow_empty (Sort.putRow _ _ _ _ _)]
      exact holds_put hH2 (by simp [hl]; omega) h4' q #[]
    have hS : SeqT w'' (.slice (some ⟨g, 0, none⟩) (once xs).length c) (once xs) := seq_of_holds (holds_first hH3) (by omega) h2
    have hb3 : w.grownBy w'' (some g) := by
      rw [hw2, ← Sort.grow_empty (Sort.putRow _ _ _ _ _)]
      exact grown_put hb2 q #[]
    refine ⟨_, he, ⟨hS, fun W q hg hne => ?_⟩, hb3⟩
    obtain ⟨a, cap, hv', g1, g2, g0, gg⟩ := hS
    refine ⟨a, cap, hv', g1, g2, g0, fun hp => ?_⟩
    obtain ⟨b, off, rfl, hc⟩ := gg hp
    simp only [Value.slice.injEq, Option.some.injEq, Addr.mk.injEq, and_true] at hv'
    obtain ⟨⟨rfl, rfl⟩, -, rfl⟩ := hv'
    refine ⟨_, _, rfl, fun j hj => hg.cell (hc j hj) ?_⟩
    rcases hne with h | h
    · cases h
    · exact h

set_option maxRecDepth 100000 in
set_option maxHeartbeats 1000000 in
/-- risingOnce -/
theorem vonce_any {B : Nat} {v : Value} {xs : List Txt} {w : World} (hv : OwnsT B w v xs) (hx : xs.length ≤ 1000000) :
    Calls Try.prog 23 #[v] w fun e w' => ∃ u, e = .returned u ∧ StaysT w' v.ownBlock u (once xs) ∧ w.grownBy w' v.ownBlock := by
  have K := sort_textsG hv hx
  obtain ⟨a, cap, rfl, -⟩ := hv.parts
  generalize Value.ownBlock (.slice a xs.length cap) = row at *
  generalize xs.length = n at *
  generalize once xs = ys at *
  clear hv hx
  go_enter Try.func23, Try.ntmps23
  go_wp2_with fail
  refine K.mono ?_
  rintro e w2 ⟨rfl, -, K2⟩
  clear K
  go_wp2_with fail
  refine K2.mono ?_
  rintro e w3 ⟨u3, rfl, hs, hg⟩
  obtain ⟨a3, c3, rfl, -⟩ := hs.1.parts
  have S := Lib.hid hs
  have G := Lib.hid hg
  clear hs hg K2
  go_wp2_with fail
  go_ret
  exact ⟨_, rfl, S.out, G.out⟩

/-! ### what stands when another row grows -/
def ApartV (u v : Value) : Prop := u.ownBlock = none ∨ u.ownBlock ≠ v.ownBlock
theorem ApartV.symm {u v : Value} (h : ApartV u v) : ApartV v u := by
  unfold ApartV at *
  cases hv : v.ownBlock with
  | none => exact .inl rfl
  | some k =>
    right
    rcases h with h | h
    · rw [h]; exact fun e => by cases e
    · rw [hv] at h; exact fun e => h e.symm
theorem apart_next {B n : Nat} {w : World} {u v v' : Value} {ys : List Txt} (hu : OwnsT B w u ys) (ha : ApartV u v) (hat : v'.ownBlock = v.ownBlock ∨ v'.ownBlock = some n) (hs : w.heap.size ≤ n) : ApartV u v' := by
  rcases hat with h | h
  · unfold ApartV; rw [h]; exact ha
  · unfold ApartV; rw [h]
    cases hub : u.ownBlock with
    | none => exact .inl rfl
    | some k => right; have := (hu.lt k hub).2; intro e; cases e; omega
theorem OwnsT.kept {B : Nat} {w w' : World} {u v : Value} {ys : List Txt} (h : OwnsT B w u ys) (hg : w.grownBy w' v.ownBlock) (ha : ApartV u v) : OwnsT B w' u ys := World.ownsRow.kept h hg ha
theorem OwnsT.keptN {B : Nat} {w w' : World} {u v : Value} {ys : List Txt} {ns : List Int} {C : Nat} (h : OwnsT B w u ys) (hv : OwnE LI64 C w v ns) (hg : w.grownBy w' v.ownBlock) : OwnsT B w' u ys := by
  refine World.ownsRow.kept h hg ?_
  cases hub : u.ownBlock with
  | none => exact .inl rfl
  | some k =>
    right
    intro e
    obtain ⟨vals, ho, -⟩ := hv
    obtain ⟨c1, f1, h1⟩ := Lib.ownsRow_kind h k hub
    obtain ⟨c2, f2, h2⟩ := Lib.ownsRow_kind ho k e.symm
    rw [h1] at h2
    have h3 := congrArg (fun o : Option Obj => match o with | some (.cells _ t _) => t | _ => 0) h2
    exact absurd h3 (show ¬ 9 = 2 by decide)
theorem OwnE.keptT {B : Nat} {w w' : World} {u v : Value} {ys : List Txt} {ns : List Int} {C : Nat} (h : OwnE LI64 B w u ns) (hv : OwnsT C w v ys) (hg : w.grownBy w' v.ownBlock) : OwnE LI64 B w' u ns := by
  obtain ⟨vals, ho, hr⟩ := h
  refine ⟨vals, World.ownsRow.kept ho hg ?_, hr.1, fun j x hj => hr.2 j x hj⟩
  cases hub : u.ownBlock with
  | none => exact .inl rfl
  | some k =>
    right
    intro e
    obtain ⟨c1, f1, h1⟩ := Lib.ownsRow_kind hv k e.symm
    obtain ⟨c2, f2, h2⟩ := Lib.ownsRow_kind ho k hub
    rw [h1] at h2
    have h3 := congrArg (fun o : Option Obj => match o with | some (.cells _ t _) => t | _ => 0) h2
    exact absurd h3 (show ¬ 9 = 2 by decide)
end Go.Proofs.Ytpkmjddjllpglaa
