/- What stays true of the region of ViewMore whose order is open: two fields, the longer list, two variables; step by step. -/
import Derived.Test.YtpkmjddjllpglaaVwAny
import Derived.Test.YtpkmjddjllpglaaInv
namespace Go.Proofs.Ytpkmjddjllpglaa
open Go.RowKit Plain
set_option linter.unusedVariables false

/-- a variable of four cells -/
structure Box4 (W : World) (g : Nat) (v0 v1 v2 v3 : Value) : Prop where
  c0 : W.cell? ⟨g, 0, none⟩ = some v0
  c1 : W.cell? ⟨g, 1, none⟩ = some v1
  c2 : W.cell? ⟨g, 2, none⟩ = some v2
  c3 : W.cell? ⟨g, 3, none⟩ = some v3
  f0 : W.frozen? ⟨g, 0, none⟩ = false
  f1 : W.frozen? ⟨g, 1, none⟩ = false
  f2 : W.frozen? ⟨g, 2, none⟩ = false
  f3 : W.frozen? ⟨g, 3, none⟩ = false
theorem Box4.lt {W : World} {g : Nat} {v0 v1 v2 v3 : Value} (h : Box4 W g v0 v1 v2 v3) : g < W.heap.size := World.block_lt_of_cell? W ⟨g, 0, none⟩ h.c0
theorem Box4.kept {W W' : World} {g : Nat} {v0 v1 v2 v3 : Value} {row : Option Nat} (h : Box4 W g v0 v1 v2 v3) (hg : W.grownBy W' row) (hr : row ≠ some g) : Box4 W' g v0 v1 v2 v3 := by
  have hb : W'.heap[g]? = W.heap[g]? := hg.block g h.lt (fun e => hr e.symm)
  have c : ∀ i, W'.cell? ⟨g, i, none⟩ = W.cell? ⟨g, i, none⟩ := fun i => World.cell?_of_block (w := W) hb
  have f : ∀ i, W'.frozen? ⟨g, i, none⟩ = W.frozen? ⟨g, i, none⟩ := fun i => by unfold World.frozen?; rw [hb]
  exact ⟨(c 0).trans h.c0, (c 1).trans h.c1, (c 2).trans h.c2, (c 3).trans h.c3, (f 0).trans h.f0, (f 1).trans h.f1, (f 2).trans h.f2, (f 3).trans h.f3⟩
theorem Box4.below {W W' : World} {g : Nat} {v0 v1 v2 v3 : Value} (h : Box4 W g v0 v1 v2 v3) (hb : Below W.heap.size W W') : Box4 W' g v0 v1 v2 v3 := h.kept (row := none) (grown_of_below hb) (by simp)
theorem Box4.made (W : World) (t : TypeId) (v0 v1 v2 v3 : Value) : Box4 (W.alloc (.cells #[v0, v1, v2, v3] t)) W.heap.size v0 v1 v2 v3 :=
  ⟨World.cell?_alloc_new W _ _ 0, World.cell?_alloc_new W _ _ 1, World.cell?_alloc_new W _ _ 2, World.cell?_alloc_new W _ _ 3, by simp, by simp, by simp, by simp⟩
theorem Box4.set {W : World} {g : Nat} {z0 z1 z2 z3 : Value} (h : Box4 W g z0 z1 z2 z3) (v0 v1 v2 v3 : Value) : Box4 (set4 W g v0 v1 v2 v3) g v0 v1 v2 v3 := by
  obtain ⟨c0, c1, c2, c3⟩ := set4_cells (v0 := v0) (v1 := v1) (v2 := v2) (v3 := v3) h.c0 h.c1 h.c2 h.c3
  have f : ∀ a, (set4 W g v0 v1 v2 v3).frozen? a = W.frozen? a := fun a => by unfold set4; rw [World.frozen?_setCell, World.frozen?_setCell, World.frozen?_setCell, World.frozen?_setCell]
  exact ⟨c0, c1, c2, c3, (f _).trans h.f0, (f _).trans h.f1, (f _).trans h.f2, (f _).trans h.f3⟩
theorem Box4.far {W : World} {g k : Nat} {z0 z1 z2 z3 : Value} (h : Box4 W g z0 z1 z2 z3) (hk : g ≠ k) (v0 v1 v2 v3 : Value) : Box4 (set4 W k v0 v1 v2 v3) g z0 z1 z2 z3 := by
  have c : ∀ i, (set4 W k v0 v1 v2 v3).cell? ⟨g, i, none⟩ = W.cell? ⟨g, i, none⟩ := fun i => by
    unfold set4
    rw [World.cell?_setCell_other _ _ _ _ (by simp <;> exact hk), World.cell?_setCell_other _ _ _ _ (by simp <;> exact hk), World.cell?_setCell_other _ _ _ _ (by simp <;> exact hk), World.cell?_setCell_other _ _ _ _ (by simp <;> exact hk)]
  have f : ∀ a, (set4 W k v0 v1 v2 v3).frozen? a = W.frozen? a := fun a => by unfold set4; rw [World.frozen?_setCell, World.frozen?_setCell, World.frozen?_setCell, World.frozen?_setCell]
  exact ⟨(c 0).trans h.c0, (c 1).trans h.c1, (c 2).trans h.c2, (c 3).trans h.c3, (f _).trans h.f0, (f _).trans h.f1, (f _).trans h.f2, (f _).trans h.f3⟩
abbrev Zero4 (W : World) (g : Nat) : Prop := Box4 W g (.slice none 0 0) (.slice none 0 0) (.int .i64 0) (.bool false)
theorem IsVal.set4 {W : World} {g : Nat} {v : Value} {p : PVal} (h : IsVal W v p) (hz : Zero4 W g) (v0 v1 v2 v3 : Value) : IsVal (set4 W g v0 v1 v2 v3) v p := by
  obtain ⟨a1, n1, c1, a2, n2, c2, rfl, s1, s2⟩ := h
  exact ⟨a1, n1, c1, a2, n2, c2, rfl, set4_seq s1 hz.c0 hz.c1 hz.c2 hz.c3 (fun s h => by cases h) (fun s h => by cases h) (fun s h => by cases h) (fun s h => by cases h), set4_seq s2 hz.c0 hz.c1 hz.c2 hz.c3 (fun s h => by cases h) (fun s h => by cases h) (fun s h => by cases h) (fun s h => by cases h)⟩

/-- what stays true: the bits tell what has come up; u: the world ahead of the region -/
structure MI (u : World) (x : PItem) (l : List PItem) (pa pb : PVal) (b3 b5 b7 b8 b11 b12 b13 b14 b15 : Bool) (y9 y10 y25 y27 y29 y30 y33 : Value) (W : World) : Prop where
  low : Below u.heap.size u W
  c5 : b5 = true → b3 = true
  c8 : b8 = true → b5 = true ∧ b7 = true
  c11 : b11 = true → b8 = true
  c14 : b14 = true → b11 = true ∧ b12 = true ∧ b13 = true
  c15 : b15 = true → b14 = true
  v25 : b3 = true → IsVal W y25 pa
  own : b5 = true → b8 = false → ∃ w1 : World, u.heap.size ≤ w1.heap.size ∧ IsVal w1 y25 pa ∧ Below w1.heap.size w1 W ∧ OwnE LItem w1.heap.size W y27 l
  lit : b7 = true → b8 = false → ∃ k, y29 = .slice (some ⟨k, 0, none⟩) 1 1 ∧ ItemAt W k 0 x ∧ (b5 = true → y27.ownBlock ≠ some k)
  app : b8 = true → b11 = false → SeqE LItem W y30 (l ++ [x])
  v33 : b11 = true → IsVal W y33 pb
  box9 : b12 = true → ∃ g, y9 = .pointer (some ⟨g, 0, none⟩) ∧ u.heap.size ≤ g ∧ g < W.heap.size ∧ (b5 = true → b8 = false → y27.ownBlock ≠ some g) ∧ (b14 = false → Zero4 W g) ∧ (b14 = true → ∃ v0 v1 v2 v3, y25 = .agg #[v0, v1, v2, v3] ∧ Box4 W g v0 v1 v2 v3)
  box10 : b13 = true → ∃ g, y10 = .pointer (some ⟨g, 0, none⟩) ∧ u.heap.size ≤ g ∧ g < W.heap.size ∧ (b5 = true → b8 = false → y27.ownBlock ≠ some g) ∧ (b15 = false → Zero4 W g) ∧ (b15 = true → ∃ v0 v1 v2 v3, y33 = .agg #[v0, v1, v2, v3] ∧ Box4 W g v0 v1 v2 v3)
  apart : b12 = true → b13 = true → y9 ≠ y10

section
variable {u : World} {x : PItem} {l : List PItem} {pa pb : PVal} {b3 b5 b7 b8 b11 b12 b13 b14 b15 : Bool} {y9 y10 y25 y27 y29 y30 y33 : Value} {W W' : World}
/-- a later world in which all that was there stands -/
theorem MI.below (h : MI u x l pa pb b3 b5 b7 b8 b11 b12 b13 b14 b15 y9 y10 y25 y27 y29 y30 y33 W) (hb : Below W.heap.size W W') : MI u x l pa pb b3 b5 b7 b8 b11 b12 b13 b14 b15 y9 y10 y25 y27 y29 y30 y33 W' where
  low := h.low.trans (hb.mono h.low.size)
  c5 := h.c5
  c8 := h.c8
  c11 := h.c11
  c14 := h.c14
  c15 := h.c15
  v25 := fun e => (h.v25 e).below hb
  own := fun e1 e2 => by
    obtain ⟨w1, k1, k2, k3, k4⟩ := h.own e1 e2
    exact ⟨w1, k1, k2, k3.trans (hb.mono k3.size), k4.below hb (Nat.le_refl _)⟩
  lit := fun e1 e2 => by
    obtain ⟨k, k1, k2, k3⟩ := h.lit e1 e2
    exact ⟨k, k1, k2.below hb k2.lt, k3⟩
  app := fun e1 e2 => (h.app e1 e2).below hb
  v33 := fun e => (h.v33 e).below hb
  box9 := fun e => by
    obtain ⟨g, k1, k2, k3, k4, k5, k6⟩ := h.box9 e
    exact ⟨g, k1, k2, Nat.lt_of_lt_of_le k3 hb.size, k4, fun e => (k5 e).below hb, fun e => by obtain ⟨v0, v1, v2, v3, e1, e2⟩ := k6 e; exact ⟨v0, v1, v2, v3, e1, e2.below hb⟩⟩
  box10 := fun e => by
    obtain ⟨g, k1, k2, k3, k4, k5, k6⟩ := h.box10 e
    exact ⟨g, k1, k2, Nat.lt_of_lt_of_le k3 hb.size, k4, fun e => (k5 e).below hb, fun e => by obtain ⟨v0, v1, v2, v3, e1, e2⟩ := k6 e; exact ⟨v0, v1, v2, v3, e1, e2.below hb⟩⟩
  apart := h.apart
/-- the first field was made -/
theorem MI.s3 (h : MI u x l pa pb false b5 b7 b8 b11 b12 b13 b14 b15 y9 y10 y25 y27 y29 y30 y33 W) {v : Value} (hv : IsVal W v pa) : MI u x l pa pb true b5 b7 b8 b11 b12 b13 b14 b15 y9 y10 v y27 y29 y30 y33 W := by
  have n5 : ¬ b5 = true := fun e => by cases h.c5 e
  have n8 : ¬ b8 = true := fun e => n5 (h.c8 e).1
  have n11 : ¬ b11 = true := fun e => n8 (h.c11 e)
  have n14 : ¬ b14 = true := fun e => n11 (h.c14 e).1
  exact {
    low := h.low
    c5 := fun _ => rfl
    c8 := h.c8
    c11 := h.c11
    c14 := h.c14
    c15 := h.c15
    v25 := fun _ => hv
    own := fun e => absurd e n5
    lit := h.lit
    app := h.app
    v33 := h.v33
    box9 := fun e => by
      obtain ⟨g, k1, k2, k3, k4, k5, k6⟩ := h.box9 e
      exact ⟨g, k1, k2, k3, k4, k5, fun e => absurd e n14⟩
    box10 := h.box10
    apart := h.apart }
/-- the copy was made: from W to W' -/
theorem MI.s5 (h : MI u x l pa pb true false b7 b8 b11 b12 b13 b14 b15 y9 y10 y25 y27 y29 y30 y33 W) (hb : Below W.heap.size W W') {v : Value} (hv : OwnE LItem W.heap.size W' v l) : MI u x l pa pb true true b7 b8 b11 b12 b13 b14 b15 y9 y10 y25 v y29 y30 y33 W' := by
  have n8 : ¬ b8 = true := fun e => by cases (h.c8 e).1
  have hB := h.below hb
  have far : ∀ g, g < W.heap.size → v.ownBlock ≠ some g := fun g hg e => by have := (hv.lt g e).1; omega
  exact {
    low := hB.low
    c5 := fun _ => rfl
    c8 := fun e => absurd e n8
    c11 := hB.c11
    c14 := hB.c14
    c15 := hB.c15
    v25 := hB.v25
    own := fun _ _ => ⟨W, h.low.size, h.v25 rfl, hb, hv⟩
    lit := fun e1 e2 => by
      obtain ⟨k, k1, k2, -⟩ := h.lit e1 e2
      exact ⟨k, k1, k2.below hb k2.lt, fun _ => far k k2.lt⟩
    app := fun e => absurd e n8
    v33 := hB.v33
    box9 := fun e => by
      obtain ⟨g, k1, k2, k3, -, -, -⟩ := h.box9 e
      obtain ⟨g', k1', -, -, -, k5, k6⟩ := hB.box9 e
      rw [k1] at k1'
      cases k1'
      exact ⟨g, k1, k2, Nat.lt_of_lt_of_le k3 hb.size, fun _ _ => far g k3, k5, k6⟩
    box10 := fun e => by
      obtain ⟨g, k1, k2, k3, -, -, -⟩ := h.box10 e
      obtain ⟨g', k1', -, -, -, k5, k6⟩ := hB.box10 e
      rw [k1] at k1'
      cases k1'
      exact ⟨g, k1, k2, Nat.lt_of_lt_of_le k3 hb.size, fun _ _ => far g k3, k5, k6⟩
    apart := hB.apart }
/-- the one item was laid into a block of its own -/
theorem MI.s7 (h : MI u x l pa pb b3 b5 false b8 b11 b12 b13 b14 b15 y9 y10 y25 y27 y29 y30 y33 W) (C : Obj) (hi : ItemAt (W.alloc C) W.heap.size 0 x) : MI u x l pa pb b3 b5 true b8 b11 b12 b13 b14 b15 y9 y10 y25 y27 (.slice (some ⟨W.heap.size, 0, none⟩) 1 1) y30 y33 (W.alloc C) := by
  have n8 : ¬ b8 = true := fun e => by cases (h.c8 e).2
  have hB := h.below ((Below.refl W.heap.size W).alloc (Nat.le_refl _) C)
  exact {
    low := hB.low
    c5 := hB.c5
    c8 := fun e => absurd e n8
    c11 := hB.c11
    c14 := hB.c14
    c15 := hB.c15
    v25 := hB.v25
    own := hB.own
    lit := fun _ e2 => ⟨W.heap.size, rfl, hi, fun e5 e => by
      obtain ⟨w1, -, -, -, k4⟩ := h.own e5 e2
      have := (k4.lt _ e).2
      omega⟩
    app := hB.app
    v33 := hB.v33
    box9 := hB.box9
    box10 := hB.box10
    apart := hB.apart }
/-- the list with the item more -/
theorem MI.s8 (h : MI u x l pa pb true true true false b11 b12 b13 b14 b15 y9 y10 y25 y27 y29 y30 y33 W) {B : Nat} {v : Value} (hB : u.heap.size ≤ B) (hv : OwnE LItem B W' v (l ++ [x])) (hg : W.grownBy W' y27.ownBlock) (hw : ∃ w1 : World, w1.heap.size = B ∧ IsVal w1 y25 pa ∧ Below w1.heap.size w1 W) (hl : ∀ k, y27.ownBlock = some k → B ≤ k) (hBW : B ≤ W.heap.size) : MI u x l pa pb true true true true b11 b12 b13 b14 b15 y9 y10 y25 y27 y29 v y33 W' := by
  have n11 : ¬ b11 = true := fun e => by cases h.c11 e
  have n14 : ¬ b14 = true := fun e => n11 (h.c14 e).1
  have n15 : ¬ b15 = true := fun e => n14 (h.c15 e)
  obtain ⟨w1, e1, k2, k3⟩ := hw
  have hbW : Below B W W' := (Below.refl B W).grown hg hBW hl
  exact {
    low := h.low.trans (hbW.mono hB)
    c5 := fun _ => rfl
    c8 := fun _ => ⟨rfl, rfl⟩
    c11 := fun _ => rfl
    c14 := fun e => absurd e n14
    c15 := fun e => absurd e n15
    v25 := fun _ => k2.below (k3.trans (hbW.mono (by omega)))
    own := fun _ e => by cases e
    lit := fun _ e => by cases e
    app := fun _ _ => hv.seq
    v33 := fun e => absurd e n11
    box9 := fun e => by
      obtain ⟨g, q1, q2, q3, q4, q5, -⟩ := h.box9 e
      exact ⟨g, q1, q2, Nat.lt_of_lt_of_le q3 hg.size, (fun _ e => by cases e), fun e => (q5 e).kept hg (q4 rfl rfl), fun e => absurd e n14⟩
    box10 := fun e => by
      obtain ⟨g, q1, q2, q3, q4, q5, -⟩ := h.box10 e
      exact ⟨g, q1, q2, Nat.lt_of_lt_of_le q3 hg.size, (fun _ e => by cases e), fun e => (q5 e).kept hg (q4 rfl rfl), fun e => absurd e n15⟩
    apart := h.apart }
/-- the second field was made -/
theorem MI.s11 (h : MI u x l pa pb b3 b5 b7 true false b12 b13 b14 b15 y9 y10 y25 y27 y29 y30 y33 W) {v : Value} (hv : IsVal W v pb) : MI u x l pa pb b3 b5 b7 true true b12 b13 b14 b15 y9 y10 y25 y27 y29 y30 v W := by
  have n14 : ¬ b14 = true := fun e => by cases (h.c14 e).1
  have n15 : ¬ b15 = true := fun e => n14 (h.c15 e)
  exact {
    low := h.low
    c5 := h.c5
    c8 := h.c8
    c11 := fun _ => rfl
    c14 := fun e => absurd e n14
    c15 := h.c15
    v25 := h.v25
    own := h.own
    lit := h.lit
    app := fun _ e => by cases e
    v33 := fun _ => hv
    box9 := h.box9
    box10 := fun e => by
      obtain ⟨g, q1, q2, q3, q4, q5, -⟩ := h.box10 e
      exact ⟨g, q1, q2, q3, q4, q5, fun e => absurd e n15⟩
    apart := h.apart }
/-- the first variable -/
theorem MI.s12 (h : MI u x l pa pb b3 b5 b7 b8 b11 false b13 b14 b15 y9 y10 y25 y27 y29 y30 y33 W) (t : TypeId) : MI u x l pa pb b3 b5 b7 b8 b11 true b13 b14 b15 (.pointer (some ⟨W.heap.size, 0, none⟩)) y10 y25 y27 y29 y30 y33 (W.alloc (.cells #[.slice none 0 0, .slice none 0 0, .int .i64 0, .bool false] t)) := by
  have n14 : ¬ b14 = true := fun e => by cases (h.c14 e).2.1
  have n15 : ¬ b15 = true := fun e => n14 (h.c15 e)
  have hB := h.below ((Below.refl W.heap.size W).alloc (Nat.le_refl _) (.cells #[.slice none 0 0, .slice none 0 0, .int .i64 0, .bool false] t))
  exact {
    low := hB.low
    c5 := hB.c5
    c8 := hB.c8
    c11 := hB.c11
    c14 := fun e => absurd e n14
    c15 := hB.c15
    v25 := hB.v25
    own := hB.own
    lit := hB.lit
    app := hB.app
    v33 := hB.v33
    box9 := fun _ => ⟨W.heap.size, rfl, h.low.size, by simp, fun e5 e8 e => by
      obtain ⟨w1, -, -, -, k4⟩ := h.own e5 e8
      have := (k4.lt _ e).2
      omega, fun _ => Box4.made W t _ _ _ _, fun e => absurd e n14⟩
    box10 := hB.box10
    apart := fun _ e => by
      obtain ⟨g, q1, -, q3, -⟩ := h.box10 e
      rw [q1]
      intro e
      cases e
      omega }
/-- the second variable -/
theorem MI.s13 (h : MI u x l pa pb b3 b5 b7 b8 b11 b12 false b14 b15 y9 y10 y25 y27 y29 y30 y33 W) (t : TypeId) : MI u x l pa pb b3 b5 b7 b8 b11 b12 true b14 b15 y9 (.pointer (some ⟨W.heap.size, 0, none⟩)) y25 y27 y29 y30 y33 (W.alloc (.cells #[.slice none 0 0, .slice none 0 0, .int .i64 0, .bool false] t)) := by
  have n14 : ¬ b14 = true := fun e => by cases (h.c14 e).2.2
  have n15 : ¬ b15 = true := fun e => n14 (h.c15 e)
  have hB := h.below ((Below.refl W.heap.size W).alloc (Nat.le_refl _) (.cells #[.slice none 0 0, .slice none 0 0, .int .i64 0, .bool false] t))
  exact {
    low := hB.low
    c5 := hB.c5
    c8 := hB.c8
    c11 := hB.c11
    c14 := fun e => absurd e n14
    c15 := hB.c15
    v25 := hB.v25
    own := hB.own
    lit := hB.lit
    app := hB.app
    v33 := hB.v33
    box9 := hB.box9
    box10 := fun _ => ⟨W.heap.size, rfl, h.low.size, by simp, fun e5 e8 e => by
      obtain ⟨w1, -, -, -, k4⟩ := h.own e5 e8
      have := (k4.lt _ e).2
      omega, fun _ => Box4.made W t _ _ _ _, fun e => absurd e n15⟩
    apart := fun e _ => by
      obtain ⟨g, q1, -, q3, -⟩ := h.box9 e
      rw [q1]
      intro e
      cases e
      omega }
/-- the first field in its variable -/
theorem MI.s14 (h : MI u x l pa pb b3 b5 b7 b8 true true true false b15 y9 y10 y25 y27 y29 y30 y33 W) {g : Nat} (e9 : y9 = .pointer (some ⟨g, 0, none⟩)) {v0 v1 v2 v3 : Value} (e25 : y25 = .agg #[v0, v1, v2, v3]) : MI u x l pa pb b3 b5 b7 b8 true true true true b15 y9 y10 y25 y27 y29 y30 y33 (set4 W g v0 v1 v2 v3) := by
  have b8t := h.c11 rfl
  subst b8t
  obtain ⟨b5t, b7t⟩ := h.c8 rfl
  have n15 : ¬ b15 = true := fun e => by cases h.c15 e
  obtain ⟨g', k1, k2, k3, -, k5, -⟩ := h.box9 rfl
  rw [e9] at k1
  cases k1
  have hz := k5 rfl
  have hw : (set4 W g v0 v1 v2 v3).heap.size = W.heap.size := by unfold set4; simp [World.setCell]
  exact {
    low := set4_below h.low k2
    c5 := h.c5
    c8 := h.c8
    c11 := h.c11
    c14 := fun _ => ⟨rfl, rfl, rfl⟩
    c15 := fun e => absurd e n15
    v25 := fun e => (h.v25 e).set4 hz _ _ _ _
    own := fun _ e => by cases e
    lit := fun _ e => by cases e
    app := fun _ e => by cases e
    v33 := fun e => (h.v33 e).set4 hz _ _ _ _
    box9 := fun _ => ⟨g, e9, k2, by rw [hw]; exact k3, (fun _ e => by cases e), fun e => (by cases e), fun _ => ⟨v0, v1, v2, v3, e25, hz.set _ _ _ _⟩⟩
    box10 := fun e => by
      obtain ⟨j, q1, q2, q3, q4, q5, q6⟩ := h.box10 e
      have hne : j ≠ g := fun e => h.apart rfl rfl (by rw [e9, q1, e])
      exact ⟨j, q1, q2, by rw [hw]; exact q3, q4, fun e => (q5 e).far hne _ _ _ _, fun e => absurd e n15⟩
    apart := h.apart }
/-- the second one in its -/
theorem MI.s15 (h : MI u x l pa pb b3 b5 b7 b8 b11 b12 b13 true false y9 y10 y25 y27 y29 y30 y33 W) {g : Nat} (e10 : y10 = .pointer (some ⟨g, 0, none⟩)) {v0 v1 v2 v3 : Value} (e33 : y33 = .agg #[v0, v1, v2, v3]) : MI u x l pa pb b3 b5 b7 b8 b11 b12 b13 true true y9 y10 y25 y27 y29 y30 y33 (set4 W g v0 v1 v2 v3) := by
  obtain ⟨e11, e12, e13⟩ := h.c14 rfl
  subst e11 e12 e13
  have b8t := h.c11 rfl
  subst b8t
  obtain ⟨g', k1, k2, k3, -, k5, -⟩ := h.box10 rfl
  rw [e10] at k1
  cases k1
  have hz := k5 rfl
  have hw : (set4 W g v0 v1 v2 v3).heap.size = W.heap.size := by unfold set4; simp [World.setCell]
  exact {
    low := set4_below h.low k2
    c5 := h.c5
    c8 := h.c8
    c11 := h.c11
    c14 := h.c14
    c15 := fun _ => rfl
    v25 := fun e => (h.v25 e).set4 hz _ _ _ _
    own := fun _ e => by cases e
    lit := fun _ e => by cases e
    app := fun _ e => by cases e
    v33 := fun e => (h.v33 e).set4 hz _ _ _ _
    box9 := fun e => by
      obtain ⟨j, q1, q2, q3, q4, -, q6⟩ := h.box9 e
      have hne : j ≠ g := fun e => h.apart rfl rfl (by rw [e10, q1, e])
      obtain ⟨v0', v1', v2', v3', r1, r2⟩ := q6 rfl
      exact ⟨j, q1, q2, by rw [hw]; exact q3, q4, fun e => (by cases e), fun _ => ⟨v0', v1', v2', v3', r1, r2.far hne _ _ _ _⟩⟩
    box10 := fun _ => ⟨g, e10, k2, by rw [hw]; exact k3, (fun _ e => by cases e), fun e => (by cases e), fun _ => ⟨v0, v1, v2, v3, e33, hz.set _ _ _ _⟩⟩
    apart := h.apart }
end
end Go.Proofs.Ytpkmjddjllpglaa
