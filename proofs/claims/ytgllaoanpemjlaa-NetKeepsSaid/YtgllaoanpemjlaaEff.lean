/- WORDS FOR EFFECTS: how they lie in memory (with the dots that they take away), slices of them, what an argument that is a list of them hands over. -/
import Derived.Test.YtgllaoanpemjlaaItem
import Derived.Test.YtgllaoanpemjlaaEMath
namespace Go.Proofs.Ytgllaoanpemjlaa
open Go.RowKit Plain
set_option linter.unusedVariables false

def cellsEf (x : PEff) (dv : Value) : List Value := [.int .i64 x.pos, tv x.key, tv x.field, .int .i64 x.kind, tv x.elem, .int .i64 x.n, dv]
def zeroEf : Value := .agg #[.int .i64 0, .string ByteArray.empty, .string ByteArray.empty, .int .i64 0, .string ByteArray.empty, .int .i64 0, .slice none 0 0]
theorem zsEf : zeroEf.cells.size = 7 := rfl
theorem Sq.one {α : Type} {L : El α} {P : Nat → Prop} {w : World} {v : Value} {xs : List α} (h : Sq L P w v xs) : v.oneCell' = true := by
  obtain ⟨a, cap, vals, rfl, -⟩ := h
  rfl
/-- the cells of an effect at a place; dv: the slice of its Drops -/
structure EffAt (w : World) (b o : Nat) (x : PEff) (dv : Value) : Prop where
  c0 : w.cell? ⟨b, o, none⟩ = some (.int .i64 x.pos)
  c1 : w.cell? ⟨b, o + 1, none⟩ = some (.string (bt x.key))
  c2 : w.cell? ⟨b, o + 2, none⟩ = some (.string (bt x.field))
  c3 : w.cell? ⟨b, o + 3, none⟩ = some (.int .i64 x.kind)
  c4 : w.cell? ⟨b, o + 4, none⟩ = some (.string (bt x.elem))
  c5 : w.cell? ⟨b, o + 5, none⟩ = some (.int .i64 x.n)
  c6 : w.cell? ⟨b, o + 6, none⟩ = some dv
theorem EffAt.below {N : Nat} {w w' : World} {b o : Nat} {x : PEff} {dv : Value} (h : EffAt w b o x dv) (hb : Below N w w') (hN : b < N) : EffAt w' b o x dv :=
  ⟨(hb.cell (p := ⟨b, o, none⟩) hN).trans h.c0, (hb.cell (p := ⟨b, o + 1, none⟩) hN).trans h.c1, (hb.cell (p := ⟨b, o + 2, none⟩) hN).trans h.c2, (hb.cell (p := ⟨b, o + 3, none⟩) hN).trans h.c3,
    (hb.cell (p := ⟨b, o + 4, none⟩) hN).trans h.c4, (hb.cell (p := ⟨b, o + 5, none⟩) hN).trans h.c5, (hb.cell (p := ⟨b, o + 6, none⟩) hN).trans h.c6⟩
theorem EffAt.lt {w : World} {b o : Nat} {x : PEff} {dv : Value} (h : EffAt w b o x dv) : b < w.heap.size := World.block_lt_of_cell? w ⟨b, o, none⟩ h.c0
/-! ### arguments -/
def effOk (x : PEff) : Prop := (Lit.int .i64 x.pos).wf = true ∧ (Lit.int .i64 x.kind).wf = true ∧ (Lit.int .i64 x.n).wf = true ∧ (∀ d ∈ x.drops, dotOk d) ∧ x.key.length ≤ 9223372036854775807 ∧ x.field.length ≤ 9223372036854775807 ∧ x.elem.length ≤ 9223372036854775807
/-- a slice that lies in a cell of what was handed over, opened element by element -/
theorem elems_of_cells {α : Type} [Inhabited α] (L : El α) (ok : α → Prop) (hk : Try.prog.cellsOf L.E = L.k)
    {H : Type} {enc : TypeId × Value → H} {W : World}
    (hel : ∀ {n : Nat} {cs : List Value} {y : DataW H × List MemPlace}, DataW.trod enc Try.prog W 0 (fun _ => true) true n L.E cs = some y → ∃ x, L.R (· < W.heap.size) W cs x ∧ ok x)
    {fuel : Nat} {cs : List Value} {y : DataW H × List MemPlace} (hf : DataW.trod enc Try.prog W 0 (fun _ => true) true fuel L.S cs = some y) : ∃ (v : Value) (xs : List α), cs = [v] ∧ SeqE L W v xs ∧ ∀ x ∈ xs, ok x := by
  rcases Go.Deep.open_slice L.und hf with ⟨hcs, -⟩ | ⟨a, len, cap, m, n, D, Pl, hcs, -, hl, hm, hmm, -, hi⟩
  · exact ⟨_, [], hcs, SeqE.nil W, fun x hx => absurd hx (by simp)⟩
  · simp only [↓reduceIte] at hmm
    subst hmm
    refine (?_ : ∃ (xs : List α), SeqE L W (.slice (some a) len m) xs ∧ ∀ x ∈ xs, ok x).elim fun xs h => ⟨_, xs, hcs, h⟩
    have each : ∀ j, j < len → ∃ vs x, L.R (· < W.heap.size) W vs x ∧ ok x ∧ ∀ i u, vs[i]? = some u → W.cell? (a.add (j * L.k + i)) = some u := by
      intro j hj
      obtain ⟨cs, hc, ht⟩ := hi j (by omega)
      rw [hk] at hc
      obtain ⟨-, hcl, hat⟩ := World.cells?_some hc
      obtain ⟨x, hR, hx⟩ := hel ht
      refine ⟨cs, x, hR, hx, fun i u hu => ?_⟩
      have hil : i < L.k := by rw [← L.len hR]; exact (List.getElem?_eq_some_iff.1 hu).1
      have := hat i hil
      rw [Go.Deep.add_add] at this
      rw [this, hu]
    by_cases hp : 0 < len
    · have hspot : a.spot = none := by
        obtain ⟨vs, x, hR, -, hc⟩ := each 0 hp
        have hl0 : 0 < vs.length := by rw [L.len hR]; exact L.pos
        have := World.cell?_spot (hc 0 _ (List.getElem?_eq_getElem hl0))
        simpa [Addr.add] using this
      obtain ⟨b0, o, spot⟩ := a
      simp only at hspot
      subst hspot
      have hblt : b0 < W.heap.size := by
        obtain ⟨vs, x, hR, -, hc⟩ := each 0 hp
        have hl0 : 0 < vs.length := by rw [L.len hR]; exact L.pos
        have := World.block_lt_of_cell? W _ (hc 0 _ (List.getElem?_eq_getElem hl0))
        simpa [Addr.add] using this
      have build : ∀ m, m ≤ len → ∃ (vals : List Value) (xs : List α), xs.length = m ∧ Rows L (· < W.heap.size) W vals xs ∧ (∀ x ∈ xs, ok x) ∧ ∀ i u, vals[i]? = some u → W.cell? ⟨b0, o + i, none⟩ = some u := by
        intro m
        induction m with
        | zero => intro _; exact ⟨[], [], rfl, Rows.nil _ _, fun x hx => absurd hx (by simp), fun i u hu => by simp at hu⟩
        | succ m ih =>
          intro hm2
          obtain ⟨vals, xs, hl, hr, hok, hc⟩ := ih (by omega)
          obtain ⟨vs, x, hR, hx, hcx⟩ := each m (by omega)
          refine ⟨vals ++ vs, xs ++ [x], by rw [List.length_append, hl]; rfl, hr.append (Rows.of_one hR), fun y hy => ?_, fun i u hu => ?_⟩
          · rcases List.mem_append.1 hy with hy | hy
            · exact hok y hy
            · rw [List.mem_singleton.1 hy]; exact hx
          · by_cases hlt : i < vals.length
            · rw [List.getElem?_append_left hlt] at hu
              exact hc i u hu
            · rw [List.getElem?_append_right (by omega)] at hu
              have := hcx _ u hu
              rw [Go.WideShapes.add_plain] at this
              rw [hr.1, hl] at this hlt
              rw [show o + i = o + (m * L.k + (i - m * L.k)) by omega]
              exact this
      obtain ⟨vals, xs, hlx, hr, hok, hc⟩ := build len (Nat.le_refl _)
      exact ⟨xs, ⟨_, m, vals, by rw [hlx], by omega, hm, (by simp), hr, fun _ => ⟨b0, o, rfl, hblt, hc⟩⟩, hok⟩
    · obtain rfl : len = 0 := by omega
      exact ⟨[], SeqE.empty W a m (by omega), fun x hx => absurd hx (by simp)⟩
section
open Go.ChangeShapes Go.WideShapes Go.Joins
set_option maxRecDepth 100000
end
end Go.Proofs.Ytgllaoanpemjlaa
