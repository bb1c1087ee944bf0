/- WORDS FOR ITEMS AND DOTS: how they lie in memory, slices of them, what an argument that is one, or a list of them, hands over. -/
import Derived.Test.YtgllaoanpemjlaaEl
import Derived.Test.YtgllaoanpemjlaaTWords
import Derived.Test.YtgllaoanpemjlaaIMath
import Derived.Lib.SmallJoins
import Derived.OpenShut
import Derived.Deep.Slices
import Derived.Deep.Strs
namespace Go.Proofs.Ytgllaoanpemjlaa
open Go.RowKit Plain
set_option linter.unusedVariables false

/-- a dot as the model has it -/
def cellsDt (d : PDot) : List Value := [.int .i64 d.node, .int .i64 d.seq, .int .i64 d.pos]
def dv (d : PDot) : Value := .agg #[.int .i64 d.node, .int .i64 d.seq, .int .i64 d.pos]
/-- an item as the model has it -/
def cellsIt (x : PItem) : List Value := [tv x.key, tv x.field, .int .i64 x.kind, tv x.elem, .int .i64 x.n, .int .i64 x.dot.node, .int .i64 x.dot.seq, .int .i64 x.dot.pos]
def itv (x : PItem) : Value := .agg #[tv x.key, tv x.field, .int .i64 x.kind, tv x.elem, .int .i64 x.n, .int .i64 x.dot.node, .int .i64 x.dot.seq, .int .i64 x.dot.pos]
def zeroDt : Value := .agg #[.int .i64 0, .int .i64 0, .int .i64 0]
def zeroIt : Value := .agg #[.string ByteArray.empty, .string ByteArray.empty, .int .i64 0, .string ByteArray.empty, .int .i64 0, .int .i64 0, .int .i64 0, .int .i64 0]
theorem oneDt {vs : List Value} {d : PDot} (h : vs = cellsDt d) : ∀ u ∈ vs, u.oneCell' = true := by
  subst h
  intro u hu
  simp only [cellsDt, List.mem_cons, List.not_mem_nil, or_false] at hu
  rcases hu with rfl | rfl | rfl <;> rfl
theorem oneIt {vs : List Value} {x : PItem} (h : vs = cellsIt x) : ∀ u ∈ vs, u.oneCell' = true := by
  subst h
  intro u hu
  simp only [cellsIt, List.mem_cons, List.not_mem_nil, or_false] at hu
  rcases hu with rfl | rfl | rfl | rfl | rfl | rfl | rfl | rfl <;> rfl
theorem lenDt {vs : List Value} {d : PDot} (h : vs = cellsDt d) : vs.length = 3 := by subst h; rfl
theorem lenIt {vs : List Value} {x : PItem} (h : vs = cellsIt x) : vs.length = 8 := by subst h; rfl
theorem zsDt : zeroDt.cells.size = 3 := rfl
theorem zsIt : zeroIt.cells.size = 8 := rfl
/-- the cells of an item at a place -/
structure ItemAt (w : World) (b o : Nat) (x : PItem) : Prop where
  c0 : w.cell? ⟨b, o, none⟩ = some (.string (bt x.key))
  c1 : w.cell? ⟨b, o + 1, none⟩ = some (.string (bt x.field))
  c2 : w.cell? ⟨b, o + 2, none⟩ = some (.int .i64 x.kind)
  c3 : w.cell? ⟨b, o + 3, none⟩ = some (.string (bt x.elem))
  c4 : w.cell? ⟨b, o + 4, none⟩ = some (.int .i64 x.n)
  c5 : w.cell? ⟨b, o + 5, none⟩ = some (.int .i64 x.dot.node)
  c6 : w.cell? ⟨b, o + 6, none⟩ = some (.int .i64 x.dot.seq)
  c7 : w.cell? ⟨b, o + 7, none⟩ = some (.int .i64 x.dot.pos)
structure DotAt (w : World) (b o : Nat) (d : PDot) : Prop where
  c0 : w.cell? ⟨b, o, none⟩ = some (.int .i64 d.node)
  c1 : w.cell? ⟨b, o + 1, none⟩ = some (.int .i64 d.seq)
  c2 : w.cell? ⟨b, o + 2, none⟩ = some (.int .i64 d.pos)
theorem ItemAt.below {N : Nat} {w w' : World} {b o : Nat} {x : PItem} (h : ItemAt w b o x) (hb : Below N w w') (hN : b < N) : ItemAt w' b o x :=
  ⟨(hb.cell (p := ⟨b, o, none⟩) hN).trans h.c0, (hb.cell (p := ⟨b, o + 1, none⟩) hN).trans h.c1, (hb.cell (p := ⟨b, o + 2, none⟩) hN).trans h.c2, (hb.cell (p := ⟨b, o + 3, none⟩) hN).trans h.c3,
    (hb.cell (p := ⟨b, o + 4, none⟩) hN).trans h.c4, (hb.cell (p := ⟨b, o + 5, none⟩) hN).trans h.c5, (hb.cell (p := ⟨b, o + 6, none⟩) hN).trans h.c6, (hb.cell (p := ⟨b, o + 7, none⟩) hN).trans h.c7⟩
theorem ItemAt.lt {w : World} {b o : Nat} {x : PItem} (h : ItemAt w b o x) : b < w.heap.size := World.block_lt_of_cell? w ⟨b, o, none⟩ h.c0
theorem DotAt.below {N : Nat} {w w' : World} {b o : Nat} {x : PDot} (h : DotAt w b o x) (hb : Below N w w') (hN : b < N) : DotAt w' b o x :=
  ⟨(hb.cell (p := ⟨b, o, none⟩) hN).trans h.c0, (hb.cell (p := ⟨b, o + 1, none⟩) hN).trans h.c1, (hb.cell (p := ⟨b, o + 2, none⟩) hN).trans h.c2⟩
theorem DotAt.lt {w : World} {b o : Nat} {x : PDot} (h : DotAt w b o x) : b < w.heap.size := World.block_lt_of_cell? w ⟨b, o, none⟩ h.c0
theorem getD_at {α : Type} [Inhabited α] {xs : List α} {j : Nat} (hj : j < xs.length) : xs[j]? = some (xs.getD j default) := by
  simp [List.getD, List.getElem?_eq_getElem hj]
/-! ### arguments -/
theorem tx_le {s : ByteArray} (h : s.size ≤ maxLen) : (tx s).length ≤ 9223372036854775807 := by
  have e : (tx s).length = s.size := by unfold tx ByteArray.size; exact Array.length_toList
  rw [e]
  exact h
/-- numbers of the model's range -/
def dotOk (d : PDot) : Prop := (Lit.int .i64 d.node).wf = true ∧ (Lit.int .i64 d.seq).wf = true ∧ (Lit.int .i64 d.pos).wf = true
def itemOk (x : PItem) : Prop := (Lit.int .i64 x.kind).wf = true ∧ (Lit.int .i64 x.n).wf = true ∧ dotOk x.dot ∧ x.key.length ≤ 9223372036854775807 ∧ x.field.length ≤ 9223372036854775807 ∧ x.elem.length ≤ 9223372036854775807
section
open Go.ChangeShapes Go.WideShapes Go.Joins
set_option maxRecDepth 100000
/-- an argument that is an item -/
def IsItem (v : Value) : Prop := ∃ x, v = itv x ∧ itemOk x
/-- a slice of whatever, opened element by element -/
theorem elems_of_trod {α : Type} [Inhabited α] (L : El α) (ok : α → Prop) (hflat : Flat L) (hk : Try.prog.cellsOf L.E = L.k)
    {H : Type} {enc : TypeId × Value → H} {W : World} {r : Reach} {b : Nat} {v : Value} {d : DataW H} {p : List MemPlace}
    (hel : ∀ {n : Nat} {cs : List Value} {y : DataW H × List MemPlace}, DataW.trod enc Try.prog W 0 (fun _ => true) true n L.E cs = some y → ∃ x, L.R (· < W.heap.size) W cs x ∧ ok x)
    (hv : Value.okWide Try.prog W r b L.S v) (h : DataW.Trod enc Try.prog W 0 (fun _ => true) true L.S v d p) : ∃ xs : List α, SeqE L W v xs ∧ ∀ x ∈ xs, ok x := by
  obtain ⟨a0, n0, c0, rfl⟩ := okWide_slice L.und hv
  obtain ⟨fuel, hf⟩ := h
  rcases Go.Deep.open_slice L.und hf with ⟨hcs, -⟩ | ⟨a, len, cap, m, n, D, Pl, hcs, -, hl, hm, hmm, -, hi⟩
  · simp [Value.cells] at hcs
    obtain ⟨rfl, rfl, rfl⟩ := hcs
    exact ⟨[], SeqE.nil W, fun x hx => absurd hx (by simp)⟩
  · simp [Value.cells] at hcs
    obtain ⟨rfl, rfl, rfl⟩ := hcs
    simp only [↓reduceIte] at hmm
    subst hmm
    have each : ∀ j, j < n0 → ∃ vs x, L.R (· < W.heap.size) W vs x ∧ ok x ∧ ∀ i u, vs[i]? = some u → W.cell? (a.add (j * L.k + i)) = some u := by
      intro j hj
      obtain ⟨cs, hc, ht⟩ := hi j (by omega)
      rw [hk] at hc
      obtain ⟨-, hcl, hat⟩ := World.cells?_some hc
      obtain ⟨x, hR, hx⟩ := hel ht
      refine ⟨cs, x, hR, hx, fun i u hu => ?_⟩
      have hil : i < L.k := by rw [← L.len hR]; exact (List.getElem?_eq_some_iff.1 hu).1
      have := hat i hil
      rw [Go.Deep.add_add] at this
      rw [this, hu]
    by_cases hp : 0 < n0
    · have hspot : a.spot = none := by
        obtain ⟨vs, x, hR, -, hc⟩ := each 0 hp
        have hl0 : 0 < vs.length := by rw [L.len hR]; exact L.pos
        have := World.cell?_spot (hc 0 _ (List.getElem?_eq_getElem hl0))
        simpa [Addr.add] using this
      obtain ⟨b0, o, spot⟩ := a
      simp only at hspot
      subst hspot
      have hblt : b0 < W.heap.size := by
        obtain ⟨vs, x, hR, -, hc⟩ := each 0 hp
        have hl0 : 0 < vs.length := by rw [L.len hR]; exact L.pos
        have := World.block_lt_of_cell? W _ (hc 0 _ (List.getElem?_eq_getElem hl0))
        simpa [Addr.add] using this
      have build : ∀ m, m ≤ n0 → ∃ (vals : List Value) (xs : List α), xs.length = m ∧ Rows L (· < W.heap.size) W vals xs ∧ (∀ x ∈ xs, ok x) ∧ ∀ i u, vals[i]? = some u → W.cell? ⟨b0, o + i, none⟩ = some u := by
        intro m
        induction m with
        | zero => intro _; exact ⟨[], [], rfl, Rows.nil _ _, fun x hx => absurd hx (by simp), fun i u hu => by simp at hu⟩
        | succ m ih =>
          intro hm2
          obtain ⟨vals, xs, hl, hr, hok, hc⟩ := ih (by omega)
          obtain ⟨vs, x, hR, hx, hcx⟩ := each m (by omega)
          refine ⟨vals ++ vs, xs ++ [x], by rw [List.length_append, hl]; rfl, hr.append (Rows.of_one hR), fun y hy => ?_, fun i u hu => ?_⟩
          · rcases List.mem_append.1 hy with hy | hy
            · exact hok y hy
            · rw [List.mem_singleton.1 hy]; exact hx
          · by_cases hlt : i < vals.length
            · rw [List.getElem?_append_left hlt] at hu
              exact hc i u hu
            · rw [List.getElem?_append_right (by omega)] at hu
              have := hcx _ u hu
              rw [add_plain] at this
              rw [hr.1, hl] at this hlt
              rw [show o + i = o + (m * L.k + (i - m * L.k)) by omega]
              exact this
      obtain ⟨vals, xs, hlx, hr, hok, hc⟩ := build n0 (Nat.le_refl _)
      exact ⟨xs, ⟨_, m, vals, by rw [hlx], by omega, hm, (by simp), hr, fun _ => ⟨b0, o, rfl, hblt, hc⟩⟩, hok⟩
    · obtain rfl : n0 = 0 := by omega
      exact ⟨[], SeqE.empty W a m hm, fun x hx => absurd hx (by simp)⟩
end
end Go.Proofs.Ytgllaoanpemjlaa
