/- WORDS FOR EFFECTS: how they lie in memory (with the dots that they take away), slices of them, what an argument that is a list of them hands over. -/
import Derived.Test.YtmknpmamkjjiaaaGreatItem
import Derived.Test.YtmknpmamkjjiaaaGreatMaths
namespace Go.Proofs.YtmknpmamkjjiaaaGreat
open Go.RowKit Plain
set_option linter.unusedVariables false

def cellsEf (x : PEff) (dv : Value) : List Value := [.int .i64 x.pos, tv x.key, tv x.field, .int .i64 x.kind, tv x.elem, .int .i64 x.n, dv]
def zeroEf : Value := .agg #[.int .i64 0, .string ByteArray.empty, .string ByteArray.empty, .int .i64 0, .string ByteArray.empty, .int .i64 0, .slice none 0 0]
theorem infoEf : (Tryz.prog.info? 61).map (fun i => (i.zero, i.size, i.bytes)) = some (some zeroEf, 7, 96) := by kernel_rfl
theorem zsEf : zeroEf.cells.size = 7 := rfl
def REff (P : Nat → Prop) (w : World) (vs : List Value) (x : PEff) : Prop := ∃ dv, vs = cellsEf x dv ∧ Sq LDot P w dv x.drops
theorem lenEf {P : Nat → Prop} {w : World} {vs : List Value} {x : PEff} (h : REff P w vs x) : vs.length = 7 := by
 obtain ⟨dv, rfl, -⟩ := h
 rfl
theorem Sq.one {α : Type} {L : El α} {P : Nat → Prop} {w : World} {v : Value} {xs : List α} (h : Sq L P w v xs) : v.oneCell' = true := by
 obtain ⟨a, cap, vals, rfl, -⟩ := h
 rfl
theorem oneEf {P : Nat → Prop} {w : World} {vs : List Value} {x : PEff} (h : REff P w vs x) : ∀ u ∈ vs, u.oneCell' = true := by
 obtain ⟨dv, rfl, hs⟩ := h
 intro u hu
 simp only [cellsEf, List.mem_cons, List.not_mem_nil, or_false] at hu
 rcases hu with rfl | rfl | rfl | rfl | rfl | rfl | rfl
 iterate 6 rfl
 exact hs.one
theorem monoEf {P Q : Nat → Prop} {w : World} {vs : List Value} {x : PEff} (h : REff P w vs x) (hq : ∀ b, P b → Q b) : REff Q w vs x := by
 obtain ⟨dv, e, hs⟩ := h
 exact ⟨dv, e, hs.mono hq⟩
theorem agreeEf {P : Nat → Prop} {w w' : World} {vs : List Value} {x : PEff} (h : REff P w vs x) (hq : ∀ b, P b → w'.heap[b]? = w.heap[b]?) : REff P w' vs x := by
 obtain ⟨dv, e, hs⟩ := h
 exact ⟨dv, e, hs.agree hq⟩
def LEff : El PEff where
 k := 7
 E := 61
 S := 27
 zero := zeroEf
 bytes := 96
 R := REff
 pos := by decide
 small := by decide
 len := lenEf
 one := oneEf
 mono := monoEf
 agree := agreeEf
 und := Tryz.underlying27
 info := infoEf
 zsize := zsEf
/-- the cells of an effect at a place; dv: the slice of its Drops -/
structure EffAt (w : World) (b o : Nat) (x : PEff) (dv : Value) : Prop where
 c0 : w.cell? ⟨b, o, none⟩ = some (.int .i64 x.pos)
 c1 : w.cell? ⟨b, o + 1, none⟩ = some (.string (bt x.key))
 c2 : w.cell? ⟨b, o + 2, none⟩ = some (.string (bt x.field))
 c3 : w.cell? ⟨b, o + 3, none⟩ = some (.int .i64 x.kind)
 c4 : w.cell? ⟨b, o + 4, none⟩ = some (.string (bt x.elem))
 c5 : w.cell? ⟨b, o + 5, none⟩ = some (.int .i64 x.n)
 c6 : w.cell? ⟨b, o + 6, none⟩ = some dv
theorem EffAt.below {N : Nat} {w w' : World} {b o : Nat} {x : PEff} {dv : Value} (h : EffAt w b o x dv) (hb : Below N w w') (hN : b < N) : EffAt w' b o x dv :=
 ⟨(hb.cell (p := ⟨b, o, none⟩) hN).trans h.c0, (hb.cell (p := ⟨b, o + 1, none⟩) hN).trans h.c1, (hb.cell (p := ⟨b, o + 2, none⟩) hN).trans h.c2, (hb.cell (p := ⟨b, o + 3, none⟩) hN).trans h.c3,
  (hb.cell (p := ⟨b, o + 4, none⟩) hN).trans h.c4, (hb.cell (p := ⟨b, o + 5, none⟩) hN).trans h.c5, (hb.cell (p := ⟨b, o + 6, none⟩) hN).trans h.c6⟩
theorem EffAt.lt {w : World} {b o : Nat} {x : PEff} {dv : Value} (h : EffAt w b o x dv) : b < w.heap.size := World.block_lt_of_cell? w ⟨b, o, none⟩ h.c0
/-- where there are effects they lie in a block -/
theorem effs_spot {w : World} {v : Value} {xs : List PEff} (h : SeqE LEff w v xs) (hp : 0 < xs.length) : ∃ b o cap, v = .slice (some ⟨b, o, none⟩) xs.length cap ∧ xs.length ≤ cap ∧ cap ≤ 9223372036854775807 ∧ SeqE LEff w (.slice (some ⟨b, o, none⟩) xs.length cap) xs ∧
  ∀ j, j < xs.length → ∃ dv, EffAt w b (o + j * 7) (xs.getD j default) dv ∧ SeqE LDot w dv (xs.getD j default).drops := by
 obtain ⟨b, o, cap, e, h1, h2, h3, hc⟩ := h.spot hp
 refine ⟨b, o, cap, e, h1, h2, h3, fun j hj => ?_⟩
 obtain ⟨vs, hr, hv⟩ := hc j _ (getD_at hj)
 obtain ⟨dv, rfl, hs⟩ := hr
 have g := fun i u (hu : (cellsEf (xs.getD j default) dv)[i]? = some u) => hv i u hu
 refine ⟨dv, ⟨g 0 _ rfl, ?_, ?_, ?_, ?_, ?_, ?_⟩, hs⟩
 ·rw [Nat.add_assoc]; exact g 1 _ rfl
 ·rw [Nat.add_assoc]; exact g 2 _ rfl
 ·rw [Nat.add_assoc]; exact g 3 _ rfl
 ·rw [Nat.add_assoc]; exact g 4 _ rfl
 ·rw [Nat.add_assoc]; exact g 5 _ rfl
 ·rw [Nat.add_assoc]; exact g 6 _ rfl

/-! ### arguments -/
def effOk (x : PEff) : Prop := (Lit.int .i64 x.pos).wf = true ∧ (Lit.int .i64 x.kind).wf = true ∧ (Lit.int .i64 x.n).wf = true ∧ (∀ d ∈ x.drops, dotOk d) ∧ x.key.length ≤ 9223372036854775807 ∧ x.field.length ≤ 9223372036854775807 ∧ x.elem.length ≤ 9223372036854775807
theorem cellsOfEff : Tryz.prog.cellsOf 61 = 7 := by kernel_rfl
/-- a slice that lies in a cell of what was handed over, opened element by element -/
theorem elems_of_cells {α : Type} [Inhabited α] (L : El α) (ok : α → Prop) (hk : Tryz.prog.cellsOf L.E = L.k)
  {H : Type} {enc : TypeId × Value → H} {W : World}
  (hel : ∀ {n : Nat} {cs : List Value} {y : DataW H × List MemPlace}, DataW.trod enc Tryz.prog W 0 (fun _ => true) true n L.E cs = some y → ∃ x, L.R (· < W.heap.size) W cs x ∧ ok x)
  {fuel : Nat} {cs : List Value} {y : DataW H × List MemPlace} (hf : DataW.trod enc Tryz.prog W 0 (fun _ => true) true fuel L.S cs = some y) : ∃ (v : Value) (xs : List α), cs = [v] ∧ SeqE L W v xs ∧ ∀ x ∈ xs, ok x := by
 rcases Go.Deep.open_slice L.und hf with ⟨hcs, -⟩ | ⟨a, len, cap, m, n, D, Pl, hcs, -, hl, hm, hmm, -, hi⟩
 ·exact ⟨_, [], hcs, SeqE.nil W, fun x hx => absurd hx (by simp)⟩
 ·simp only [↓reduceIte] at hmm
  subst hmm
  refine (?_ : ∃ (xs : List α), SeqE L W (.slice (some a) len m) xs ∧ ∀ x ∈ xs, ok x).elim fun xs h => ⟨_, xs, hcs, h⟩
  have each : ∀ j, j < len → ∃ vs x, L.R (· < W.heap.size) W vs x ∧ ok x ∧ ∀ i u, vs[i]? = some u → W.cell? (a.add (j * L.k + i)) = some u := by
   intro j hj
   obtain ⟨cs, hc, ht⟩ := hi j (by omega)
   rw [hk] at hc
   obtain ⟨-, hcl, hat⟩ := World.cells?_some hc
   obtain ⟨x, hR, hx⟩ := hel ht
   refine ⟨cs, x, hR, hx, fun i u hu => ?_⟩
   have hil : i < L.k := by rw [← L.len hR]; exact (List.getElem?_eq_some_iff.1 hu).1
   have := hat i hil
   rw [Go.Deep.add_add] at this
   rw [this, hu]
  by_cases hp : 0 < len
  ·have hspot : a.spot = none := by
    obtain ⟨vs, x, hR, -, hc⟩ := each 0 hp
    have hl0 : 0 < vs.length := by rw [L.len hR]; exact L.pos
    have := World.cell?_spot (hc 0 _ (List.getElem?_eq_getElem hl0))
    simpa [Addr.add] using this
   obtain ⟨b0, o, spot⟩ := a
   simp only at hspot
   subst hspot
   have hblt : b0 < W.heap.size := by
    obtain ⟨vs, x, hR, -, hc⟩ := each 0 hp
    have hl0 : 0 < vs.length := by rw [L.len hR]; exact L.pos
    have := World.block_lt_of_cell? W _ (hc 0 _ (List.getElem?_eq_getElem hl0))
    simpa [Addr.add] using this
   have build : ∀ m, m ≤ len → ∃ (vals : List Value) (xs : List α), xs.length = m ∧ Rows L (· < W.heap.size) W vals xs ∧ (∀ x ∈ xs, ok x) ∧ ∀ i u, vals[i]? = some u → W.cell? ⟨b0, o + i, none⟩ = some u := by
    intro m
    induction m with
    | zero => intro _; exact ⟨[], [], rfl, Rows.nil _ _, fun x hx => absurd hx (by simp), fun i u hu => by simp at hu⟩
    | succ m ih =>
     intro hm2
     obtain ⟨vals, xs, hl, hr, hok, hc⟩ := ih (by omega)
     obtain ⟨vs, x, hR, hx, hcx⟩ := each m (by omega)
     refine ⟨vals ++ vs, xs ++ [x], by rw [List.length_append, hl]; rfl, hr.append (Rows.of_one hR), fun y hy => ?_, fun i u hu => ?_⟩
     ·rcases List.mem_append.1 hy with hy | hy
      ·exact hok y hy
      ·rw [List.mem_singleton.1 hy]; exact hx
     ·by_cases hlt : i < vals.length
      ·rw [List.getElem?_append_left hlt] at hu
       exact hc i u hu
      ·rw [List.getElem?_append_right (by omega)] at hu
       have := hcx _ u hu
       rw [Go.WideShapes.add_plain] at this
       rw [hr.1, hl] at this hlt
       rw [show o + i = o + (m * L.k + (i - m * L.k)) by omega]
       exact this
   obtain ⟨vals, xs, hlx, hr, hok, hc⟩ := build len (Nat.le_refl _)
   exact ⟨xs, ⟨_, m, vals, by rw [hlx], by omega, hm, (by simp), hr, fun _ => ⟨b0, o, rfl, hblt, hc⟩⟩, hok⟩
  ·obtain rfl : len = 0 := by omega
   exact ⟨[], SeqE.empty W a m (by omega), fun x hx => absurd hx (by simp)⟩
section
open Go.ChangeShapes Go.WideShapes Go.Joins
set_option maxRecDepth 100000
theorem eff_of_cells {H : Type} {enc : TypeId × Value → H} {W : World} {n : Nat} {cs : List Value} {y : DataW H × List MemPlace} (ht : DataW.trod enc Tryz.prog W 0 (fun _ => true) true n 61 cs = some y) : ∃ x, REff (· < W.heap.size) W cs x ∧ effOk x := by
 obtain ⟨ys, n', -, -, hl, hlen, hf⟩ := DataW.trod_struct Tryz.underlying61 ht
 rw [cellsOfEff] at hl
 have e1 : Tryz.prog.cellsOf 3 = 1 := by kernel_rfl
 have e2 : Tryz.prog.cellsOf 9 = 1 := by kernel_rfl
 have e3 : Tryz.prog.cellsOf 2 = 1 := by kernel_rfl
 have e4 : Tryz.prog.cellsOf 59 = 1 := by kernel_rfl
 match cs, hl with
 | [x0, x1, x2, x3, x4, x5, x6], _ =>
  match ys, hlen with
  | [y0, y1, y2, y3, y4, y5, y6], _ =>
   have h0 := hf 0 _ rfl
   have h1 := hf 1 _ rfl
   have h2 := hf 2 _ rfl
   have h3 := hf 3 _ rfl
   have h4 := hf 4 _ rfl
   have h5 := hf 5 _ rfl
   have h6 := hf 6 _ rfl
   simp [e1, e2, e3, e4] at h0 h1 h2 h3 h4 h5 h6
   obtain ⟨a0, g0, -, w0⟩ := DataW.trod_int Tryz.underlying3 h0
   obtain ⟨s1, g1, -, l1⟩ := DataW.trod_string Tryz.underlying9 h1
   obtain ⟨s2, g2, -, l2⟩ := DataW.trod_string Tryz.underlying9 h2
   obtain ⟨a3, g3, -, w3⟩ := DataW.trod_int Tryz.underlying3 h3
   obtain ⟨s4, g4, -, l4⟩ := DataW.trod_string Tryz.underlying9 h4
   obtain ⟨a5, g5, -, w5⟩ := DataW.trod_int Tryz.underlying2 h5
   obtain ⟨dv, ds, g6, hs, hd⟩ := elems_of_cells LDot dotOk cellsOfDot (fun ht => dot_of_trod ht) h6
   simp at g0 g1 g2 g3 g4 g5 g6
   subst g0 g1 g2 g3 g4 g5 g6
   exact ⟨⟨a0, tx s1, tx s2, a3, tx s4, a5, ds⟩, ⟨_, rfl, hs⟩, w0, w3, w5, hd, tx_le l1, tx_le l2, tx_le l4⟩
end
end Go.Proofs.YtmknpmamkjjiaaaGreat
