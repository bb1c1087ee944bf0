/- STEPS OF A SCRIPT IN MEMORY (butterylaw18.Op: five cells, the last one a slice of bytes), and what an argument that is a list of them hands over. -/
import Derived.Test.YtgllaoanpemjlaaNtUse
namespace Go.Proofs.Ytgllaoanpemjlaa
open Go.RowKit Plain
set_option linter.unusedVariables false

structure PNOp where
  nd : Int
  nf : Int
  nt : Int
  ni : Int
  nb : Bytes
instance : Inhabited PNOp := ⟨⟨0, 0, 0, 0, []⟩⟩
def cellsNOp (x : PNOp) (bv : Value) : List Value := [.int .i64 x.nd, .int .i64 x.nf, .int .i64 x.nt, .int .i64 x.ni, bv]
def zeroNOp : Value := .agg #[.int .i64 0, .int .i64 0, .int .i64 0, .int .i64 0, .slice none 0 0]
theorem infoNOp : (Try.prog.info? 45).map (fun i => (i.zero, i.size, i.bytes)) = some (some zeroNOp, 5, 56) := by kernel_rfl
theorem zsNOp : zeroNOp.cells.size = 5 := rfl
def RNOp (P : Nat → Prop) (w : World) (vs : List Value) (x : PNOp) : Prop := ∃ bv, vs = cellsNOp x bv ∧ Sq LByte P w bv x.nb
theorem lenNOp {P : Nat → Prop} {w : World} {vs : List Value} {x : PNOp} (h : RNOp P w vs x) : vs.length = 5 := by
  obtain ⟨bv, rfl, -⟩ := h
  rfl
theorem oneNOp {P : Nat → Prop} {w : World} {vs : List Value} {x : PNOp} (h : RNOp P w vs x) : ∀ u ∈ vs, u.oneCell' = true := by
  obtain ⟨bv, rfl, hd⟩ := h
  intro u hu
  simp only [cellsNOp, List.mem_cons, List.not_mem_nil, or_false] at hu
  rcases hu with rfl | rfl | rfl | rfl | rfl
  · rfl
  · rfl
  · rfl
  · rfl
  · exact hd.one
theorem monoNOp {P Q : Nat → Prop} {w : World} {vs : List Value} {x : PNOp} (h : RNOp P w vs x) (hq : ∀ b, P b → Q b) : RNOp Q w vs x := by
  obtain ⟨bv, e, hd⟩ := h
  exact ⟨bv, e, hd.mono hq⟩
theorem agreeNOp {P : Nat → Prop} {w w' : World} {vs : List Value} {x : PNOp} (h : RNOp P w vs x) (hq : ∀ b, P b → w'.heap[b]? = w.heap[b]?) : RNOp P w' vs x := by
  obtain ⟨bv, e, hd⟩ := h
  exact ⟨bv, e, hd.agree hq⟩
def LNOp : El PNOp where
  k := 5
  E := 45
  S := 43
  zero := zeroNOp
  bytes := 56
  R := RNOp
  pos := by decide
  small := by decide
  len := lenNOp
  one := oneNOp
  mono := monoNOp
  agree := agreeNOp
  und := Try.underlying43
  info := infoNOp
  zsize := zsNOp
def nopOk (x : PNOp) : Prop := (Lit.int .i64 x.nd).wf = true ∧ (Lit.int .i64 x.nf).wf = true ∧ (Lit.int .i64 x.nt).wf = true ∧ (Lit.int .i64 x.ni).wf = true
theorem cellsOfNOp : Try.prog.cellsOf 45 = 5 := by kernel_rfl
def IsNOps (w : World) (v : Value) : Prop := ∃ xs : List PNOp, SeqE LNOp w v xs ∧ ∀ x ∈ xs, nopOk x
section
open Go.ChangeShapes Go.WideShapes Go.Joins
set_option maxRecDepth 100000
theorem nop_of_cells {H : Type} {enc : TypeId × Value → H} {W : World} {n : Nat} {cs : List Value} {y : DataW H × List MemPlace} (ht : DataW.trod enc Try.prog W 0 (fun _ => true) true n 45 cs = some y) : ∃ x, RNOp (· < W.heap.size) W cs x ∧ nopOk x := by
  obtain ⟨ys, n', -, -, hl, hlen, hf⟩ := DataW.trod_struct Try.underlying45 ht
  rw [cellsOfNOp] at hl
  have e1 : Try.prog.cellsOf 3 = 1 := by kernel_rfl
  have e3 : Try.prog.cellsOf 25 = 1 := by kernel_rfl
  match cs, hl with
  | [x0, x1, x2, x3, x4], _ =>
    match ys, hlen with
    | [y0, y1, y2, y3, y4], _ =>
      have h0 := hf 0 _ rfl
      have h1 := hf 1 _ rfl
      have h2 := hf 2 _ rfl
      have h3 := hf 3 _ rfl
      have h4 := hf 4 _ rfl
      simp [e1, e3] at h0 h1 h2 h3 h4
      obtain ⟨a0, g0, -, w0⟩ := DataW.trod_int Try.underlying3 h0
      obtain ⟨a1, g1, -, w1⟩ := DataW.trod_int Try.underlying3 h1
      obtain ⟨a2, g2, -, w2⟩ := DataW.trod_int Try.underlying3 h2
      obtain ⟨a3, g3, -, w3⟩ := DataW.trod_int Try.underlying3 h3
      obtain ⟨bv, bs, g4, hs, -⟩ := elems_of_cells LByte (fun _ => True) cellsOfByte (fun ht => byte_of_cells ht) h4
      simp at g0 g1 g2 g3 g4
      subst g0 g1 g2 g3 g4
      exact ⟨⟨a0, a1, a2, a3, bs⟩, ⟨_, rfl, hs⟩, w0, w1, w2, w3⟩
theorem nops_of_trod {H : Type} {enc : TypeId × Value → H} {W : World} {r : Reach} {b : Nat} {v : Value} {d : DataW H} {p : List MemPlace} (hv : Value.okWide Try.prog W r b 43 v) (h : DataW.Trod enc Try.prog W 0 (fun _ => true) true 43 v d p) : IsNOps W v := by
  obtain ⟨a0, n0, c0, rfl⟩ := okWide_slice Try.underlying43 hv
  obtain ⟨fuel, hf⟩ := h
  obtain ⟨u, xs, e, hs, hx⟩ := elems_of_cells LNOp nopOk cellsOfNOp (fun ht => nop_of_cells ht) hf
  simp [Value.cells] at e
  rw [e]
  exact ⟨xs, hs, hx⟩
end
/-- a step of a list that isn't empty, told by cells for every later world -/
theorem nops_at {w : World} {la : Option Addr} {n lc : Nat} {xs : List PNOp} (h : SeqE LNOp w (.slice la n lc) xs) (hp : 0 < n) : ∃ lb lo, la = some ⟨lb, lo, none⟩ ∧ ∀ k, k < n → ∃ x da dn dc, xs[k]? = some x ∧ SeqE LByte w (.slice da dn dc) x.nb ∧ ∀ u, Below w.heap.size w u →
    u.cell? ⟨lb, lo + k * 5, none⟩ = some (.int .i64 x.nd) ∧ u.cell? ⟨lb, lo + k * 5 + 1, none⟩ = some (.int .i64 x.nf) ∧ u.cell? ⟨lb, lo + k * 5 + 2, none⟩ = some (.int .i64 x.nt) ∧ u.cell? ⟨lb, lo + k * 5 + 3, none⟩ = some (.int .i64 x.ni) ∧ u.cell? ⟨lb, lo + k * 5 + 4, none⟩ = some (.slice da dn dc) := by
  have hn : n = xs.length := by
    obtain ⟨a, c, e, -⟩ := h.parts
    simp only [Value.slice.injEq] at e
    exact e.2.1
  subst hn
  obtain ⟨b, o, c, e, -, -, -, hc⟩ := h.spot hp
  simp only [Value.slice.injEq] at e
  refine ⟨b, o, e.1, fun k hk => ?_⟩
  have hx : xs[k]? = some xs[k] := List.getElem?_eq_getElem hk
  obtain ⟨vs, hr, hv⟩ := hc k _ hx
  obtain ⟨bv, rfl, hd⟩ := hr
  obtain ⟨da, dc, rfl, -, -, -, -⟩ := SeqE.parts (L := LByte) hd
  have g := fun i v (hv' : (cellsNOp xs[k] (.slice da xs[k].nb.length dc))[i]? = some v) => hv i v hv'
  refine ⟨xs[k], da, _, dc, hx, hd, fun u hu => ?_⟩
  have f : ∀ i v, (cellsNOp xs[k] (.slice da xs[k].nb.length dc))[i]? = some v → u.cell? ⟨b, o + k * 5 + i, none⟩ = some v := fun i v h => by
    have h2 : w.cell? ⟨b, o + (k * 5 + i), none⟩ = some v := g i v h
    rw [Nat.add_assoc]
    exact (hu.cell (p := ⟨b, o + (k * 5 + i), none⟩) (World.block_lt_of_cell? w ⟨b, o + (k * 5 + i), none⟩ h2)).trans h2
  exact ⟨f 0 _ rfl, f 1 _ rfl, f 2 _ rfl, f 3 _ rfl, f 4 _ rfl⟩
end Go.Proofs.Ytgllaoanpemjlaa
