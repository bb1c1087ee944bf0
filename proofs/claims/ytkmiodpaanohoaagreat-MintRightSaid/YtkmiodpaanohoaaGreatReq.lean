/- WORDS FOR REQUESTS: how they lie in memory, slices of them, what an argument that is a list of them hands over. -/
import Derived.Test.YtkmiodpaanohoaaGreatItem
import Derived.Test.YtkmiodpaanohoaaGreatVwMaths
namespace Go.Proofs.YtkmiodpaanohoaaGreat
open Go.RowKit Plain
set_option linter.unusedVariables false

def cellsRq (x : PReq) : List Value := [.int .i64 x.op, tv x.key, tv x.field, tv x.elem, .int .i64 x.n]
def rqv (x : PReq) : Value := .agg #[.int .i64 x.op, tv x.key, tv x.field, tv x.elem, .int .i64 x.n]
def zeroRq : Value := .agg #[.int .i64 0, .string ByteArray.empty, .string ByteArray.empty, .string ByteArray.empty, .int .i64 0]
theorem infoRq : (Tryz.prog.info? 41).map (fun i => (i.zero, i.size, i.bytes)) = some (some zeroRq, 5, 64) := by kernel_rfl
theorem oneRq {vs : List Value} {x : PReq} (h : vs = cellsRq x) : ∀ u ∈ vs, u.oneCell' = true := by
  subst h
  intro u hu
  simp only [cellsRq, List.mem_cons, List.not_mem_nil, or_false] at hu
  rcases hu with rfl | rfl | rfl | rfl | rfl <;> rfl
theorem lenRq {vs : List Value} {x : PReq} (h : vs = cellsRq x) : vs.length = 5 := by subst h; rfl
theorem zsRq : zeroRq.cells.size = 5 := rfl
def LReq : El PReq where
  k := 5
  E := 41
  S := 23
  zero := zeroRq
  bytes := 64
  R := fun _ _ vs x => vs = cellsRq x
  pos := by decide
  small := by decide
  len := lenRq
  one := oneRq
  mono := fun h _ => h
  agree := fun h _ => h
  und := Tryz.underlying23
  info := infoRq
  zsize := zsRq
theorem flat_req : Flat LReq := fun h => h
/-- the cells of a request at a place -/
structure ReqAt (w : World) (b o : Nat) (x : PReq) : Prop where
  c0 : w.cell? ⟨b, o, none⟩ = some (.int .i64 x.op)
  c1 : w.cell? ⟨b, o + 1, none⟩ = some (.string (bt x.key))
  c2 : w.cell? ⟨b, o + 2, none⟩ = some (.string (bt x.field))
  c3 : w.cell? ⟨b, o + 3, none⟩ = some (.string (bt x.elem))
  c4 : w.cell? ⟨b, o + 4, none⟩ = some (.int .i64 x.n)
theorem ReqAt.below {N : Nat} {w w' : World} {b o : Nat} {x : PReq} (h : ReqAt w b o x) (hb : Below N w w') (hN : b < N) : ReqAt w' b o x :=
  ⟨(hb.cell (p := ⟨b, o, none⟩) hN).trans h.c0, (hb.cell (p := ⟨b, o + 1, none⟩) hN).trans h.c1, (hb.cell (p := ⟨b, o + 2, none⟩) hN).trans h.c2, (hb.cell (p := ⟨b, o + 3, none⟩) hN).trans h.c3, (hb.cell (p := ⟨b, o + 4, none⟩) hN).trans h.c4⟩
theorem ReqAt.lt {w : World} {b o : Nat} {x : PReq} (h : ReqAt w b o x) : b < w.heap.size := World.block_lt_of_cell? w ⟨b, o, none⟩ h.c0
/-- where there are requests they lie in a block -/
theorem reqs_spot {w : World} {v : Value} {xs : List PReq} (h : SeqE LReq w v xs) (hp : 0 < xs.length) : ∃ b o cap, v = .slice (some ⟨b, o, none⟩) xs.length cap ∧ xs.length ≤ cap ∧ cap ≤ 9223372036854775807 ∧ SeqE LReq w (.slice (some ⟨b, o, none⟩) xs.length cap) xs ∧ ∀ j, j < xs.length → ReqAt w b (o + j * 5) (xs.getD j default) := by
  obtain ⟨b, o, cap, e, h1, h2, h3, hc⟩ := h.spot hp
  refine ⟨b, o, cap, e, h1, h2, h3, fun j hj => ?_⟩
  obtain ⟨vs, hr, hv⟩ := hc j _ (getD_at hj)
  obtain rfl : vs = cellsRq (xs.getD j default) := hr
  have g := fun i u (hu : (cellsRq (xs.getD j default))[i]? = some u) => hv i u hu
  refine ⟨g 0 _ rfl, ?_, ?_, ?_, ?_⟩
  · rw [Nat.add_assoc]; exact g 1 _ rfl
  · rw [Nat.add_assoc]; exact g 2 _ rfl
  · rw [Nat.add_assoc]; exact g 3 _ rfl
  · rw [Nat.add_assoc]; exact g 4 _ rfl
/-- requests that are written out in the program's text -/
theorem one_req (w : World) (x : PReq) : SeqE LReq (w.alloc (.cells #[.int .i64 x.op, .string (bt x.key), .string (bt x.field), .string (bt x.elem), .int .i64 x.n] 41)) (.slice (some ⟨w.heap.size, 0, none⟩) 1 1) [x] :=
  SeqE.one (L := LReq) (w := w) (vs := cellsRq x) (x := x) rfl (cellsRq x).toArray (by simp)
theorem two_reqs (w : World) (x y : PReq) : SeqE LReq (w.alloc (.cells #[.int .i64 x.op, .string (bt x.key), .string (bt x.field), .string (bt x.elem), .int .i64 x.n, .int .i64 y.op, .string (bt y.key), .string (bt y.field), .string (bt y.elem), .int .i64 y.n] 41)) (.slice (some ⟨w.heap.size, 0, none⟩) 2 2) [x, y] :=
  SeqE.lit w (cellsRq x ++ cellsRq y).toArray [x, y] ((Rows.of_one (L := LReq) (vs := cellsRq x) (x := x) rfl).append (Rows.of_one (L := LReq) (vs := cellsRq y) (x := y) rfl)) (by simp)

/-! ### arguments -/
def reqOk (x : PReq) : Prop := (Lit.int .i64 x.op).wf = true ∧ (Lit.int .i64 x.n).wf = true ∧ x.key.length ≤ 9223372036854775807 ∧ x.field.length ≤ 9223372036854775807 ∧ x.elem.length ≤ 9223372036854775807
theorem cellsOfReq : Tryz.prog.cellsOf 41 = 5 := by kernel_rfl
section
open Go.ChangeShapes Go.WideShapes Go.Joins
set_option maxRecDepth 100000
theorem req_of_cells {H : Type} {enc : TypeId × Value → H} {W : World} {n : Nat} {cs : List Value} {y : DataW H × List MemPlace} (ht : DataW.trod enc Tryz.prog W 0 (fun _ => true) true n 41 cs = some y) : ∃ x, cs = cellsRq x ∧ reqOk x := by
  obtain ⟨ys, n', -, -, hl, hlen, hf⟩ := DataW.trod_struct Tryz.underlying41 ht
  rw [cellsOfReq] at hl
  have e1 : Tryz.prog.cellsOf 3 = 1 := by kernel_rfl
  have e2 : Tryz.prog.cellsOf 9 = 1 := by kernel_rfl
  have e3 : Tryz.prog.cellsOf 2 = 1 := by kernel_rfl
  match cs, hl with
  | [x0, x1, x2, x3, x4], _ =>
    match ys, hlen with
    | [y0, y1, y2, y3, y4], _ =>
      have h0 := hf 0 _ rfl
      have h1 := hf 1 _ rfl
      have h2 := hf 2 _ rfl
      have h3 := hf 3 _ rfl
      have h4 := hf 4 _ rfl
      simp [e1, e2, e3] at h0 h1 h2 h3 h4
      obtain ⟨a0, g0, -, w0⟩ := DataW.trod_int Tryz.underlying3 h0
      obtain ⟨s1, g1, -, l1⟩ := DataW.trod_string Tryz.underlying9 h1
      obtain ⟨s2, g2, -, l2⟩ := DataW.trod_string Tryz.underlying9 h2
      obtain ⟨s3, g3, -, l3⟩ := DataW.trod_string Tryz.underlying9 h3
      obtain ⟨a4, g4, -, w4⟩ := DataW.trod_int Tryz.underlying2 h4
      simp at g0 g1 g2 g3 g4
      subst g0 g1 g2 g3 g4
      exact ⟨⟨a0, tx s1, tx s2, tx s3, a4⟩, rfl, w0, w4, tx_le l1, tx_le l2, tx_le l3⟩
/-- an argument that is a slice of requests -/
def IsReqs (w : World) (v : Value) : Prop := ∃ xs : List PReq, SeqE LReq w v xs ∧ ∀ x ∈ xs, reqOk x
theorem reqs_of_trod {H : Type} {enc : TypeId × Value → H} {W : World} {r : Reach} {b : Nat} {v : Value} {d : DataW H} {p : List MemPlace} (hv : Value.okWide Tryz.prog W r b 23 v) (h : DataW.Trod enc Tryz.prog W 0 (fun _ => true) true 23 v d p) : IsReqs W v :=
  elems_of_trod LReq reqOk flat_req cellsOfReq (fun ht => req_of_cells ht) hv h
end
end Go.Proofs.YtkmiodpaanohoaaGreat
