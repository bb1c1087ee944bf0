/- PACKETS AND NETWORKS IN MEMORY: packets (three cells, the third one a slice of bytes), networks (a struct of one slice), what an argument that is one hands over. -/
import Derived.Test.YtgllaoanpemjlaaItem
import Derived.Test.YtgllaoanpemjlaaEff
import Derived.Test.YtgllaoanpemjlaaLByte
namespace Go.Proofs.Ytgllaoanpemjlaa
open Go.RowKit Plain
set_option linter.unusedVariables false

/-- a packet, plainly -/
structure PPkt where
  frm : Int
  to : Int
  bytes : Bytes
instance : Inhabited PPkt := ⟨⟨0, 0, []⟩⟩

/-- stage 3's words for a slice of bytes, back -/
theorem of_by {w : World} {v : Value} {xs : Bytes} (h : By.Seq w v xs) : SeqE LByte w v xs := by
  obtain ⟨a, cap, rfl, h1, h2, h0, h3⟩ := h
  refine ⟨a, cap, xs.map By.bv, rfl, h1, h2, h0, ⟨by rw [List.length_map]; show _ = xs.length * 1; omega, fun j x hj => ?_⟩, fun hp => ?_⟩
  · show ((xs.map By.bv).drop (j * 1)).take 1 = [By.bv x]
    obtain ⟨hl, rfl⟩ := List.getElem?_eq_some_iff.1 hj
    rw [Nat.mul_one, List.take_one]
    simp [List.getElem?_eq_getElem hl]
  · obtain ⟨b, off, rfl, g⟩ := h3 hp
    have hb : b < w.heap.size := World.block_lt_of_cell? w ⟨b, off + 0, none⟩ (g 0 hp)
    refine ⟨b, off, rfl, hb, fun i u hi => ?_⟩
    obtain ⟨hl, e⟩ := List.getElem?_eq_some_iff.1 hi
    rw [List.length_map] at hl
    rw [g i hl]
    rw [List.getElem_map] at e
    rw [← e]
    simp [List.getD, List.getElem?_eq_getElem hl]

def cellsPk (x : PPkt) (bv : Value) : List Value := [.int .i64 x.frm, .int .i64 x.to, bv]
def zeroPk : Value := .agg #[.int .i64 0, .int .i64 0, .slice none 0 0]
theorem infoPk : (Try.prog.info? 27).map (fun i => (i.zero, i.size, i.bytes)) = some (some zeroPk, 3, 40) := by kernel_rfl
theorem zsPk : zeroPk.cells.size = 3 := rfl
def RPkt (P : Nat → Prop) (w : World) (vs : List Value) (x : PPkt) : Prop := ∃ bv, vs = cellsPk x bv ∧ Sq LByte P w bv x.bytes
theorem lenPk {P : Nat → Prop} {w : World} {vs : List Value} {x : PPkt} (h : RPkt P w vs x) : vs.length = 3 := by
  obtain ⟨bv, rfl, -⟩ := h
  rfl
theorem onePk {P : Nat → Prop} {w : World} {vs : List Value} {x : PPkt} (h : RPkt P w vs x) : ∀ u ∈ vs, u.oneCell' = true := by
  obtain ⟨bv, rfl, hd⟩ := h
  intro u hu
  simp only [cellsPk, List.mem_cons, List.not_mem_nil, or_false] at hu
  rcases hu with rfl | rfl | rfl
  · rfl
  · rfl
  · exact hd.one
theorem monoPk {P Q : Nat → Prop} {w : World} {vs : List Value} {x : PPkt} (h : RPkt P w vs x) (hq : ∀ b, P b → Q b) : RPkt Q w vs x := by
  obtain ⟨bv, e, hd⟩ := h
  exact ⟨bv, e, hd.mono hq⟩
theorem agreePk {P : Nat → Prop} {w w' : World} {vs : List Value} {x : PPkt} (h : RPkt P w vs x) (hq : ∀ b, P b → w'.heap[b]? = w.heap[b]?) : RPkt P w' vs x := by
  obtain ⟨bv, e, hd⟩ := h
  exact ⟨bv, e, hd.agree hq⟩
def LPkt : El PPkt where
  k := 3
  E := 27
  S := 22
  zero := zeroPk
  bytes := 40
  R := RPkt
  pos := by decide
  small := by decide
  len := lenPk
  one := onePk
  mono := monoPk
  agree := agreePk
  und := Try.underlying22
  info := infoPk
  zsize := zsPk
/-- a packet as an argument or an answer -/
def IsPkt (w : World) (v : Value) (x : PPkt) : Prop := ∃ bv, v = .agg #[.int .i64 x.frm, .int .i64 x.to, bv] ∧ SeqE LByte w bv x.bytes
theorem IsPkt.below {w w' : World} {v : Value} {x : PPkt} (h : IsPkt w v x) (hb : Below w.heap.size w w') : IsPkt w' v x := by
  obtain ⟨bv, rfl, h1⟩ := h
  exact ⟨bv, rfl, h1.below hb⟩
/-- a network as an argument or an answer -/
def IsNet (w : World) (v : Value) (xs : List PPkt) : Prop := ∃ sv, v = .agg #[sv] ∧ SeqE LPkt w sv xs
theorem IsNet.below {w w' : World} {v : Value} {xs : List PPkt} (h : IsNet w v xs) (hb : Below w.heap.size w w') : IsNet w' v xs := by
  obtain ⟨sv, rfl, h1⟩ := h
  exact ⟨sv, rfl, h1.below hb⟩
/-- the cells of a packet at a place -/
structure PktAt (w : World) (b o : Nat) (x : PPkt) (bv : Value) : Prop where
  c0 : w.cell? ⟨b, o, none⟩ = some (.int .i64 x.frm)
  c1 : w.cell? ⟨b, o + 1, none⟩ = some (.int .i64 x.to)
  c2 : w.cell? ⟨b, o + 2, none⟩ = some bv
theorem PktAt.below {N : Nat} {w w' : World} {b o : Nat} {x : PPkt} {bv : Value} (h : PktAt w b o x bv) (hb : Below N w w') (hN : b < N) : PktAt w' b o x bv :=
  ⟨(hb.cell (p := ⟨b, o, none⟩) hN).trans h.c0, (hb.cell (p := ⟨b, o + 1, none⟩) hN).trans h.c1, (hb.cell (p := ⟨b, o + 2, none⟩) hN).trans h.c2⟩
theorem PktAt.lt {w : World} {b o : Nat} {x : PPkt} {bv : Value} (h : PktAt w b o x bv) : b < w.heap.size := World.block_lt_of_cell? w ⟨b, o, none⟩ h.c0
/-- where there are packets they lie in a block -/
theorem pkts_spot {w : World} {v : Value} {xs : List PPkt} (h : SeqE LPkt w v xs) (hp : 0 < xs.length) : ∃ b o cap, v = .slice (some ⟨b, o, none⟩) xs.length cap ∧ xs.length ≤ cap ∧ cap ≤ 9223372036854775807 ∧ SeqE LPkt w (.slice (some ⟨b, o, none⟩) xs.length cap) xs ∧
    ∀ j, j < xs.length → ∃ bv, PktAt w b (o + j * 3) (xs.getD j default) bv ∧ SeqE LByte w bv (xs.getD j default).bytes := by
  obtain ⟨b, o, cap, e, h1, h2, h3, hc⟩ := h.spot hp
  refine ⟨b, o, cap, e, h1, h2, h3, fun j hj => ?_⟩
  obtain ⟨vs, hr, hv⟩ := hc j _ (getD_at hj)
  obtain ⟨bv, rfl, hd⟩ := hr
  have g := fun i u (hu : (cellsPk (xs.getD j default) bv)[i]? = some u) => hv i u hu
  refine ⟨bv, ⟨g 0 _ rfl, ?_, ?_⟩, hd⟩
  · rw [Nat.add_assoc]; exact g 1 _ rfl
  · rw [Nat.add_assoc]; exact g 2 _ rfl

/-! ### arguments -/
def pktOk (x : PPkt) : Prop := (Lit.int .i64 x.frm).wf = true ∧ (Lit.int .i64 x.to).wf = true
theorem cellsOfPkt : Try.prog.cellsOf 27 = 3 := by kernel_rfl
section
open Go.ChangeShapes Go.WideShapes Go.Joins
set_option maxRecDepth 100000
theorem pkt_of_cells {H : Type} {enc : TypeId × Value → H} {W : World} {n : Nat} {cs : List Value} {y : DataW H × List MemPlace} (ht : DataW.trod enc Try.prog W 0 (fun _ => true) true n 27 cs = some y) : ∃ x, RPkt (· < W.heap.size) W cs x ∧ pktOk x := by
  obtain ⟨ys, n', -, -, hl, hlen, hf⟩ := DataW.trod_struct Try.underlying27 ht
  rw [cellsOfPkt] at hl
  have e1 : Try.prog.cellsOf 3 = 1 := by kernel_rfl
  have e3 : Try.prog.cellsOf 25 = 1 := by kernel_rfl
  match cs, hl with
  | [x0, x1, x2], _ =>
    match ys, hlen with
    | [y0, y1, y2], _ =>
      have h0 := hf 0 _ rfl
      have h1 := hf 1 _ rfl
      have h2 := hf 2 _ rfl
      simp [e1, e3] at h0 h1 h2
      obtain ⟨a0, g0, -, w0⟩ := DataW.trod_int Try.underlying3 h0
      obtain ⟨a1, g1, -, w1⟩ := DataW.trod_int Try.underlying3 h1
      obtain ⟨bv, bs, g2, hs, -⟩ := elems_of_cells LByte (fun _ => True) cellsOfByte (fun ht => byte_of_cells ht) h2
      simp at g0 g1 g2
      subst g0 g1 g2
      exact ⟨⟨a0, a1, bs⟩, ⟨_, rfl, hs⟩, w0, w1⟩
/-- an argument that is a packet -/
def IsPktA (w : World) (v : Value) : Prop := ∃ x, IsPkt w v x ∧ pktOk x
theorem pkt_of_trod {H : Type} {enc : TypeId × Value → H} {W : World} {r : Reach} {b : Nat} {v : Value} {d : DataW H} {p : List MemPlace} (hv : Value.okWide Try.prog W r b 27 v) (h : DataW.Trod enc Try.prog W 0 (fun _ => true) true 27 v d p) : IsPktA W v := by
  obtain ⟨cs, rfl, -⟩ := okWide_struct Try.underlying27 hv
  obtain ⟨fuel, hf⟩ := h
  obtain ⟨x, ⟨bv, e, hd⟩, hx⟩ := pkt_of_cells hf
  refine ⟨x, ⟨bv, ?_, hd⟩, hx⟩
  simp only [Value.cells] at e
  have : cs = (cellsPk x bv).toArray := by rw [← e]
  rw [this]
  rfl
/-- an argument that is a network -/
def IsNetA (w : World) (v : Value) : Prop := ∃ xs, IsNet w v xs ∧ ∀ x ∈ xs, pktOk x
theorem cellsOfNet : Try.prog.cellsOf 24 = 1 := by kernel_rfl
theorem net_of_trod {H : Type} {enc : TypeId × Value → H} {W : World} {r : Reach} {b : Nat} {v : Value} {d : DataW H} {p : List MemPlace} (hv : Value.okWide Try.prog W r b 24 v) (h : DataW.Trod enc Try.prog W 0 (fun _ => true) true 24 v d p) : IsNetA W v := by
  obtain ⟨cs, rfl, -⟩ := okWide_struct Try.underlying24 hv
  obtain ⟨fuel, ht⟩ := h
  obtain ⟨ys, n', -, -, hl, hlen, hf⟩ := DataW.trod_struct Try.underlying24 ht
  rw [cellsOfNet] at hl
  simp only [Value.cells] at hl hf
  have e1 : Try.prog.cellsOf 22 = 1 := by kernel_rfl
  obtain ⟨l⟩ := cs
  match l, hl with
  | [x0], _ =>
    match ys, hlen with
    | [y0], _ =>
      have h0 := hf 0 _ rfl
      simp [e1] at h0
      obtain ⟨sv, xs, g0, hs, hx⟩ := elems_of_cells LPkt pktOk cellsOfPkt (fun ht => pkt_of_cells ht) h0
      simp at g0
      subst g0
      exact ⟨xs, ⟨_, rfl, hs⟩, hx⟩
end
end Go.Proofs.Ytgllaoanpemjlaa
