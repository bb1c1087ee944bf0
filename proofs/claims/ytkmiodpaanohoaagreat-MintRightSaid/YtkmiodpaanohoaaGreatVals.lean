/- WORDS FOR SLICES OF int64 AS A KIND OF ELEMENTS; what stage 1's contracts ask of them. WORDS FOR FIELDS: how one lies in memory, what an argument that is one hands over, what a call that makes one answers. -/
import Derived.Test.YtkmiodpaanohoaaGreatEl
import Derived.Test.YtkmiodpaanohoaaGreatNmCs
import Derived.Test.YtkmiodpaanohoaaGreatTWords
import Derived.Test.YtkmiodpaanohoaaGreatVwMaths
import Derived.Test.YtkmiodpaanohoaaGreatGives
import Derived.OpenShut
import Derived.Deep.Slices
import Derived.Deep.Strs
namespace Go.Proofs.YtkmiodpaanohoaaGreat
open Go.RowKit Plain
set_option linter.unusedVariables false

theorem infoI64 : (Tryz.prog.info? 2).map (fun i => (i.zero, i.size, i.bytes)) = some (some (.int .i64 0), 1, 8) := by kernel_rfl
theorem oneI64 {vs : List Value} {x : Int} (h : vs = [.int .i64 x]) : ∀ u ∈ vs, u.oneCell' = true := by
  subst h
  intro u hu
  rw [List.mem_singleton.1 hu]
  rfl
def LI64 : El Int where
  k := 1
  E := 2
  S := 72
  zero := .int .i64 0
  bytes := 8
  R := fun _ _ vs x => vs = [.int .i64 x]
  pos := by decide
  small := by decide
  len := fun h => by rw [h]; rfl
  one := oneI64
  mono := fun h _ => h
  agree := fun h _ => h
  und := Tryz.underlying72
  info := infoI64
  zsize := rfl
theorem flat_i64 : Flat LI64 := fun h => h
theorem one_i64 (w : World) (x : Int) : SeqE LI64 (w.alloc (.cells #[.int .i64 x] 2)) (.slice (some ⟨w.heap.size, 0, none⟩) 1 1) [x] :=
  SeqE.one (L := LI64) (w := w) (vs := [.int .i64 x]) (x := x) rfl #[.int .i64 x] rfl
theorem nm_of {w : World} {v : Value} {xs : List Int} (h : SeqE LI64 w v xs) : Nm.Seq w v xs := by
  obtain ⟨a, cap, rfl, h1, h2, h0, h3⟩ := h.parts
  refine ⟨a, cap, rfl, h1, h2, fun hp => ?_⟩
  obtain ⟨b, o, c, hv, -, -, -, hc⟩ := h.spot hp
  simp only [Value.slice.injEq] at hv
  obtain ⟨rfl, -, rfl⟩ := hv
  refine ⟨b, o, rfl, fun j hj => ?_⟩
  have e : xs[j]? = some (xs.getD j 0) := by simp [List.getD, List.getElem?_eq_getElem hj]
  obtain ⟨vs, hr, hx⟩ := hc j _ e
  obtain rfl : vs = [.int .i64 (xs.getD j 0)] := hr
  have := hx 0 _ rfl
  rw [show o + (j * LI64.k + 0) = o + j by show o + (j * 1 + 0) = o + j; omega] at this
  exact this
end Go.Proofs.YtkmiodpaanohoaaGreat
namespace Go.Proofs.YtkmiodpaanohoaaGreat
open Go.RowKit Plain
set_option linter.unusedVariables false

/-- v is a field: two slices of texts, a number, a bool -/
def IsVal (w : World) (v : Value) (p : PVal) : Prop :=
  ∃ a1 n1 c1 a2 n2 c2, v = .agg #[.slice a1 n1 c1, .slice a2 n2 c2, .int .i64 p.total, .bool p.over] ∧ SeqT w (.slice a1 n1 c1) p.elems ∧ SeqT w (.slice a2 n2 c2) p.regs
theorem IsVal.below {w w' : World} {v : Value} {p : PVal} (h : IsVal w v p) (hb : Below w.heap.size w w') : IsVal w' v p := by
  obtain ⟨a1, n1, c1, a2, n2, c2, rfl, h1, h2⟩ := h
  exact ⟨a1, n1, c1, a2, n2, c2, rfl, h1.below hb, h2.below hb⟩
def GivesV (w : World) (p : PVal) (e : Ending) (w' : World) : Prop := ∃ v, e = .returned v ∧ IsVal w' v p ∧ Below w.heap.size w w'

section
open Go.ChangeShapes Go.WideShapes
set_option maxRecDepth 100000
theorem texts_of_cells {H : Type} {enc : TypeId × Value → H} {W : World} {fuel : Nat} {cs : List Value} {y : DataW H × List MemPlace} (hf : DataW.trod enc Tryz.prog W 0 (fun _ => true) true fuel 51 cs = some y) : ∃ a n c xs, cs = [.slice a n c] ∧ SeqT W (.slice a n c) xs := by
  rcases Go.Deep.open_strs Tryz.underlying51 Tryz.underlying9 (by kernel_rfl) hf with ⟨hcs, -⟩ | ⟨a, len, cap, m, Sx, hcs, -, hl, hm, hmm, -, hi⟩
  · exact ⟨none, 0, 0, [], hcs, SeqT.nil W⟩
  · simp only [↓reduceIte] at hmm
    subst hmm
    have hlen : ((List.range len).map fun i => tx (Sx i)).length = len := by simp
    refine ⟨some a, len, m, (List.range len).map fun i => tx (Sx i), hcs, some a, m, by rw [hlen], by rw [hlen]; exact hl, hm, (by simp), fun hp => ?_⟩
    rw [hlen] at hp ⊢
    have each : ∀ j, j < len → W.cell? (a.add j) = some (tv (((List.range len).map fun i => tx (Sx i)).getD j [])) := by
      intro j hj
      rw [(hi j (by omega)).1]
      simp [List.getD, hj, tv, bt_tx]
    obtain ⟨b, o, spot⟩ := a
    have hspot : spot = none := by
      simpa [Addr.add] using World.cell?_spot (each 0 hp)
    subst hspot
    refine ⟨b, o, rfl, fun j hj => ?_⟩
    have := each j hj
    simp only [add_plain] at this
    exact this
theorem cellsOfVal : Tryz.prog.cellsOf 53 = 4 := by kernel_rfl
/-- an argument that is a field -/
def IsValA (w : World) (v : Value) : Prop := ∃ p, IsVal w v p
theorem val_of_trod {H : Type} {enc : TypeId × Value → H} {W : World} {r : Reach} {b : Nat} {v : Value} {d : DataW H} {p : List MemPlace} (hv : Value.okWide Tryz.prog W r b 53 v) (h : DataW.Trod enc Tryz.prog W 0 (fun _ => true) true 53 v d p) : IsValA W v := by
  obtain ⟨cs, rfl, -⟩ := okWide_struct Tryz.underlying53 hv
  obtain ⟨fuel, hf⟩ := h
  obtain ⟨ys, n', -, -, hl, hlen, hf⟩ := DataW.trod_struct Tryz.underlying53 hf
  rw [cellsOfVal] at hl
  have e1 : Tryz.prog.cellsOf 51 = 1 := by kernel_rfl
  have e2 : Tryz.prog.cellsOf 2 = 1 := by kernel_rfl
  have e3 : Tryz.prog.cellsOf 4 = 1 := by kernel_rfl
  simp only [Value.cells] at hl hf
  obtain ⟨cl⟩ := cs
  match cl, hl with
  | [x0, x1, x2, x3], _ =>
    match ys, hlen with
    | [y0, y1, y2, y3], _ =>
      have h0 := hf 0 _ rfl
      have h1 := hf 1 _ rfl
      have h2 := hf 2 _ rfl
      have h3 := hf 3 _ rfl
      simp [e1, e2, e3] at h0 h1 h2 h3
      obtain ⟨a1, n1, c1, xs, g0, s0⟩ := texts_of_cells h0
      obtain ⟨a2, n2, c2, ys', g1, s1⟩ := texts_of_cells h1
      obtain ⟨t, g2, -, w2⟩ := DataW.trod_int Tryz.underlying2 h2
      obtain ⟨o, g3, -⟩ := DataW.trod_bool Tryz.underlying4 h3
      simp at g0 g1 g2 g3
      subst g0 g1 g2 g3
      exact ⟨⟨xs, ys', t, o⟩, a1, n1, c1, a2, n2, c2, rfl, s0, s1⟩
end
end Go.Proofs.YtkmiodpaanohoaaGreat
