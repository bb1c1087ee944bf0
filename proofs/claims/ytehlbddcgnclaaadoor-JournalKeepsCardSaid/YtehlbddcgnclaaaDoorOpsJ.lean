/- What an argument that is a list of steps (butterylaw06.Op) hands over. -/
import Derived.Test.YtehlbddcgnclaaaDoorOpenD
import Derived.Deep.Slices
import Derived.Deep.Strs
namespace Go.Proofs.YtehlbddcgnclaaaDoor
open Go.RowKit Plain Go.ChangeShapes Go.WideShapes Go.Joins
set_option linter.unusedVariables false

/-- an argument that is a list of steps: of each its two numbers and its bytes -/
def IsOps (w : World) (v : Value) : Prop := ∃ a n c, v = .slice a n c ∧ n ≤ c ∧ c ≤ maxLen ∧
  (0 < n → ∃ b o, a = some ⟨b, o, none⟩ ∧ ∀ j, j < n → ∃ d k a' n' c' z', w.cell? ⟨b, o + (j * 3 + 0), none⟩ = some (.int .i64 d) ∧ w.cell? ⟨b, o + (j * 3 + 1), none⟩ = some (.int .i64 k) ∧ w.cell? ⟨b, o + (j * 3 + 2), none⟩ = some (.slice a' n' c') ∧
    (Lit.int .i64 d).wf = true ∧ (Lit.int .i64 k).wf = true ∧ IsRow .u8 w a' n' c' z')
theorem cellsOp : Tryd.prog.cellsOf 44 = 3 := by kernel_rfl
theorem ops_of_trod {H : Type} {enc : TypeId × Value → H} {W : World} {r : Reach} {b : Nat} {v : Value} {d : DataW H} {p : List MemPlace} (hv : Value.okWide Tryd.prog W r b 42 v) (h : DataW.Trod enc Tryd.prog W 0 (fun _ => true) true 42 v d p) : IsOps W v := by
  obtain ⟨a0, n0, c0, rfl⟩ := okWide_slice Tryd.underlying42 hv
  obtain ⟨fuel, hf⟩ := h
  rcases Go.Deep.open_slice Tryd.underlying42 hf with ⟨hcs, -⟩ | ⟨a, len, cap, m, n, D, Pl, hcs, -, hl, hm, hmm, -, hi⟩
  · simp [Value.cells] at hcs
    obtain ⟨rfl, rfl, rfl⟩ := hcs
    exact ⟨none, 0, 0, rfl, Nat.le_refl _, Nat.zero_le _, fun h => absurd h (by omega)⟩
  · simp [Value.cells] at hcs
    obtain ⟨rfl, rfl, rfl⟩ := hcs
    simp only [↓reduceIte] at hmm
    subst hmm
    refine ⟨_, _, _, rfl, hl, hm, fun hp => ?_⟩
    have each : ∀ j, j < n0 → ∃ d k a' n' c' z', W.cell? (a.add (j * 3 + 0)) = some (.int .i64 d) ∧ W.cell? (a.add (j * 3 + 1)) = some (.int .i64 k) ∧ W.cell? (a.add (j * 3 + 2)) = some (.slice a' n' c') ∧ (Lit.int .i64 d).wf = true ∧ (Lit.int .i64 k).wf = true ∧ IsRow .u8 W a' n' c' z' := by
      intro j hj
      obtain ⟨cs, hc, ht⟩ := hi j (by omega)
      rw [cellsOp] at hc
      obtain ⟨-, hcl, hat⟩ := World.cells?_some hc
      obtain ⟨y0, y1, y2, n', -, -, h0, h1, h2⟩ := Go.Deep.trod_struct3 Tryd.underlying44 ht
      have e1 : Tryd.prog.cellsOf 3 = 1 := by kernel_rfl
      have e2 : Tryd.prog.cellsOf 22 = 1 := by kernel_rfl
      match cs, hcl with
      | [x0, x1, x2], _ =>
        simp [e1, e2] at h0 h1 h2
        obtain ⟨d, g0, -, w0⟩ := DataW.trod_int Tryd.underlying3 h0
        obtain ⟨k, g1, -, w1⟩ := DataW.trod_int Tryd.underlying3 h1
        obtain ⟨a', n1, c', z', rfl, hr⟩ := row_of_trod h2
        simp at g0 g1
        subst g0 g1
        have k0 := hat 0 (by omega)
        have k1 := hat 1 (by omega)
        have k2 := hat 2 (by omega)
        rw [Go.Deep.add_add] at k0 k1 k2
        exact ⟨d, k, a', n1, c', z', k0, k1, k2, w0, w1, hr⟩
    obtain ⟨b, o, spot⟩ := a
    have hspot : spot = none := by
      obtain ⟨d, k, a', n', c', z', h0, -⟩ := each 0 hp
      simpa [Addr.add] using World.cell?_spot h0
    subst hspot
    refine ⟨b, o, rfl, fun j hj => ?_⟩
    have := each j hj
    simp only [add_plain] at this
    exact this
end Go.Proofs.YtehlbddcgnclaaaDoor
