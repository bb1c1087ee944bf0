/- What an argument that is a slice of texts hands over. -/
import Derived.Test.YtkanklppgioacaaGreatTWords
import Derived.OpenShut
import Derived.Deep.Slices
import Derived.Deep.Strs
namespace Go.Proofs.YtkanklppgioacaaGreat
open Go.RowKit Plain Go.ChangeShapes Go.WideShapes
set_option linter.unusedVariables false

/-- an argument that is a slice of texts -/
def IsTexts (w : World) (v : Value) : Prop := ∃ xs : List Txt, SeqT w v xs
set_option maxRecDepth 100000 in
theorem texts_of_trod {H : Type} {enc : TypeId × Value → H} {W : World} {r : Reach} {b : Nat} {v : Value} {d : DataW H} {p : List MemPlace} (hv : Value.okWide Tryz.prog W r b 27 v) (h : DataW.Trod enc Tryz.prog W 0 (fun _ => true) true 27 v d p) : IsTexts W v := by
 obtain ⟨a0, n0, c0, rfl⟩ := okWide_slice Tryz.underlying27 hv
 obtain ⟨fuel, hf⟩ := h
 rcases Go.Deep.open_strs Tryz.underlying27 Tryz.underlying9 (by kernel_rfl) hf with ⟨hcs, -⟩ | ⟨a, len, cap, m, Sx, hcs, -, hl, hm, hmm, -, hi⟩
 ·simp [Value.cells] at hcs
  obtain ⟨rfl, rfl, rfl⟩ := hcs
  exact ⟨[], SeqT.nil W⟩
 ·simp [Value.cells] at hcs
  obtain ⟨rfl, rfl, rfl⟩ := hcs
  simp only [↓reduceIte] at hmm
  subst hmm
  have hlen : ((List.range n0).map fun i => tx (Sx i)).length = n0 := by simp
  refine ⟨(List.range n0).map fun i => tx (Sx i), some a, m, by rw [hlen], by rw [hlen]; exact hl, hm, (by simp), fun hp => ?_⟩
  rw [hlen] at hp ⊢
  have each : ∀ j, j < n0 → W.cell? (a.add j) = some (tv (((List.range n0).map fun i => tx (Sx i)).getD j [])) := by
   intro j hj
   rw [(hi j (by omega)).1]
   simp [List.getD, hj, tv, bt_tx]
  obtain ⟨b, o, spot⟩ := a
  have hspot : spot = none := by
   simpa [Addr.add] using World.cell?_spot (each 0 hp)
  subst hspot
  refine ⟨b, o, rfl, fun j hj => ?_⟩
  have := each j hj
  simp only [add_plain] at this
  exact this
end Go.Proofs.YtkanklppgioacaaGreat
