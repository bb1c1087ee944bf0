/- WORDS FOR SLICES OF int64 AS A KIND OF ELEMENTS; what stage 1's contracts ask of them. -/
import Derived.Test.YtpkmjddjllpglaaEl
import Derived.Test.YtpkmjddjllpglaaNmSeq
namespace Go.Proofs.Ytpkmjddjllpglaa
open Go.RowKit Plain
set_option linter.unusedVariables false

theorem infoI64 : (Try.prog.info? 2).map (fun i => (i.zero, i.size, i.bytes)) = some (some (.int .i64 0), 1, 8) := by kernel_rfl
theorem oneI64 {vs : List Value} {x : Int} (h : vs = [.int .i64 x]) : ∀ u ∈ vs, u.oneCell' = true := by
  subst h
  intro u hu
  rw [List.mem_singleton.1 hu]
  rfl
def LI64 : El Int where
  k := 1
  E := 2
  S := 47
  zero := .int .i64 0
  bytes := 8
  R := fun _ _ vs x => vs = [.int .i64 x]
  pos := by decide
  small := by decide
  len := fun h => by rw [h]; rfl
  one := oneI64
  mono := fun h _ => h
  agree := fun h _ => h
  und := Try.underlying47
  info := infoI64
  zsize := rfl
theorem flat_i64 : Flat LI64 := fun h => h
theorem one_i64 (w : World) (x : Int) : SeqE LI64 (w.alloc (.cells #[.int .i64 x] 2)) (.slice (some ⟨w.heap.size, 0, none⟩) 1 1) [x] :=
  SeqE.one (L := LI64) (w := w) (vs := [.int .i64 x]) (x := x) rfl #[.int .i64 x] rfl
theorem nm_of {w : World} {v : Value} {xs : List Int} (h : SeqE LI64 w v xs) : Nm.Seq w v xs := by
  obtain ⟨a, cap, rfl, h1, h2, h0, h3⟩ := h.parts
  refine ⟨a, cap, rfl, h1, h2, fun hp => ?_⟩
  obtain ⟨b, o, c, hv, -, -, -, hc⟩ := h.spot hp
  simp only [Value.slice.injEq] at hv
  obtain ⟨rfl, -, rfl⟩ := hv
  refine ⟨b, o, rfl, fun j hj => ?_⟩
  have e : xs[j]? = some (xs.getD j 0) := by simp [List.getD, List.getElem?_eq_getElem hj]
  obtain ⟨vs, hr, hx⟩ := hc j _ e
  obtain rfl : vs = [.int .i64 (xs.getD j 0)] := hr
  have := hx 0 _ rfl
  rw [show o + (j * LI64.k + 0) = o + j by show o + (j * 1 + 0) = o + j; omega] at this
  exact this
end Go.Proofs.Ytpkmjddjllpglaa
