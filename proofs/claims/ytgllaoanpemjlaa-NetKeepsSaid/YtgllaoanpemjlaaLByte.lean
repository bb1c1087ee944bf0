/- BYTES AS A KIND OF ELEMENTS; stage 3's words (By) for a slice of them; an argument that is one. -/
import Derived.Test.YtgllaoanpemjlaaItem
import Derived.Test.YtgllaoanpemjlaaByWords
namespace Go.Proofs.Ytgllaoanpemjlaa
open Go.RowKit Plain
set_option linter.unusedVariables false

theorem infoBy : (Try.prog.info? 5).map (fun i => (i.zero, i.size, i.bytes)) = some (some (.int .u8 0), 1, 1) := by kernel_rfl
theorem oneBy {vs : List Value} {x : BitVec 8} (h : vs = [By.bv x]) : ∀ u ∈ vs, u.oneCell' = true := by
  subst h
  intro u hu
  rw [List.mem_singleton.1 hu]
  rfl
def LByte : El (BitVec 8) where
  k := 1
  E := 5
  S := 25
  zero := .int .u8 0
  bytes := 1
  R := fun _ _ vs x => vs = [By.bv x]
  pos := by decide
  small := by decide
  len := fun h => by rw [h]; rfl
  one := oneBy
  mono := fun h _ => h
  agree := fun h _ => h
  und := Try.underlying25
  info := infoBy
  zsize := rfl
theorem flat_byte : Flat LByte := fun h => h
theorem by_of {w : World} {v : Value} {xs : Bytes} (h : SeqE LByte w v xs) : By.Seq w v xs := by
  obtain ⟨a, cap, rfl, h1, h2, h0, h3⟩ := h.parts
  refine ⟨a, cap, rfl, h1, h2, h0, fun hp => ?_⟩
  obtain ⟨b, o, c, hv, -, -, -, hc⟩ := h.spot hp
  simp only [Value.slice.injEq] at hv
  obtain ⟨rfl, -, rfl⟩ := hv
  refine ⟨b, o, rfl, fun j hj => ?_⟩
  have e : xs[j]? = some (xs.getD j 0#8) := by simp [List.getD, List.getElem?_eq_getElem hj]
  obtain ⟨vs, hr, hx⟩ := hc j _ e
  obtain rfl : vs = [By.bv (xs.getD j 0#8)] := hr
  have := hx 0 _ rfl
  rw [show o + (j * LByte.k + 0) = o + j by show o + (j * 1 + 0) = o + j; omega] at this
  exact this
/-- bytes that are written out in the program's text -/
theorem by_lit (w : World) (xs : Bytes) (C : Array Value) (hC : C.toList = xs.map By.bv) (hl : xs.length ≤ 1000000) : By.Seq (w.alloc (.cells C 5)) (.slice (some ⟨w.heap.size, 0, none⟩) xs.length xs.length) xs := by
  refine ⟨_, xs.length, rfl, Nat.le_refl _, by unfold maxLen; omega, (by simp), fun hp => ⟨w.heap.size, 0, rfl, fun j hj => ?_⟩⟩
  have h := World.cell?_alloc_new w C 5 (0 + j)
  rw [Nat.zero_add] at h ⊢
  rw [h, ← Array.getElem?_toList, hC, List.getElem?_map]
  simp [List.getD, List.getElem?_eq_getElem hj]
section
open Go.ChangeShapes Go.WideShapes Go.Joins
set_option maxRecDepth 100000
theorem cellsOfByte : Try.prog.cellsOf 5 = 1 := by kernel_rfl
theorem byte_of_cells {H : Type} {enc : TypeId × Value → H} {W : World} {n : Nat} {cs : List Value} {y : DataW H × List MemPlace} (ht : DataW.trod enc Try.prog W 0 (fun _ => true) true n 5 cs = some y) : ∃ x, LByte.R (· < W.heap.size) W cs x ∧ True := by
  obtain ⟨a0, g0, -, w0⟩ := DataW.trod_int Try.underlying5 ht
  have h : 0 ≤ a0 ∧ a0 ≤ 255 := by simpa [Lit.wf, IntKind.min, IntKind.max, IntKind.signed, IntKind.bits] using w0
  refine ⟨BitVec.ofNat 8 a0.toNat, ?_, trivial⟩
  show cs = [By.bv (BitVec.ofNat 8 a0.toNat)]
  rw [g0]
  unfold By.bv
  rw [BitVec.toNat_ofNat, Nat.mod_eq_of_lt (by omega)]
  rw [Int.toNat_of_nonneg h.1]
def IsBytesA (w : World) (v : Value) : Prop := ∃ xs : Bytes, By.Seq w v xs
theorem bytes_of_trod {H : Type} {enc : TypeId × Value → H} {W : World} {r : Reach} {b : Nat} {v : Value} {d : DataW H} {p : List MemPlace} (hv : Value.okWide Try.prog W r b 25 v) (h : DataW.Trod enc Try.prog W 0 (fun _ => true) true 25 v d p) : IsBytesA W v := by
  obtain ⟨xs, hs, -⟩ := elems_of_trod LByte (fun _ => True) flat_byte cellsOfByte (fun ht => byte_of_cells ht) hv h
  exact ⟨xs, by_of hs⟩
end
end Go.Proofs.Ytgllaoanpemjlaa
