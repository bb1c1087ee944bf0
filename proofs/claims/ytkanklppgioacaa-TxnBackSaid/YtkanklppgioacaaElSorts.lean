/- From a slice of whatever, of the call's own, to the library's words for a row that is sorted in place, and back. For kinds whose cells say all. Of no package. WORDS FOR make([]E, n) OF WHATEVER, AND A LIST OUT OF ITS ELEMENTS' CELLS. Of no package. -/
import Derived.Test.YtkanklppgioacaaEls
import Derived.Sort.Grow
import Derived.Shelf.GgSortFunc.InsertionK
namespace Go.Proofs.Ytkanklppgioacaa
open Go.RowKit Plain
set_option linter.unusedVariables false

variable {α : Type} [Inhabited α] {L : El α}
theorem getB {xs : List α} {j : Nat} (hj : j < xs.length) : xs.toArray[j]! = xs.getD j default := by
  simp [getElem!_pos, hj, List.getD]
theorem holdsK_of_own {enc : α → List Value} (hE : ∀ {P w vs x}, L.R P w vs x → vs = enc x) (hk : ∀ x, (enc x).length = L.k) {B : Nat} {w : World} {g n cap : Nat} {xs : List α} (h : OwnE L B w (.slice (some ⟨g, 0, none⟩) n cap) xs) : Sort.HoldsK enc L.k w g 0 xs.toArray := by
  have hn := h.seq.dims.1
  subst hn
  obtain ⟨vals, ho, hr⟩ := h
  intro j hj
  rw [Sort.size_flatK, List.size_toArray] at hj
  rw [Nat.zero_add]
  refine ⟨?_, World.ownsRow.frozenAt ho j⟩
  rw [World.ownsRow.cellAt ho j hj, Sort.get_flatK _ _ _ _ (by rw [List.size_toArray]; exact hj)]
  have hp := L.pos
  have hq : j / L.k < xs.length := by rw [Nat.div_lt_iff_lt_mul hp]; exact hj
  have hm : j % L.k < L.k := Nat.mod_lt j hp
  have e : j / L.k * L.k + j % L.k = j := by rw [Nat.mul_comm]; exact Nat.div_add_mod j L.k
  have hR := hE (hr.2 (j / L.k) _ (List.getElem?_eq_getElem hq))
  have h1 := pt_get (k := L.k) vals (j / L.k) (j % L.k) hm
  rw [hR, e] at h1
  rw [← h1, getB hq]
  have e2 : xs.getD (j / L.k) default = xs[j / L.k] := by simp [List.getD, List.getElem?_eq_getElem hq]
  rw [e2]
  have hl : j % L.k < (enc xs[j / L.k]).length := by rw [hk]; exact hm
  rw [List.getElem?_eq_getElem hl]
  simp [getElem!_pos, hl]
theorem sq_of_holdsK {enc : α → List Value} (hE : ∀ {P w vs x}, vs = enc x → L.R P w vs x) (hk : ∀ x, (enc x).length = L.k) {w : World} {g off cap : Nat} {xs : List α} (h : Sort.HoldsK enc L.k w g off xs.toArray) (hc : xs.length ≤ cap) (hm : cap ≤ maxLen) {P : Nat → Prop} (hP : P g) : Sq L P w (.slice (some ⟨g, off, none⟩) xs.length cap) xs := by
  have hs : (Sort.flatK enc L.k xs.toArray).toList.length = xs.length * L.k := by rw [Array.length_toList, Sort.size_flatK, List.size_toArray]
  have hat : ∀ i, i < xs.length * L.k → (Sort.flatK enc L.k xs.toArray).toList[i]? = some (Sort.flatK enc L.k xs.toArray)[i]! := by
    intro i hi
    have hi2 : i < (Sort.flatK enc L.k xs.toArray).size := by rw [Sort.size_flatK, List.size_toArray]; exact hi
    rw [Array.getElem?_toList, Array.getElem?_eq_getElem hi2, getElem!_pos _ i hi2]
  refine ⟨_, cap, (Sort.flatK enc L.k xs.toArray).toList, rfl, hc, hm, (by simp), ⟨hs, fun j x hj => hE ?_⟩, fun _ => ⟨g, off, rfl, hP, fun i u hi => ?_⟩⟩
  · have hjl := (List.getElem?_eq_some_iff.1 hj).1
    have hle : (j + 1) * L.k ≤ xs.length * L.k := Nat.mul_le_mul_right L.k hjl
    have he : (j + 1) * L.k = j * L.k + L.k := Nat.succ_mul j L.k
    refine List.ext_getElem? fun i => ?_
    by_cases hi : i < L.k
    · rw [pt_get _ _ _ hi, hat _ (by omega), Sort.get_flatK _ _ _ _ (by rw [List.size_toArray]; omega)]
      have e1 : (j * L.k + i) / L.k = j := by rw [Nat.mul_comm, Nat.mul_add_div L.pos, Nat.div_eq_of_lt hi, Nat.add_zero]
      have e2 : (j * L.k + i) % L.k = i := by rw [Nat.mul_comm, Nat.mul_add_mod, Nat.mod_eq_of_lt hi]
      rw [e1, e2, getB hjl]
      have e3 : xs.getD j default = x := by simp [List.getD, hj]
      rw [e3]
      have hl : i < (enc x).length := by rw [hk]; exact hi
      rw [List.getElem?_eq_getElem hl]
      simp [getElem!_pos, hl]
    · rw [List.getElem?_eq_none (by unfold pt; rw [List.length_take]; omega), List.getElem?_eq_none (by rw [hk]; omega)]
  · have hil : i < xs.length * L.k := by rw [← hs]; exact (List.getElem?_eq_some_iff.1 hi).1
    rw [hat i hil] at hi
    have := (h i (by rw [Sort.size_flatK, List.size_toArray]; exact hil)).1
    rw [this]
    exact hi
theorem below_sortK {B : Nat} {w u : World} {enc : α → List Value} {k g off : Nat} {d : Array α} (hb : Below B w u) (hB : B ≤ u.heap.size) (hg : B ≤ g) (n : Nat) (os : Array Obj) : Below B w (Go.Proofs.sortWorldK enc k u g off n d os) := by
  refine ⟨hb.os, hb.tape, hb.output, ?_, fun j hj => ?_⟩
  · have := hb.size
    show w.heap.size ≤ (Sort.grow (Sort.putRow id (Sort.ahead u n) g off (Sort.flatK enc k d)) os).heap.size
    rw [Sort.size_grow, Sort.size_putRow]
    show w.heap.size ≤ u.heap.size + os.size
    omega
  · have hlt : j < u.heap.size := by omega
    show (Sort.grow (Sort.putRow id (Sort.ahead u n) g off (Sort.flatK enc k d)) os).heap[j]? = w.heap[j]?
    rw [Sort.heap_grow_old _ _ (by rw [Sort.size_putRow]; exact hlt)]
    refine Eq.trans ?_ (hb.block j hj)
    show ((Sort.ahead u n).heap.modify g _)[j]? = u.heap[j]?
    rw [Array.getElem?_modify, if_neg (by omega)]
    rfl
theorem size_sortK {u : World} {enc : α → List Value} {k g off : Nat} {d : Array α} (n : Nat) (os : Array Obj) : u.heap.size ≤ (Go.Proofs.sortWorldK enc k u g off n d os).heap.size := by
  show u.heap.size ≤ (Sort.grow (Sort.putRow id (Sort.ahead u n) g off (Sort.flatK enc k d)) os).heap.size
  rw [Sort.size_grow, Sort.size_putRow]
  show u.heap.size ≤ u.heap.size + os.size
  omega
end Go.Proofs.Ytkanklppgioacaa
namespace Go.Proofs.Ytkanklppgioacaa
open Go.RowKit Plain
set_option linter.unusedVariables false

theorem get_madeCells (z : Array Value) (m j : Nat) (hj : j < m) (hz : 0 < z.size) : (madeCells z m).toList[j]? = z.toList[j % z.size]? := by
  have hm : j % z.size < z.size := Nat.mod_lt j hz
  unfold madeCells
  rw [Array.getElem?_toList, Array.getElem?_toList]
  simp [hj, hm]
theorem rows_made {α : Type} (L : El α) (z : α) (hzero : ∀ P w, L.R P w L.zero.cells.toList z) (P : Nat → Prop) (w : World) (n : Nat) : Rows L P w (madeCells L.zero.cells (n * L.k)).toList (List.replicate n z) := by
  have hz : 0 < L.zero.cells.size := by rw [L.zsize]; exact L.pos
  refine ⟨by rw [Array.length_toList, size_madeCells, List.length_replicate], fun j x hj => ?_⟩
  have hjn : j < n := by
    have := (List.getElem?_eq_some_iff.1 hj).1
    rwa [List.length_replicate] at this
  have hx : x = z := by
    rw [List.getElem?_replicate, if_pos hjn] at hj
    exact (Option.some.inj hj).symm
  subst hx
  have e : pt L.k (madeCells L.zero.cells (n * L.k)).toList j = L.zero.cells.toList := by
    apply List.ext_getElem?
    intro i
    by_cases hi : i < L.k
    · rw [pt_get _ _ _ hi]
      have hle : (j + 1) * L.k ≤ n * L.k := Nat.mul_le_mul_right L.k hjn
      have hs : (j + 1) * L.k = j * L.k + L.k := Nat.succ_mul j L.k
      rw [get_madeCells _ _ _ (by omega) hz, L.zsize, Nat.mul_add_mod_self_right, Nat.mod_eq_of_lt hi]
    · rw [List.getElem?_eq_none (by unfold pt; rw [List.length_take]; omega), List.getElem?_eq_none (by rw [Array.length_toList, L.zsize]; omega)]
  rw [e]
  exact hzero P w
theorem wpList_make_el {α : Type} {w : World} {ops : Array Oper} {rest : List Oper} {o : Oper} {a : Act} {Q : Exit → Act → World → Prop} (L : El α) (z : α) (hzero : ∀ P w, L.R P w L.zero.cells.toList z)
    (hg : o.guard = none) (l : Operand) (ho : o.op = Op.makeSlice L.S l l) (n : Nat) (hl : a.eval l = .int .i64 n) (hn : n ≤ 1000000)
    (h : ∀ w', OwnE L w.heap.size w' (.slice (some ⟨w.heap.size, 0, none⟩) n n) (List.replicate n z) → Below w.heap.size w w' → w'.heap.size = w.heap.size + 1 → wpList Try.prog ops Q rest (a.put o.dst (.slice (some ⟨w.heap.size, 0, none⟩) n n)) w') :
    wpList Try.prog ops Q (o :: rest) a w := by
  obtain ⟨i0, hi, hz0, hz1, hz2⟩ := info_el L
  have hsm := L.small
  have hby : (i0.bytes : Int) * (n : Int) ≤ 281474976710656 := by
    have h1 : i0.bytes * n ≤ 1024 * 1000000 := Nat.mul_le_mul (by rw [hz2]; exact hsm) hn
    have h2 : ((i0.bytes * n : Nat) : Int) ≤ 281474976710656 := by omega
    rwa [Int.natCast_mul] at h2
  have hrun := run_make (P := Try.prog) w L.S L.E i0 L.zero L.und hi hz0 .i64 .i64 n n (by omega) (Int.le_refl _) hby (by omega)
  simp only [Int.toNat_natCast, hz1] at hrun
  refine wpList_plain hg fun K hK' => ?_
  unfold Oper.wp
  simp [execOp, ho, hl, hrun, Result.andThen]
  refine hK' _ _ (h _ ?_ ((Below.refl _ _).alloc (Nat.le_refl _) _) (by simp))
  have hr := World.ownsRow_lit (base := w.heap.size) (e := L.E) (size := L.k) w (madeCells L.zero.cells (n * L.k)) n (Nat.le_refl _) (by unfold maxLen; omega) (by rw [size_madeCells])
  exact ⟨_, by rw [List.length_replicate]; exact hr, rows_made L z hzero _ _ n⟩
end Go.Proofs.Ytkanklppgioacaa
