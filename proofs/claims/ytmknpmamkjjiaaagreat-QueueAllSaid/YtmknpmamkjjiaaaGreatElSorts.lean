/- From a slice of whatever, of the call's own, to the library's words for a row that is sorted in place, and back. For kinds whose cells say all. Of no package. WORDS FOR make([]E, n) OF WHATEVER, AND A LIST OUT OF ITS ELEMENTS' CELLS. Of no package. -/
import Derived.Test.YtmknpmamkjjiaaaGreatEls
import Derived.Sort.Grow
namespace Go.Proofs.YtmknpmamkjjiaaaGreat
open Go.RowKit Plain
set_option linter.unusedVariables false

variable {α : Type} [Inhabited α] {L : El α}
end Go.Proofs.YtmknpmamkjjiaaaGreat
namespace Go.Proofs.YtmknpmamkjjiaaaGreat
open Go.RowKit Plain
set_option linter.unusedVariables false

theorem get_madeCells (z : Array Value) (m j : Nat) (hj : j < m) (hz : 0 < z.size) : (madeCells z m).toList[j]? = z.toList[j % z.size]? := by
 have hm : j % z.size < z.size := Nat.mod_lt j hz
 unfold madeCells
 rw [Array.getElem?_toList, Array.getElem?_toList]
 simp [hj, hm]
theorem rows_made {α : Type} (L : El α) (z : α) (hzero : ∀ P w, L.R P w L.zero.cells.toList z) (P : Nat → Prop) (w : World) (n : Nat) : Rows L P w (madeCells L.zero.cells (n * L.k)).toList (List.replicate n z) := by
 have hz : 0 < L.zero.cells.size := by rw [L.zsize]; exact L.pos
 refine ⟨by rw [Array.length_toList, size_madeCells, List.length_replicate], fun j x hj => ?_⟩
 have hjn : j < n := by
  have := (List.getElem?_eq_some_iff.1 hj).1
  rwa [List.length_replicate] at this
 have hx : x = z := by
  rw [List.getElem?_replicate, if_pos hjn] at hj
  exact (Option.some.inj hj).symm
 subst hx
 have e : pt L.k (madeCells L.zero.cells (n * L.k)).toList j = L.zero.cells.toList := by
  apply List.ext_getElem?
  intro i
  by_cases hi : i < L.k
  ·rw [pt_get _ _ _ hi]
   have hle : (j + 1) * L.k ≤ n * L.k := Nat.mul_le_mul_right L.k hjn
   have hs : (j + 1) * L.k = j * L.k + L.k := Nat.succ_mul j L.k
   rw [get_madeCells _ _ _ (by omega) hz, L.zsize, Nat.mul_add_mod_self_right, Nat.mod_eq_of_lt hi]
  ·rw [List.getElem?_eq_none (by unfold pt; rw [List.length_take]; omega), List.getElem?_eq_none (by rw [Array.length_toList, L.zsize]; omega)]
 rw [e]
 exact hzero P w
theorem wpList_make_el {α : Type} {w : World} {ops : Array Oper} {rest : List Oper} {o : Oper} {a : Act} {Q : Exit → Act → World → Prop} (L : El α) (z : α) (hzero : ∀ P w, L.R P w L.zero.cells.toList z)
  (hg : o.guard = none) (l : Operand) (ho : o.op = Op.makeSlice L.S l l) (n : Nat) (hl : a.eval l = .int .i64 n) (hn : n ≤ 1000000)
  (h : ∀ w', OwnE L w.heap.size w' (.slice (some ⟨w.heap.size, 0, none⟩) n n) (List.replicate n z) → Below w.heap.size w w' → w'.heap.size = w.heap.size + 1 → wpList Tryz.prog ops Q rest (a.put o.dst (.slice (some ⟨w.heap.size, 0, none⟩) n n)) w') :
  wpList Tryz.prog ops Q (o :: rest) a w := by
 obtain ⟨i0, hi, hz0, hz1, hz2⟩ := info_el L
 have hsm := L.small
 have hby : (i0.bytes : Int) * (n : Int) ≤ 281474976710656 := by
  have h1 : i0.bytes * n ≤ 1024 * 1000000 := Nat.mul_le_mul (by rw [hz2]; exact hsm) hn
  have h2 : ((i0.bytes * n : Nat) : Int) ≤ 281474976710656 := by omega
  rwa [Int.natCast_mul] at h2
 have hrun := run_make (P := Tryz.prog) w L.S L.E i0 L.zero L.und hi hz0 .i64 .i64 n n (by omega) (Int.le_refl _) hby (by omega)
 simp only [Int.toNat_natCast, hz1] at hrun
 refine wpList_plain hg fun K hK' => ?_
 unfold Oper.wp
 simp [execOp, ho, hl, hrun, Result.andThen]
 refine hK' _ _ (h _ ?_ ((Below.refl _ _).alloc (Nat.le_refl _) _) (by simp))
 have hr := World.ownsRow_lit (base := w.heap.size) (e := L.E) (size := L.k) w (madeCells L.zero.cells (n * L.k)) n (Nat.le_refl _) (by unfold maxLen; omega) (by rw [size_madeCells])
 exact ⟨_, by rw [List.length_replicate]; exact hr, rows_made L z hzero _ _ n⟩
end Go.Proofs.YtmknpmamkjjiaaaGreat
