/- What the program's own madeAndLeft of effects leaves. (Written by gen-eleft.py.) What the program's own Do of effects leaves. What the program's own Only of effects leaves, and slices.Clone of dots. What the law's own functions names and has leave. -/
import Derived.Test.YtlpcpbangmonaaaEForms
import Derived.Test.YtlpcpbangmonaaaISets
import Derived.Test.YtlpcpbangmonaaaRefSs
import Derived.IntWalk
import Derived.Test.YtlpcpbangmonaaaShelf
import Derived.Test.YtlpcpbangmonaaaGives
import Derived.Sort.Grow
import Derived.Deep.RegionHeld3
import Derived.Deep.Cut
import Derived.Test.YtlpcpbangmonaaaElSorts
import Derived.Test.YtlpcpbangmonaaaRefE
import Derived.Test.YtlpcpbangmonaaaElGs
import Derived.Test.YtlpcpbangmonaaaRefZs
import Derived.Test.YtlpcpbangmonaaaMaths
import Derived.Lib.SlicesCompact
import Derived.Deep.QuietTactic
import Derived.BigQuiet
import Derived.Test.YtlpcpbangmonaaaEMades
namespace Go.Proofs.Ytlpcpbangmonaaa
open Go.RowKit Plain Go.Maps
set_option linter.unusedVariables false

end Go.Proofs.Ytlpcpbangmonaaa
namespace Go.Proofs.Ytlpcpbangmonaaa
open Go.RowKit Plain
set_option linter.unusedVariables false

/-- numbers of the model's range, for what a transaction makes -/
def effsOk (node seq : Int) (l : List PEff) : Prop := ∀ e ∈ l, dotOk ⟨node, seq, e.pos⟩ ∧ ∀ d ∈ e.drops, dotOk d
theorem effsOk_of {node seq : Int} {l : List PEff} (h1 : (Lit.int .i64 node).wf = true) (h2 : (Lit.int .i64 seq).wf = true) (h : ∀ e ∈ l, effOk e) : effsOk node seq l := fun e he => ⟨⟨h1, h2, (h e he).1⟩, (h e he).2.2.2.1⟩
theorem mleft_ok {node seq : Int} {l : List PEff} (h : effsOk node seq l) : ∀ x ∈ mleft node seq l, dotOk x.dot := fun x hx => by
  obtain ⟨e, he, rfl⟩ := own_dot (mem_mleft.1 hx)
  exact (h e he).1

end Go.Proofs.Ytlpcpbangmonaaa
namespace Go.Proofs.Ytlpcpbangmonaaa
open Go.RowKit Plain
set_option linter.unusedVariables false

set_option maxRecDepth 100000 in
set_option maxHeartbeats 1000000 in
/-- slices.Clone of dots -/
theorem dclone_any {u : Value} {xs : List PDot} {w : World} (hu : SeqE LDot w u xs) (hn : xs.length ≤ 1000000) : Calls Try.prog 50 #[u] w (MadeE LDot w xs) := by
  obtain ⟨a, cap, rfl, -, -, g0, h⟩ := hu.parts
  have q22 : ∀ (w : World) (a : Option Addr) (n c n' c' : Nat), (binOp .eql 68 (.slice a n c) (.slice none n' c')).run Try.prog w = .ok (.bool a.isNone) w := fun w a n c n' c' => Lib.run_eql_slice_nil w _ _ a n c n' c' Try.underlying68
  cases a with
  | none =>
    obtain rfl := g0 rfl
    obtain rfl : xs = [] := List.eq_nil_of_length_eq_zero (by have := h.dims; omega)
    go_enter Try.func50, Try.ntmps50
    go_wp2_with fail
    go_ret
    exact ⟨_, rfl, OwnE.nil _ _, Below.refl _ _⟩
  | some ad =>
    have HS := Lib.hid (h.below_alloc (.cells #[] 73))
    have HO := Lib.hid (OwnE.empty (L := LDot) w w.heap.size (Nat.le_refl _))
    have HB := Lib.hid ((Below.refl w.heap.size w).alloc (Nat.le_refl _) (.cells #[] 73))
    have hz : w.heap.size ≤ (w.alloc (.cells #[] 73)).heap.size := by simp
    have HZ := Lib.hid hz
    clear hu h g0 hz
    go_enter Try.func50, Try.ntmps50
    go_wp2_with (at_builtin; refine wpList_append_el LDot rfl (.tmp 5) (.tmp 6) rfl w.heap.size rfl HO.out rfl HS.out (fun _ _ h => h) (by simp; omega) HZ.out ?_)
    intro v' w2 ho' hgr _
    have O3 := Lib.hid ho'
    have B3 := Lib.hid (HB.out.grown hgr HZ.out (fun j hj => (HO.out.lt j hj).1))
    clear ho' hgr
    go_wp2_with fail
    go_ret
    exact ⟨_, rfl, by simpa using O3.out, B3.out⟩

/-! ### the keys that are asked at once -/
def zeroP : PItem := ⟨[], [], 0, [], 0, ⟨0, 0, 0⟩⟩
theorem pt_set8 (vals : List Value) (j i : Nat) (u : Value) (hj : j * 8 < vals.length) : pt 8 (vals.set (j * 8) u) i = if i = j then (pt 8 vals j).set 0 u else pt 8 vals i := by
  have len : ∀ (l : List Value) (q : Nat), (pt 8 l q).length ≤ 8 := fun l q => by unfold pt; rw [List.length_take]; omega
  apply List.ext_getElem?
  intro r
  by_cases hr : r < 8
  · rw [pt_get _ _ _ hr, List.getElem?_set]
    by_cases e : i = j
    · subst e
      rw [if_pos rfl, List.getElem?_set]
      by_cases r0 : r = 0
      · subst r0
        have h0 : 0 < (pt 8 vals i).length := by unfold pt; rw [List.length_take, List.length_drop]; omega
        rw [if_pos (by omega), if_pos hj, if_pos rfl, if_pos h0]
      · rw [if_neg (by omega), if_neg (fun h => r0 h.symm), pt_get _ _ _ hr]
    · rw [if_neg e, if_neg (by omega), pt_get _ _ _ hr]
  · have h1 := len (vals.set (j * 8) u) i
    rw [List.getElem?_eq_none (by omega)]
    split
    · rw [List.getElem?_eq_none (by rw [List.length_set]; have := len vals j; omega)]
    · rw [List.getElem?_eq_none (by have := len vals i; omega)]
def keysK (l : List PEff) (k : Nat) : List PItem := (l.take k).map keyI ++ List.replicate (l.length - k) zeroP
theorem keysK_zero (l : List PEff) : keysK l 0 = List.replicate l.length zeroP := by unfold keysK; simp
theorem keysK_all (l : List PEff) : keysK l l.length = l.map keyI := by unfold keysK; simp
theorem keysK_len (l : List PEff) {k : Nat} (hk : k ≤ l.length) : (keysK l k).length = l.length := by unfold keysK; simp; omega
theorem keysK_at (l : List PEff) {k : Nat} (hk : k < l.length) : (keysK l k).getD k default = zeroP := by
  unfold keysK
  have h1 : ((l.take k).map keyI).length = k := by simp; omega
  rw [List.getD, List.getElem?_append_right (by omega), h1, Nat.sub_self, List.getElem?_replicate, if_pos (by omega)]
  rfl
theorem keysK_next (l : List PEff) {k : Nat} (hk : k < l.length) : (keysK l k).set k (keyI (l.getD k default)) = keysK l (k + 1) := by
  have h1 : ((l.take k).map keyI).length = k := by simp; omega
  unfold keysK
  rw [List.set_append_right _ _ (by omega), h1, Nat.sub_self, take_nextD hk, List.map_append, List.append_assoc]
  congr 1
  obtain ⟨m, hm⟩ : ∃ m, l.length - k = m + 1 := ⟨l.length - k - 1, by omega⟩
  rw [hm, show l.length - (k + 1) = m by omega, List.replicate_succ]
  rfl

/-! ### Only -/
theorem aw_cover {l : List PEff} {zs : List Txt} {k : Nat} (hk : k < l.length) : decide ((l.getD k default).key ∈ coveredK l zs) = covers zs (l.getD k default).key := covered_way (mem_defE hk)
/-- an effect whose Drops are stored anew -/
theorem EffAt.drops {w : World} {b : Nat} {x : PEff} {dv : Value} (h : EffAt w b 0 x dv) (u : Value) : EffAt (w.setCell ⟨b, 6, none⟩ u) b 0 x u := by
  obtain ⟨c0, c1, c2, c3, c4, c5, c6⟩ := h
  simp only [Nat.zero_add] at c1 c2 c3 c4 c5 c6
  exact ⟨(World.cell?_setCell_other _ _ _ _ (by simp)).trans c0, (World.cell?_setCell_other _ _ _ _ (by simp)).trans c1, (World.cell?_setCell_other _ _ _ _ (by simp)).trans c2, (World.cell?_setCell_other _ _ _ _ (by simp)).trans c3, (World.cell?_setCell_other _ _ _ _ (by simp)).trans c4, (World.cell?_setCell_other _ _ _ _ (by simp)).trans c5, World.cell?_setCell_same _ _ _ c6⟩
/-- one effect in a block of its own, behind a variable that was stored into -/
theorem one_eff {W : World} {x : PEff} {av : Option Addr} {nv cv : Nat} {g C : Nat} {ov : Value} (hC : g < C) (hs : Sq LDot (fun b => C ≤ b ∧ b < W.heap.size) W (.slice av nv cv) x.drops) (hg : ∀ k, ov.ownBlock = some k → k < C) (hz : C ≤ W.heap.size) (u : Value) :
    Sq LEff (fun b => C ≤ b ∧ b < ((W.setCell ⟨g, 6, none⟩ u).alloc (.cells #[.int .i64 x.pos, .string (bt x.key), .string (bt x.field), .int .i64 x.kind, .string (bt x.elem), .int .i64 x.n, .slice av nv cv] 70)).heap.size ∧ ov.ownBlock ≠ some b) ((W.setCell ⟨g, 6, none⟩ u).alloc (.cells #[.int .i64 x.pos, .string (bt x.key), .string (bt x.field), .int .i64 x.kind, .string (bt x.elem), .int .i64 x.n, .slice av nv cv] 70)) (.slice (some ⟨(W.setCell ⟨g, 6, none⟩ u).heap.size, 0, none⟩) 1 1) [x] := by
  have hw : (W.setCell ⟨g, 6, none⟩ u).heap.size = W.heap.size := by simp [World.setCell]
  have hS : ((W.setCell ⟨g, 6, none⟩ u).alloc (.cells #[.int .i64 x.pos, .string (bt x.key), .string (bt x.field), .int .i64 x.kind, .string (bt x.elem), .int .i64 x.n, .slice av nv cv] 70)).heap.size = W.heap.size + 1 := by rw [← hw]; simp
  rw [hS]
  have hB : Below (W.setCell ⟨g, 6, none⟩ u).heap.size (W.setCell ⟨g, 6, none⟩ u) ((W.setCell ⟨g, 6, none⟩ u).alloc (.cells #[.int .i64 x.pos, .string (bt x.key), .string (bt x.field), .int .i64 x.kind, .string (bt x.elem), .int .i64 x.n, .slice av nv cv] 70)) := (Below.refl _ _).alloc (Nat.le_refl _) _
  have hin : Sq LDot (fun b => C ≤ b ∧ b < W.heap.size + 1 ∧ ov.ownBlock ≠ some b) ((W.setCell ⟨g, 6, none⟩ u).alloc (.cells #[.int .i64 x.pos, .string (bt x.key), .string (bt x.field), .int .i64 x.kind, .string (bt x.elem), .int .i64 x.n, .slice av nv cv] 70)) (.slice av nv cv) x.drops :=
    (Sq.agree hs fun b hb => (hB.block b (by rw [hw]; exact hb.2)).trans (Below.heap_setCell _ _ _ _ (show b ≠ g by have := hb.1; omega))).mono fun b hb => ⟨hb.1, by omega, fun e => by have := hg b e; omega⟩
  refine ⟨_, 1, cellsEf x (.slice av nv cv), rfl, Nat.le_refl _, by unfold maxLen; simp, (by simp), Rows.of_one ⟨_, rfl, hin⟩, fun _ => ⟨_, 0, rfl, ⟨by rw [hw]; omega, by rw [hw]; omega, fun e => by have := hg _ e; rw [hw] at this; omega⟩, fun i u' hu => ?_⟩⟩
  rw [Nat.zero_add]
  have := World.cell?_alloc_new (W.setCell ⟨g, 6, none⟩ u) #[.int .i64 x.pos, .string (bt x.key), .string (bt x.field), .int .i64 x.kind, .string (bt x.elem), .int .i64 x.n, .slice av nv cv] 70 i
  rw [this, ← Array.getElem?_toList]
  exact hu
end Go.Proofs.Ytlpcpbangmonaaa
namespace Go.Proofs.Ytlpcpbangmonaaa
open Go.RowKit Plain
set_option linter.unusedVariables false

theorem hasB_is (l : List PItem) (node seq : Int) : hasB l node seq = l.any fun x => isOfB node seq x.dot := rfl
theorem namesB_is (l : List PEff) (node seq : Int) : namesB l node seq = l.any fun e => e.drops.any (isOfB node seq) := rfl
theorem any_yes {α : Type} [Inhabited α] {l : List α} {p : α → Bool} {k : Nat} (hk : k < l.length) (h : p (l.getD k default) = true) : l.any p = true := by
  rw [List.any_eq_true]
  refine ⟨_, ?_, h⟩
  rw [show l.getD k default = l[k] by simp [List.getD, List.getElem?_eq_getElem hk]]
  exact List.getElem_mem hk
theorem any_no {α : Type} [Inhabited α] {l : List α} {p : α → Bool} (h : ∀ j, j < l.length → p (l.getD j default) = false) : l.any p = false := by
  rw [List.any_eq_false]
  intro d hd
  obtain ⟨j, hj, rfl⟩ := List.getElem_of_mem hd
  have := h j hj
  rw [show l.getD j default = l[j] by simp [List.getD, List.getElem?_eq_getElem hj]] at this
  rw [this]
  decide
end Go.Proofs.Ytlpcpbangmonaaa
