/- What append leaves where the target is the call's own and the source is any slice that reads as a list of bytes; the copy that the document's own Copy makes. -/
import Derived.Test.YtjggnihclihhaaaDoorSeq
import Derived.Laws.AppendOwnNone
namespace Go.Proofs.YtjggnihclihhaaaDoor
open Go.RowKit Plain
set_option linter.unusedVariables false

theorem info2' : (Tryd.prog.info? 5).map (fun i => (i.zero, i.size, i.bytes)) = some (some (.int .u8 0), 1, 1) := by kernel_rfl

theorem bytes_oneCell (ys : Bytes) : ∀ u ∈ ys.map bv, u.oneCell' = true := by
  intro u hu
  obtain ⟨c, -, rfl⟩ := List.mem_map.1 hu
  rfl

theorem wpList_append_seq {w : World} {ops : Array Oper} {rest : List Oper} {o : Oper} {act : Act} {Q : Exit → Act → World → Prop} (hgd : o.guard = none) (s x : Operand)
    (ho : o.op = .call { callee := .builtin .append, args := #[s, x], argTypes := #[22, 22] }) (B : Nat) {v : Value} {xs ys : Bytes} {a : Option Addr} {n cap : Nat}
    (hs : act.eval s = v) (hown : Owns B w v xs) (hx : act.eval x = .slice a n cap) (hseq : Seq w (.slice a n cap) ys) (hnil : a = none → cap = 0) (hlen : xs.length + ys.length ≤ 1048576) (hbase : B ≤ w.heap.size)
    (h : ∀ v' w', Owns B w' v' (xs ++ ys) → w.grownBy w' v.ownBlock → wpList Tryd.prog ops Q rest (act.put o.dst v') w') : wpList Tryd.prog ops Q (o :: rest) act w := by
  obtain ⟨i0, hi, hz0, hz1, hz2⟩ := info_parts info2'
  obtain ⟨a', cap', hv, h1, h2, h3⟩ := hseq
  simp only [Value.slice.injEq] at hv
  obtain ⟨rfl, rfl, rfl⟩ := hv
  cases a with
  | none =>
    obtain rfl := hnil rfl
    obtain rfl : ys = [] := List.eq_nil_of_length_eq_zero (by omega)
    refine wpList_append_own_none hgd s x 22 ho B 5 i0 1 Tryd.underlying22 hi v _ _ hs hown hx (h v w ?_ (World.grownBy.refl _ _))
    rw [List.append_nil]; exact hown
  | some ad =>
    refine wpList_append_own_at _ hgd s x 22 ho B 5 i0 (.int .u8 0) 1 1 Tryd.underlying22 hi hz0 hz1 hz2 rfl (by decide) v _ _ hs hown ad ys.length cap (ys.map bv) hx (by simp) ?_ (bytes_oneCell _) (by unfold maxLen; omega) (by omega) hbase ?_
    · intro j u hu
      have hj : j < ys.length := by
        have := (List.getElem?_eq_some_iff.1 hu).1
        simpa using this
      obtain ⟨b, off, he, hc⟩ := h3 (by omega)
      cases he
      rw [getD_map ys j hj] at hu
      cases hu
      rw [Addr.add_lit]
      exact hc j hj
    · intro v' w' hown' hg _ _
      exact h v' w' (by unfold Owns; rw [List.length_append, List.map_append]; exact hown') hg

/-- an empty slice of the call's own -/
theorem Owns.empty (w : World) (B : Nat) (hB : B ≤ w.heap.size) : Owns B (w.alloc (.cells #[] 5)) (.slice (some ⟨w.heap.size, 0, none⟩) 0 0) [] :=
  World.ownsRow_lit w #[] 0 hB (Nat.zero_le _) rfl
theorem Owns.one (w : World) (B : Nat) (x : BitVec 8) (hB : B ≤ w.heap.size) : Owns B (w.alloc (.cells #[bv x] 5)) (.slice (some ⟨w.heap.size, 0, none⟩) 1 1) [x] :=
  World.ownsRow_lit w #[bv x] 1 hB (by unfold maxLen; omega) rfl

/-- what Copy gives: a slice of the call's own that reads as the other did -/
def Copied (w : World) (xs : Bytes) (e : Ending) (w' : World) : Prop := ∃ v, e = .returned v ∧ Owns w.heap.size w' v xs ∧ Below w.heap.size w w'
theorem copy_any (a : Option Addr) (n cap : Nat) (xs : Bytes) (w : World) (hs : Seq w (.slice a n cap) xs) (hnil : a = none → cap = 0) (hlen : xs.length ≤ 1048576) :
    Calls Tryd.prog 12 #[.slice a n cap] w (Copied w xs) := by
  have hga : Below w.heap.size w (w.alloc (.cells #[] 5)) := (Below.refl _ _).alloc (Nat.le_refl _) _
  have S1 := Lib.hid (Seq.below hs hga)
  have N1 := Lib.hid hnil
  clear hs hnil
  go_enter Tryd.func12, Tryd.ntmps12
  go_wp2_with (at_builtin; refine wpList_append_seq rfl (.tmp 3) (.tmp 4) rfl w.heap.size rfl (Owns.empty w _ (Nat.le_refl _)) rfl S1.out N1.out (by simp; omega) (by simp) ?_)
  intro v1 W3 hv1 hg3
  have hgb : Below w.heap.size w W3 := hga.grown hg3 (by simp) (by intro k hk; cases hk; exact Nat.le_refl _)
  have V := Lib.hid hv1
  clear hg3 hga hv1
  go_wp2_with fail
  go_ret
  exact ⟨_, rfl, V.out, hgb⟩
end Go.Proofs.YtjggnihclihhaaaDoor
