/- What append leaves where the target is the call's own and the source is any slice that reads as a list of 64-bit integers. -/
import Derived.Test.YtboaigkieammaaaSeq
import Derived.Laws.AppendOwnNone
namespace Go.Proofs.Ytboaigkieammaaa
open Go.RowKit Plain
set_option linter.unusedVariables false

theorem info2' : (Try.prog.info? 2).map (fun i => (i.zero, i.size, i.bytes)) = some (some (.int .i64 0), 1, 8) := by kernel_rfl

theorem wpList_append_seq {w : World} {ops : Array Oper} {rest : List Oper} {o : Oper} {act : Act} {Q : Exit → Act → World → Prop} (hgd : o.guard = none) (s x : Operand)
    (ho : o.op = .call { callee := .builtin .append, args := #[s, x], argTypes := #[29, 29] }) (B : Nat) {v : Value} {xs ys : List Int} {a : Option Addr} {n cap : Nat}
    (hs : act.eval s = v) (hown : Owns B w v xs) (hx : act.eval x = .slice a n cap) (hseq : Seq w (.slice a n cap) ys) (hnil : a = none → cap = 0) (hlen : xs.length + ys.length ≤ 1048576) (hbase : B ≤ w.heap.size)
    (h : ∀ v' w', Owns B w' v' (xs ++ ys) → w.grownBy w' v.ownBlock → wpList Try.prog ops Q rest (act.put o.dst v') w') : wpList Try.prog ops Q (o :: rest) act w := by
  obtain ⟨i0, hi, hz0, hz1, hz2⟩ := info_parts info2'
  obtain ⟨a', cap', hv, h1, h2, h3⟩ := hseq
  simp only [Value.slice.injEq] at hv
  obtain ⟨rfl, rfl, rfl⟩ := hv
  cases a with
  | none =>
    obtain rfl := hnil rfl
    obtain rfl : ys = [] := List.eq_nil_of_length_eq_zero (by omega)
    refine wpList_append_own_none hgd s x 29 ho B 2 i0 1 Try.underlying29 hi v _ _ hs hown hx (h v w ?_ (World.grownBy.refl _ _))
    rw [List.append_nil]; exact hown
  | some ad =>
    refine wpList_append_own_at _ hgd s x 29 ho B 2 i0 (.int .i64 0) 1 8 Try.underlying29 hi hz0 hz1 hz2 rfl (by decide) v _ _ hs hown ad ys.length cap (ys.map (Value.int .i64)) hx (by simp) ?_ (ints_oneCell _ _) (by unfold maxLen; omega) (by omega) hbase ?_
    · intro j u hu
      have hj : j < ys.length := by
        have := (List.getElem?_eq_some_iff.1 hu).1
        simpa using this
      obtain ⟨b, off, he, hc⟩ := h3 (by omega)
      cases he
      rw [getD_map ys j hj] at hu
      cases hu
      rw [Addr.add_lit]
      exact hc j hj
    · intro v' w' hown' hg _ _
      exact h v' w' (by unfold Owns; rw [List.length_append, List.map_append]; exact hown') hg

/-- an empty slice of the call's own -/
theorem Owns.empty (w : World) (B : Nat) (hB : B ≤ w.heap.size) : Owns B (w.alloc (.cells #[] 2)) (.slice (some ⟨w.heap.size, 0, none⟩) 0 0) [] :=
  World.ownsRow_lit w #[] 0 hB (Nat.zero_le _) rfl
theorem Owns.one (w : World) (B : Nat) (x : Int) (hB : B ≤ w.heap.size) : Owns B (w.alloc (.cells #[.int .i64 x] 2)) (.slice (some ⟨w.heap.size, 0, none⟩) 1 1) [x] :=
  World.ownsRow_lit w #[.int .i64 x] 1 hB (by unfold maxLen; omega) rfl
end Go.Proofs.Ytboaigkieammaaa
