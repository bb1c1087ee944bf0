/- Append behind which the old slice still reads as it did. -/
import Derived.Test.YtmbklheelinjfaaDoorWords
namespace Go.Proofs.YtmbklheelinjfaaDoor
open Go.RowKit Plain
set_option linter.unusedVariables false

theorem run_append_keep {w : World} (B : Nat) (ty : TypeId) {g n cap : Nat} {u : Value} {xs ys : Bytes} (hown : Owns B w (.slice (some ⟨g, 0, none⟩) n cap) xs) (hn : xs.length = n) (hseq : Seq w u ys) (hlen : xs.length + ys.length ≤ 1073741824) (hbase : B ≤ w.heap.size) :
    ∃ v' w', (Builtin.append_ #[22, 22] ty #[.slice (some ⟨g, 0, none⟩) n cap, u]).run Tryd.prog w = .ok v' w' ∧ Owns B w' v' (xs ++ ys) ∧ w.grownBy w' (some g) ∧ Seq w' (.slice (some ⟨g, 0, none⟩) n cap) xs := by
  obtain ⟨v', w', hr, ho, hgw, hat⟩ := run_append_seq B ty hown hseq hlen hbase
  refine ⟨v', w', hr, ho, hgw, ?_⟩
  obtain ⟨i0, hi, hz0, hz1, hz2⟩ := info_parts info2'
  have hs := hown.seq
  obtain ⟨a, c, rfl, h1, h2, h0, h3⟩ := hseq
  cases a with
  | none =>
    obtain rfl := h0 rfl
    obtain rfl : ys = [] := List.eq_nil_of_length_eq_zero (by omega)
    have hr' := run_append_owned_none (P := Tryd.prog) (w := w) B 22 ty 5 i0 1 Tryd.underlying22 hi _ _ _ hown
    simp only [List.length_nil] at hr
    rw [hr'] at hr
    simp only [Result.ok.injEq] at hr
    obtain ⟨rfl, rfl⟩ := hr
    exact hs
  | some ad =>
    have hnews : ∀ j u, (ys.map bv)[j]? = some u → w.cell? (ad.add j) = some u := by
      intro j u hu
      have hj : j < ys.length := by
        have := (List.getElem?_eq_some_iff.1 hu).1
        simpa using this
      obtain ⟨b, off, he, hc⟩ := h3 (by omega)
      cases he
      rw [getD_map ys j hj] at hu
      cases hu
      rw [Addr.add_lit]
      exact hc j hj
    rcases hown.2 with ⟨h, _⟩ | ⟨g', cap', cur, hv, hb, hg, hnc, hcm, hcs, htake⟩
    · simp at h
    · simp only [Value.slice.injEq, Option.some.injEq, Addr.mk.injEq, and_true] at hv
      obtain ⟨rfl, hnn, rfl⟩ := hv
      by_cases hroom : n + ys.length ≤ cap
      · have hr' := run_append_room (P := Tryd.prog) w 22 ty 5 i0 Tryd.underlying22 hi g n cap cur hg ad ys.length c (ys.map bv) (by rw [hz1]; simp) hnews (bytes_oneCell _) hroom (by rw [hz1, hcs]; simp; omega)
        rw [hr'] at hr
        simp only [Result.ok.injEq] at hr
        obtain ⟨hv', rfl⟩ := hr
        subst hv'
        have := ho.seq.first n (by simp; omega)
        rwa [List.take_left' hn] at this
      · have holds : ∀ j u, (xs.map bv)[j]? = some u → w.cell? ((⟨g, 0, none⟩ : Addr).add j) = some u := World.ownsRow.cells hown rfl
        have hr' := run_append_grow (P := Tryd.prog) w 22 ty 5 i0 (.int .u8 0) Tryd.underlying22 hi hz0 ⟨g, 0, none⟩ n cap (xs.map bv) (by rw [hz1]; simp; omega) holds ad ys.length c (ys.map bv) (by rw [hz1]; simp) hnews (by omega) (by omega) (growslice_fits (by omega) (by rw [hz2]; omega))
        rw [hr'] at hr
        simp only [Result.ok.injEq] at hr
        obtain ⟨-, rfl⟩ := hr
        exact (hs.of_cell (w' := w.drew) (fun _ => rfl)).below_alloc _
/-- at the operation -/
theorem wpList_append_keep {w : World} {ops : Array Oper} {rest : List Oper} {o : Oper} {act : Act} {Q : Exit → Act → World → Prop} (hw : Region.wanted o (yielded ops act.tmps) = true) (s x : Operand)
    (ho : o.op = .call { callee := .builtin .append, args := #[s, x], argTypes := #[22, 22] }) (B : Nat) {g n cap : Nat} {u : Value} {xs ys : Bytes}
    (hs : act.eval s = .slice (some ⟨g, 0, none⟩) n cap) (hown : Owns B w (.slice (some ⟨g, 0, none⟩) n cap) xs) (hn : xs.length = n) (hx : act.eval x = u) (hseq : Seq w u ys) (hlen : xs.length + ys.length ≤ 1073741824) (hbase : B ≤ w.heap.size)
    (h : ∀ v' w', Owns B w' v' (xs ++ ys) → w.grownBy w' (some g) → Seq w' (.slice (some ⟨g, 0, none⟩) n cap) xs → wpList Tryd.prog ops Q rest (act.put o.dst v') w') : wpList Tryd.prog ops Q (o :: rest) act w := by
  refine wpList_step fun K hK => ?_
  rw [if_pos hw]
  obtain ⟨v', w', hr, h2, h3, h4⟩ := run_append_keep B o.type hown hn hseq hlen hbase
  unfold Oper.wp execOp
  simp only [ho, resolve, invoke, builtin, Sem.run_bind, Sem.run_pure, Result.andThen_ok, List.map_toArray, List.map_cons, List.map_nil, hs, hx, hr]
  exact hK _ _ (h v' w' h2 h3 h4)
end Go.Proofs.YtmbklheelinjfaaDoor
