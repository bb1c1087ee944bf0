/- WORDS FOR ROWS THAT MAY BE CUT (a = a[:k:k]), OF NO PACKAGE: a row of slices in a block of the call's own, of which no more than a beginning may be reached; append to it. -/
import Derived.Test.YtehlbddcgnclaaaDoorList
import Derived.Test.YtehlbddcgnclaaaDoorBox
import Derived.ArgAppend
namespace Go.Proofs.YtehlbddcgnclaaaDoor
open Go.RowKit Plain
set_option linter.unusedVariables false

/-- v is nil, or a beginning of a block of the call's own that holds vs and maybe more -/
def CutV (B : Nat) (w : World) (v : Value) (vs : List Value) : Prop :=
  (v = .slice none 0 0 ∧ vs = []) ∨ ∃ g cap cur, v = .slice (some ⟨g, 0, none⟩) vs.length cap ∧ B ≤ g ∧ w.heap[g]? = some (.cells cur 22 (0, 0)) ∧ vs.length ≤ cap ∧ cap ≤ maxLen ∧ cap ≤ cur.size ∧ cur.toList.take vs.length = vs
theorem CutV.nil (B : Nat) (w : World) : CutV B w (.slice none 0 0) [] := .inl ⟨rfl, rfl⟩
theorem CutV.parts {B : Nat} {w : World} {v : Value} {vs : List Value} (h : CutV B w v vs) : ∃ a cap, v = .slice a vs.length cap ∧ vs.length ≤ cap ∧ (cap : Int) ≤ 9223372036854775807 ∧ (a = none → cap = 0) ∧ CutV B w (.slice a vs.length cap) vs := by
  have h' := h
  have hm : maxLen = 9223372036854775807 := rfl
  rcases h with ⟨rfl, rfl⟩ | ⟨g, cap, cur, rfl, -, -, h1, h2, -, -⟩
  · exact ⟨none, 0, rfl, Nat.le_refl _, by omega, (fun _ => rfl), h'⟩
  · exact ⟨_, cap, rfl, h1, by omega, (by simp), h'⟩
theorem CutV.row {B : Nat} {w : World} {v : Value} {vs : List Value} (h : CutV B w v vs) : RowOf w v vs := by
  rcases h with ⟨rfl, rfl⟩ | ⟨g, cap, cur, rfl, -, hg, h1, h2, -, ht⟩
  · exact RowOf.nil w
  · refine ⟨_, cap, rfl, h1, h2, (by simp), fun hp => ⟨g, 0, rfl, fun j u hj => ?_⟩⟩
    refine (cell_of_row w g (0 + j) cur _ _ hg).trans ?_
    rw [Nat.zero_add]
    have hlt := (List.getElem?_eq_some_iff.1 hj).1
    rw [← ht, List.getElem?_take, if_pos hlt] at hj
    simpa using hj
theorem CutV.kind {B : Nat} {w : World} {v : Value} {vs : List Value} (h : CutV B w v vs) : ∀ k, v.ownBlock = some k → B ≤ k ∧ ∃ cur, w.heap[k]? = some (.cells cur 22 (0, 0)) := by
  intro k hk
  rcases h with ⟨rfl, rfl⟩ | ⟨g, cap, cur, rfl, hb, hg, -⟩
  · simp [Value.ownBlock] at hk
  · simp [Value.ownBlock] at hk
    subst hk
    exact ⟨hb, cur, hg⟩
theorem CutV.lt {B : Nat} {w : World} {v : Value} {vs : List Value} (h : CutV B w v vs) : ∀ k, v.ownBlock = some k → B ≤ k := fun k hk => (h.kind k hk).1
theorem CutV.below {B N : Nat} {w w' : World} {v : Value} {vs : List Value} (h : CutV B w v vs) (hb : Below N w w') (hN : w.heap.size ≤ N) : CutV B w' v vs := by
  rcases h with hn | ⟨g, cap, cur, hv, h0, hg, hr⟩
  · exact .inl hn
  · have hlt : g < w.heap.size := (Array.getElem?_eq_some_iff.1 hg).1
    exact .inr ⟨g, cap, cur, hv, h0, (hb.block g (by omega)).trans hg, hr⟩
theorem CutV.setBox {t : TypeId} {B k : Nat} {w : World} {v x y : Value} {vs : List Value} (h : CutV B w v vs) (hb : IsBox t w k x y) (hne : t ≠ 22) (p q : Value) : CutV B ((w.setCell ⟨k, 0, none⟩ p).setCell ⟨k, 1, none⟩ q) v vs := by
  rcases h with hn | ⟨g, cap, cur, hv, h0, hg, hr⟩
  · exact .inl hn
  · have hgk : g ≠ k := by
      rintro rfl
      unfold IsBox at hb
      rw [hb] at hg
      simp only [Option.some.injEq, Obj.cells.injEq] at hg
      exact hne hg.2.1
    exact .inr ⟨g, cap, cur, hv, h0, (Below.heap_setCell _ _ _ _ hgk).trans ((Below.heap_setCell _ _ _ _ hgk).trans hg), hr⟩
theorem CutV.first {B : Nat} {w : World} {a : Option Addr} {n c : Nat} {vs : List Value} (h : CutV B w (.slice a n c) vs) (k : Nat) (hk : k ≤ vs.length) : CutV B w (.slice a k k) (vs.take k) := by
  rcases h with ⟨hv, rfl⟩ | ⟨g, cap, cur, hv, h0, hg, h1, h2, h3, ht⟩
  · simp at hk
    subst hk
    simp only [Value.slice.injEq] at hv
    obtain ⟨rfl, -, -⟩ := hv
    exact .inl ⟨rfl, rfl⟩
  · simp only [Value.slice.injEq] at hv
    obtain ⟨rfl, -, -⟩ := hv
    have hl : (vs.take k).length = k := by rw [List.length_take]; omega
    refine .inr ⟨g, k, cur, by rw [hl], h0, hg, by rw [hl]; exact Nat.le_refl _, by omega, by omega, ?_⟩
    rw [hl, ← ht, List.take_take, Nat.min_eq_left hk]

/-- a variable of another type is not the row that an append grows -/
theorem IsBox.grownC {t : TypeId} {B g : Nat} {w w' : World} {v x y : Value} {vs : List Value} (h : IsBox t w g x y) (hc : CutV B w v vs) (hg : w.grownBy w' v.ownBlock) (hne : t ≠ 22) : IsBox t w' g x y := by
  refine (hg.block g h.lt ?_).trans h
  intro ek
  obtain ⟨-, cur, hk⟩ := hc.kind g ek.symm
  unfold IsBox at h
  rw [h] at hk
  simp only [Option.some.injEq, Obj.cells.injEq] at hk
  exact hne hk.2.1
/-- nor are bytes of the call's own -/
theorem Owns.keptC {B C : Nat} {w w' : World} {u v : Value} {xs : Bytes} {vs : List Value} (hu : Owns B w u xs) (hc : CutV C w v vs) (hg : w.grownBy w' v.ownBlock) : Owns B w' u xs := by
  refine World.ownsRow.kept hu hg ?_
  cases hb : u.ownBlock with
  | none => exact .inl rfl
  | some k =>
    right
    intro e
    obtain ⟨c, fz, hk⟩ := Lib.ownsRow_kind hu k hb
    obtain ⟨-, cur, hk'⟩ := hc.kind k e.symm
    rw [hk] at hk'
    simp at hk'
theorem CutV.of_own {B : Nat} {w : World} {v : Value} {vs : List Value} (h : OwnsV B w v vs) : CutV B w v vs := by
  rcases h.2 with ⟨rfl, hn⟩ | ⟨g, cap, cur, hv, hb, hg, h1, h2, h3, ht⟩
  · exact .inl ⟨rfl, List.eq_nil_of_length_eq_zero hn⟩
  · exact .inr ⟨g, cap, cur, hv, hb, hg, h1, h2, by omega, by simpa using ht⟩
theorem run_append_cut {w : World} (B : Nat) (ty : TypeId) {v u : Value} {vs us : List Value} (hown : CutV B w v vs) (hrow : RowOf w u us) (hp : 0 < us.length) (h1 : ∀ x ∈ us, x.oneCell' = true) (hlen : vs.length + us.length ≤ 1073741824) (hbase : B ≤ w.heap.size) :
    ∃ v' w', (Builtin.append_ #[34, 34] ty #[v, u]).run Tryd.prog w = .ok v' w' ∧ CutV B w' v' (vs ++ us) ∧ w.grownBy w' v.ownBlock := by
  rcases hown with ⟨rfl, rfl⟩ | ⟨g, cap, cur, rfl, hb, hg, hnc, hcm, hcs, ht⟩
  · obtain ⟨v', w', hr, ho, hgr, -⟩ := run_append_row B ty (OwnsV.nil B w) hrow h1 hlen hbase
    exact ⟨v', w', hr, .of_own ho, hgr⟩
  · have hown : CutV B w (.slice (some ⟨g, 0, none⟩) vs.length cap) vs := .inr ⟨g, cap, cur, rfl, hb, hg, hnc, hcm, hcs, ht⟩
    obtain ⟨i0, hi, hz0, hz1, hz2⟩ := info_parts info2R
    obtain ⟨a, c, rfl, g1, g2, g0, g3⟩ := hrow
    obtain ⟨bb, oo, rfl, -⟩ := g3 hp
    obtain ⟨ad, had⟩ : ∃ ad : Addr, ad = ⟨bb, oo, none⟩ := ⟨_, rfl⟩
    rw [← had] at g3 ⊢
    have hnews : ∀ j x, us[j]? = some x → w.cell? (ad.add j) = some x := fun j x hu => by
      have hj := (List.getElem?_eq_some_iff.1 hu).1
      obtain ⟨b, off, he, hc⟩ := g3 (by omega)
      cases he
      rw [Addr.add_lit]
      exact hc j x hu
    by_cases hroom : vs.length + us.length ≤ cap
    · have hr := run_append_room (P := Tryd.prog) w 34 ty 22 i0 Tryd.underlying34 hi g vs.length cap cur hg ad us.length c us (by rw [hz1]; simp) hnews h1 hroom (by rw [hz1]; omega)
      refine ⟨_, _, hr, .inr ⟨g, cap, _, by rw [List.length_append], hb, setRow_heap w g cur _ _ _ hg, by rw [List.length_append]; exact hroom, hcm, ?_, ?_⟩, ⟨rfl, rfl, rfl, by simp, fun k _ hk => setRow_other w g k _ (fun e => hk (by simp [Value.ownBlock, e]))⟩⟩
      · simp only [List.size_toArray, List.length_append, List.length_take, List.length_drop, Array.length_toList, hz1]
        omega
      · simp only [hz1, Nat.mul_one]
        rw [ht, List.length_append, ← List.length_append]
        exact List.take_left
    · obtain ⟨v', w', hr, ho, hgr⟩ := run_append_arg_grows (P := Tryd.prog) w 34 ty 22 i0 (.slice none 0 0) 1 24 Tryd.underlying34 hi hz0 hz1 hz2 rfl (by decide) ⟨g, 0, none⟩ vs.length cap vs (by simp) (fun j x hx => by
          have hlt := (List.getElem?_eq_some_iff.1 hx).1
          rw [Addr.add_lit, Nat.zero_add, cell_of_row w g j cur _ _ hg]
          rw [← ht, List.getElem?_take, if_pos hlt] at hx
          simpa using hx) ad us.length c us (by simp) hnews (by omega) (by unfold maxLen; omega) (by omega)
      refine ⟨v', w', hr, ?_, ⟨hgr.os, hgr.tape, hgr.output, hgr.size, fun k hk _ => hgr.block k hk (by simp)⟩⟩
      have hO : OwnsV w.heap.size w' v' (vs ++ us) := by unfold OwnsV; rw [List.length_append]; exact ho
      rcases CutV.of_own hO with hn | ⟨g', cap', cur', e1, e2, e3⟩
      · exact .inl hn
      · exact .inr ⟨g', cap', cur', e1, by omega, e3⟩
/-- append of a row to a row that may be cut -/
theorem wpList_append_cut {w : World} {ops : Array Oper} {rest : List Oper} {o : Oper} {act : Act} {Q : Exit → Act → World → Prop} (hw : Region.wanted o (yielded ops act.tmps) = true) (s x : Operand)
    (ho : o.op = .call { callee := .builtin .append, args := #[s, x], argTypes := #[34, 34] }) (B : Nat) {v u : Value} {vs us : List Value}
    (hs : act.eval s = v) (hown : CutV B w v vs) (hx : act.eval x = u) (hrow : RowOf w u us) (hp : 0 < us.length) (h1 : ∀ x ∈ us, x.oneCell' = true) (hlen : vs.length + us.length ≤ 1073741824) (hbase : B ≤ w.heap.size)
    (h : ∀ v' w', CutV B w' v' (vs ++ us) → w.grownBy w' v.ownBlock → wpList Tryd.prog ops Q rest (act.put o.dst v') w') : wpList Tryd.prog ops Q (o :: rest) act w := by
  refine wpList_step fun K hK => ?_
  rw [if_pos hw]
  obtain ⟨v', w', hr, h2, h3⟩ := run_append_cut B o.type hown hrow hp h1 hlen hbase
  unfold Oper.wp execOp
  simp only [ho, resolve, invoke, builtin, Sem.run_bind, Sem.run_pure, Result.andThen_ok, List.map_toArray, List.map_cons, List.map_nil, hs, hx, hr]
  exact hK _ _ (h v' w' h2 h3)
/-- bytes of the call's own stay when a variable of another type is stored into -/
theorem Owns.setBox {t : TypeId} {B k : Nat} {w : World} {v x y : Value} {xs : Bytes} (h : Owns B w v xs) (hb : IsBox t w k x y) (hne : t ≠ 5) (p q : Value) : Owns B ((w.setCell ⟨k, 0, none⟩ p).setCell ⟨k, 1, none⟩ q) v xs := by
  refine ⟨h.1, ?_⟩
  rcases h.2 with hn | ⟨g, cap, cur, hv, hb', hg, hr⟩
  · exact .inl hn
  · have hgk : g ≠ k := by
      rintro rfl
      unfold IsBox at hb
      rw [hb] at hg
      simp only [Option.some.injEq, Obj.cells.injEq] at hg
      exact hne hg.2.1
    exact .inr ⟨g, cap, cur, hv, hb', (Below.heap_setCell _ _ _ _ hgk).trans ((Below.heap_setCell _ _ _ _ hgk).trans hg), hr⟩
/-- the elements as lists -/
theorem CutV.seqR {B : Nat} {w u : World} {v : Value} {vs : List Value} {A : List Bytes} (h : CutV B u v vs) (hl : vs.length = A.length) (hb : Below w.heap.size w u) (he : ∀ j x, vs[j]? = some x → Seq w x (A.getD j [])) : SeqR u v A :=
  ⟨vs, hl, h.row, fun j x hj => (he j x hj).below hb⟩
theorem el_take {w : World} {vs : List Value} {A : List Bytes} (he : ∀ j x, vs[j]? = some x → Seq w x (A.getD j [])) (m : Nat) : ∀ j x, (vs.take m)[j]? = some x → Seq w x ((A.take m).getD j []) := by
  intro j x hj
  rw [List.getElem?_take] at hj
  split at hj
  · rename_i hjm
    have := he j x hj
    simpa [List.getD, List.getElem?_take, hjm] using this
  · cases hj
theorem el_push {w : World} {vs : List Value} {A : List Bytes} {u : Value} {p : Bytes} (hl : vs.length = A.length) (he : ∀ j x, vs[j]? = some x → Seq w x (A.getD j [])) (hu : Seq w u p) : ∀ j x, (vs ++ [u])[j]? = some x → Seq w x ((A ++ [p]).getD j []) := by
  intro j x hj
  by_cases hlt : j < vs.length
  · rw [List.getElem?_append_left hlt] at hj
    have := he j x hj
    simpa [List.getD, List.getElem?_append_left (show j < A.length by omega)] using this
  · obtain rfl : j = vs.length := by
      have := (List.getElem?_eq_some_iff.1 hj).1
      simp at this
      omega
    simp at hj
    subst hj
    simpa [List.getD, hl] using hu
end Go.Proofs.YtehlbddcgnclaaaDoor
