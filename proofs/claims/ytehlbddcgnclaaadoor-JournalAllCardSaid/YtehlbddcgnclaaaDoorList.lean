/- WORDS FOR ROWS OF BYTES ([][]byte), OF NO PACKAGE: a slice whose cells are given values; slices that read as a list of lists of bytes; rows of the call's own; append of a row, and of one element; what the argument hands over. -/
import Derived.Test.YtehlbddcgnclaaaDoorWords
import Derived.Deep.Matrix
import Derived.Lib.OwnKind
namespace Go.Proofs.YtehlbddcgnclaaaDoor
open Go.RowKit Plain
set_option linter.unusedVariables false

/-- v is a slice whose cells hold vs -/
def RowOf (w : World) (v : Value) (vs : List Value) : Prop :=
  ∃ a cap, v = .slice a vs.length cap ∧ vs.length ≤ cap ∧ cap ≤ maxLen ∧ (a = none → cap = 0) ∧
    (0 < vs.length → ∃ b off, a = some ⟨b, off, none⟩ ∧ ∀ j u, vs[j]? = some u → w.cell? ⟨b, off + j, none⟩ = some u)
/-- v is a slice whose elements read as the lists ls -/
def SeqR (w : World) (v : Value) (ls : List Bytes) : Prop :=
  ∃ vs, vs.length = ls.length ∧ RowOf w v vs ∧ ∀ j u, vs[j]? = some u → Seq w u (ls.getD j [])

theorem RowOf.nil (w : World) : RowOf w (.slice none 0 0) [] := ⟨none, 0, rfl, Nat.zero_le _, Nat.zero_le _, fun _ => rfl, fun h => absurd h (by simp)⟩
theorem RowOf.below {w w' : World} {v : Value} {vs : List Value} (h : RowOf w v vs) (hb : Below w.heap.size w w') : RowOf w' v vs := by
  obtain ⟨a, cap, rfl, h1, h2, h0, h3⟩ := h
  refine ⟨a, cap, rfl, h1, h2, h0, fun hp => ?_⟩
  obtain ⟨b, off, rfl, hc⟩ := h3 hp
  refine ⟨b, off, rfl, fun j u hj => ?_⟩
  have hlt : b < w.heap.size := World.block_lt_of_cell? w ⟨b, off + j, none⟩ (hc j u hj)
  exact (hb.cell (p := ⟨b, off + j, none⟩) hlt).trans (hc j u hj)
theorem RowOf.below_alloc {w : World} {v : Value} {vs : List Value} (h : RowOf w v vs) (o : Obj) : RowOf (w.alloc o) v vs := h.below ((Below.refl _ _).alloc (Nat.le_refl _) _)
theorem RowOf.first {w : World} {a : Option Addr} {n cap : Nat} {vs : List Value} (h : RowOf w (.slice a n cap) vs) (k : Nat) (hk : k ≤ vs.length) : RowOf w (.slice a k cap) (vs.take k) := by
  obtain ⟨a', cap', hv, h1, h2, h0, h3⟩ := h
  simp only [Value.slice.injEq] at hv
  obtain ⟨rfl, rfl, rfl⟩ := hv
  have hl : (vs.take k).length = k := by rw [List.length_take]; omega
  refine ⟨a, cap, by rw [hl], by omega, h2, h0, fun hp => ?_⟩
  obtain ⟨b, off, rfl, hc⟩ := h3 (by omega)
  refine ⟨b, off, rfl, fun j u hj => hc j u ?_⟩
  rw [List.getElem?_take] at hj
  split at hj
  · exact hj
  · cases hj

theorem SeqR.nil (w : World) : SeqR w (.slice none 0 0) [] := ⟨[], rfl, RowOf.nil w, fun j u h => by simp at h⟩
theorem SeqR.below {w w' : World} {v : Value} {ls : List Bytes} (h : SeqR w v ls) (hb : Below w.heap.size w w') : SeqR w' v ls := by
  obtain ⟨vs, h1, h2, h3⟩ := h
  exact ⟨vs, h1, h2.below hb, fun j u hj => (h3 j u hj).below hb⟩
theorem SeqR.below_alloc {w : World} {v : Value} {ls : List Bytes} (h : SeqR w v ls) (o : Obj) : SeqR (w.alloc o) v ls := h.below ((Below.refl _ _).alloc (Nat.le_refl _) _)
theorem SeqR.of_cell {w w' : World} {v : Value} {ls : List Bytes} (h : SeqR w v ls) (hc : ∀ a, w'.cell? a = w.cell? a) : SeqR w' v ls := by
  obtain ⟨vs, h1, ⟨a, cap, rfl, g1, g2, g0, g3⟩, h3⟩ := h
  refine ⟨vs, h1, ⟨a, cap, rfl, g1, g2, g0, fun hp => ?_⟩, fun j u hj => (h3 j u hj).of_cell hc⟩
  obtain ⟨b, off, rfl, g⟩ := g3 hp
  exact ⟨b, off, rfl, fun j u hj => (hc _).trans (g j u hj)⟩
theorem SeqR.parts {w : World} {v : Value} {ls : List Bytes} (h : SeqR w v ls) : ∃ a cap, v = .slice a ls.length cap ∧ ls.length ≤ cap ∧ cap ≤ maxLen ∧ (a = none → cap = 0) ∧ SeqR w (.slice a ls.length cap) ls := by
  have h' := h
  obtain ⟨vs, h1, ⟨a, cap, rfl, g1, g2, g0, -⟩, h3⟩ := h
  rw [h1] at h' g1 ⊢
  exact ⟨a, cap, rfl, g1, g2, g0, h'⟩
/-- where there is something it lies in a block -/
theorem SeqR.spot {w : World} {v : Value} {ls : List Bytes} (h : SeqR w v ls) (hp : 0 < ls.length) : ∃ b o cap, v = .slice (some ⟨b, o, none⟩) ls.length cap ∧ ls.length ≤ cap ∧ cap ≤ maxLen ∧ SeqR w (.slice (some ⟨b, o, none⟩) ls.length cap) ls ∧
    ∀ j, j < ls.length → ∃ a n c, w.cell? ⟨b, o + j, none⟩ = some (.slice a n c) ∧ n = (ls.getD j []).length ∧ n ≤ c ∧ c ≤ maxLen ∧ (a = none → c = 0) ∧ Seq w (.slice a n c) (ls.getD j []) := by
  have h' := h
  obtain ⟨vs, h1, ⟨a, cap, rfl, g1, g2, g0, g3⟩, h3⟩ := h
  obtain ⟨b, o, rfl, hc⟩ := g3 (by omega)
  refine ⟨b, o, cap, by rw [h1], by omega, g2, by rw [h1] at h'; exact h', fun j hj => ?_⟩
  obtain ⟨u, hu⟩ : ∃ u, vs[j]? = some u := ⟨_, List.getElem?_eq_getElem (by omega)⟩
  obtain ⟨a', c', rfl, k1, k2, k0, k3⟩ := (h3 j u hu).parts
  exact ⟨a', _, c', hc j _ hu, rfl, k1, k2, k0, k3⟩
theorem SeqR.first {w : World} {a : Option Addr} {n cap : Nat} {ls : List Bytes} (h : SeqR w (.slice a n cap) ls) (k : Nat) (hk : k ≤ ls.length) : SeqR w (.slice a k cap) (ls.take k) := by
  obtain ⟨vs, h1, h2, h3⟩ := h
  refine ⟨vs.take k, by rw [List.length_take, List.length_take, h1], h2.first k (by omega), fun j u hj => ?_⟩
  rw [List.getElem?_take] at hj
  split at hj
  · rename_i hjk
    have := h3 j u hj
    simpa [List.getD, hjk] using this
  · cases hj

/-! ### rows of the call's own -/
def OwnsV (B : Nat) (w : World) (v : Value) (vs : List Value) : Prop := w.ownsRow B 22 1 v vs.length vs
theorem OwnsV.row {B : Nat} {w : World} {v : Value} {vs : List Value} (h : OwnsV B w v vs) : RowOf w v vs := by
  have h' := h
  rcases h.2 with ⟨rfl, hn⟩ | ⟨g, cap, cur, rfl, hb, hg, hnc, hcm, hcs, htake⟩
  · obtain rfl : vs = [] := List.eq_nil_of_length_eq_zero hn
    exact RowOf.nil w
  · refine ⟨_, cap, rfl, hnc, hcm, (by simp), fun hp => ⟨g, 0, rfl, fun j u hj => ?_⟩⟩
    have hlt := (List.getElem?_eq_some_iff.1 hj).1
    have := World.ownsRow.cellAt h' j (by omega)
    rw [Nat.zero_add, this]; exact hj
theorem OwnsV.nil (B : Nat) (w : World) : OwnsV B w (.slice none 0 0) [] := World.ownsRow_nil _ _ _ _
theorem OwnsV.lt {B : Nat} {w : World} {v : Value} {vs : List Value} (h : OwnsV B w v vs) : ∀ k, v.ownBlock = some k → B ≤ k ∧ k < w.heap.size := World.ownsRow.lt h
theorem OwnsV.alloc {B : Nat} {w : World} {v : Value} {vs : List Value} (h : OwnsV B w v vs) (o : Obj) : OwnsV B (w.alloc o) v vs := World.ownsRow.alloc h o
theorem OwnsV.below {B N : Nat} {w w' : World} {v : Value} {vs : List Value} (h : OwnsV B w v vs) (hb : Below N w w') (hN : w.heap.size ≤ N) : OwnsV B w' v vs := by
  refine ⟨h.1, ?_⟩
  rcases h.2 with hn | ⟨g, cap, cur, hv, hb', hg, hr⟩
  · exact .inl hn
  · have hlt : g < w.heap.size := (Array.getElem?_eq_some_iff.1 hg).1
    exact .inr ⟨g, cap, cur, hv, hb', (hb.block g (by omega)).trans hg, hr⟩
theorem OwnsV.empty (w : World) (B : Nat) (hB : B ≤ w.heap.size) : OwnsV B (w.alloc (.cells #[] 22)) (.slice (some ⟨w.heap.size, 0, none⟩) 0 0) [] :=
  World.ownsRow_lit w #[] 0 hB (Nat.zero_le _) rfl

theorem info2R : (Tryd.prog.info? 22).map (fun i => (i.zero, i.size, i.bytes)) = some (some (.slice none 0 0), 1, 24) := by kernel_rfl

theorem run_append_row {w : World} (B : Nat) (ty : TypeId) {v u : Value} {vs us : List Value} (hown : OwnsV B w v vs) (hrow : RowOf w u us) (h1 : ∀ x ∈ us, x.oneCell' = true) (hlen : vs.length + us.length ≤ 1073741824) (hbase : B ≤ w.heap.size) :
    ∃ v' w', (Builtin.append_ #[34, 34] ty #[v, u]).run Tryd.prog w = .ok v' w' ∧ OwnsV B w' v' (vs ++ us) ∧ w.grownBy w' v.ownBlock ∧ (v'.ownBlock = v.ownBlock ∨ v'.ownBlock = some w.heap.size) := by
  obtain ⟨i0, hi, hz0, hz1, hz2⟩ := info_parts info2R
  obtain ⟨a, cap, rfl, g1, g2, g0, g3⟩ := hrow
  cases a with
  | none =>
    obtain rfl := g0 rfl
    obtain rfl : us = [] := List.eq_nil_of_length_eq_zero (by omega)
    refine ⟨v, w, run_append_owned_none (P := Tryd.prog) (w := w) B 34 ty 22 i0 1 Tryd.underlying34 hi v _ _ hown, ?_, World.grownBy.refl _ _, .inl rfl⟩
    rw [List.append_nil]; exact hown
  | some ad =>
    obtain ⟨v', w', hr, ho, hg, -, hat⟩ := run_append_own_at (P := Tryd.prog) w B 34 ty 22 i0 (.slice none 0 0) 1 24 Tryd.underlying34 hi hz0 hz1 hz2 rfl (by decide) v _ _ hown ad us.length cap us (by simp) (fun j u hu => by
        have hj := (List.getElem?_eq_some_iff.1 hu).1
        obtain ⟨b, off, he, hc⟩ := g3 (by omega)
        cases he
        rw [Addr.add_lit]
        exact hc j u hu) h1 (by unfold maxLen; omega) (by omega) hbase
    exact ⟨v', w', hr, by unfold OwnsV; rw [List.length_append]; exact ho, hg, hat⟩
/-- append of a row to a row of the call's own; the operation is wanted, whatever its guard -/
theorem wpList_append_row {w : World} {ops : Array Oper} {rest : List Oper} {o : Oper} {act : Act} {Q : Exit → Act → World → Prop} (hw : Region.wanted o (yielded ops act.tmps) = true) (s x : Operand)
    (ho : o.op = .call { callee := .builtin .append, args := #[s, x], argTypes := #[34, 34] }) (B : Nat) {v u : Value} {vs us : List Value}
    (hs : act.eval s = v) (hown : OwnsV B w v vs) (hx : act.eval x = u) (hrow : RowOf w u us) (h1 : ∀ x ∈ us, x.oneCell' = true) (hlen : vs.length + us.length ≤ 1073741824) (hbase : B ≤ w.heap.size)
    (h : ∀ v' w', OwnsV B w' v' (vs ++ us) → w.grownBy w' v.ownBlock → (v'.ownBlock = v.ownBlock ∨ v'.ownBlock = some w.heap.size) → wpList Tryd.prog ops Q rest (act.put o.dst v') w') : wpList Tryd.prog ops Q (o :: rest) act w := by
  refine wpList_step fun K hK => ?_
  rw [if_pos hw]
  obtain ⟨v', w', hr, h2, h3, h4⟩ := run_append_row B o.type hown hrow h1 hlen hbase
  unfold Oper.wp execOp
  simp only [ho, resolve, invoke, builtin, Sem.run_bind, Sem.run_pure, Result.andThen_ok, List.map_toArray, List.map_cons, List.map_nil, hs, hx, hr]
  exact hK _ _ (h v' w' h2 h3 h4)

/-- what a row that reads as lists of bytes holds: slices, one cell each -/
theorem seq_one {w : World} {u : Value} {xs : Bytes} (h : Seq w u xs) : u.oneCell' = true := by
  obtain ⟨a, cap, rfl, -⟩ := h
  rfl
theorem SeqR.row {w : World} {v : Value} {ls : List Bytes} (h : SeqR w v ls) : ∃ vs, vs.length = ls.length ∧ RowOf w v vs ∧ (∀ x ∈ vs, x.oneCell' = true) ∧ ∀ j u, vs[j]? = some u → Seq w u (ls.getD j []) := by
  obtain ⟨vs, h1, h2, h3⟩ := h
  refine ⟨vs, h1, h2, fun x hx => ?_, h3⟩
  obtain ⟨j, hj, rfl⟩ := List.getElem_of_mem hx
  exact seq_one (h3 j _ (List.getElem?_eq_getElem hj))
/-- one element in a block of its own -/
theorem rowOf_one (w : World) (u : Value) (fr : Nat × Nat) : RowOf (w.alloc (.cells #[u] 22 fr)) (.slice (some ⟨w.heap.size, 0, none⟩) 1 1) [u] := by
  refine ⟨_, 1, rfl, Nat.le_refl _, by unfold maxLen; omega, (by simp), fun _ => ⟨w.heap.size, 0, rfl, fun j x hj => ?_⟩⟩
  match j, hj with
  | 0, hj =>
    simp at hj
    subst hj
    exact cell_of_row _ w.heap.size 0 _ 22 fr (heap_alloc_new w _)

/-- a row of the call's own whose elements are slices of bytes of the call's own -/
def OwnsR (B : Nat) (w : World) (v : Value) (ls : List Bytes) : Prop :=
  ∃ vs, vs.length = ls.length ∧ OwnsV B w v vs ∧ ∀ j u, vs[j]? = some u → Owns B w u (ls.getD j [])
theorem OwnsR.nil (B : Nat) (w : World) : OwnsR B w (.slice none 0 0) [] := ⟨[], rfl, OwnsV.nil B w, fun j u h => by simp at h⟩
theorem OwnsR.seqR {B : Nat} {w : World} {v : Value} {ls : List Bytes} (h : OwnsR B w v ls) : SeqR w v ls := by
  obtain ⟨vs, h1, h2, h3⟩ := h
  exact ⟨vs, h1, h2.row, fun j u hj => (h3 j u hj).seq⟩
theorem OwnsR.below {B N : Nat} {w w' : World} {v : Value} {ls : List Bytes} (h : OwnsR B w v ls) (hb : Below N w w') (hN : w.heap.size ≤ N) : OwnsR B w' v ls := by
  obtain ⟨vs, h1, h2, h3⟩ := h
  exact ⟨vs, h1, h2.below hb hN, fun j u hj => (h3 j u hj).below hb hN⟩
theorem OwnsR.alloc {B : Nat} {w : World} {v : Value} {ls : List Bytes} (h : OwnsR B w v ls) (o : Obj) : OwnsR B (w.alloc o) v ls := h.below ((Below.refl w.heap.size w).alloc (Nat.le_refl _) o) (Nat.le_refl _)
theorem OwnsR.mono {B C : Nat} {w : World} {v : Value} {ls : List Bytes} (h : OwnsR B w v ls) (hc : C ≤ B) : OwnsR C w v ls := by
  obtain ⟨vs, h1, ⟨h2, h2'⟩, h3⟩ := h
  refine ⟨vs, h1, ⟨h2, ?_⟩, fun j u hj => (h3 j u hj).mono hc⟩
  rcases h2' with hn | ⟨g, cap, cur, hv, hb, hg⟩
  · exact .inl hn
  · exact .inr ⟨g, cap, cur, hv, by omega, hg⟩
theorem OwnsR.lt {B : Nat} {w : World} {v : Value} {ls : List Bytes} (h : OwnsR B w v ls) : ∀ k, v.ownBlock = some k → B ≤ k ∧ k < w.heap.size := by
  obtain ⟨vs, h1, h2, h3⟩ := h
  exact h2.lt
/-- bytes of the call's own stay when a row of rows grows: their blocks are of another kind -/
theorem Owns.kept {B : Nat} {w w' : World} {u v : Value} {xs : Bytes} {vs : List Value} (hu : Owns B w u xs) (hv : OwnsV B w v vs) (hg : w.grownBy w' v.ownBlock) : Owns B w' u xs := by
  refine World.ownsRow.kept hu hg ?_
  cases hb : u.ownBlock with
  | none => exact .inl rfl
  | some k =>
    right
    intro e
    obtain ⟨c, fz, hk⟩ := Lib.ownsRow_kind hu k hb
    obtain ⟨c', fz', hk'⟩ := Lib.ownsRow_kind hv k e.symm
    rw [hk] at hk'
    simp at hk'
/-- one element more -/
theorem OwnsR.push {B : Nat} {w w' : World} {v u v' : Value} {ls : List Bytes} {x : Bytes} {vs : List Value} (hvs : vs.length = ls.length) (hown : OwnsV B w v vs) (hel : ∀ j u, vs[j]? = some u → Owns B w u (ls.getD j []))
    (hu : Owns B w u x) (ho : OwnsV B w' v' (vs ++ [u])) (hg : w.grownBy w' v.ownBlock) : OwnsR B w' v' (ls ++ [x]) := by
  refine ⟨vs ++ [u], by simp [hvs], ho, fun j y hj => ?_⟩
  by_cases hlt : j < vs.length
  · rw [List.getElem?_append_left hlt] at hj
    have := (hel j y hj).kept hown hg
    simpa [List.getD, List.getElem?_append_left (show j < ls.length by omega)] using this
  · obtain rfl : j = vs.length := by
      have := (List.getElem?_eq_some_iff.1 hj).1
      simp at this
      omega
    simp at hj
    subst hj
    have := hu.kept hown hg
    simpa [hvs] using this

/-! ### the argument -/
/-- a slice of slices of bytes that came in reads as the lists ls -/
def IsRows (w : World) (a : Option Addr) (len cap : Nat) (ls : List Bytes) : Prop := ls.length = len ∧ len ≤ cap ∧ cap ≤ maxLen ∧ SeqR w (.slice a len cap) ls
theorem seqR_of_trod {H : Type} {enc : TypeId × Value → H} {w : World} {d : DataW H} {p : List MemPlace} {a : Option Addr} {len cap : Nat} (h : DataW.Trod enc Tryd.prog w 0 (fun _ => true) true 34 (.slice a len cap) d p) :
    ∃ ls : List Bytes, IsRows w a len cap ls := by
  unfold IsRows
  obtain ⟨fuel, hf⟩ := h
  rcases Go.Deep.open_int_rows Tryd.underlying34 Tryd.underlying22 Tryd.underlying5 (by kernel_rfl) (by kernel_rfl) hf with ⟨hcs, _⟩ | ⟨x, l, c, A, L, C, Z, hcs, _, hl, hm, _, hrow⟩
  · simp [Value.cells] at hcs
    obtain ⟨rfl, rfl, rfl⟩ := hcs
    exact ⟨[], rfl, Nat.le_refl _, Nat.zero_le _, SeqR.nil w⟩
  · simp [Value.cells] at hcs
    obtain ⟨rfl, rfl, rfl⟩ := hcs
    have each : ∀ r, r < cap → ∃ xs : Bytes, Seq w (.slice (A r) (L r) (C r)) xs := by
      intro r hr
      obtain ⟨h1, h2, h3, h4, h5, h6, h7⟩ := hrow r hr
      have hI : IsRow .u8 w (A r) (L r) (C r) (Z r) := by
        cases hA : A r with
        | none =>
          have := h6 hA
          exact .inl ⟨rfl, by omega, by omega, List.eq_nil_of_length_eq_zero (by omega)⟩
        | some a' => exact .inr ⟨a', rfl, h2, h3, h4, fun i hi => (h7 a' hA).2 i (by omega), h5⟩
      obtain ⟨xs, hs, -, -⟩ := row_seq hI
      exact ⟨xs, hs⟩
    obtain ⟨f, hf'⟩ := Go.Deep.choose_lt each
    have hvl : ((List.range len).map (fun r => Value.slice (A r) (L r) (C r))).length = len := by simp
    refine ⟨(List.range len).map f, by simp, hl, hm, (List.range len).map (fun r => .slice (A r) (L r) (C r)), by simp, ⟨some x, cap, by rw [hvl], by rw [hvl]; exact hl, hm, (by simp), fun hp => ?_⟩, fun j u hj => ?_⟩
    · simp at hp
      have hspot : x.spot = none := by simpa [Addr.add] using World.cell?_spot (hrow 0 (by omega)).1
      obtain ⟨b, off, spot⟩ := x
      simp only at hspot
      subst hspot
      refine ⟨b, off, rfl, fun j u hj => ?_⟩
      rw [List.getElem?_map] at hj
      have hjl : j < len := by
        have := (List.getElem?_eq_some_iff.1 (Option.map_eq_some_iff.1 hj).choose_spec.1).1
        simpa using this
      rw [List.getElem?_range hjl] at hj
      simp at hj
      subst hj
      rw [← Go.WideShapes.add_plain]
      exact (hrow j (by omega)).1
    · rw [List.getElem?_map] at hj
      have hjl : j < len := by
        have := (List.getElem?_eq_some_iff.1 (Option.map_eq_some_iff.1 hj).choose_spec.1).1
        simpa using this
      rw [List.getElem?_range hjl] at hj
      simp at hj
      subst hj
      have e : ((List.range len).map f).getD j [] = f j := by simp [List.getD, List.getElem?_range hjl]
      rw [e]
      exact hf' j (by omega)
theorem one_cell (a : Option Addr) (n c : Nat) : ∀ x ∈ [Value.slice a n c], x.oneCell' = true := by
  intro x hx
  simp at hx
  subst hx
  rfl
theorem SeqR.drawn {w : World} {v : Value} {ls : List Bytes} (h : SeqR w v ls) (n : Nat) : SeqR (w.drewN n) v ls := h.below (below_drewN (Below.refl _ _) n)
theorem ownsR_kept {B : Nat} {w w' : World} {v : Value} {ls : List Bytes} {row : Option Nat} (h : OwnsR B w v ls) (hg : w.grownBy w' row) (hr : ∀ k, row = some k → k < B) : OwnsR B w' v ls := by
  have far : ∀ x : Value, (∀ k, x.ownBlock = some k → B ≤ k ∧ k < w.heap.size) → x.ownBlock = none ∨ x.ownBlock ≠ row := by
    intro x hx
    cases hb : x.ownBlock with
    | none => exact .inl rfl
    | some k =>
      right
      intro e
      have := (hx k hb).1
      have := hr k e.symm
      omega
  obtain ⟨vs, h1, h2, h3⟩ := h
  exact ⟨vs, h1, World.ownsRow.kept h2 hg (far v h2.lt), fun j u hj => World.ownsRow.kept (h3 j u hj) hg (far u (h3 j u hj).lt)⟩
theorem seqR_join {B : Nat} {w : World} {v : Value} {vs us : List Value} {ls ms : List Bytes} (h : OwnsV B w v (vs ++ us)) (h1 : vs.length = ls.length) (h2 : us.length = ms.length)
    (g1 : ∀ j u, vs[j]? = some u → Seq w u (ls.getD j [])) (g2 : ∀ j u, us[j]? = some u → Seq w u (ms.getD j [])) : SeqR w v (ls ++ ms) := by
  refine ⟨vs ++ us, by simp [h1, h2], h.row, fun j u hj => ?_⟩
  by_cases hlt : j < vs.length
  · rw [List.getElem?_append_left hlt] at hj
    have := g1 j u hj
    simpa [List.getD, List.getElem?_append_left (show j < ls.length by omega)] using this
  · rw [List.getElem?_append_right (by omega)] at hj
    have := g2 (j - vs.length) u hj
    rw [h1] at this
    simpa [List.getD, List.getElem?_append_right (show ls.length ≤ j by omega)] using this
end Go.Proofs.YtehlbddcgnclaaaDoor
