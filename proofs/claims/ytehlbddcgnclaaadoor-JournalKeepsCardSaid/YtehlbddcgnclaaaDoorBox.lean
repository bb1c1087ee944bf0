/- WORDS FOR BOXES, OF NO PACKAGE: a struct of two cells that is read in a region that draws its order, and another one that is stored into at its end. -/
import Derived.Test.YtehlbddcgnclaaaDoorMore
import Derived.Deep.RegionWith
import Derived.Deep.RegionHeld3
import Derived.Lib.OwnKind
namespace Go.Proofs.YtehlbddcgnclaaaDoor
open Go.RowKit Plain
set_option linter.unusedVariables false

theorem heap_new2 (w : World) (x y : Obj) : ((w.alloc x).alloc y).heap[w.heap.size + 1]? = some y := by
  have h := heap_alloc_new (w.alloc x) y
  rwa [show (w.alloc x).heap.size = w.heap.size + 1 by simp] at h
theorem heap_new3 (w : World) (x y z : Obj) : (((w.alloc x).alloc y).alloc z).heap[w.heap.size + 1 + 1]? = some z := by
  have h := heap_alloc_new ((w.alloc x).alloc y) z
  rwa [show ((w.alloc x).alloc y).heap.size = w.heap.size + 1 + 1 by simp] at h
theorem free_row {w : World} {g j : Nat} {cs : Array Value} {t : TypeId} (h : w.heap[g]? = some (.cells cs t (0, 0))) : w.frozen? ⟨g, j, none⟩ = false := by
  unfold World.frozen?
  rw [h]
  simp
/-- what a region that reads the box p, q carries along -/
theorem keepB {w u u' : World} {p q : Addr} {x y : Value} (h : Below w.heap.size w u ∧ u.cell? p = some x ∧ u.cell? q = some y) (hb : Below u.heap.size u u') : Below w.heap.size w u' ∧ u'.cell? p = some x ∧ u'.cell? q = some y :=
  ⟨h.1.trans (hb.mono h.1.size), (hb.cell (World.block_lt_of_cell? u p h.2.1)).trans h.2.1, (hb.cell (World.block_lt_of_cell? u q h.2.2)).trans h.2.2⟩
/-- what a region that reads two boxes carries along -/
theorem keepD {w u u' : World} {p q r t : Addr} {x y z v : Value} (h : Below w.heap.size w u ∧ (u.cell? p = some x ∧ u.cell? q = some y) ∧ (u.cell? r = some z ∧ u.cell? t = some v)) (hb : Below u.heap.size u u') :
    Below w.heap.size w u' ∧ (u'.cell? p = some x ∧ u'.cell? q = some y) ∧ (u'.cell? r = some z ∧ u'.cell? t = some v) := by
  have c : ∀ {a : Addr} {v : Value}, u.cell? a = some v → u'.cell? a = some v := fun g => (hb.cell (World.block_lt_of_cell? u _ g)).trans g
  exact ⟨h.1.trans (hb.mono h.1.size), ⟨c h.2.1.1, c h.2.1.2⟩, ⟨c h.2.2.1, c h.2.2.2⟩⟩
theorem keepBS {w u : World} {p q r t : Addr} {x y : Value} (a b : Value) (h : Below w.heap.size w u ∧ u.cell? p = some x ∧ u.cell? q = some y) (hr : w.heap.size ≤ r.block) (ht : w.heap.size ≤ t.block) (hp : p.block < w.heap.size) (hq : q.block < w.heap.size) :
    Below w.heap.size w ((u.setCell r a).setCell t b) ∧ ((u.setCell r a).setCell t b).cell? p = some x ∧ ((u.setCell r a).setCell t b).cell? q = some y := by
  have ne : ∀ {m n : Addr}, w.heap.size ≤ m.block → n.block < w.heap.size → m ≠ n := fun h1 h2 e => by subst e; omega
  refine ⟨(h.1.setCell hr _).setCell ht _, ?_, ?_⟩
  · rw [World.cell?_setCell_other _ _ _ _ (ne ht hp), World.cell?_setCell_other _ _ _ _ (ne hr hp), h.2.1]
  · rw [World.cell?_setCell_other _ _ _ _ (ne ht hq), World.cell?_setCell_other _ _ _ _ (ne hr hq), h.2.2]
/-- a box of the call's own behind a call -/
theorem box_cells {u w' : World} {k N : Nat} {x y : Value} {t : TypeId} (h : u.heap[k]? = some (.cells #[x, y] t (0, 0))) (hb : Below N u w') (hk : k < N) :
    w'.cell? ⟨k, 0, none⟩ = some x ∧ w'.cell? ⟨k, 1, none⟩ = some y ∧ w'.frozen? ⟨k, 0, none⟩ = false ∧ w'.frozen? ⟨k, 1, none⟩ = false := by
  have h' := (hb.block k hk).trans h
  exact ⟨cell_of_row _ _ 0 _ _ _ h', cell_of_row _ _ 1 _ _ _ h', free_row h', free_row h'⟩
theorem heap_old2 (u : World) (x y : Obj) : ((u.alloc x).alloc y).heap[u.heap.size]? = some x := (Below.heap_alloc (u.alloc x) y u.heap.size (by simp)).trans (heap_alloc_new u x)
/-- two cells that were stored into -/
theorem stored2' {u : World} {r t : Addr} {a b x y : Value} (h1 : u.cell? r = some x) (h2 : u.cell? t = some y) (rt : t ≠ r) :
    ((u.setCell r a).setCell t b).cell? r = some a ∧ ((u.setCell r a).setCell t b).cell? t = some b :=
  ⟨(World.cell?_setCell_other _ _ _ _ rt).trans (World.cell?_setCell_same _ _ _ h1), World.cell?_setCell_same _ _ _ ((World.cell?_setCell_other _ _ _ _ (Ne.symm rt)).trans h2)⟩
theorem three (u : World) (x y z : Obj) : (((u.alloc x).alloc y).alloc z).drew.heap[u.heap.size]? = some x ∧ (((u.alloc x).alloc y).alloc z).drew.heap[u.heap.size + 1]? = some y ∧ (((u.alloc x).alloc y).alloc z).drew.heap[u.heap.size + 1 + 1]? = some z := by
  refine ⟨?_, ?_, heap_new3 u x y z⟩
  · have h1 := Below.heap_alloc ((u.alloc x).alloc y) z u.heap.size (by simp; omega)
    have h2 := Below.heap_alloc (u.alloc x) y u.heap.size (by simp)
    exact h1.trans (h2.trans (heap_alloc_new u x))
  · have h1 := Below.heap_alloc ((u.alloc x).alloc y) z (u.heap.size + 1) (by simp)
    exact h1.trans (heap_new2 u x y)
/-- a cell's value, behind a name -/
def valAt (w : World) (a : Addr) : Value := (w.cell? a).getD undef
theorem valAt_of {w : World} {a : Addr} {v : Value} (h : w.cell? a = some v) : w.cell? a = some (valAt w a) := by unfold valAt; rw [h]; rfl
/-- what a region that reads the box p, q and at last stores into the cells r, t of the call's own carries along -/
theorem keepR {w u u' : World} {p q r t : Addr} {x y : Value}
    (h : Below w.heap.size w u ∧ (u.cell? p = some x ∧ u.cell? q = some y) ∧ (u.cell? r = some (valAt u r) ∧ u.frozen? r = false) ∧ (u.cell? t = some (valAt u t) ∧ u.frozen? t = false)) (hb : Below u.heap.size u u') :
    Below w.heap.size w u' ∧ (u'.cell? p = some x ∧ u'.cell? q = some y) ∧ (u'.cell? r = some (valAt u' r) ∧ u'.frozen? r = false) ∧ (u'.cell? t = some (valAt u' t) ∧ u'.frozen? t = false) := by
  obtain ⟨h0, ⟨h1, h2⟩, ⟨h3, h4⟩, ⟨h5, h6⟩⟩ := h
  have c : ∀ {a : Addr} {v : Value}, u.cell? a = some v → u'.cell? a = some v := fun g => (hb.cell (World.block_lt_of_cell? u _ g)).trans g
  exact ⟨h0.trans (hb.mono h0.size), ⟨c h1, c h2⟩, ⟨valAt_of (c h3), (hb.frozen (World.block_lt_of_cell? u _ h3)).trans h4⟩, ⟨valAt_of (c h5), (hb.frozen (World.block_lt_of_cell? u _ h5)).trans h6⟩⟩
theorem keep0 {w u : World} {p q r t : Addr} {x y z1 z2 : Value} (h0 : Below w.heap.size w u) (h1 : u.cell? p = some x) (h2 : u.cell? q = some y) (h3 : u.cell? r = some z1) (h5 : u.cell? t = some z2) (h4 : u.frozen? r = false) (h6 : u.frozen? t = false) :
    Below w.heap.size w u.drew ∧ (u.drew.cell? p = some x ∧ u.drew.cell? q = some y) ∧ (u.drew.cell? r = some (valAt u.drew r) ∧ u.drew.frozen? r = false) ∧ (u.drew.cell? t = some (valAt u.drew t) ∧ u.drew.frozen? t = false) :=
  ⟨h0.drew, ⟨h1, h2⟩, ⟨valAt_of (v := z1) h3, h4⟩, ⟨valAt_of (v := z2) h5, h6⟩⟩
theorem two_le {u : World} {k : Nat} {z : Value} {A B C D E : Prop} (h : A ∧ (B ∧ C) ∧ (u.cell? ⟨k + 1, 0, none⟩ = some z ∧ D) ∧ E) : k + 2 ≤ u.heap.size := Nat.succ_le_of_lt (World.block_lt_of_cell? u ⟨k + 1, 0, none⟩ h.2.2.1.1)
theorem keepN {N : Nat} {w u u' : World} {p q r t : Addr} {x y : Value}
    (h : Below w.heap.size w u ∧ (u.cell? p = some x ∧ u.cell? q = some y) ∧ (u.cell? r = some (valAt u r) ∧ u.frozen? r = false) ∧ (u.cell? t = some (valAt u t) ∧ u.frozen? t = false)) (hb : Below N u u') (hN : w.heap.size ≤ N) (hp : p.block < N) (hq : q.block < N) (hr : r.block < N) (ht : t.block < N) :
    Below w.heap.size w u' ∧ (u'.cell? p = some x ∧ u'.cell? q = some y) ∧ (u'.cell? r = some (valAt u' r) ∧ u'.frozen? r = false) ∧ (u'.cell? t = some (valAt u' t) ∧ u'.frozen? t = false) := by
  obtain ⟨h0, ⟨h1, h2⟩, ⟨h3, h4⟩, ⟨h5, h6⟩⟩ := h
  exact ⟨h0.trans (hb.mono hN), ⟨(hb.cell hp).trans h1, (hb.cell hq).trans h2⟩, ⟨valAt_of ((hb.cell hr).trans h3), (hb.frozen hr).trans h4⟩, ⟨valAt_of ((hb.cell ht).trans h5), (hb.frozen ht).trans h6⟩⟩
theorem setCell_some {u : World} {r a : Addr} {v z : Value} (h : (u.setCell a v).cell? r = some z) : ∃ x, u.cell? r = some x := by
  cases hc : u.cell? r with
  | some x => exact ⟨x, rfl⟩
  | none =>
    exfalso
    by_cases e : a = r
    · subst e
      simp only [World.setCell, World.cell?, Array.getElem?_modify, ↓reduceIte] at h hc
      cases hh : u.heap[a.block]? with
      | none => simp [hh] at h
      | some o =>
        cases o with
        | cells c e f =>
          simp [hh] at h hc
          obtain ⟨h1, h2⟩ := h
          have := hc h1
          rw [h1] at h2
          simp only [Option.isSome_none, Bool.false_eq_true, ↓reduceIte] at h2
          obtain ⟨hlt, -⟩ := Array.getElem?_eq_some_iff.1 h2
          simp at hlt
          omega
        | _ => simp [hh] at h
    · rw [World.cell?_setCell_other _ _ _ _ e, hc] at h
      cases h
theorem keepS {w u : World} {p q r t : Addr} {x y : Value} (a b : Value)
    (h : Below w.heap.size w u ∧ (u.cell? p = some x ∧ u.cell? q = some y) ∧ (u.cell? r = some (valAt u r) ∧ u.frozen? r = false) ∧ (u.cell? t = some (valAt u t) ∧ u.frozen? t = false))
    (hr : w.heap.size ≤ r.block) (ht : w.heap.size ≤ t.block) (pr : r ≠ p) (pt : t ≠ p) (qr : r ≠ q) (qt : t ≠ q) (rt : t ≠ r) :
    Below w.heap.size w ((u.setCell r a).setCell t b) ∧ (((u.setCell r a).setCell t b).cell? p = some x ∧ ((u.setCell r a).setCell t b).cell? q = some y) ∧
      (((u.setCell r a).setCell t b).cell? r = some (valAt ((u.setCell r a).setCell t b) r) ∧ ((u.setCell r a).setCell t b).frozen? r = false) ∧ (((u.setCell r a).setCell t b).cell? t = some (valAt ((u.setCell r a).setCell t b) t) ∧ ((u.setCell r a).setCell t b).frozen? t = false) := by
  obtain ⟨h0, ⟨h1, h2⟩, ⟨h3, h4⟩, ⟨h5, h6⟩⟩ := h
  refine ⟨(h0.setCell hr _).setCell ht _, ⟨?_, ?_⟩, ⟨?_, ?_⟩, ⟨?_, ?_⟩⟩
  · rw [World.cell?_setCell_other _ _ _ _ pt, World.cell?_setCell_other _ _ _ _ pr, h1]
  · rw [World.cell?_setCell_other _ _ _ _ qt, World.cell?_setCell_other _ _ _ _ qr, h2]
  · refine valAt_of (v := a) ?_
    rw [World.cell?_setCell_other _ _ _ _ rt, World.cell?_setCell_same _ _ _ h3]
  · simp [h4]
  · refine valAt_of (v := b) ?_
    obtain ⟨z, hz⟩ := RowKit.cell?_setCell_some (p := r) (x := a) h5
    exact World.cell?_setCell_same _ _ _ hz
  · simp [h6]
/-- what two cells hold that were stored into -/
theorem stored2 {u : World} {r t : Addr} {a b x y : Value} (h1 : ((u.setCell r a).setCell t b).cell? r = some x) (h2 : ((u.setCell r a).setCell t b).cell? t = some y) (rt : t ≠ r) :
    ((u.setCell r a).setCell t b).cell? r = some a ∧ ((u.setCell r a).setCell t b).cell? t = some b := by
  obtain ⟨x1, e1⟩ := setCell_some h1
  obtain ⟨x2, e2⟩ := setCell_some e1
  obtain ⟨y1, f1⟩ := setCell_some h2
  exact ⟨by rw [World.cell?_setCell_other _ _ _ _ rt, World.cell?_setCell_same _ _ _ e2], World.cell?_setCell_same _ _ _ f1⟩
/-- bytes of the call's own stay when a cell below them is stored into -/
theorem Owns.setLow {B : Nat} {w : World} {v : Value} {xs : Bytes} (h : Owns B w v xs) {p : Addr} (hp : p.block < B) (u : Value) : Owns B (w.setCell p u) v xs := by
  refine ⟨h.1, ?_⟩
  rcases h.2 with hn | ⟨g, cap, cur, hv, hb, hg, hr⟩
  · exact .inl hn
  · exact .inr ⟨g, cap, cur, hv, hb, (Below.heap_setCell _ _ _ _ (by omega)).trans hg, hr⟩
/-- append of bytes at a step of a region that draws its order -/
theorem step_append_seq {w : World} {ops : Array Oper} {o : Oper} {act : Act} {K : Act → World → Prop} {Q : Exit → Act → World → Prop} {E : Prop} (hw : Region.wanted o (yielded ops act.tmps) = true) (s x : Operand)
    (ho : o.op = .call { callee := .builtin .append, args := #[s, x], argTypes := #[22, 22] }) (B : Nat) {v u : Value} {xs ys : Bytes}
    (hs : act.eval s = v) (hown : Owns B w v xs) (hx : act.eval x = u) (hseq : Seq w u ys) (hlen : xs.length + ys.length ≤ 1073741824) (hbase : B ≤ w.heap.size)
    (h : ∀ v' w', Owns B w' v' (xs ++ ys) → w.grownBy w' v.ownBlock → K (act.put o.dst v') w') : if Region.wanted o (yielded ops act.tmps) = true then Oper.wp Tryd.prog o act w K Q else E := by
  rw [if_pos hw]
  obtain ⟨v', w', hr, h2, h3, h4⟩ := run_append_seq B o.type hown hseq hlen hbase
  unfold Oper.wp execOp
  simp only [ho, resolve, invoke, builtin, Sem.run_bind, Sem.run_pure, Result.andThen_ok, List.map_toArray, List.map_cons, List.map_nil, hs, hx, hr]
  exact h v' w' h2 h3

/-- what is held at one world is below the next -/
theorem hold {w u u' : World} {R : Prop} (h : Below w.heap.size w u ∧ R) (hb : Below u.heap.size u u') : Below w.heap.size w u' := h.1.trans (hb.mono h.1.size)
theorem holdA {w u : World} {R : Prop} (h : Below w.heap.size w u ∧ R) (o : Obj) : Below w.heap.size w (u.alloc o) := h.1.alloc h.1.size o

theorem holdN {w u u' : World} {R : Prop} (h : Below w.heap.size w u ∧ R) (hb : Below w.heap.size u u') : Below w.heap.size w u' := h.1.trans hb
theorem held_size {w u : World} {R : Prop} (h : Below w.heap.size w u ∧ R) : w.heap.size ≤ u.heap.size := h.1.size

/-! ### a variable that is a struct of two cells -/
/-- block g is a variable of type t that holds x and y, and may be written -/
def IsBox (t : TypeId) (w : World) (g : Nat) (x y : Value) : Prop := w.heap[g]? = some (.cells #[x, y] t (0, 0))
theorem IsBox.lt {t : TypeId} {w : World} {g : Nat} {x y : Value} (h : IsBox t w g x y) : g < w.heap.size := (Array.getElem?_eq_some_iff.1 h).1
theorem IsBox.below {t : TypeId} {w w' : World} {g : Nat} {x y : Value} (h : IsBox t w g x y) (hb : Below w.heap.size w w') : IsBox t w' g x y := (hb.block g h.lt).trans h
theorem IsBox.alloc {t : TypeId} {w : World} {g : Nat} {x y : Value} (h : IsBox t w g x y) (o : Obj) : IsBox t (w.alloc o) g x y := h.below ((Below.refl _ _).alloc (Nat.le_refl _) _)
theorem IsBox.new (t : TypeId) (w : World) (x y : Value) : IsBox t (w.alloc (.cells #[x, y] t)) w.heap.size x y := heap_alloc_new w _
theorem IsBox.cells {t : TypeId} {w : World} {g : Nat} {x y : Value} (h : IsBox t w g x y) : w.cell? ⟨g, 0, none⟩ = some x ∧ w.cell? ⟨g, 1, none⟩ = some y :=
  ⟨cell_of_row _ _ 0 _ _ _ h, cell_of_row _ _ 1 _ _ _ h⟩
theorem IsBox.free {t : TypeId} {w : World} {g : Nat} {x y : Value} (h : IsBox t w g x y) : w.frozen? ⟨g, 0, none⟩ = false ∧ w.frozen? ⟨g, 1, none⟩ = false := ⟨free_row h, free_row h⟩
theorem setCell_block {w : World} {g j : Nat} {cs : Array Value} {t : TypeId} (h : w.heap[g]? = some (.cells cs t (0, 0))) (v : Value) : (w.setCell ⟨g, j, none⟩ v).heap[g]? = some (.cells (cs.setIfInBounds j v) t (0, 0)) := by
  simp [World.setCell, Array.getElem?_modify, h]
theorem IsBox.set {t : TypeId} {w : World} {g : Nat} {x y : Value} (h : IsBox t w g x y) (a b : Value) : IsBox t ((w.setCell ⟨g, 0, none⟩ a).setCell ⟨g, 1, none⟩ b) g a b := by
  have h1 := setCell_block (j := 0) h a
  have h2 := setCell_block (j := 1) h1 b
  exact h2
theorem IsBox.other {t : TypeId} {w : World} {g k : Nat} {x y : Value} (h : IsBox t w g x y) (a b : Value) (hne : g ≠ k) : IsBox t ((w.setCell ⟨k, 0, none⟩ a).setCell ⟨k, 1, none⟩ b) g x y :=
  (Below.heap_setCell _ _ _ _ hne).trans ((Below.heap_setCell _ _ _ _ hne).trans h)
theorem below_set {B : Nat} {w u : World} (h : Below B w u) {k : Nat} (hk : B ≤ k) (a b : Value) : Below B w ((u.setCell ⟨k, 0, none⟩ a).setCell ⟨k, 1, none⟩ b) := (h.setCell hk _).setCell hk _
/-- bytes stay when a variable that holds slices is stored into -/
theorem Seq.setBox {t : TypeId} {w : World} {k : Nat} {v : Value} {xs : Bytes} {a a' : Option Addr} {n c n' c' : Nat} (h : Seq w v xs) (hb : IsBox t w k (.slice a n c) (.slice a' n' c')) (p q : Value) : Seq ((w.setCell ⟨k, 0, none⟩ p).setCell ⟨k, 1, none⟩ q) v xs := by
  obtain ⟨a0, cap, rfl, h1, h2, h0, h3⟩ := h
  refine ⟨a0, cap, rfl, h1, h2, h0, fun hp => ?_⟩
  obtain ⟨b, off, rfl, g⟩ := h3 hp
  have hne : b ≠ k := by
    rintro rfl
    have g0 := g 0 hp
    rw [Nat.add_zero, cell_of_row _ _ off _ _ _ hb] at g0
    match off, g0 with
    | 0, g0 => simp [bv] at g0
    | 1, g0 => simp [bv] at g0
    | j + 2, g0 => simp at g0
  refine ⟨b, off, rfl, fun j hj => ?_⟩
  have e : ((w.setCell ⟨k, 0, none⟩ p).setCell ⟨k, 1, none⟩ q).heap[b]? = w.heap[b]? := (Below.heap_setCell _ _ _ _ hne).trans (Below.heap_setCell _ _ _ _ hne)
  exact (World.cell?_of_block (a := ⟨b, off + j, none⟩) e).trans (g j hj)
/-- block g is a variable of type t that holds the cells cs, and may be written -/
def Blk (w : World) (g : Nat) (cs : Array Value) (t : TypeId) : Prop := w.heap[g]? = some (.cells cs t (0, 0))
theorem Blk.lt {w : World} {g : Nat} {cs : Array Value} {t : TypeId} (h : Blk w g cs t) : g < w.heap.size := (Array.getElem?_eq_some_iff.1 h).1
theorem Blk.below {w w' : World} {g : Nat} {cs : Array Value} {t : TypeId} (h : Blk w g cs t) (hb : Below w.heap.size w w') : Blk w' g cs t := (hb.block g h.lt).trans h
theorem Blk.new (w : World) (cs : Array Value) (t : TypeId) : Blk (w.alloc (.cells cs t)) w.heap.size cs t := heap_alloc_new w _
theorem Blk.cell {w : World} {g : Nat} {cs : Array Value} {t : TypeId} (h : Blk w g cs t) (j : Nat) (v : Value) (hj : cs[j]? = some v) : w.cell? ⟨g, j, none⟩ = some v := (cell_of_row _ _ j _ _ _ h).trans hj
theorem Blk.free {w : World} {g : Nat} {cs : Array Value} {t : TypeId} (h : Blk w g cs t) (j : Nat) : w.frozen? ⟨g, j, none⟩ = false := free_row h
theorem Blk.other {w : World} {g k : Nat} {cs : Array Value} {t : TypeId} (h : Blk w g cs t) (a b : Value) (hne : g ≠ k) : Blk ((w.setCell ⟨k, 0, none⟩ a).setCell ⟨k, 1, none⟩ b) g cs t :=
  (Below.heap_setCell _ _ _ _ hne).trans ((Below.heap_setCell _ _ _ _ hne).trans h)
/-- a variable of another type is not the row that an append grows -/
theorem Blk.grown {w w' : World} {g : Nat} {cs : Array Value} {t e : TypeId} {B m : Nat} {v : Value} {xs : List Value} (h : Blk w g cs t) (ho : w.ownsRow B e 1 v m xs) (hg : w.grownBy w' v.ownBlock) (hne : t ≠ e) : Blk w' g cs t := by
  refine (hg.block g h.lt ?_).trans h
  intro ek
  obtain ⟨c, fz, hk⟩ := Lib.ownsRow_kind ho g ek.symm
  rw [h] at hk
  simp only [Option.some.injEq, Obj.cells.injEq] at hk
  exact hne hk.2.1
end Go.Proofs.YtehlbddcgnclaaaDoor
