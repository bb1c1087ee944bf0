/- What stage 11's walks call of layers 8 and 9, a small list; the law's own function awake. (Written by gen-awake.py.) Whether one of the first passes, step by step; lists turned, step by step. -/
import Derived.Test.YtkmiodpaanohoaaGreatVwCons
import Derived.Test.YtkmiodpaanohoaaGreatRefIs
import Derived.Test.YtkmiodpaanohoaaGreatOpenZ
import Derived.Test.YtkmiodpaanohoaaGreatINorms
import Derived.Deep.RegionHeld3
namespace Go.Proofs.YtkmiodpaanohoaaGreat
open Go.RowKit Plain
set_option linter.unusedVariables false

theorem fits_of {n : Int} (h : (Lit.int .i64 n).wf = true) : Nm.Plain.fits n := i64_in h
/-- a list that is looked at -/
def FitV (l : List PItem) : Prop := l.length ≤ 100 ∧ ∀ x ∈ l, Nm.Plain.fits x.n
theorem fitV_of {l : List PItem} (h : shortI l = true) (q : ∀ x ∈ l, itemOk x) : FitV l := ⟨by have := (shortI_iff.1 h).1; omega, fun x hx => fits_of (q x hx).2.1⟩
theorem rshortIB {u : Value} {xs : List PItem} {w : World} {r : Bool} (hu : SeqE LItem w u xs) (e : shortI xs = r) : Calls Tryz.prog 14 #[u] w (GivesB w r) := by
  rw [← e]
  exact (rshortI_any hu).mono fun _ _ ⟨h, hw⟩ => ⟨h, below_of_same hw⟩
theorem vfieldS (key field : Txt) {v : Value} {l : List PItem} {w : World} (hv : SeqE LItem w v l) (hl : FitV l) : Calls Tryz.prog 17 #[v, .string (bt key), .string (bt field)] w (GivesV w (vfield l key field)) := vfieldP_any key field hv (by have := hl.1; omega) hl.2
def vwA : PItem := ⟨[97], [], 2, [120], 0, ⟨0, 0, 0⟩⟩
def vwB : PItem := ⟨[97], [], 2, [98], 0, ⟨0, 0, 0⟩⟩
def vwC : PItem := ⟨[97], [], 3, [], 4, ⟨0, 0, 0⟩⟩
def vwV : PVal := ⟨[], [[98], [120]], 4, false⟩
theorem vw_field : vfield [vwA, vwB, vwC] [97] [] = vwV := by decide +kernel
theorem vw_empty : vempty vwV = false := by decide +kernel
theorem vw_fit : FitV [vwA, vwB, vwC] := ⟨by simp, fun x hx => by
  simp only [List.mem_cons, List.not_mem_nil, or_false] at hx
  rcases hx with rfl | rfl | rfl <;> exact ⟨by decide, by decide⟩⟩
theorem vw_lit (w : World) : SeqE LItem (w.alloc (.cells #[.string ⟨#[97]⟩, .string ⟨#[]⟩, .int .i64 2, .string ⟨#[120]⟩, .int .i64 0, .int .i64 0, .int .i64 0, .int .i64 0, .string ⟨#[97]⟩, .string ⟨#[]⟩, .int .i64 2, .string ⟨#[98]⟩, .int .i64 0, .int .i64 0, .int .i64 0, .int .i64 0, .string ⟨#[97]⟩, .string ⟨#[]⟩, .int .i64 3, .string ⟨#[]⟩, .int .i64 4, .int .i64 0, .int .i64 0, .int .i64 0] 38)) (.slice (some ⟨w.heap.size, 0, none⟩) 3 3) [vwA, vwB, vwC] :=
  SeqE.lit w #[.string ⟨#[97]⟩, .string ⟨#[]⟩, .int .i64 2, .string ⟨#[120]⟩, .int .i64 0, .int .i64 0, .int .i64 0, .int .i64 0, .string ⟨#[97]⟩, .string ⟨#[]⟩, .int .i64 2, .string ⟨#[98]⟩, .int .i64 0, .int .i64 0, .int .i64 0, .int .i64 0, .string ⟨#[97]⟩, .string ⟨#[]⟩, .int .i64 3, .string ⟨#[]⟩, .int .i64 4, .int .i64 0, .int .i64 0, .int .i64 0] [vwA, vwB, vwC] (((Rows.of_one (L := LItem) (vs := cellsIt vwA) (x := vwA) rfl).append ((Rows.of_one (L := LItem) (vs := cellsIt vwB) (x := vwB) rfl).append (Rows.of_one (L := LItem) (vs := cellsIt vwC) (x := vwC) rfl)))) (by simp)
theorem vw_texts (w : World) : SeqT (w.alloc (.cells #[.string ⟨#[98]⟩, .string ⟨#[120]⟩] 9)) (.slice (some ⟨w.heap.size, 0, none⟩) 2 2) [[98], [120]] := by
  refine ⟨_, 2, rfl, Nat.le_refl _, by unfold maxLen; simp, (by simp), fun _ => ⟨w.heap.size, 0, rfl, fun j hj => ?_⟩⟩
  rw [Nat.zero_add]
  have := World.cell?_alloc_new w #[.string ⟨#[98]⟩, .string ⟨#[120]⟩] 9 j
  rw [this]
  match j, hj with
  | 0, _ => rfl
  | 1, _ => rfl

end Go.Proofs.YtkmiodpaanohoaaGreat
namespace Go.Proofs.YtkmiodpaanohoaaGreat
open Go.RowKit Plain
set_option linter.unusedVariables false

def anyTo {α : Type} (p : α → Bool) (l : List α) (k : Nat) : Bool := (l.take k).any p
theorem anyTo_zero {α : Type} (p : α → Bool) (l : List α) : anyTo p l 0 = false := rfl
theorem anyTo_next {α : Type} [Inhabited α] (p : α → Bool) (l : List α) {k : Nat} (hk : k < l.length) : anyTo p l (k + 1) = (anyTo p l k || p (l.getD k default)) := by
  unfold anyTo
  rw [List.take_succ_eq_append_getElem hk, List.any_append]
  have e : l.getD k default = l[k] := by simp [List.getD, List.getElem?_eq_getElem hk]
  rw [e]
  simp
theorem anyTo_all {α : Type} (p : α → Bool) (l : List α) : anyTo p l l.length = l.any p := by unfold anyTo; rw [List.take_length]
theorem inField_dec (key field : Txt) (x : PItem) : inField key field x = (decide (x.key = key) && decide (x.field = field)) := rfl
theorem vempty_none : vempty (default : PVal) = true := by decide
theorem turned_getD (l : List PItem) (r k : Nat) (hr : r < l.length) (hk : k < l.length) : (turned l r).getD k default = l.getD ((k + r) % l.length) default := by
  unfold turned
  by_cases h : k + r < l.length
  · rw [Nat.mod_eq_of_lt h]
    simp only [List.getD]
    rw [List.getElem?_append_left (by rw [List.length_drop]; omega), List.getElem?_drop, Nat.add_comm]
  · have e : (k + r) % l.length = k + r - l.length := by rw [Nat.mod_eq_sub_mod (by omega), Nat.mod_eq_of_lt (by omega)]
    rw [e]
    simp only [List.getD]
    rw [List.getElem?_append_right (by rw [List.length_drop]; omega), List.length_drop, List.getElem?_take, if_pos (by omega)]
    congr 2
    omega
theorem turned_next (l : List PItem) (r k : Nat) (hr : r < l.length) (hk : k < l.length) : (turned l r).take (k + 1) = (turned l r).take k ++ [l.getD ((k + r) % l.length) default] := by
  rw [← turned_getD l r k hr hk]
  have h : k < (turned l r).length := by rw [turned_len]; exact hk
  rw [List.take_succ_eq_append_getElem h]
  simp [List.getD, List.getElem?_eq_getElem h]
theorem turn_rem (turn : Int) (m : Nat) (hm : 0 < m) : ∃ r : Nat, (IntKind.u64.wrap turn).tmod m = (r : Int) ∧ r < m := by
  have h0 : 0 ≤ IntKind.u64.wrap turn := by rw [IntKind.wrap_u64]; omega
  obtain ⟨u, hu⟩ := Int.eq_ofNat_of_zero_le h0
  refine ⟨u % m, ?_, Nat.mod_lt _ hm⟩
  rw [hu, ← Int.ofNat_tmod]
theorem fitV_turned {l : List PItem} (h : FitV l) (r : Nat) : FitV (turned l r) := ⟨by rw [turned_len]; exact h.1, fun x hx => h.2 x (turned_mem.1 hx)⟩
theorem fitV_of_key {l : List PItem} (h : FitV l) (key : Txt) : FitV (iof l key) := ⟨Nat.le_trans (iof_len l key) h.1, fun x hx => h.2 x (List.mem_filter.1 hx).1⟩
/-- the two variables that hold the fields that were handed over -/
structure VBoxes (g h : Nat) (a1 : Option Addr) (n1 c1 : Nat) (a2 : Option Addr) (n2 c2 : Nat) (p : PVal) (b1 : Option Addr) (m1 d1 : Nat) (b2 : Option Addr) (m2 d2 : Nat) (q : PVal) (u : World) : Prop where
  x : u.cell? ⟨g, 0, none⟩ = some (.slice a1 n1 c1) ∧ u.cell? ⟨g, 1, none⟩ = some (.slice a2 n2 c2) ∧ u.cell? ⟨g, 2, none⟩ = some (.int .i64 p.total) ∧ u.cell? ⟨g, 3, none⟩ = some (.bool p.over)
  y : u.cell? ⟨h, 0, none⟩ = some (.slice b1 m1 d1) ∧ u.cell? ⟨h, 1, none⟩ = some (.slice b2 m2 d2) ∧ u.cell? ⟨h, 2, none⟩ = some (.int .i64 q.total) ∧ u.cell? ⟨h, 3, none⟩ = some (.bool q.over)
theorem VBoxes.below {g h : Nat} {a1 : Option Addr} {n1 c1 : Nat} {a2 : Option Addr} {n2 c2 : Nat} {p : PVal} {b1 : Option Addr} {m1 d1 : Nat} {b2 : Option Addr} {m2 d2 : Nat} {q : PVal} {u u' : World} (k : VBoxes g h a1 n1 c1 a2 n2 c2 p b1 m1 d1 b2 m2 d2 q u) (hb : Below u.heap.size u u') : VBoxes g h a1 n1 c1 a2 n2 c2 p b1 m1 d1 b2 m2 d2 q u' := by
  have c : ∀ {a : Addr} {v : Value}, u.cell? a = some v → u'.cell? a = some v := fun g => (hb.cell (World.block_lt_of_cell? u _ g)).trans g
  exact ⟨⟨c k.x.1, c k.x.2.1, c k.x.2.2.1, c k.x.2.2.2⟩, ⟨c k.y.1, c k.y.2.1, c k.y.2.2.1, c k.y.2.2.2⟩⟩
theorem vboxes_new (w : World) (a1 : Option Addr) (n1 c1 : Nat) (a2 : Option Addr) (n2 c2 : Nat) (p : PVal) (b1 : Option Addr) (m1 d1 : Nat) (b2 : Option Addr) (m2 d2 : Nat) (q : PVal) :
    VBoxes w.heap.size (w.heap.size + 1) a1 n1 c1 a2 n2 c2 p b1 m1 d1 b2 m2 d2 q ((w.alloc (.cells #[.slice a1 n1 c1, .slice a2 n2 c2, .int .i64 p.total, .bool p.over] 53)).alloc (.cells #[.slice b1 m1 d1, .slice b2 m2 d2, .int .i64 q.total, .bool q.over] 53)) :=
  ⟨⟨(vpair_cells w _ _ _ _ 0).1, (vpair_cells w _ _ _ _ 1).1, (vpair_cells w _ _ _ _ 2).1, (vpair_cells w _ _ _ _ 3).1⟩, ⟨(vpair_cells w _ _ _ _ 0).2, (vpair_cells w _ _ _ _ 1).2, (vpair_cells w _ _ _ _ 2).2, (vpair_cells w _ _ _ _ 3).2⟩⟩
theorem val_zero (w : World) : IsVal w (.agg #[.slice none 0 0, .slice none 0 0, .int .i64 0, .bool false]) default := ⟨none, 0, 0, none, 0, 0, rfl, SeqT.nil w, SeqT.nil w⟩
theorem IsVal.old {w w' : World} {v : Value} {p : PVal} (h : IsVal w v p) (hb : Below w.heap.size w w') : IsVal w' v p := h.below hb
/-- the variable that holds the item that was handed over -/
structure ItemBox (g : Nat) (x : PItem) (u : World) : Prop where
  c : u.cell? ⟨g, 0, none⟩ = some (.string (bt x.key)) ∧ u.cell? ⟨g, 1, none⟩ = some (.string (bt x.field)) ∧ u.cell? ⟨g, 2, none⟩ = some (.int .i64 x.kind) ∧ u.cell? ⟨g, 3, none⟩ = some (.string (bt x.elem)) ∧ u.cell? ⟨g, 4, none⟩ = some (.int .i64 x.n) ∧ u.cell? ⟨g, 5, none⟩ = some (.int .i64 x.dot.node) ∧ u.cell? ⟨g, 6, none⟩ = some (.int .i64 x.dot.seq) ∧ u.cell? ⟨g, 7, none⟩ = some (.int .i64 x.dot.pos)
theorem ItemBox.below {g : Nat} {x : PItem} {u u' : World} (k : ItemBox g x u) (hb : Below u.heap.size u u') : ItemBox g x u' := by
  have c : ∀ {a : Addr} {v : Value}, u.cell? a = some v → u'.cell? a = some v := fun g => (hb.cell (World.block_lt_of_cell? u _ g)).trans g
  obtain ⟨h0, h1, h2, h3, h4, h5, h6, h7⟩ := k.c
  exact ⟨c h0, c h1, c h2, c h3, c h4, c h5, c h6, c h7⟩
theorem item_box {g : Nat} {x : PItem} {u : World} (h : ItemAt u g 0 x) : ItemBox g x u := by
  obtain ⟨c0, c1, c2, c3, c4, c5, c6, c7⟩ := h
  simp only [Nat.zero_add] at c1 c2 c3 c4 c5 c6 c7
  exact ⟨c0, c1, c2, c3, c4, c5, c6, c7⟩
end Go.Proofs.YtkmiodpaanohoaaGreat
