/- WORDS FOR PASTS: how one lies in memory (what was pruned, its list), what an argument that is one hands over; what a function that answers one answers. -/
import Derived.Test.YtajfliemmfdnhaaGreatTxn
import Derived.Test.YtajfliemmfdnhaaGreatPaWay
import Derived.Test.YtajfliemmfdnhaaGreatTxUses
import Derived.Test.YtajfliemmfdnhaaGreatTwo
namespace Go.Proofs.YtajfliemmfdnhaaGreat
open Go.RowKit Plain
set_option linter.unusedVariables false

def IsPast (w : World) (v : Value) (p : PPast) : Prop := ∃ fv lv, v = .agg #[fv, lv] ∧ SeqE LInt w fv p.floor ∧ SeqE LTxn w lv p.list
theorem IsPast.below {w w' : World} {v : Value} {p : PPast} (h : IsPast w v p) (hb : Below w.heap.size w w') : IsPast w' v p := by
 obtain ⟨fv, lv, rfl, h1, h2⟩ := h
 exact ⟨fv, lv, rfl, h1.below hb, h2.below hb⟩
theorem IsPast.slices {w : World} {v : Value} {p : PPast} (h : IsPast w v p) : ∃ fa fn fc la ln lc, v = .agg #[.slice fa fn fc, .slice la ln lc] ∧ SeqE LInt w (.slice fa fn fc) p.floor ∧ SeqE LTxn w (.slice la ln lc) p.list := by
 obtain ⟨fv, lv, rfl, h1, h2⟩ := h
 obtain ⟨a1, c1, rfl, -, -, -, k1⟩ := h1.parts
 obtain ⟨a2, c2, rfl, -, -, -, k2⟩ := h2.parts
 exact ⟨_, _, _, _, _, _, rfl, k1, k2⟩
theorem cellsOfPast : Tryz.prog.cellsOf 26 = 2 := by kernel_rfl
def pastOk (p : PPast) : Prop := (∀ n ∈ p.floor, intOk n) ∧ ∀ t ∈ p.list, txnOk t
def IsPastA (w : World) (v : Value) : Prop := ∃ p, IsPast w v p ∧ pastOk p
section
open Go.ChangeShapes Go.WideShapes Go.Joins
set_option maxRecDepth 100000
theorem past_of_trod {H : Type} {enc : TypeId × Value → H} {W : World} {r : Reach} {b : Nat} {v : Value} {d : DataW H} {p : List MemPlace} (hv : Value.okWide Tryz.prog W r b 26 v) (h : DataW.Trod enc Tryz.prog W 0 (fun _ => true) true 26 v d p) : IsPastA W v := by
 obtain ⟨cs, rfl, -⟩ := okWide_struct Tryz.underlying26 hv
 obtain ⟨fuel, hf⟩ := h
 simp only [Value.cells] at hf
 obtain ⟨ys, n', -, -, hl, hlen, hf⟩ := DataW.trod_struct Tryz.underlying26 hf
 rw [cellsOfPast] at hl
 have e3 : Tryz.prog.cellsOf 23 = 1 := by kernel_rfl
 have e4 : Tryz.prog.cellsOf 24 = 1 := by kernel_rfl
 obtain ⟨cs⟩ := cs
 match cs, hl with
 | [x0, x1], _ =>
  match ys, hlen with
  | [y0, y1], _ =>
   have h0 := hf 0 _ rfl
   have h1 := hf 1 _ rfl
   simp [e3, e4] at h0 h1
   obtain ⟨dv, ds, g2, hs, hd⟩ := elems_of_cells LInt intOk cellsOfInt (fun ht => int_of_cells ht) h0
   obtain ⟨iv, is, g3, hs3, hd3⟩ := elems_of_cells LTxn txnOk cellsOfTxn (fun ht => txn_of_cells ht) h1
   simp at g2 g3
   subst g2 g3
   exact ⟨⟨ds, is⟩, ⟨_, _, rfl, hs, hs3⟩, hd, hd3⟩
end
structure PaBox (g : Nat) (p : PPast) (fa : Option Addr) (fn fc : Nat) (la : Option Addr) (ln lc : Nat) (u : World) : Prop where
 b : u.heap[g]? = some (.cells #[.slice fa fn fc, .slice la ln lc] 26 (0, 0))
 f : SeqE LInt u (.slice fa fn fc) p.floor
 l : SeqE LTxn u (.slice la ln lc) p.list
section
variable {g : Nat} {p : PPast} {fa la : Option Addr} {fn fc ln lc : Nat} {u u' : World}
theorem PaBox.c (k : PaBox g p fa fn fc la ln lc u) : u.cell? ⟨g, 0, none⟩ = some (.slice fa fn fc) ∧ u.cell? ⟨g, 1, none⟩ = some (.slice la ln lc) := (st2_cells k.b).1
theorem PaBox.free (k : PaBox g p fa fn fc la ln lc u) : u.frozen? ⟨g, 0, none⟩ = false ∧ u.frozen? ⟨g, 1, none⟩ = false := (st2_cells k.b).2
theorem PaBox.lt (k : PaBox g p fa fn fc la ln lc u) : g < u.heap.size := (Array.getElem?_eq_some_iff.1 k.b).1
theorem PaBox.below (k : PaBox g p fa fn fc la ln lc u) (hb : Below u.heap.size u u') : PaBox g p fa fn fc la ln lc u' :=
 ⟨(hb.block g k.lt).trans k.b, k.f.below hb, k.l.below hb⟩
theorem PaBox.is (k : PaBox g p fa fn fc la ln lc u) : IsPast u (.agg #[.slice fa fn fc, .slice la ln lc]) p := ⟨_, _, rfl, k.f, k.l⟩
theorem pabox_new {w : World} (h1 : SeqE LInt w (.slice fa fn fc) p.floor) (h2 : SeqE LTxn w (.slice la ln lc) p.list) : PaBox w.heap.size p fa fn fc la ln lc (w.alloc (.cells #[.slice fa fn fc, .slice la ln lc] 26)) :=
 have hb := (Below.refl w.heap.size w).alloc (Nat.le_refl _) (.cells #[.slice fa fn fc, .slice la ln lc] 26)
 ⟨heap_alloc_new w _, h1.below hb, h2.below hb⟩
end
def GivesPa (w : World) (p : PPast) (e : Ending) (w' : World) : Prop := ∃ fa fn fc la ln lc, e = .returned (.agg #[.slice fa fn fc, .slice la ln lc]) ∧ Sq LInt (fun b => w.heap.size ≤ b ∧ b < w'.heap.size) w' (.slice fa fn fc) p.floor ∧ Sq LTxn (fun b => w.heap.size ≤ b ∧ b < w'.heap.size) w' (.slice la ln lc) p.list ∧ Below w.heap.size w w'
def GivesPaE (w : World) (p : PPast) (n : Int) (e : Ending) (w' : World) : Prop := ∃ fa fn fc la ln lc, e = .returned (.tuple #[.agg #[.slice fa fn fc, .slice la ln lc], .int .i64 n]) ∧ Sq LInt (fun b => w.heap.size ≤ b ∧ b < w'.heap.size) w' (.slice fa fn fc) p.floor ∧ Sq LTxn (fun b => w.heap.size ≤ b ∧ b < w'.heap.size) w' (.slice la ln lc) p.list ∧ Below w.heap.size w w'
def GivesTs (w : World) (l : List PTxn) (e : Ending) (w' : World) : Prop := ∃ la ln lc, e = .returned (.slice la ln lc) ∧ Sq LTxn (fun b => w.heap.size ≤ b ∧ b < w'.heap.size) w' (.slice la ln lc) l ∧ Below w.heap.size w w'
def GivesTsE (w : World) (l : List PTxn) (n : Int) (e : Ending) (w' : World) : Prop := ∃ la ln lc, e = .returned (.tuple #[.slice la ln lc, .int .i64 n]) ∧ Sq LTxn (fun b => w.heap.size ≤ b ∧ b < w'.heap.size) w' (.slice la ln lc) l ∧ Below w.heap.size w w'
theorem Sq.new {α : Type} {L : El α} {N : Nat} {w : World} {v : Value} {xs : List α} (h : Sq L (fun b => N ≤ b ∧ b < w.heap.size) w v xs) : SeqE L w v xs := h.mono fun b hb => hb.2
end Go.Proofs.YtajfliemmfdnhaaGreat
