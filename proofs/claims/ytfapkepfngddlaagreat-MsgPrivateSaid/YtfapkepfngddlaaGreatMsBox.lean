/- The program's own reader of messages as it lies in memory. (Written by gen-msread.py.) -/
import Derived.Test.YtfapkepfngddlaaGreatTxRds
import Derived.Test.YtfapkepfngddlaaGreatMsWay
namespace Go.Proofs.YtfapkepfngddlaaGreat
open Go.RowKit Plain
set_option linter.unusedVariables false

def mrb (a : Option Addr) (n c : Nat) (e : Bool) : Obj := .cells #[.slice a n c, .bool e] 77 (0, 0)
theorem mrb_cell {w : World} {g : Nat} {a : Option Addr} {n c : Nat} {e : Bool} (h : w.heap[g]? = some (mrb a n c e)) :
  w.cell? ⟨g, 0, none⟩ = some (.slice a n c) ∧ w.cell? ⟨g, 1, none⟩ = some (.bool e) ∧ w.frozen? ⟨g, 0, none⟩ = false ∧ w.frozen? ⟨g, 1, none⟩ = false := by
 unfold mrb at h
 refine ⟨?_, ?_, ?_, ?_⟩
 ·simp [World.cell?, h]
 ·simp [World.cell?, h]
 ·unfold World.frozen?; rw [h]; simp
 ·unfold World.frozen?; rw [h]; simp
def MrBox (w : World) (g : Nat) (s : Rb) : Prop := ∃ a c, w.heap[g]? = some (mrb a s.1.length c s.2) ∧ By.Seq w (.slice a s.1.length c) s.1 ∧ (0 < s.1.length → LowA g a)
theorem MrBox.lt {w : World} {g : Nat} {s : Rb} (h : MrBox w g s) : g < w.heap.size := by
 obtain ⟨a, c, h, -⟩ := h
 exact (Array.getElem?_eq_some_iff.1 h).1
theorem MrBox.keep {w w' : World} {g : Nat} {s : Rb} (h : MrBox w g s) (hb : Below g w w') (he : w'.heap[g]? = w.heap[g]?) : MrBox w' g s := by
 obtain ⟨a, c, h, hs, hl⟩ := h
 exact ⟨a, c, he.trans h, bySeq_low hs hl hb, hl⟩
theorem MrBox.below {w w' : World} {g : Nat} {s : Rb} (h : MrBox w g s) (hb : Below w.heap.size w w') : MrBox w' g s := h.keep (hb.mono (Nat.le_of_lt h.lt)) (hb.block g h.lt)
theorem MrBox.grown {w w' : World} {g : Nat} {s : Rb} {row : Option Nat} (h : MrBox w g s) (hg : w.grownBy w' row) (hr : ∀ k, row = some k → g < k) : MrBox w' g s :=
 h.keep ((Below.refl g w).grown hg (Nat.le_of_lt h.lt) fun k hk => Nat.le_of_lt (hr k hk)) (hg.block g h.lt fun e => by have := hr g e.symm; omega)
theorem MrBox.store {w : World} {g R i : Nat} {s : Rb} {v : Value} (h : MrBox w g s) (hR : g < R) : MrBox (w.setCell ⟨R, i, none⟩ v) g s :=
 h.keep ((Below.refl g w).setCell (Nat.le_of_lt hR) v) (Below.heap_setCell _ _ _ _ (Nat.ne_of_lt hR))
theorem MrBox.parts {w : World} {g : Nat} {s : Rb} (h : MrBox w g s) : ∃ a n c, n = s.1.length ∧ n ≤ c ∧ c ≤ 9223372036854775807 ∧ (a = none → c = 0) ∧ w.heap[g]? = some (mrb a n c s.2) ∧ By.Seq w (.slice a n c) s.1 ∧ (0 < s.1.length → LowA g a) := by
 obtain ⟨a, c, h, hs, hl⟩ := h
 have hs' := hs
 obtain ⟨a', c', hv, h1, h2, h0, -⟩ := hs'
 simp only [Value.slice.injEq] at hv
 obtain ⟨rfl, -, rfl⟩ := hv
 exact ⟨a, _, c, rfl, h1, h2, h0, h, hs, hl⟩
theorem mrb_set0 {w : World} {g : Nat} {a a' : Option Addr} {n c n' c' : Nat} {e : Bool} (h : w.heap[g]? = some (mrb a n c e)) : (w.setCell ⟨g, 0, none⟩ (.slice a' n' c')).heap[g]? = some (mrb a' n' c' e) :=
 heap_setCell_same _ g 0 _ _ _ h
theorem mrb_set1 {w : World} {g : Nat} {a : Option Addr} {n c : Nat} {e e' : Bool} (h : w.heap[g]? = some (mrb a n c e)) : (w.setCell ⟨g, 1, none⟩ (.bool e')).heap[g]? = some (mrb a n c e') :=
 heap_setCell_same _ g 1 _ _ _ h
theorem mrBox_rest {w : World} {g : Nat} {a a' : Option Addr} {n c c' : Nat} {e : Bool} {r : Bytes} (h : w.heap[g]? = some (mrb a n c e)) (hs : By.Seq w (.slice a' r.length c') r) (hl : 0 < r.length → LowA g a') : MrBox (w.setCell ⟨g, 0, none⟩ (.slice a' r.length c')) g (r, e) :=
 ⟨a', c', mrb_set0 h, bySeq_low hs hl (But.set g w 0 _).below, hl⟩
theorem mrBox_err {w : World} {g : Nat} {a : Option Addr} {c : Nat} {e e' : Bool} {r : Bytes} (h : w.heap[g]? = some (mrb a r.length c e)) (hs : By.Seq w (.slice a r.length c) r) (hl : 0 < r.length → LowA g a) : MrBox (w.setCell ⟨g, 1, none⟩ (.bool e')) g (r, e') :=
 ⟨a, c, mrb_set1 h, bySeq_low hs hl (But.set g w 1 _).below, hl⟩
def GivesM {α : Type} (val : World → Value → α → Prop) (w : World) (g : Nat) (p : α × Rb) (e : Ending) (w' : World) : Prop := ∃ v, e = .returned v ∧ val w' v p.1 ∧ MrBox w' g p.2 ∧ But g w w'
end Go.Proofs.YtfapkepfngddlaaGreat
