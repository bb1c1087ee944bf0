/- Fields as plain mathematics: what a field is of items, the fields of a key; the laws that follow. Requests as plain mathematics: when one is formed, what it takes away, the effect that it becomes, what a list of them becomes; the laws that follow. The program's own way with requests as plain mathematics: what it asks of a request, the dots that it sorts, the state of its loop. -/
import Derived.Test.YtmknpmamkjjiaaaGreatMaths
import Derived.Laws.BitsLemmas
import Derived.Laws.BitsAllLaws
namespace Go.Proofs.YtmknpmamkjjiaaaGreat.Plain
set_option linter.unusedVariables false

structure PVal where
 elems : List Txt
 regs : List Txt
 total : Int
 over : Bool
theorem pval_ext {a b : PVal} (h1 : a.elems = b.elems) (h2 : a.regs = b.regs) (h3 : a.total = b.total) (h4 : a.over = b.over) : a = b := by
 cases a; cases b; simp_all
instance : DecidableEq PVal := fun a b => decidable_of_iff (a.elems = b.elems ∧ a.regs = b.regs ∧ a.total = b.total ∧ a.over = b.over) ⟨fun ⟨h1, h2, h3, h4⟩ => pval_ext h1 h2 h3 h4, fun e => by subst e; exact ⟨rfl, rfl, rfl, rfl⟩⟩
instance : Inhabited PVal := ⟨⟨[], [], 0, false⟩⟩
def inField (key field : Txt) (x : PItem) : Bool := decide (x.key = key) && decide (x.field = field)
/-! ### in whatever order -/
/-! ### one item more -/
/-! ### the fields of a key -/
end Go.Proofs.YtmknpmamkjjiaaaGreat.Plain
namespace Go.Proofs.YtmknpmamkjjiaaaGreat.Plain
set_option linter.unusedVariables false

structure PReq where
 op : Int
 key : Txt
 field : Txt
 elem : Txt
 n : Int
instance : Inhabited PReq := ⟨⟨0, [], [], [], 0⟩⟩
/-- is it one that a request takes away? -/
def takesB (node : Int) (q : PReq) (x : PItem) : Bool :=
 inField q.key q.field x && (if q.op = 1 ∨ q.op = 2 then decide (x.kind = 1) && decide (x.elem = q.elem) else if q.op = 3 then decide (x.kind = 2) else if q.op = 4 then decide (x.kind = 3) && decide (x.dot.node = node) else true)
def taken (node : Int) (q : PReq) (s : List PItem) : List PItem := s.filter (takesB node q)
/-! ### dots, rising -/
def dlt (a b : PDot) : Prop := a.node < b.node ∨ (a.node = b.node ∧ (a.seq < b.seq ∨ (a.seq = b.seq ∧ a.pos < b.pos)))
instance : DecidableRel dlt := fun a b => by unfold dlt; infer_instance
def inRange (node seq : Int) : Bool := decide (0 ≤ node ∧ node ≤ 7 ∧ 1 ≤ seq ∧ seq ≤ 1073741824)
/-! ### usual items -/
/-! ### the effects are right -/
/-! ### what was asked is done -/
/-! ### counting -/
/-! ### numbers -/
end Go.Proofs.YtmknpmamkjjiaaaGreat.Plain
namespace Go.Proofs.YtmknpmamkjjiaaaGreat.Plain
set_option linter.unusedVariables false

/-! ### Formed -/
/-! ### dots -/
theorem nodup_dots : ∀ {l : List PItem}, l.Nodup → DotsApart l → (l.map (·.dot)).Nodup
 | [], _, _ => List.nodup_nil
 | x :: l, hn, ha => by
  rw [List.map_cons, List.nodup_cons]
  rw [List.nodup_cons] at hn
  refine ⟨fun h => ?_, nodup_dots hn.2 fun a h b g e => ha a (List.mem_cons_of_mem _ h) b (List.mem_cons_of_mem _ g) e⟩
  obtain ⟨y, hy, e⟩ := List.mem_map.1 h
  exact hn.1 (by rw [← ha y (List.mem_cons_of_mem _ hy) x List.mem_cons_self e]; exact hy)

/-! ### one request -/
/-! ### the loop -/
/-- the items in the loop: no two of one dot, or nothing is taken away any more -/
def DotsOnce (s : List PItem) : Prop := (s.map (·.dot)).Nodup
theorem DotsOnce.of {s : List PItem} (hr : Ris iless s) (ha : DotsApart s) : DotsOnce s := nodup_dots (Ris.nodup sto_item hr) ha
def LoopOk (node : Int) (s : List PItem) (l : List PReq) : Prop := DotsOnce s ∨ ∀ q ∈ l, taken node q s = []
theorem LoopOk.tail {node : Int} {s : List PItem} {q : PReq} {l : List PReq} (h : LoopOk node s (q :: l)) : LoopOk node s l := h.elim .inl fun h => .inr fun x hx => h x (List.mem_cons_of_mem _ hx)
end Go.Proofs.YtmknpmamkjjiaaaGreat.Plain
