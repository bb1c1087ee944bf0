/- Fields as plain mathematics: what a field is of items, the fields of a key; the laws that follow. -/
import Derived.Test.YtpkmjddjllpglaaIMath
import Derived.Test.YtpkmjddjllpglaaNmSum
namespace Go.Proofs.Ytpkmjddjllpglaa.Plain
open Nm.Plain (fits sumV sumE tot)
set_option linter.unusedVariables false

structure PVal where
  elems : List Txt
  regs : List Txt
  total : Int
  over : Bool
theorem pval_ext {a b : PVal} (h1 : a.elems = b.elems) (h2 : a.regs = b.regs) (h3 : a.total = b.total) (h4 : a.over = b.over) : a = b := by
  cases a; cases b; simp_all
instance : DecidableEq PVal := fun a b => decidable_of_iff (a.elems = b.elems ∧ a.regs = b.regs ∧ a.total = b.total ∧ a.over = b.over) ⟨fun ⟨h1, h2, h3, h4⟩ => pval_ext h1 h2 h3 h4, fun e => by subst e; exact ⟨rfl, rfl, rfl, rfl⟩⟩
instance : Inhabited PVal := ⟨⟨[], [], 0, false⟩⟩
def inField (key field : Txt) (x : PItem) : Bool := decide (x.key = key) && decide (x.field = field)
def ofKind (key field : Txt) (kind : Int) (x : PItem) : Bool := inField key field x && decide (x.kind = kind)
def rawTexts (l : List PItem) (key field : Txt) (kind : Int) : List Txt := (l.filter (ofKind key field kind)).map (·.elem)
def vtexts (l : List PItem) (key field : Txt) (kind : Int) : List Txt := once (rawTexts l key field kind)
def vcounts (l : List PItem) (key field : Txt) : List Int := (l.filter (ofKind key field 3)).map (·.n)
def vfield (l : List PItem) (key field : Txt) : PVal := ⟨vtexts l key field 1, vtexts l key field 2, sumV (tot (vcounts l key field)), decide (¬ fits (tot (vcounts l key field)))⟩
def rawFields (l : List PItem) (key : Txt) : List Txt := (l.filter fun x => decide (x.key = key)).map (·.field)
def vfields (l : List PItem) (key : Txt) : List Txt := once (rawFields l key)
def vempty (v : PVal) : Bool := decide (v = default)

theorem rawTexts_len (l : List PItem) (key field : Txt) (kind : Int) : (rawTexts l key field kind).length ≤ l.length := by
  unfold rawTexts
  rw [List.length_map]
  exact List.length_filter_le _ _
theorem vcounts_len (l : List PItem) (key field : Txt) : (vcounts l key field).length ≤ l.length := by
  unfold vcounts
  rw [List.length_map]
  exact List.length_filter_le _ _
theorem rawFields_len (l : List PItem) (key : Txt) : (rawFields l key).length ≤ l.length := by
  unfold rawFields
  rw [List.length_map]
  exact List.length_filter_le _ _
theorem vtexts_len (l : List PItem) (key field : Txt) (kind : Int) : (vtexts l key field kind).length ≤ l.length := by
  unfold vtexts
  have := once_len (rawTexts l key field kind)
  have := rawTexts_len l key field kind
  omega
theorem vfields_len (l : List PItem) (key : Txt) : (vfields l key).length ≤ l.length := by
  unfold vfields
  have := once_len (rawFields l key)
  have := rawFields_len l key
  omega

/-! ### in whatever order -/
theorem tot_app : ∀ a b : List Int, tot (a ++ b) = tot a + tot b := Nm.Plain.tot_append
/-- the list turned by a place -/
def turned (l : List PItem) (r : Nat) : List PItem := l.drop r ++ l.take r
theorem turned_mem {l : List PItem} {r : Nat} {t : PItem} : t ∈ turned l r ↔ t ∈ l := by
  unfold turned
  rw [List.mem_append]
  constructor
  · rintro (h | h)
    · exact List.mem_of_mem_drop h
    · exact List.mem_of_mem_take h
  · intro h
    rw [← List.take_append_drop r l] at h
    exact (List.mem_append.1 h).symm
theorem turned_len (l : List PItem) (r : Nat) : (turned l r).length = l.length := by
  unfold turned
  rw [List.length_append, Nat.add_comm, ← List.length_append, List.take_append_drop]
theorem vtexts_turned (l : List PItem) (r : Nat) (key field : Txt) (kind : Int) : vtexts (turned l r) key field kind = vtexts l key field kind := by
  unfold vtexts rawTexts
  refine once_ext fun t => ?_
  simp only [List.mem_map, List.mem_filter, turned_mem]
theorem vcounts_turned (l : List PItem) (r : Nat) (key field : Txt) : tot (vcounts (turned l r) key field) = tot (vcounts l key field) := by
  have h : ∀ a b : List PItem, tot (vcounts (a ++ b) key field) = tot (vcounts a key field) + tot (vcounts b key field) := fun a b => by
    unfold vcounts
    rw [List.filter_append, List.map_append, tot_app]
  have e : l = l.take r ++ l.drop r := (List.take_append_drop r l).symm
  unfold turned
  rw [h]
  conv => rhs; rw [e]
  rw [h]
  omega
theorem vfield_turned (l : List PItem) (r : Nat) (key field : Txt) : vfield (turned l r) key field = vfield l key field := by
  unfold vfield
  rw [vtexts_turned, vtexts_turned, vcounts_turned]
theorem vfields_turned (l : List PItem) (r : Nat) (key : Txt) : vfields (turned l r) key = vfields l key := by
  unfold vfields rawFields
  refine once_ext fun t => ?_
  simp only [List.mem_map, List.mem_filter, turned_mem]
theorem ofKind_of (l : List PItem) (key field : Txt) (kind : Int) : (iof l key).filter (ofKind key field kind) = l.filter (ofKind key field kind) := by
  unfold iof
  rw [List.filter_filter]
  congr 1
  funext x
  unfold ofKind inField
  cases decide (x.key = key) <;> simp
theorem vfield_of (l : List PItem) (key field : Txt) : vfield (iof l key) key field = vfield l key field := by
  unfold vfield vtexts rawTexts vcounts
  rw [ofKind_of, ofKind_of, ofKind_of]

/-! ### one item more -/
theorem ofKind_more_no {x : PItem} {key field : Txt} {kind : Int} (l : List PItem) (h : ofKind key field kind x = false) : (l ++ [x]).filter (ofKind key field kind) = l.filter (ofKind key field kind) := by
  rw [List.filter_append, List.filter_cons, if_neg (by rw [h]; decide), List.filter_nil, List.append_nil]
theorem ofKind_more_yes {x : PItem} {key field : Txt} {kind : Int} (l : List PItem) (h : ofKind key field kind x = true) : (l ++ [x]).filter (ofKind key field kind) = l.filter (ofKind key field kind) ++ [x] := by
  rw [List.filter_append, List.filter_cons, if_pos h, List.filter_nil]
theorem vtexts_no {x : PItem} {key field : Txt} {kind : Int} (l : List PItem) (h : ofKind key field kind x = false) : vtexts (l ++ [x]) key field kind = vtexts l key field kind := by
  unfold vtexts rawTexts
  rw [ofKind_more_no l h]
theorem vcounts_no {x : PItem} {key field : Txt} (l : List PItem) (h : ofKind key field 3 x = false) : vcounts (l ++ [x]) key field = vcounts l key field := by
  unfold vcounts
  rw [ofKind_more_no l h]
theorem vtexts_yes {x : PItem} {key field : Txt} {kind : Int} (l : List PItem) (h : ofKind key field kind x = true) : vtexts (l ++ [x]) key field kind = once (vtexts l key field kind ++ [x.elem]) := by
  unfold vtexts rawTexts
  rw [ofKind_more_yes l h, List.map_append]
  refine once_ext fun t => ?_
  rw [List.mem_append, List.mem_append, mem_once]
  rfl
theorem ofKind_apart {x : PItem} {key field : Txt} (kind : Int) (h : inField key field x = false) : ofKind key field kind x = false := by
  unfold ofKind
  rw [h]
  rfl
theorem ofKind_in {x : PItem} {key field : Txt} (kind : Int) (h : inField key field x = true) : ofKind key field kind x = decide (x.kind = kind) := by
  unfold ofKind
  rw [h]
  rfl
theorem vfield_apart {x : PItem} {key field : Txt} (l : List PItem) (h : inField key field x = false) : vfield (l ++ [x]) key field = vfield l key field := by
  unfold vfield
  rw [vtexts_no l (ofKind_apart 1 h), vtexts_no l (ofKind_apart 2 h), vcounts_no l (ofKind_apart 3 h)]

/-! ### the fields of a key -/
theorem mem_vfields {l : List PItem} {key t : Txt} : t ∈ vfields l key ↔ ∃ x ∈ l, x.key = key ∧ x.field = t := by
  unfold vfields rawFields
  rw [mem_once, List.mem_map]
  constructor
  · rintro ⟨x, hx, e⟩
    obtain ⟨h1, h2⟩ := List.mem_filter.1 hx
    exact ⟨x, h1, of_decide_eq_true h2, e⟩
  · rintro ⟨x, hx, h1, h2⟩
    exact ⟨x, List.mem_filter.2 ⟨hx, decide_eq_true h1⟩, h2⟩
theorem ofKind_none {l : List PItem} {key field : Txt} (kind : Int) (h : l.any (inField key field) = false) : l.filter (ofKind key field kind) = [] := by
  rw [List.any_eq_false] at h
  refine List.filter_eq_nil_iff.2 fun x hx => ?_
  unfold ofKind
  have := h x hx
  rw [Bool.not_eq_true] at this
  rw [this, Bool.false_and]
  decide
theorem vfield_none {l : List PItem} {key field : Txt} (h : l.any (inField key field) = false) : vfield l key field = default := by
  unfold vfield vtexts rawTexts vcounts
  rw [ofKind_none 1 h, ofKind_none 2 h, ofKind_none 3 h]
  rfl
theorem vfields_any (l : List PItem) (key field : Txt) : (vfields l key).any (fun t => decide (t = field)) = l.any (inField key field) := by
  rw [Bool.eq_iff_iff, List.any_eq_true, List.any_eq_true]
  constructor
  · rintro ⟨t, ht, e⟩
    obtain ⟨x, hx, h1, h2⟩ := mem_vfields.1 ht
    refine ⟨x, hx, ?_⟩
    unfold inField
    rw [decide_eq_true h1, decide_eq_true (h2.trans (of_decide_eq_true e))]
    rfl
  · rintro ⟨x, hx, e⟩
    unfold inField at e
    rw [Bool.and_eq_true, decide_eq_true_iff, decide_eq_true_iff] at e
    exact ⟨field, mem_vfields.2 ⟨x, hx, e.1, e.2⟩, decide_eq_true rfl⟩
theorem once_vfields (l : List PItem) (key : Txt) : once (vfields l key) = vfields l key := by
  unfold vfields
  exact once_ext fun t => by rw [mem_once]
end Go.Proofs.Ytpkmjddjllpglaa.Plain
