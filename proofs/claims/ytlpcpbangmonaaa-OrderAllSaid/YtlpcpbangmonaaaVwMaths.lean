/- Fields as plain mathematics: what a field is of items, the fields of a key; the laws that follow. Requests as plain mathematics: when one is formed, what it takes away, the effect that it becomes, what a list of them becomes; the laws that follow. The program's own way with requests as plain mathematics: what it asks of a request, the dots that it sorts, the state of its loop. -/
import Derived.Test.YtlpcpbangmonaaaMaths
import Derived.Test.YtlpcpbangmonaaaNms
namespace Go.Proofs.Ytlpcpbangmonaaa.Plain
open Nm.Plain (fits sumV sumE tot)
set_option linter.unusedVariables false

structure PVal where
  elems : List Txt
  regs : List Txt
  total : Int
  over : Bool
theorem pval_ext {a b : PVal} (h1 : a.elems = b.elems) (h2 : a.regs = b.regs) (h3 : a.total = b.total) (h4 : a.over = b.over) : a = b := by
  cases a; cases b; simp_all
instance : DecidableEq PVal := fun a b => decidable_of_iff (a.elems = b.elems ∧ a.regs = b.regs ∧ a.total = b.total ∧ a.over = b.over) ⟨fun ⟨h1, h2, h3, h4⟩ => pval_ext h1 h2 h3 h4, fun e => by subst e; exact ⟨rfl, rfl, rfl, rfl⟩⟩
instance : Inhabited PVal := ⟨⟨[], [], 0, false⟩⟩
def inField (key field : Txt) (x : PItem) : Bool := decide (x.key = key) && decide (x.field = field)
def ofKind (key field : Txt) (kind : Int) (x : PItem) : Bool := inField key field x && decide (x.kind = kind)
def rawTexts (l : List PItem) (key field : Txt) (kind : Int) : List Txt := (l.filter (ofKind key field kind)).map (·.elem)
def vtexts (l : List PItem) (key field : Txt) (kind : Int) : List Txt := once (rawTexts l key field kind)
def vcounts (l : List PItem) (key field : Txt) : List Int := (l.filter (ofKind key field 3)).map (·.n)
def vfield (l : List PItem) (key field : Txt) : PVal := ⟨vtexts l key field 1, vtexts l key field 2, sumV (tot (vcounts l key field)), decide (¬ fits (tot (vcounts l key field)))⟩
def rawFields (l : List PItem) (key : Txt) : List Txt := (l.filter fun x => decide (x.key = key)).map (·.field)
def vfields (l : List PItem) (key : Txt) : List Txt := once (rawFields l key)
def vempty (v : PVal) : Bool := decide (v = default)

theorem rawTexts_len (l : List PItem) (key field : Txt) (kind : Int) : (rawTexts l key field kind).length ≤ l.length := by
  unfold rawTexts
  rw [List.length_map]
  exact List.length_filter_le _ _
theorem vcounts_len (l : List PItem) (key field : Txt) : (vcounts l key field).length ≤ l.length := by
  unfold vcounts
  rw [List.length_map]
  exact List.length_filter_le _ _
theorem rawFields_len (l : List PItem) (key : Txt) : (rawFields l key).length ≤ l.length := by
  unfold rawFields
  rw [List.length_map]
  exact List.length_filter_le _ _
theorem vtexts_len (l : List PItem) (key field : Txt) (kind : Int) : (vtexts l key field kind).length ≤ l.length := by
  unfold vtexts
  have := once_len (rawTexts l key field kind)
  have := rawTexts_len l key field kind
  omega
theorem vfields_len (l : List PItem) (key : Txt) : (vfields l key).length ≤ l.length := by
  unfold vfields
  have := once_len (rawFields l key)
  have := rawFields_len l key
  omega

/-! ### in whatever order -/
theorem tot_app : ∀ a b : List Int, tot (a ++ b) = tot a + tot b := Nm.Plain.tot_append
/-- the list turned by a place -/
def turned (l : List PItem) (r : Nat) : List PItem := l.drop r ++ l.take r
theorem turned_mem {l : List PItem} {r : Nat} {t : PItem} : t ∈ turned l r ↔ t ∈ l := by
  unfold turned
  rw [List.mem_append]
  constructor
  · rintro (h | h)
    · exact List.mem_of_mem_drop h
    · exact List.mem_of_mem_take h
  · intro h
    rw [← List.take_append_drop r l] at h
    exact (List.mem_append.1 h).symm
theorem turned_len (l : List PItem) (r : Nat) : (turned l r).length = l.length := by
  unfold turned
  rw [List.length_append, Nat.add_comm, ← List.length_append, List.take_append_drop]
theorem vtexts_turned (l : List PItem) (r : Nat) (key field : Txt) (kind : Int) : vtexts (turned l r) key field kind = vtexts l key field kind := by
  unfold vtexts rawTexts
  refine once_ext fun t => ?_
  simp only [List.mem_map, List.mem_filter, turned_mem]
theorem vcounts_turned (l : List PItem) (r : Nat) (key field : Txt) : tot (vcounts (turned l r) key field) = tot (vcounts l key field) := by
  have h : ∀ a b : List PItem, tot (vcounts (a ++ b) key field) = tot (vcounts a key field) + tot (vcounts b key field) := fun a b => by
    unfold vcounts
    rw [List.filter_append, List.map_append, tot_app]
  have e : l = l.take r ++ l.drop r := (List.take_append_drop r l).symm
  unfold turned
  rw [h]
  conv => rhs; rw [e]
  rw [h]
  omega
theorem vfield_turned (l : List PItem) (r : Nat) (key field : Txt) : vfield (turned l r) key field = vfield l key field := by
  unfold vfield
  rw [vtexts_turned, vtexts_turned, vcounts_turned]
theorem vfields_turned (l : List PItem) (r : Nat) (key : Txt) : vfields (turned l r) key = vfields l key := by
  unfold vfields rawFields
  refine once_ext fun t => ?_
  simp only [List.mem_map, List.mem_filter, turned_mem]
theorem ofKind_of (l : List PItem) (key field : Txt) (kind : Int) : (iof l key).filter (ofKind key field kind) = l.filter (ofKind key field kind) := by
  unfold iof
  rw [List.filter_filter]
  congr 1
  funext x
  unfold ofKind inField
  cases decide (x.key = key) <;> simp
theorem vfield_of (l : List PItem) (key field : Txt) : vfield (iof l key) key field = vfield l key field := by
  unfold vfield vtexts rawTexts vcounts
  rw [ofKind_of, ofKind_of, ofKind_of]

/-! ### one item more -/
theorem ofKind_more_no {x : PItem} {key field : Txt} {kind : Int} (l : List PItem) (h : ofKind key field kind x = false) : (l ++ [x]).filter (ofKind key field kind) = l.filter (ofKind key field kind) := by
  rw [List.filter_append, List.filter_cons, if_neg (by rw [h]; decide), List.filter_nil, List.append_nil]
theorem ofKind_more_yes {x : PItem} {key field : Txt} {kind : Int} (l : List PItem) (h : ofKind key field kind x = true) : (l ++ [x]).filter (ofKind key field kind) = l.filter (ofKind key field kind) ++ [x] := by
  rw [List.filter_append, List.filter_cons, if_pos h, List.filter_nil]
theorem vtexts_no {x : PItem} {key field : Txt} {kind : Int} (l : List PItem) (h : ofKind key field kind x = false) : vtexts (l ++ [x]) key field kind = vtexts l key field kind := by
  unfold vtexts rawTexts
  rw [ofKind_more_no l h]
theorem vcounts_no {x : PItem} {key field : Txt} (l : List PItem) (h : ofKind key field 3 x = false) : vcounts (l ++ [x]) key field = vcounts l key field := by
  unfold vcounts
  rw [ofKind_more_no l h]
theorem vtexts_yes {x : PItem} {key field : Txt} {kind : Int} (l : List PItem) (h : ofKind key field kind x = true) : vtexts (l ++ [x]) key field kind = once (vtexts l key field kind ++ [x.elem]) := by
  unfold vtexts rawTexts
  rw [ofKind_more_yes l h, List.map_append]
  refine once_ext fun t => ?_
  rw [List.mem_append, List.mem_append, mem_once]
  rfl
theorem ofKind_apart {x : PItem} {key field : Txt} (kind : Int) (h : inField key field x = false) : ofKind key field kind x = false := by
  unfold ofKind
  rw [h]
  rfl
theorem ofKind_in {x : PItem} {key field : Txt} (kind : Int) (h : inField key field x = true) : ofKind key field kind x = decide (x.kind = kind) := by
  unfold ofKind
  rw [h]
  rfl
theorem vfield_apart {x : PItem} {key field : Txt} (l : List PItem) (h : inField key field x = false) : vfield (l ++ [x]) key field = vfield l key field := by
  unfold vfield
  rw [vtexts_no l (ofKind_apart 1 h), vtexts_no l (ofKind_apart 2 h), vcounts_no l (ofKind_apart 3 h)]

/-! ### the fields of a key -/
theorem mem_vfields {l : List PItem} {key t : Txt} : t ∈ vfields l key ↔ ∃ x ∈ l, x.key = key ∧ x.field = t := by
  unfold vfields rawFields
  rw [mem_once, List.mem_map]
  constructor
  · rintro ⟨x, hx, e⟩
    obtain ⟨h1, h2⟩ := List.mem_filter.1 hx
    exact ⟨x, h1, of_decide_eq_true h2, e⟩
  · rintro ⟨x, hx, h1, h2⟩
    exact ⟨x, List.mem_filter.2 ⟨hx, decide_eq_true h1⟩, h2⟩
theorem ofKind_none {l : List PItem} {key field : Txt} (kind : Int) (h : l.any (inField key field) = false) : l.filter (ofKind key field kind) = [] := by
  rw [List.any_eq_false] at h
  refine List.filter_eq_nil_iff.2 fun x hx => ?_
  unfold ofKind
  have := h x hx
  rw [Bool.not_eq_true] at this
  rw [this, Bool.false_and]
  decide
theorem vfield_none {l : List PItem} {key field : Txt} (h : l.any (inField key field) = false) : vfield l key field = default := by
  unfold vfield vtexts rawTexts vcounts
  rw [ofKind_none 1 h, ofKind_none 2 h, ofKind_none 3 h]
  rfl
theorem vfields_any (l : List PItem) (key field : Txt) : (vfields l key).any (fun t => decide (t = field)) = l.any (inField key field) := by
  rw [Bool.eq_iff_iff, List.any_eq_true, List.any_eq_true]
  constructor
  · rintro ⟨t, ht, e⟩
    obtain ⟨x, hx, h1, h2⟩ := mem_vfields.1 ht
    refine ⟨x, hx, ?_⟩
    unfold inField
    rw [decide_eq_true h1, decide_eq_true (h2.trans (of_decide_eq_true e))]
    rfl
  · rintro ⟨x, hx, e⟩
    unfold inField at e
    rw [Bool.and_eq_true, decide_eq_true_iff, decide_eq_true_iff] at e
    exact ⟨field, mem_vfields.2 ⟨x, hx, e.1, e.2⟩, decide_eq_true rfl⟩
theorem once_vfields (l : List PItem) (key : Txt) : once (vfields l key) = vfields l key := by
  unfold vfields
  exact once_ext fun t => by rw [mem_once]
end Go.Proofs.Ytlpcpbangmonaaa.Plain
namespace Go.Proofs.Ytlpcpbangmonaaa.Plain
open Nm.Plain (fits sumV sumE tot)
set_option linter.unusedVariables false

structure PReq where
  op : Int
  key : Txt
  field : Txt
  elem : Txt
  n : Int
instance : Inhabited PReq := ⟨⟨0, [], [], [], 0⟩⟩
def reqB (q : PReq) : Bool := decide (1 ≤ q.op ∧ q.op ≤ 5) && (keyB q.key && (prefixB q.field && (decide (q.elem.length ≤ 32) && ((decide (q.op ≤ 3) || decide (q.elem.length = 0)) && (decide (q.op = 4) || decide (q.n = 0))))))
/-- is it one that a request takes away? -/
def takesB (node : Int) (q : PReq) (x : PItem) : Bool :=
  inField q.key q.field x && (if q.op = 1 ∨ q.op = 2 then decide (x.kind = 1) && decide (x.elem = q.elem) else if q.op = 3 then decide (x.kind = 2) else if q.op = 4 then decide (x.kind = 3) && decide (x.dot.node = node) else true)
def taken (node : Int) (q : PReq) (s : List PItem) : List PItem := s.filter (takesB node q)
/-! ### dots, rising -/
def dlt (a b : PDot) : Prop := a.node < b.node ∨ (a.node = b.node ∧ (a.seq < b.seq ∨ (a.seq = b.seq ∧ a.pos < b.pos)))
instance : DecidableRel dlt := fun a b => by unfold dlt; infer_instance
theorem dless_dlt (a b : PDot) : dlessB a b = decide (dlt a b) := rfl
theorem sto_dot : Sto dlt := by
  refine ⟨fun a h => ?_, fun {a b c} h g => ?_, fun {a b} h g => ?_⟩
  · unfold dlt at h; omega
  · unfold dlt at *; omega
  · unfold dlt at *
    exact pdot_ext (by omega) (by omega) (by omega)
def rdots (l : List PItem) : List PDot := onceR dlt (l.map (·.dot))
theorem mem_rdots {l : List PItem} {d : PDot} : d ∈ rdots l ↔ ∃ x ∈ l, x.dot = d := by
  unfold rdots
  rw [mem_onceR, List.mem_map]
theorem rdots_nil {l : List PItem} : rdots l = [] ↔ l = [] := by
  constructor
  · intro h
    cases l with
    | nil => rfl
    | cons x l =>
      have : x.dot ∈ rdots (x :: l) := mem_rdots.2 ⟨x, List.mem_cons_self, rfl⟩
      rw [h] at this
      exact absurd this (by simp)
  · rintro rfl; rfl
theorem rdots_len (l : List PItem) : (rdots l).length ≤ l.length := by
  unfold rdots
  have := onceR_len (r := dlt) (l.map (·.dot))
  rwa [List.length_map] at this
theorem drops_of_ris : ∀ {l : List PDot}, Ris dlt l → (∀ d ∈ l, dotB d = true) → dropsB l = true
  | [], _, _ => rfl
  | [d], _, h => h d List.mem_cons_self
  | d :: e :: l, hr, h => by
    rw [dropsB, h d List.mem_cons_self, dless_dlt, decide_eq_true (hr.head e List.mem_cons_self), drops_of_ris hr.tail fun x hx => h x (List.mem_cons_of_mem _ hx)]
    rfl
def mdrops (node : Int) (q : PReq) (s : List PItem) : List PDot := rdots (taken node q s)
def msum (node : Int) (q : PReq) (s : List PItem) : Int := tot ((taken node q s).map (·.n) ++ [q.n])
def mkind (q : PReq) : Int := if q.op = 1 then 1 else if q.op = 3 then 2 else if q.op = 4 then 3 else 0
def melem (q : PReq) : Txt := if q.op = 1 ∨ q.op = 3 then q.elem else []
def meff (node i : Int) (q : PReq) (s : List PItem) : PEff := ⟨i, q.key, q.field, mkind q, melem q, if q.op = 4 then sumV (msum node q s) else 0, mdrops node q s⟩
/-- one request: its error, its effect -/
def mone (node seq i : Int) (s : List PItem) (q : PReq) : Int × List PEff :=
  if 64 < (mdrops node q s).length then (4, [])
  else if q.op = 4 ∧ ¬ fits (msum node q s) then (5, [])
  else if mkind q = 0 ∧ mdrops node q s = [] then (0, [])
  else if q.op = 4 ∧ (vfield (doStep node seq s (meff node i q s)) q.key q.field).over = true then (5, [])
  else (0, [meff node i q s])
def mrun (node seq : Int) : Int → List PItem → List PReq → Int × List PEff
  | _, _, [] => (0, [])
  | i, s, q :: l =>
    if (mone node seq i s q).1 = 0 then
      if (mrun node seq (i + 1) (edo node seq s (mone node seq i s q).2) l).1 = 0 then (0, (mone node seq i s q).2 ++ (mrun node seq (i + 1) (edo node seq s (mone node seq i s q).2) l).2)
      else ((mrun node seq (i + 1) (edo node seq s (mone node seq i s q).2) l).1, [])
    else ((mone node seq i s q).1, [])
def inRange (node seq : Int) : Bool := decide (0 ≤ node ∧ node ≤ 7 ∧ 1 ≤ seq ∧ seq ≤ 1073741824)
def mmake (s : List PItem) (node seq : Int) (l : List PReq) : Int × List PEff :=
  if inRange node seq = false then (1, []) else if 8 < l.length then (4, []) else if l.all reqB = false then (2, []) else mrun node seq 0 s l

theorem mrun_err {node seq : Int} : ∀ {l : List PReq} {i : Int} {s : List PItem}, (mrun node seq i s l).1 ≠ 0 → (mrun node seq i s l).2 = []
  | [], _, _, h => absurd rfl h
  | q :: l, i, s, h => by
    unfold mrun at h ⊢
    split
    · split
      · rename_i h1 h2
        rw [if_pos h1, if_pos h2] at h
        exact absurd rfl h
      · rfl
    · rfl
theorem mmake_err {s : List PItem} {node seq : Int} {l : List PReq} (h : (mmake s node seq l).1 ≠ 0) : (mmake s node seq l).2 = [] := by
  unfold mmake at h ⊢
  split
  · rfl
  · split
    · rfl
    · split
      · rfl
      · rename_i h1 h2 h3
        rw [if_neg h1, if_neg h2, if_neg h3] at h
        exact mrun_err h
/-- what an answer without an error says of its arguments -/
theorem mmake_ok {s : List PItem} {node seq : Int} {l : List PReq} (h : (mmake s node seq l).1 = 0) : inRange node seq = true ∧ l.length ≤ 8 ∧ l.all reqB = true ∧ mmake s node seq l = mrun node seq 0 s l := by
  unfold mmake at h ⊢
  split at h
  · exact absurd h (by decide)
  · split at h
    · exact absurd h (by decide)
    · split at h
      · exact absurd h (by decide)
      · rename_i h1 h2 h3
        rw [if_neg h1, if_neg h2, if_neg h3]
        exact ⟨by simpa using h1, by omega, by simpa using h3, rfl⟩

/-! ### usual items -/
/-- formed items in their one form; of the transaction's node none of a later transaction, of the transaction itself none from At i on -/
structure Usual (node seq i : Int) (s : List PItem) : Prop where
  form : inorm s = s
  fine : ∀ x ∈ s, formedB x = true
  past : ∀ x ∈ s, x.dot.node = node → x.dot.seq < seq ∨ (x.dot.seq = seq ∧ x.dot.pos < i)
theorem Usual.apart {node seq i : Int} {s : List PItem} (h : Usual node seq i s) : DotsApart s := by rw [← h.form]; exact apart_inorm s
theorem Usual.ris {node seq i : Int} {s : List PItem} (h : Usual node seq i s) : Ris iless s := by rw [← h.form]; exact ris_inorm s
theorem Usual.mono {node seq i j : Int} {s : List PItem} (h : Usual node seq i s) (hij : i ≤ j) : Usual node seq j s := ⟨h.form, h.fine, fun x hx hn => by have := h.past x hx hn; omega⟩
def usual1 (node seq : Int) (x : PItem) : Bool := formedB x && !(decide (x.dot.node = node) && decide (seq ≤ x.dot.seq))
def usualB (s : List PItem) (node seq : Int) : Bool := decide (inorm s = s) && s.all (usual1 node seq)
theorem usual_of {s : List PItem} {node seq : Int} (h : usualB s node seq = true) : Usual node seq 0 s := by
  unfold usualB at h
  rw [Bool.and_eq_true, decide_eq_true_iff, List.all_eq_true] at h
  refine ⟨h.1, fun x hx => ?_, fun x hx hn => ?_⟩
  · have := h.2 x hx
    unfold usual1 at this
    rw [Bool.and_eq_true] at this
    exact this.1
  · have := h.2 x hx
    unfold usual1 at this
    simp [hn] at this
    left
    omega
theorem dropped_iff {node : Int} {q : PReq} {s : List PItem} (ha : DotsApart s) {t : PItem} (ht : t ∈ s) : t.dot ∈ mdrops node q s ↔ takesB node q t = true := by
  unfold mdrops taken
  rw [mem_rdots]
  constructor
  · rintro ⟨x, hx, e⟩
    rw [← ha x (List.mem_filter.1 hx).1 t ht e]
    exact (List.mem_filter.1 hx).2
  · intro h
    exact ⟨t, List.mem_filter.2 ⟨ht, h⟩, rfl⟩
theorem mem_raw {node seq i : Int} {q : PReq} {s : List PItem} (ha : DotsApart s) {t : PItem} : t ∈ rawStep node seq s (meff node i q s) ↔ (t ∈ s ∧ takesB node q t = false) ∨ (mkind q ≠ 0 ∧ t = madeI node seq (meff node i q s)) := by
  unfold rawStep
  rw [List.mem_append, mem_iwithout, mem_makes]
  constructor
  · rintro (⟨h1, h2⟩ | h)
    · exact .inl ⟨h1, by rw [← Bool.not_eq_true]; exact fun k => h2 ((dropped_iff ha h1).2 k)⟩
    · exact .inr h
  · rintro (⟨h1, h2⟩ | h)
    · exact .inl ⟨h1, fun k => by rw [(dropped_iff ha h1).1 k] at h2; cases h2⟩
    · exact .inr h
theorem made_new {node seq i : Int} {q : PReq} {s : List PItem} (h : Usual node seq i s) {x : PItem} (hx : x ∈ s) : x.dot ≠ (madeI node seq (meff node i q s)).dot := by
  intro e
  have h1 : x.dot.node = node := congrArg PDot.node e
  have h2 : x.dot.seq = seq := congrArg PDot.seq e
  have h3 : x.dot.pos = i := congrArg PDot.pos e
  have := h.past x hx h1
  omega
theorem raw_apart {node seq i : Int} {q : PReq} {s : List PItem} (h : Usual node seq i s) : DotsApart (rawStep node seq s (meff node i q s)) := by
  intro x hx y hy e
  rcases (mem_raw h.apart).1 hx with ⟨h1, -⟩ | ⟨-, h1⟩ <;> rcases (mem_raw h.apart).1 hy with ⟨h2, -⟩ | ⟨-, h2⟩
  · exact h.apart x h1 y h2 e
  · subst h2; exact absurd e (made_new h h1)
  · subst h1; exact absurd e.symm (made_new h h2)
  · rw [h1, h2]
/-- the items behind a step -/
theorem mem_step {node seq i : Int} {q : PReq} {s : List PItem} (h : Usual node seq i s) {t : PItem} : t ∈ doStep node seq s (meff node i q s) ↔ (t ∈ s ∧ takesB node q t = false) ∨ (mkind q ≠ 0 ∧ t = madeI node seq (meff node i q s)) := by
  unfold doStep
  rw [inorm_apart (raw_apart h), mem_raw h.apart]
theorem formed_parts {x : PItem} : formedB x = true ↔ dotB x.dot = true ∧ keyB x.key = true ∧ prefixB x.field = true ∧ x.elem.length ≤ 32 ∧ valueB x = true := by
  unfold formedB
  simp only [Bool.and_eq_true, decide_eq_true_iff]
theorem req_parts {q : PReq} : reqB q = true ↔ (1 ≤ q.op ∧ q.op ≤ 5) ∧ keyB q.key = true ∧ prefixB q.field = true ∧ q.elem.length ≤ 32 ∧ (q.op ≤ 3 ∨ q.elem.length = 0) ∧ (q.op = 4 ∨ q.n = 0) := by
  unfold reqB
  simp only [Bool.and_eq_true, Bool.or_eq_true, decide_eq_true_iff]
theorem dot_fine {node seq i : Int} (h : inRange node seq = true) (h0 : 0 ≤ i) (h7 : i ≤ 7) : dotB ⟨node, seq, i⟩ = true := by
  unfold inRange at h
  unfold dotB
  rw [decide_eq_true_iff] at h ⊢
  exact ⟨h.1, h.2.1, h.2.2.1, h.2.2.2, h0, h7⟩
theorem made_fine {node seq i : Int} {q : PReq} {s : List PItem} (hr : inRange node seq = true) (hq : reqB q = true) (h0 : 0 ≤ i) (h7 : i ≤ 7) (hk : mkind q ≠ 0) : formedB (madeI node seq (meff node i q s)) = true := by
  obtain ⟨h1, h2, h3, h4, h5, h6⟩ := req_parts.1 hq
  refine formed_parts.2 ⟨dot_fine hr h0 h7, h2, h3, ?_, ?_⟩
  · show (melem q).length ≤ 32
    unfold melem
    split
    · exact h4
    · simp
  · have hv : ∀ (k : Int) (el : Txt) (n : Int), ((k = 1 ∨ k = 2) ∧ n = 0) ∨ (k = 3 ∧ el.length = 0) → valueB ⟨q.key, q.field, k, el, n, ⟨node, seq, i⟩⟩ = true := by
      intro k el n h
      unfold valueB
      simp only [Bool.or_eq_true, Bool.and_eq_true, decide_eq_true_iff]
      exact h
    refine hv _ _ _ ?_
    show ((mkind q = 1 ∨ mkind q = 2) ∧ (if q.op = 4 then sumV (msum node q s) else 0) = 0) ∨ (mkind q = 3 ∧ (melem q).length = 0)
    unfold mkind at hk ⊢
    unfold melem
    by_cases e1 : q.op = 1
    · left
      rw [if_pos e1, if_neg (by omega)]
      exact ⟨.inl rfl, rfl⟩
    · by_cases e3 : q.op = 3
      · left
        rw [if_neg e1, if_pos e3, if_neg (by omega)]
        exact ⟨.inr rfl, rfl⟩
      · by_cases e4 : q.op = 4
        · right
          rw [if_neg e1, if_neg e3, if_pos e4, if_neg (by omega)]
          exact ⟨rfl, rfl⟩
        · rw [if_neg e1, if_neg e3, if_neg e4] at hk
          exact absurd rfl hk
/-- usual items stay usual -/
theorem usual_step {node seq i : Int} {q : PReq} {s : List PItem} (h : Usual node seq i s) (hr : inRange node seq = true) (hq : reqB q = true) (h0 : 0 ≤ i) (h7 : i ≤ 7) : Usual node seq (i + 1) (doStep node seq s (meff node i q s)) := by
  refine ⟨inorm_inorm _, fun x hx => ?_, fun x hx hn => ?_⟩
  · rcases (mem_step h).1 hx with ⟨h1, -⟩ | ⟨h1, rfl⟩
    · exact h.fine x h1
    · exact made_fine hr hq h0 h7 h1
  · rcases (mem_step h).1 hx with ⟨h1, -⟩ | ⟨h1, rfl⟩
    · have := h.past x h1 hn; omega
    · right
      exact ⟨rfl, show i < i + 1 by omega⟩
/-- the effect of a step is formed, and drops nothing of its own transaction from its own on -/
theorem eff_fine {node seq i : Int} {q : PReq} {s : List PItem} (h : Usual node seq i s) (hr : inRange node seq = true) (hq : reqB q = true) (h0 : 0 ≤ i) (h7 : i ≤ 7) (hd : (mdrops node q s).length ≤ 64) (hk : ¬ (mkind q = 0 ∧ mdrops node q s = [])) :
    eformedB node seq (meff node i q s) = true ∧ pastB node seq (meff node i q s) = true := by
  obtain ⟨h1, h2, h3, h4, h5, h6⟩ := req_parts.1 hq
  have hin : ∀ d ∈ mdrops node q s, ∃ x ∈ s, x.dot = d := by
    intro d hd
    obtain ⟨x, hx, e⟩ := mem_rdots.1 hd
    exact ⟨x, (List.mem_filter.1 hx).1, e⟩
  constructor
  · unfold eformedB
    have hdr : dropsB (mdrops node q s) = true := drops_of_ris (ris_onceR sto_dot _) fun d hd => by
      obtain ⟨x, hx, rfl⟩ := hin d hd
      exact (formed_parts.1 (h.fine x hx)).1
    have hm : makesB node seq (meff node i q s) = true := by
      unfold makesB
      by_cases k0 : mkind q = 0
      · have hne : mdrops node q s ≠ [] := fun e => hk ⟨k0, e⟩
        rw [if_pos (show (meff node i q s).kind = 0 from k0)]
        have e1 : 0 < (meff node i q s).drops.length := List.length_pos_iff.2 hne
        have e2 : (meff node i q s).elem.length = 0 := by
          show (melem q).length = 0
          unfold melem
          unfold mkind at k0
          split
          · rename_i e
            rcases e with e | e
            · rw [if_pos e] at k0; cases k0
            · rw [if_neg (by omega), if_pos e] at k0; cases k0
          · rfl
        have e3 : (meff node i q s).n = 0 := by
          show (if q.op = 4 then sumV (msum node q s) else 0) = 0
          unfold mkind at k0
          split
          · rename_i e
            rw [if_neg (by omega), if_neg (by omega), if_pos e] at k0; cases k0
          · rfl
        rw [decide_eq_true e1, decide_eq_true e2, decide_eq_true e3]
        show (true && (true && (true && (keyB q.key && (prefixB q.field && dotB ⟨node, seq, i⟩))))) = true
        rw [h2, h3, dot_fine hr h0 h7]
        rfl
      · rw [if_neg (show ¬ (meff node i q s).kind = 0 from k0)]
        exact made_fine hr hq h0 h7 k0
    show (decide ((mdrops node q s).length ≤ 64) && (dropsB (mdrops node q s) && makesB node seq (meff node i q s))) = true
    rw [decide_eq_true hd, hdr, hm]
    rfl
  · unfold pastB
    rw [List.all_eq_true]
    intro d hd
    obtain ⟨x, hx, rfl⟩ := hin d hd
    have := h.past x hx
    show (!(decide (x.dot.node = node) && (decide (x.dot.seq = seq) && decide (i ≤ x.dot.pos)))) = true
    rw [Bool.not_eq_true', ← Bool.not_eq_true, Bool.and_eq_true, Bool.and_eq_true, decide_eq_true_iff, decide_eq_true_iff, decide_eq_true_iff]
    omega
/-- what one request comes to, where it is not refused -/
theorem mone_ok {node seq i : Int} {q : PReq} {s : List PItem} (h : (mone node seq i s q).1 = 0) :
    ((mone node seq i s q).2 = [] ∧ mkind q = 0 ∧ taken node q s = []) ∨
    ((mone node seq i s q).2 = [meff node i q s] ∧ (mdrops node q s).length ≤ 64 ∧ ¬ (mkind q = 0 ∧ mdrops node q s = []) ∧ (q.op = 4 → fits (msum node q s) ∧ (vfield (doStep node seq s (meff node i q s)) q.key q.field).over = false)) := by
  unfold mone at h ⊢
  split at h
  · exact absurd h (by decide)
  · split at h
    · exact absurd h (by decide)
    · split at h
      · rename_i h1 h2 h3
        left
        rw [if_neg h1, if_neg h2, if_pos h3]
        exact ⟨rfl, h3.1, rdots_nil.1 h3.2⟩
      · split at h
        · exact absurd h (by decide)
        · rename_i h1 h2 h3 h4
          right
          rw [if_neg h1, if_neg h2, if_neg h3, if_neg h4]
          refine ⟨rfl, by omega, h3, fun e => ⟨Classical.byContradiction fun k => h2 ⟨e, k⟩, ?_⟩⟩
          rw [← Bool.not_eq_true]
          exact fun k => h4 ⟨e, k⟩
theorem mrun_cons {node seq i : Int} {q : PReq} {s : List PItem} {l : List PReq} (h : (mrun node seq i s (q :: l)).1 = 0) :
    (mone node seq i s q).1 = 0 ∧ (mrun node seq (i + 1) (edo node seq s (mone node seq i s q).2) l).1 = 0 ∧ (mrun node seq i s (q :: l)).2 = (mone node seq i s q).2 ++ (mrun node seq (i + 1) (edo node seq s (mone node seq i s q).2) l).2 := by
  rw [mrun] at h ⊢
  split at h
  · split at h
    · rename_i h1 h2
      rw [if_pos h1, if_pos h2]
      exact ⟨h1, h2, rfl⟩
    · exact absurd h (by assumption)
  · exact absurd h (by assumption)
theorem edo_append (node seq : Int) (s : List PItem) (a b : List PEff) : edo node seq s (a ++ b) = edo node seq (edo node seq s a) b := List.foldl_append
theorem edo_one (node seq : Int) (s : List PItem) (e : PEff) : edo node seq s [e] = doStep node seq s e := rfl
/-- behind a step: the items are usual; they are the ones of mem_step whatever the request came to -/
theorem step_next {node seq i : Int} {q : PReq} {s : List PItem} (hu : Usual node seq i s) (hr : inRange node seq = true) (hq : reqB q = true) (h0 : 0 ≤ i) (h7 : i ≤ 7) (h : (mone node seq i s q).1 = 0) :
    Usual node seq (i + 1) (edo node seq s (mone node seq i s q).2) ∧ ∀ t, (t ∈ edo node seq s (mone node seq i s q).2 ↔ (t ∈ s ∧ takesB node q t = false) ∨ (mkind q ≠ 0 ∧ t = madeI node seq (meff node i q s))) := by
  rcases mone_ok h with ⟨e, hk, ht⟩ | ⟨e, -⟩
  · rw [e, edo_nil]
    refine ⟨hu.mono (by omega), fun t => ⟨fun h => .inl ⟨h, ?_⟩, ?_⟩⟩
    · rw [← Bool.not_eq_true]
      intro k
      have : t ∈ taken node q s := List.mem_filter.2 ⟨h, k⟩
      rw [ht] at this
      exact absurd this (by simp)
    · rintro (h | h)
      · exact h.1
      · exact absurd hk h.1
  · rw [e, edo_one]
    exact ⟨usual_step hu hr hq h0 h7, fun t => mem_step hu⟩

/-! ### the effects are right -/
structure Good (node seq i : Int) (n : Nat) (s next : List PItem) (l : List PEff) : Prop where
  formed : ∀ e ∈ l, eformedB node seq e = true ∧ pastB node seq e = true ∧ i ≤ e.pos
  rise : l.Pairwise (fun a b => a.pos < b.pos)
  len : l.length ≤ n
  next : Usual node seq (i + n) next
theorem mrun_good {node seq : Int} (hr : inRange node seq = true) : ∀ {l : List PReq} {i : Int} {s : List PItem}, Usual node seq i s → (∀ q ∈ l, reqB q = true) → 0 ≤ i → i + l.length ≤ 8 → (mrun node seq i s l).1 = 0 → Good node seq i l.length s (edo node seq s (mrun node seq i s l).2) (mrun node seq i s l).2
  | [], i, s, hu, _, _, _, _ => ⟨fun e he => absurd he (by simp [mrun]), List.Pairwise.nil, Nat.le_refl _, by show Usual node seq (i + (0 : Nat)) s; exact hu.mono (by omega)⟩
  | q :: l, i, s, hu, hq, h0, h8, h => by
    obtain ⟨h1, h2, h3⟩ := mrun_cons h
    rw [List.length_cons] at h8 ⊢
    have hq1 := hq q List.mem_cons_self
    obtain ⟨hu2, -⟩ := step_next hu hr hq1 h0 (by omega) h1
    have ih := mrun_good hr (l := l) hu2 (fun x hx => hq x (List.mem_cons_of_mem _ hx)) (by omega) (by omega) h2
    rw [h3]
    have hnx : Usual node seq (i + (l.length + 1 : Nat)) (edo node seq s ((mone node seq i s q).2 ++ (mrun node seq (i + 1) (edo node seq s (mone node seq i s q).2) l).2)) := by
      rw [edo_append]
      have := ih.next
      rwa [show i + 1 + (l.length : Int) = i + ((l.length + 1 : Nat) : Int) by omega] at this
    rcases mone_ok h1 with ⟨e, -⟩ | ⟨e, hd, hk, -⟩
    · rw [e, List.nil_append, ← e]
      refine ⟨fun x hx => ?_, ih.rise, by have := ih.len; omega, ?_⟩
      · obtain ⟨a, b, c⟩ := ih.formed x hx
        exact ⟨a, b, by omega⟩
      · rw [e, List.nil_append] at hnx
        rw [e]
        exact hnx
    · obtain ⟨f1, f2⟩ := eff_fine hu hr hq1 h0 (by omega) hd hk
      rw [e] at ih hnx ⊢
      refine ⟨fun x hx => ?_, List.pairwise_cons.2 ⟨fun x hx => ?_, ih.rise⟩, ?_, hnx⟩
      · rcases List.mem_cons.1 hx with rfl | hx
        · exact ⟨f1, f2, Int.le_refl _⟩
        · obtain ⟨a, b, c⟩ := ih.formed x hx
          exact ⟨a, b, by omega⟩
      · have := (ih.formed x hx).2.2
        show i < x.pos
        omega
      · have h := ih.len
        show (mrun node seq (i + 1) (edo node seq s [meff node i q s]) l).2.length + 1 ≤ _
        omega
theorem rises_of : ∀ {l : List PEff}, l.Pairwise (fun a b => a.pos < b.pos) → risesB l = true
  | [], _ => rfl
  | [_], _ => rfl
  | a :: b :: l, h => by
    obtain ⟨h1, h2⟩ := List.pairwise_cons.1 h
    unfold risesB
    rw [decide_eq_true (h1 b List.mem_cons_self), rises_of h2]
    rfl
/-- MintRight -/
theorem make_right {node seq : Int} {s : List PItem} {l : List PReq} (hu : usualB s node seq = true) (h : (mmake s node seq l).1 = 0) :
    rightB node seq (mmake s node seq l).2 = true ∧ (mmake s node seq l).2.length ≤ l.length ∧ inorm (edo node seq s (mmake s node seq l).2) = edo node seq s (mmake s node seq l).2 ∧ ∀ x ∈ edo node seq s (mmake s node seq l).2, formedB x = true := by
  obtain ⟨hr, h8, hq, e⟩ := mmake_ok h
  rw [e] at h ⊢
  rw [List.all_eq_true] at hq
  have G := mrun_good hr (usual_of hu) hq (Int.le_refl _) (by omega) h
  refine ⟨?_, G.len, G.next.form, G.next.fine⟩
  unfold rightB
  rw [rises_of G.rise, Bool.true_and, Bool.and_eq_true, List.all_eq_true, List.all_eq_true]
  exact ⟨fun x hx => (G.formed x hx).1, fun x hx => (G.formed x hx).2.1⟩

/-! ### what was asked is done -/
theorem vfield_in {a b : List PItem} {key field : Txt} (h : a.filter (inField key field) = b.filter (inField key field)) : vfield a key field = vfield b key field := by
  have k : ∀ (c : List PItem) (kind : Int), c.filter (ofKind key field kind) = (c.filter (inField key field)).filter fun x => decide (x.kind = kind) := fun c kind => by
    rw [List.filter_filter]
    congr 1
    funext x
    unfold ofKind
    exact Bool.and_comm _ _
  unfold vfield vtexts rawTexts vcounts
  rw [k a 1, k a 2, k a 3, h, ← k b 1, ← k b 2, ← k b 3]
theorem takes_in {node : Int} {q : PReq} {x : PItem} (h : takesB node q x = true) : inField q.key q.field x = true := by
  unfold takesB at h
  rw [Bool.and_eq_true] at h
  exact h.1
theorem inField_iff {key field : Txt} {x : PItem} : inField key field x = true ↔ x.key = key ∧ x.field = field := by
  unfold inField
  rw [Bool.and_eq_true, decide_eq_true_iff, decide_eq_true_iff]
/-- a step leaves another field as it is -/
theorem step_other {node seq i : Int} {q : PReq} {s : List PItem} {key field : Txt} (hu : Usual node seq i s) (hr : inRange node seq = true) (hq : reqB q = true) (h0 : 0 ≤ i) (h7 : i ≤ 7) (h : (mone node seq i s q).1 = 0) (hne : ¬ (q.key = key ∧ q.field = field)) :
    (edo node seq s (mone node seq i s q).2).filter (inField key field) = s.filter (inField key field) := by
  obtain ⟨hu2, hm⟩ := step_next hu hr hq h0 h7 h
  refine ris_ext sto_item (hu2.ris.filter _) (hu.ris.filter _) fun t => ?_
  rw [List.mem_filter, List.mem_filter, hm]
  constructor
  · rintro ⟨⟨a, -⟩ | ⟨-, rfl⟩, b⟩
    · exact ⟨a, b⟩
    · exact absurd (inField_iff.1 b) hne
  · rintro ⟨a, b⟩
    refine ⟨.inl ⟨a, ?_⟩, b⟩
    rw [← Bool.not_eq_true]
    intro k
    have k1 := inField_iff.1 (takes_in k)
    have k2 := inField_iff.1 b
    exact hne ⟨k1.1.symm.trans k2.1, k1.2.symm.trans k2.2⟩
theorem run_other {node seq : Int} {key field : Txt} (hr : inRange node seq = true) : ∀ {l : List PReq} {i : Int} {s : List PItem}, Usual node seq i s → (∀ q ∈ l, reqB q = true) → 0 ≤ i → i + l.length ≤ 8 → (mrun node seq i s l).1 = 0 → (∀ q ∈ l, ¬ (q.key = key ∧ q.field = field)) →
    (edo node seq s (mrun node seq i s l).2).filter (inField key field) = s.filter (inField key field)
  | [], i, s, _, _, _, _, _, _ => rfl
  | q :: l, i, s, hu, hq, h0, h8, h, hn => by
    obtain ⟨h1, h2, h3⟩ := mrun_cons h
    rw [List.length_cons] at h8
    have hq1 := hq q List.mem_cons_self
    obtain ⟨hu2, -⟩ := step_next hu hr hq1 h0 (by omega) h1
    rw [h3, edo_append, run_other hr hu2 (fun x hx => hq x (List.mem_cons_of_mem _ hx)) (by omega) (by omega) h2 fun x hx => hn x (List.mem_cons_of_mem _ hx)]
    exact step_other hu hr hq1 h0 (by omega) h1 (hn q List.mem_cons_self)
/-- what a request asks of its field -/
def asked (q : PReq) (v : PVal) : Bool :=
  if q.op = 1 then v.elems.any fun t => decide (t = q.elem) else if q.op = 2 then !(v.elems.any fun t => decide (t = q.elem)) else if q.op = 3 then decide (v.regs = [q.elem]) else if q.op = 5 then vempty v else true
theorem mem_vtexts {l : List PItem} {key field t : Txt} {kind : Int} : t ∈ vtexts l key field kind ↔ ∃ x ∈ l, inField key field x = true ∧ x.kind = kind ∧ x.elem = t := by
  unfold vtexts rawTexts
  rw [mem_once, List.mem_map]
  constructor
  · rintro ⟨x, hx, e⟩
    obtain ⟨h1, h2⟩ := List.mem_filter.1 hx
    unfold ofKind at h2
    rw [Bool.and_eq_true, decide_eq_true_iff] at h2
    exact ⟨x, h1, h2.1, h2.2, e⟩
  · rintro ⟨x, hx, h1, h2, e⟩
    refine ⟨x, List.mem_filter.2 ⟨hx, ?_⟩, e⟩
    unfold ofKind
    rw [h1, decide_eq_true h2]
    rfl
theorem made_in {node seq i : Int} {q : PReq} {s : List PItem} : inField q.key q.field (madeI node seq (meff node i q s)) = true := inField_iff.2 ⟨rfl, rfl⟩
theorem asked_step {node seq i : Int} {q : PReq} {s next : List PItem} (hm : ∀ t, (t ∈ next ↔ (t ∈ s ∧ takesB node q t = false) ∨ (mkind q ≠ 0 ∧ t = madeI node seq (meff node i q s)))) : asked q (vfield next q.key q.field) = true := by
  have hel : ∀ t, t ∈ (vfield next q.key q.field).elems ↔ ∃ x ∈ next, inField q.key q.field x = true ∧ x.kind = 1 ∧ x.elem = t := fun t => mem_vtexts
  have hrg : ∀ t, t ∈ (vfield next q.key q.field).regs ↔ ∃ x ∈ next, inField q.key q.field x = true ∧ x.kind = 2 ∧ x.elem = t := fun t => mem_vtexts
  unfold asked
  by_cases e1 : q.op = 1
  · rw [if_pos e1, List.any_eq_true]
    refine ⟨q.elem, (hel _).2 ⟨_, (hm _).2 (.inr ⟨?_, rfl⟩), made_in, ?_, ?_⟩, decide_eq_true rfl⟩
    · unfold mkind; rw [if_pos e1]; decide
    · show mkind q = 1
      unfold mkind; rw [if_pos e1]
    · show melem q = q.elem
      unfold melem; rw [if_pos (.inl e1)]
  rw [if_neg e1]
  by_cases e2 : q.op = 2
  · rw [if_pos e2, Bool.not_eq_true', List.any_eq_false]
    intro t ht
    rw [decide_eq_true_iff]
    rintro rfl
    obtain ⟨x, hx, h1, h2, h3⟩ := (hel _).1 ht
    rcases (hm x).1 hx with ⟨-, h⟩ | ⟨h, -⟩
    · unfold takesB at h
      rw [h1, if_pos (.inr e2), decide_eq_true h2, decide_eq_true h3] at h
      cases h
    · unfold mkind at h
      rw [if_neg e1, if_neg (by omega), if_neg (by omega)] at h
      exact h rfl
  rw [if_neg e2]
  by_cases e3 : q.op = 3
  · rw [if_pos e3, decide_eq_true_iff]
    have h1 : (vfield next q.key q.field).regs = once [q.elem] := by
      show vtexts next q.key q.field 2 = _
      refine once_ext fun t => ?_
      have := hrg t
      change t ∈ vtexts next q.key q.field 2 ↔ _ at this
      unfold vtexts at this
      rw [mem_once] at this
      rw [this, List.mem_singleton]
      constructor
      · rintro ⟨x, hx, h1, h2, rfl⟩
        rcases (hm x).1 hx with ⟨-, h⟩ | ⟨h, rfl⟩
        · unfold takesB at h
          rw [h1, if_neg (by omega), if_pos e3, decide_eq_true h2] at h
          cases h
        · show melem q = q.elem
          unfold melem; rw [if_pos (.inr e3)]
      · rintro rfl
        refine ⟨_, (hm _).2 (.inr ⟨?_, rfl⟩), made_in, ?_, ?_⟩
        · unfold mkind; rw [if_neg e1, if_pos e3]; decide
        · show mkind q = 2
          unfold mkind; rw [if_neg e1, if_pos e3]
        · show melem q = q.elem
          unfold melem; rw [if_pos (.inr e3)]
    rw [h1]
    rfl
  rw [if_neg e3]
  by_cases e5 : q.op = 5
  · rw [if_pos e5]
    have : vfield next q.key q.field = default := by
      refine vfield_none ?_
      rw [List.any_eq_false]
      intro x hx h1
      rcases (hm x).1 hx with ⟨-, h⟩ | ⟨h, -⟩
      · unfold takesB at h
        rw [h1, if_neg (by omega), if_neg (by omega), if_neg (by omega)] at h
        cases h
      · unfold mkind at h
        rw [if_neg e1, if_neg (by omega), if_neg (by omega)] at h
        exact h rfl
    rw [this]
    rfl
  · rw [if_neg e5]
theorem asked1 {q : PReq} {v : PVal} (e : q.op = 1) (h : asked q v = true) : (v.elems.any fun t => decide (t = q.elem)) = true := by
  unfold asked at h
  rwa [if_pos e] at h
theorem asked2 {q : PReq} {v : PVal} (e : q.op = 2) (h : asked q v = true) : (v.elems.any fun t => decide (t = q.elem)) = false := by
  unfold asked at h
  rw [if_neg (by omega), if_pos e, Bool.not_eq_true'] at h
  exact h
theorem asked3 {q : PReq} {v : PVal} (e : q.op = 3) (h : asked q v = true) : v.regs = [q.elem] := by
  unfold asked at h
  rw [if_neg (by omega), if_neg (by omega), if_pos e] at h
  exact of_decide_eq_true h
theorem asked5 {q : PReq} {v : PVal} (e : q.op = 5) (h : asked q v = true) : vempty v = true := by
  unfold asked at h
  rwa [if_neg (by omega), if_neg (by omega), if_neg (by omega), if_pos e] at h
/-- has a request behind the k-th one the same field? -/
def laterB (l : List PReq) (k : Nat) : Bool := (l.drop (k + 1)).any fun p => decide (p.key = (l.getD k default).key) && decide (p.field = (l.getD k default).field)
theorem run_asked {node seq : Int} (hr : inRange node seq = true) : ∀ {l : List PReq} {i : Int} {s : List PItem}, Usual node seq i s → (∀ q ∈ l, reqB q = true) → 0 ≤ i → i + l.length ≤ 8 → (mrun node seq i s l).1 = 0 → ∀ k, k < l.length → laterB l k = false →
    asked (l.getD k default) (vfield (edo node seq s (mrun node seq i s l).2) (l.getD k default).key (l.getD k default).field) = true
  | [], _, _, _, _, _, _, _, k, hk, _ => absurd hk (by simp)
  | q :: l, i, s, hu, hq, h0, h8, h, k, hk, hl => by
    obtain ⟨h1, h2, h3⟩ := mrun_cons h
    rw [List.length_cons] at h8 hk
    have hq1 := hq q List.mem_cons_self
    have hq2 : ∀ x ∈ l, reqB x = true := fun x hx => hq x (List.mem_cons_of_mem _ hx)
    obtain ⟨hu2, hm⟩ := step_next hu hr hq1 h0 (by omega) h1
    rw [h3, edo_append]
    cases k with
    | zero =>
      show asked q (vfield _ q.key q.field) = true
      have hn : ∀ p ∈ l, ¬ (p.key = q.key ∧ p.field = q.field) := by
        intro p hp hpq
        unfold laterB at hl
        rw [List.any_eq_false] at hl
        refine hl p hp ?_
        show (decide (p.key = q.key) && decide (p.field = q.field)) = true
        rw [decide_eq_true hpq.1, decide_eq_true hpq.2]
        rfl
      rw [vfield_in (run_other hr hu2 hq2 (by omega) (by omega) h2 hn)]
      exact asked_step hm
    | succ k =>
      exact run_asked hr hu2 hq2 (by omega) (by omega) h2 k (by omega) hl
/-- MintDoes -/
theorem make_does {node seq : Int} {s : List PItem} {l : List PReq} (hu : usualB s node seq = true) (h : (mmake s node seq l).1 = 0) {k : Nat} (hk : k < l.length) (hl : laterB l k = false) :
    asked (l.getD k default) (vfield (edo node seq s (mmake s node seq l).2) (l.getD k default).key (l.getD k default).field) = true := by
  obtain ⟨hr, h8, hq, e⟩ := mmake_ok h
  rw [e] at h ⊢
  rw [List.all_eq_true] at hq
  exact run_asked hr (usual_of hu) hq (Int.le_refl _) (by omega) h k hk hl
theorem make_other {node seq : Int} {s : List PItem} {l : List PReq} {key field : Txt} (hu : usualB s node seq = true) (h : (mmake s node seq l).1 = 0) (hn : (l.any fun q => decide (q.key = key) && decide (q.field = field)) = false) :
    vfield (edo node seq s (mmake s node seq l).2) key field = vfield s key field := by
  obtain ⟨hr, h8, hq, e⟩ := mmake_ok h
  rw [e] at h ⊢
  rw [List.all_eq_true] at hq
  refine vfield_in (run_other hr (usual_of hu) hq (Int.le_refl _) (by omega) h fun q hm hk => ?_)
  rw [List.any_eq_false] at hn
  refine hn q hm ?_
  rw [decide_eq_true hk.1, decide_eq_true hk.2]
  rfl

/-! ### counting -/
def totf (p : PItem → Bool) (l : List PItem) : Int := tot ((l.filter p).map (·.n))
theorem totf_nil (p : PItem → Bool) : totf p [] = 0 := rfl
theorem totf_cons (p : PItem → Bool) (x : PItem) (l : List PItem) : totf p (x :: l) = (if p x = true then x.n else 0) + totf p l := by
  unfold totf
  rw [List.filter_cons]
  split
  · rw [List.map_cons, Nm.Plain.tot_cons]
  · omega
theorem totf_ins (p : PItem → Bool) (x : PItem) : ∀ {l : List PItem}, x ∉ l → totf p (insR iless x l) = (if p x = true then x.n else 0) + totf p l
  | [], _ => by rw [insR, totf_cons]
  | y :: l, h => by
    unfold insR
    split
    · rw [totf_cons]
    · split
      · rename_i e
        exact absurd (by rw [e]; exact List.mem_cons_self) h
      · rw [totf_cons, totf_cons, totf_ins p x fun k => h (List.mem_cons_of_mem _ k)]
        omega
theorem totf_split (p r : PItem → Bool) : ∀ l : List PItem, totf p l = totf (fun x => p x && r x) l + totf (fun x => p x && !r x) l
  | [] => rfl
  | x :: l => by
    rw [totf_cons, totf_cons, totf_cons, totf_split p r l]
    cases p x <;> cases r x <;> simp <;> omega
theorem totf_filter (p r : PItem → Bool) (l : List PItem) : totf p (l.filter r) = totf (fun x => p x && r x) l := by
  unfold totf
  rw [List.filter_filter]
theorem totf_congr {p r : PItem → Bool} (h : ∀ x, p x = r x) (l : List PItem) : totf p l = totf r l := by
  have : p = r := funext h
  rw [this]
theorem step_ins {node seq i : Int} {q : PReq} {s : List PItem} (h : Usual node seq i s) (hk : mkind q ≠ 0) : doStep node seq s (meff node i q s) = insR iless (madeI node seq (meff node i q s)) (s.filter fun x => !takesB node q x) := by
  refine ris_ext sto_item (ris_inorm _) (ris_insR sto_item _ (h.ris.filter _)) fun t => ?_
  rw [mem_step h, mem_insR, List.mem_filter, Bool.not_eq_true']
  constructor
  · rintro (a | a)
    · exact .inr a
    · exact .inl a.2
  · rintro (a | a)
    · exact .inr ⟨hk, a⟩
    · exact .inl a
theorem inc_total {node seq i : Int} {q : PReq} {s : List PItem} (h : Usual node seq i s) (e4 : q.op = 4) (hf : fits (msum node q s)) :
    tot (vcounts (doStep node seq s (meff node i q s)) q.key q.field) = tot (vcounts s q.key q.field) + q.n := by
  have hk : mkind q = 3 := by unfold mkind; rw [if_neg (by omega), if_neg (by omega), if_pos e4]
  have hn : (madeI node seq (meff node i q s)).n = msum node q s := by
    show (if q.op = 4 then sumV (msum node q s) else 0) = _
    rw [if_pos e4]
    unfold sumV
    rw [if_pos hf]
  have hp : ofKind q.key q.field 3 (madeI node seq (meff node i q s)) = true := by
    unfold ofKind
    rw [made_in]
    show (true && decide (mkind q = 3)) = true
    rw [decide_eq_true hk]
    rfl
  show totf (ofKind q.key q.field 3) _ = totf (ofKind q.key q.field 3) s + q.n
  rw [step_ins h (by rw [hk]; decide), totf_ins _ _ fun k => made_new h (List.mem_filter.1 k).1 rfl, if_pos hp, hn, totf_filter, totf_split (ofKind q.key q.field 3) (takesB node q) s]
  have ht : totf (fun x => ofKind q.key q.field 3 x && takesB node q x) s = tot ((taken node q s).map (·.n)) := by
    refine (totf_congr (r := takesB node q) (fun x => ?_) s).trans rfl
    cases ht : takesB node q x with
    | false => rw [Bool.and_false]
    | true =>
      have hi := takes_in ht
      unfold takesB at ht
      rw [hi, if_neg (by omega), if_neg (by omega), if_pos e4, Bool.true_and, Bool.and_eq_true] at ht
      unfold ofKind
      rw [hi, ht.1]
      rfl
  rw [ht]
  unfold msum
  rw [Nm.Plain.tot_append, Nm.Plain.tot_cons, Nm.Plain.tot_nil]
  omega
theorem inc_texts {node seq i : Int} {q : PReq} {s : List PItem} (h : Usual node seq i s) (e4 : q.op = 4) (kind : Int) (hne : kind ≠ 3) : vtexts (doStep node seq s (meff node i q s)) q.key q.field kind = vtexts s q.key q.field kind := by
  unfold vtexts
  refine once_ext fun t => ?_
  have a := mem_vtexts (l := doStep node seq s (meff node i q s)) (key := q.key) (field := q.field) (t := t) (kind := kind)
  have b := mem_vtexts (l := s) (key := q.key) (field := q.field) (t := t) (kind := kind)
  unfold vtexts at a b
  rw [mem_once] at a b
  rw [a, b]
  have hk : mkind q = 3 := by unfold mkind; rw [if_neg (by omega), if_neg (by omega), if_pos e4]
  constructor
  · rintro ⟨x, hx, h1, h2, h3⟩
    rcases (mem_step h).1 hx with ⟨g, -⟩ | ⟨-, rfl⟩
    · exact ⟨x, g, h1, h2, h3⟩
    · exact absurd (hk.symm.trans h2).symm hne
  · rintro ⟨x, hx, h1, h2, h3⟩
    refine ⟨x, (mem_step h).2 (.inl ⟨hx, ?_⟩), h1, h2, h3⟩
    unfold takesB
    rw [h1, if_neg (by omega), if_neg (by omega), if_pos e4, decide_eq_false (fun k => hne (h2.symm.trans k))]
    rfl
/-- MintCounts -/
theorem make_counts {node seq n : Int} {s : List PItem} {key field : Txt} (hu : usualB s node seq = true) (hr : inRange node seq = true) (hq : reqB ⟨4, key, field, [], n⟩ = true) :
    ((mmake s node seq [⟨4, key, field, [], n⟩]).1 = 0 ∨ (mmake s node seq [⟨4, key, field, [], n⟩]).1 = 5 ∨ (mmake s node seq [⟨4, key, field, [], n⟩]).1 = 4) ∧
    ((mmake s node seq [⟨4, key, field, [], n⟩]).1 = 0 → (vfield (edo node seq s (mmake s node seq [⟨4, key, field, [], n⟩]).2) key field).over = false ∧ (vfield (edo node seq s (mmake s node seq [⟨4, key, field, [], n⟩]).2) key field).elems = (vfield s key field).elems ∧
      (vfield (edo node seq s (mmake s node seq [⟨4, key, field, [], n⟩]).2) key field).regs = (vfield s key field).regs ∧
      ((vfield s key field).over = false → (vfield (edo node seq s (mmake s node seq [⟨4, key, field, [], n⟩]).2) key field).total = (vfield s key field).total + n)) := by
  have e : mmake s node seq [⟨4, key, field, [], n⟩] = mrun node seq 0 s [⟨4, key, field, [], n⟩] := by
    unfold mmake
    rw [if_neg (by rw [hr]; decide), if_neg (by simp), if_neg (by simp [hq])]
  have hU := usual_of hu
  rw [e]
  have em : (mone node seq 0 s ⟨4, key, field, [], n⟩).1 = 0 ∨ (mone node seq 0 s ⟨4, key, field, [], n⟩).1 = 5 ∨ (mone node seq 0 s ⟨4, key, field, [], n⟩).1 = 4 := by
    unfold mone
    split
    · exact .inr (.inr rfl)
    · split
      · exact .inr (.inl rfl)
      · split
        · exact .inl rfl
        · split
          · exact .inr (.inl rfl)
          · exact .inl rfl
  by_cases h1 : (mone node seq 0 s ⟨4, key, field, [], n⟩).1 = 0
  · have e2 : mrun node seq 0 s [⟨4, key, field, [], n⟩] = (0, (mone node seq 0 s ⟨4, key, field, [], n⟩).2) := by
      simp [mrun, h1]
    rw [e2]
    refine ⟨.inl rfl, fun _ => ?_⟩
    rcases mone_ok h1 with ⟨-, hk, -⟩ | ⟨e3, -, -, h4⟩
    · exact absurd hk (by unfold mkind; rw [if_neg (by simp), if_neg (by simp), if_pos rfl]; decide)
    · obtain ⟨hf, ho⟩ := h4 rfl
      simp only [e3, edo_one]
      refine ⟨ho, inc_texts hU rfl 1 (by decide), inc_texts hU rfl 2 (by decide), fun hs => ?_⟩
      have ht := inc_total hU rfl hf
      have f1 : fits (tot (vcounts s key field)) := by
        have : decide (¬ fits (tot (vcounts s key field))) = false := hs
        simpa using this
      have f2 : fits (tot (vcounts (doStep node seq s (meff node 0 ⟨4, key, field, [], n⟩ s)) key field)) := by
        have : decide (¬ fits (tot (vcounts (doStep node seq s (meff node 0 ⟨4, key, field, [], n⟩ s)) key field))) = false := ho
        simpa using this
      show sumV _ = sumV _ + n
      unfold sumV
      rw [if_pos f1, if_pos f2]
      exact ht
  · have e2 : (mrun node seq 0 s [⟨4, key, field, [], n⟩]).1 = (mone node seq 0 s ⟨4, key, field, [], n⟩).1 := by simp [mrun, h1]
    rw [e2]
    exact ⟨em, fun k => absurd k h1⟩
/-- MintNothing -/
theorem make_nothing {node seq : Int} {s : List PItem} {key field elem : Txt} (hr : inRange node seq = true) (hq : reqB ⟨2, key, field, elem, 0⟩ = true) (hn : s.any (inField key field) = false) :
    mmake s node seq [⟨2, key, field, elem, 0⟩, ⟨5, key, field, [], 0⟩] = (0, []) := by
  have hq2 : reqB ⟨5, key, field, [], 0⟩ = true := by
    obtain ⟨h1, h2, h3, h4, h5, h6⟩ := req_parts.1 hq
    exact req_parts.2 ⟨⟨by simp, by simp⟩, h2, h3, by simp, .inr rfl, .inr rfl⟩
  have ht : ∀ q : PReq, q.key = key → q.field = field → taken node q s = [] := by
    rintro q rfl rfl
    unfold taken
    refine List.filter_eq_nil_iff.2 fun x hx h => ?_
    rw [List.any_eq_false] at hn
    exact hn x hx (takes_in h)
  have h1 : ∀ (q : PReq) (i : Int), q.key = key → q.field = field → (q.op = 2 ∨ q.op = 5) → mone node seq i s q = (0, []) := by
    intro q i a b c
    have hd : mdrops node q s = [] := by unfold mdrops; rw [ht q a b]; rfl
    have hk : mkind q = 0 := by unfold mkind; rw [if_neg (by omega), if_neg (by omega), if_neg (by omega)]
    unfold mone
    rw [hd, if_neg (by simp), if_neg (by omega), if_pos ⟨hk, rfl⟩]
  unfold mmake
  rw [if_neg (by rw [hr]; decide), if_neg (by simp), if_neg (by simp [hq, hq2])]
  simp [mrun, h1 ⟨2, key, field, elem, 0⟩ 0 rfl rfl (.inl rfl), edo_nil, h1 ⟨5, key, field, [], 0⟩ 1 rfl rfl (.inr rfl)]

theorem taken_none {node : Int} {q : PReq} {s : List PItem} (h : s.any (inField q.key q.field) = false) : taken node q s = [] := by
  unfold taken
  refine List.filter_eq_nil_iff.2 fun x hx k => ?_
  rw [List.any_eq_false] at h
  exact h x hx (takes_in k)
theorem range_of {node seq : Int} (h1 : ¬ node < 0) (h2 : ¬ 8 ≤ node) (h3 : ¬ seq < 1) (h4 : ¬ 1073741824 < seq) : inRange node seq = true := by
  unfold inRange
  rw [decide_eq_true_iff]
  omega

/-! ### numbers -/
theorem fits_sumV (n : Int) : fits (sumV n) := by
  unfold sumV
  split
  · assumption
  · unfold fits; decide
theorem mone_fits {node seq i : Int} {s : List PItem} {q : PReq} : ∀ e ∈ (mone node seq i s q).2, fits e.n := by
  have h0 : fits 0 := by unfold fits; decide
  have h1 : ∀ e ∈ [meff node i q s], fits e.n := fun e he => by
    rw [List.mem_singleton.1 he]
    show fits (if q.op = 4 then sumV (msum node q s) else 0)
    split
    · exact fits_sumV _
    · exact h0
  have hn : ∀ e ∈ ([] : List PEff), fits e.n := fun e he => absurd he (by simp)
  unfold mone
  split
  · exact hn
  · split
    · exact hn
    · split
      · exact hn
      · split
        · exact hn
        · exact h1
theorem mrun_fits {node seq : Int} : ∀ {l : List PReq} {i : Int} {s : List PItem}, ∀ e ∈ (mrun node seq i s l).2, fits e.n
  | [], _, _, e, he => absurd he (by simp [mrun])
  | q :: l, i, s, e, he => by
    rw [mrun] at he
    split at he
    · split at he
      · rcases List.mem_append.1 he with h | h
        · exact mone_fits e h
        · exact mrun_fits e h
      · exact absurd he (by simp)
    · exact absurd he (by simp)
/-- of effects that are right: how many drops, and that all dots may be -/
theorem drops_dot : ∀ {l : List PDot}, dropsB l = true → ∀ d ∈ l, dotB d = true
  | [], _, d, hd => absurd hd (by simp)
  | [x], h, d, hd => by rw [List.mem_singleton.1 hd]; exact h
  | x :: y :: l, h, d, hd => by
    rw [dropsB, Bool.and_eq_true, Bool.and_eq_true] at h
    rcases List.mem_cons.1 hd with rfl | hd
    · exact h.1
    · exact drops_dot h.2.2 d hd
theorem right_parts {node seq : Int} {l : List PEff} (h : rightB node seq l = true) {e : PEff} (he : e ∈ l) : e.drops.length ≤ 64 ∧ dotB ⟨node, seq, e.pos⟩ = true ∧ ∀ d ∈ e.drops, dotB d = true := by
  unfold rightB at h
  rw [Bool.and_eq_true, List.all_eq_true] at h
  have := h.1 e he
  unfold eformedB at this
  rw [Bool.and_eq_true, Bool.and_eq_true, decide_eq_true_iff] at this
  refine ⟨this.1, ?_, drops_dot this.2.1⟩
  have hm := this.2.2
  unfold makesB at hm
  split at hm
  · simp only [Bool.and_eq_true] at hm
    exact hm.2.2.2.2.2
  · exact (formed_parts.1 hm).1
theorem make_fits {s : List PItem} {node seq : Int} {l : List PReq} (h : (mmake s node seq l).1 = 0) : ∀ e ∈ (mmake s node seq l).2, fits e.n := by
  rw [(mmake_ok h).2.2.2]
  exact mrun_fits
end Go.Proofs.Ytlpcpbangmonaaa.Plain
namespace Go.Proofs.Ytlpcpbangmonaaa.Plain
open Nm.Plain (fits sumV sumE tot)
set_option linter.unusedVariables false

/-! ### Formed -/
def mstandI (q : PReq) (k : Int) : PItem := ⟨q.key, q.field, k, q.elem, q.n, ⟨0, 1, 0⟩⟩
def mstand (q : PReq) (k : Int) : Bool := formedB (mstandI q k)
theorem mstand_iff {q : PReq} {k : Int} : mstand q k = true ↔ keyB q.key = true ∧ prefixB q.field = true ∧ q.elem.length ≤ 32 ∧ (((k = 1 ∨ k = 2) ∧ q.n = 0) ∨ (k = 3 ∧ q.elem.length = 0)) := by
  unfold mstand
  rw [formed_parts]
  have hd : dotB (mstandI q k).dot = true := by show dotB ⟨0, 1, 0⟩ = true; decide
  have hv : valueB (mstandI q k) = true ↔ (((k = 1 ∨ k = 2) ∧ q.n = 0) ∨ (k = 3 ∧ q.elem.length = 0)) := by
    unfold valueB
    simp only [Bool.or_eq_true, Bool.and_eq_true, decide_eq_true_iff]
    exact Iff.rfl
  rw [hv]
  exact ⟨fun h => ⟨h.2.1, h.2.2.1, h.2.2.2.1, h.2.2.2.2⟩, fun h => ⟨hd, h.1, h.2.1, h.2.2.1, h.2.2.2⟩⟩
theorem req_low {q : PReq} (h : q.op = 1 ∨ q.op = 2 ∨ q.op = 3) : reqB q = mstand q 1 := by
  rw [Bool.eq_iff_iff, req_parts, mstand_iff]
  constructor
  · rintro ⟨h1, h2, h3, h4, h5, h6⟩
    exact ⟨h2, h3, h4, .inl ⟨.inl rfl, by omega⟩⟩
  · rintro ⟨h2, h3, h4, h5⟩
    exact ⟨by omega, h2, h3, h4, by omega, .inr (by omega)⟩
theorem req_inc {q : PReq} (h : q.op = 4) : reqB q = mstand q 3 := by
  rw [Bool.eq_iff_iff, req_parts, mstand_iff]
  constructor
  · rintro ⟨h1, h2, h3, h4, h5, h6⟩
    exact ⟨h2, h3, h4, .inr ⟨rfl, by omega⟩⟩
  · rintro ⟨h2, h3, h4, h5⟩
    exact ⟨by omega, h2, h3, h4, by omega, .inl h⟩
theorem req_drop {q : PReq} (h : q.op = 5) : reqB q = (decide (q.elem = []) && mstand q 1) := by
  rw [Bool.eq_iff_iff, Bool.and_eq_true, req_parts, mstand_iff, decide_eq_true_iff]
  constructor
  · rintro ⟨h1, h2, h3, h4, h5, h6⟩
    exact ⟨List.eq_nil_of_length_eq_zero (by omega), h2, h3, h4, .inl ⟨.inl rfl, by omega⟩⟩
  · rintro ⟨h1, h2, h3, h4, h5⟩
    exact ⟨by omega, h2, h3, h4, .inr (by rw [h1]; rfl), .inr (by omega)⟩
theorem req_else {q : PReq} (h1 : ¬ q.op = 1) (h2 : ¬ q.op = 2) (h3 : ¬ q.op = 3) (h4 : ¬ q.op = 4) (h5 : ¬ q.op = 5) : reqB q = false := by
  rw [← Bool.not_eq_true, req_parts]
  omega

/-! ### dots -/
def dsort (l : List PDot) : List PDot := l.mergeSort fun x y => !decide (dlt y x)
theorem dsort_perm (l : List PDot) : (dsort l).Perm l := List.mergeSort_perm _ _
theorem dsort_len (l : List PDot) : (dsort l).length = l.length := (dsort_perm l).length_eq
theorem dsort_ris {l : List PDot} (h : l.Nodup) : Ris dlt (dsort l) := by
  have h1 : (dsort l).Pairwise fun x y => (!decide (dlt y x)) = true := List.pairwise_mergeSort (le := fun x y => !decide (dlt y x)) (fun a b c h g => by
    rw [Bool.not_eq_true', decide_eq_false_iff_not] at *
    intro k
    by_cases e : a = b
    · subst e; exact g k
    · have := sto_dot.total h (fun e' => e e'.symm)
      exact g (sto_dot.trans k this)) (fun a b => by
    rw [Bool.or_eq_true, Bool.not_eq_true', Bool.not_eq_true', decide_eq_false_iff_not, decide_eq_false_iff_not]
    by_cases k : dlt b a
    · exact .inr (sto_dot.asymm k)
    · exact .inl k) l
  have h2 : (dsort l).Nodup := (dsort_perm l).nodup_iff.2 h
  unfold Ris
  refine (List.Pairwise.and h1 h2).imp fun {a b} h => ?_
  have h3 := h.1
  rw [Bool.not_eq_true', decide_eq_false_iff_not] at h3
  exact sto_dot.total h3 (fun e => h.2 e.symm)
theorem rdots_sort {l : List PItem} (h : (l.map (·.dot)).Nodup) : rdots l = dsort (l.map (·.dot)) := by
  unfold rdots
  rw [← onceR_ris sto_dot (dsort_ris h)]
  exact onceR_ext sto_dot fun t => ((dsort_perm _).mem_iff).symm
/-- a rising row's neighbours are not the same -/
theorem ris_next {l : List PDot} (h : Ris dlt l) {k : Nat} (hk : k + 1 < l.length) : decide (l.getD (k + 1) default = l.getD k default) = false := by
  have := Ris.at h (i := k) (j := k + 1) (by omega) (List.getElem?_eq_getElem (by omega)) (List.getElem?_eq_getElem hk)
  rw [decide_eq_false_iff_not]
  intro e
  simp only [List.getD, List.getElem?_eq_getElem hk, List.getElem?_eq_getElem (show k < l.length by omega), Option.getD_some] at e
  rw [e] at this
  exact sto_dot.irrefl _ this
theorem nodup_dots : ∀ {l : List PItem}, l.Nodup → DotsApart l → (l.map (·.dot)).Nodup
  | [], _, _ => List.nodup_nil
  | x :: l, hn, ha => by
    rw [List.map_cons, List.nodup_cons]
    rw [List.nodup_cons] at hn
    refine ⟨fun h => ?_, nodup_dots hn.2 fun a h b g e => ha a (List.mem_cons_of_mem _ h) b (List.mem_cons_of_mem _ g) e⟩
    obtain ⟨y, hy, e⟩ := List.mem_map.1 h
    exact hn.1 (by rw [← ha y (List.mem_cons_of_mem _ hy) x List.mem_cons_self e]; exact hy)

/-! ### one request -/
def merr (node : Int) (q : PReq) (s : List PItem) : Int := if 64 < (mdrops node q s).length then 4 else if q.op = 4 ∧ ¬ fits (msum node q s) then 5 else 0
theorem mone_merr {node seq i : Int} {s : List PItem} {q : PReq} (h : merr node q s ≠ 0) : mone node seq i s q = (merr node q s, []) := by
  unfold merr at h ⊢
  unfold mone
  split
  · rfl
  · split
    · rfl
    · rename_i h1 h2
      rw [if_neg h1, if_neg h2] at h
      exact absurd rfl h
theorem mone_none {node seq i : Int} {s : List PItem} {q : PReq} (h : merr node q s = 0) (hk : mkind q = 0) (hd : mdrops node q s = []) : mone node seq i s q = (0, []) := by
  unfold merr at h
  unfold mone
  split at h
  · cases h
  · split at h
    · cases h
    · rename_i h1 h2
      rw [if_neg h1, if_neg h2, if_pos ⟨hk, hd⟩]
theorem mone_over {node seq i : Int} {s : List PItem} {q : PReq} (h : merr node q s = 0) (hk : ¬ (mkind q = 0 ∧ mdrops node q s = [])) (ho : q.op = 4) (hv : (vfield (doStep node seq s (meff node i q s)) q.key q.field).over = true) : mone node seq i s q = (5, []) := by
  unfold merr at h
  unfold mone
  split at h
  · cases h
  · split at h
    · cases h
    · rename_i h1 h2
      rw [if_neg h1, if_neg h2, if_neg hk, if_pos ⟨ho, hv⟩]
theorem mone_some {node seq i : Int} {s : List PItem} {q : PReq} (h : merr node q s = 0) (hk : ¬ (mkind q = 0 ∧ mdrops node q s = [])) (ho : ¬ (q.op = 4 ∧ (vfield (doStep node seq s (meff node i q s)) q.key q.field).over = true)) : mone node seq i s q = (0, [meff node i q s]) := by
  unfold merr at h
  unfold mone
  split at h
  · cases h
  · split at h
    · cases h
    · rename_i h1 h2
      rw [if_neg h1, if_neg h2, if_neg hk, if_neg ho]

/-! ### the loop -/
def mback (e : List PEff) (r : Int × List PEff) : Int × List PEff := if r.1 = 0 then (0, e ++ r.2) else (r.1, [])
theorem mback_nil (node seq i : Int) (s : List PItem) (l : List PReq) : mback [] (mrun node seq i s l) = mrun node seq i s l := by
  unfold mback
  split
  · rename_i h
    rw [List.nil_append, ← h]
  · rename_i h
    rw [← mrun_err h]
theorem mback_end (node seq i : Int) (s : List PItem) (e : List PEff) : mback e (mrun node seq i s []) = (0, e) := by
  show (if (0 : Int) = 0 then (0, e ++ []) else _) = _
  rw [if_pos rfl, List.append_nil]
theorem mback_ok {node seq i : Int} {s : List PItem} {q : PReq} {l : List PReq} {e f : List PEff} (h : mone node seq i s q = (0, f)) : mback e (mrun node seq i s (q :: l)) = mback (e ++ f) (mrun node seq (i + 1) (edo node seq s f) l) := by
  rw [mrun, h]
  show mback e (if (0 : Int) = 0 then _ else _) = _
  rw [if_pos rfl]
  unfold mback
  by_cases g : (mrun node seq (i + 1) (edo node seq s f) l).1 = 0
  · rw [if_pos g, if_pos g, if_pos rfl, List.append_assoc]
  · rw [if_neg g, if_neg g, if_neg g]
theorem mback_bad {node seq i c : Int} {s : List PItem} {q : PReq} {l : List PReq} {e : List PEff} (hc : c ≠ 0) (h : mone node seq i s q = (c, [])) : mback e (mrun node seq i s (q :: l)) = (c, []) := by
  rw [mrun, h]
  show mback e (if c = 0 then _ else _) = _
  rw [if_neg hc]
  unfold mback
  rw [if_neg hc]
/-- the items in the loop: no two of one dot, or nothing is taken away any more -/
def DotsOnce (s : List PItem) : Prop := (s.map (·.dot)).Nodup
theorem DotsOnce.of {s : List PItem} (hr : Ris iless s) (ha : DotsApart s) : DotsOnce s := nodup_dots (Ris.nodup sto_item hr) ha
def LoopOk (node : Int) (s : List PItem) (l : List PReq) : Prop := DotsOnce s ∨ ∀ q ∈ l, taken node q s = []
theorem LoopOk.tail {node : Int} {s : List PItem} {q : PReq} {l : List PReq} (h : LoopOk node s (q :: l)) : LoopOk node s l := h.elim .inl fun h => .inr fun x hx => h x (List.mem_cons_of_mem _ hx)
theorem LoopOk.step {node seq : Int} {s : List PItem} {e : PEff} {l : List PReq} : LoopOk node (doStep node seq s e) l := .inl (by unfold doStep; exact DotsOnce.of (ris_inorm _) (apart_inorm _))
theorem LoopOk.once {node : Int} {s : List PItem} {q : PReq} {l : List PReq} (h : LoopOk node s (q :: l)) : DotsOnce (taken node q s) := h.elim (fun h => by
    unfold DotsOnce at h ⊢
    unfold taken
    exact h.sublist ((List.filter_sublist).map _)) fun h => by rw [h q List.mem_cons_self]; exact List.nodup_nil
end Go.Proofs.Ytlpcpbangmonaaa.Plain
