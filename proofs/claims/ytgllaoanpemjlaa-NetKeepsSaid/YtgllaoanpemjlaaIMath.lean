/- Items and lists of them as plain mathematics: the order, the one form, what is left without dots, under a zone, of a key; keys, sizes; the laws that follow. -/
import Derived.Test.YtgllaoanpemjlaaZMath
import Derived.Test.YtgllaoanpemjlaaOrd
namespace Go.Proofs.Ytgllaoanpemjlaa.Plain
set_option linter.unusedVariables false

structure PDot where
  node : Int
  seq : Int
  pos : Int
structure PItem where
  key : Txt
  field : Txt
  kind : Int
  elem : Txt
  n : Int
  dot : PDot
theorem pdot_ext {a b : PDot} (h1 : a.node = b.node) (h2 : a.seq = b.seq) (h3 : a.pos = b.pos) : a = b := by
  cases a; cases b; simp_all
theorem pitem_ext {a b : PItem} (h1 : a.key = b.key) (h2 : a.field = b.field) (h3 : a.kind = b.kind) (h4 : a.elem = b.elem) (h5 : a.n = b.n) (h6 : a.dot = b.dot) : a = b := by
  cases a; cases b; simp_all
instance : DecidableEq PDot := fun a b => decidable_of_iff (a.node = b.node ∧ a.seq = b.seq ∧ a.pos = b.pos) ⟨fun ⟨h1, h2, h3⟩ => pdot_ext h1 h2 h3, fun e => by subst e; exact ⟨rfl, rfl, rfl⟩⟩
instance : DecidableEq PItem := fun a b => decidable_of_iff (a.key = b.key ∧ a.field = b.field ∧ a.kind = b.kind ∧ a.elem = b.elem ∧ a.n = b.n ∧ a.dot = b.dot) ⟨fun ⟨h1, h2, h3, h4, h5, h6⟩ => pitem_ext h1 h2 h3 h4 h5 h6, fun e => by subst e; exact ⟨rfl, rfl, rfl, rfl, rfl, rfl⟩⟩
instance : Inhabited PDot := ⟨⟨0, 0, 0⟩⟩
instance : Inhabited PItem := ⟨⟨[], [], 0, [], 0, default⟩⟩

/-! ### the order -/
theorem sto_txt : Sto (fun a b : Txt => a < b) := ⟨lt_irrefl, fun h g => lt_trans h g, fun h g => List.le_antisymm (List.not_lt.1 g) (List.not_lt.1 h)⟩
def iless (a b : PItem) : Prop :=
  a.key < b.key ∨ (a.key = b.key ∧ (a.field < b.field ∨ (a.field = b.field ∧ (a.kind < b.kind ∨ (a.kind = b.kind ∧ (a.dot.node < b.dot.node ∨ (a.dot.node = b.dot.node ∧
  (a.dot.seq < b.dot.seq ∨ (a.dot.seq = b.dot.seq ∧ (a.dot.pos < b.dot.pos ∨ (a.dot.pos = b.dot.pos ∧ (a.elem < b.elem ∨ (a.elem = b.elem ∧ a.n < b.n)))))))))))))
instance : DecidableRel iless := fun a b => by unfold iless; infer_instance
theorem sto_item : Sto iless := by
  have h := (((((((Pre.last (fun x : PItem => x.n) sto_int).lex (fun x => x.elem) sto_txt).lex (fun x => x.dot.pos) sto_int).lex (fun x => x.dot.seq) sto_int).lex (fun x => x.dot.node) sto_int).lex (fun x => x.kind) sto_int).lex (fun x => x.field) sto_txt).lex (fun x => x.key) sto_txt
  refine Pre.sto h ?_
  rintro a b ⟨h1, h2, h3, h4, h5, h6, h7, h8⟩
  exact pitem_ext h1 h2 h3 h7 h8 (pdot_ext h4 h5 h6)
def lessB (a b : PItem) : Bool := decide (iless a b)

/-! ### the one form -/
/-- is it, of all that have its dot, the one that stands first? -/
def firstOf (l : List PItem) (x : PItem) : Bool := l.all fun y => !(decide (y.dot = x.dot) && lessB y x)
theorem firstOf_iff {l : List PItem} {x : PItem} : firstOf l x = true ↔ ∀ y ∈ l, y.dot = x.dot → ¬ iless y x := by
  unfold firstOf lessB
  rw [List.all_eq_true]
  constructor
  · intro h y hy hd hl
    have := h y hy
    simp [hd, hl] at this
  · intro h y hy
    by_cases hd : y.dot = x.dot
    · simp [hd, h y hy hd]
    · simp [hd]
def inorm (l : List PItem) : List PItem := onceR iless (l.filter (firstOf l))
theorem mem_inorm {l : List PItem} {x : PItem} : x ∈ inorm l ↔ x ∈ l ∧ ∀ y ∈ l, y.dot = x.dot → ¬ iless y x := by
  unfold inorm
  rw [mem_onceR, List.mem_filter, firstOf_iff]
theorem ris_inorm (l : List PItem) : Ris iless (inorm l) := ris_onceR sto_item _
/-- no two of one dot -/
def DotsApart (l : List PItem) : Prop := ∀ x ∈ l, ∀ y ∈ l, x.dot = y.dot → x = y
theorem apart_inorm (l : List PItem) : DotsApart (inorm l) := fun x hx y hy e =>
  sto_item.conn ((mem_inorm.1 hy).2 x (mem_inorm.1 hx).1 e) ((mem_inorm.1 hx).2 y (mem_inorm.1 hy).1 e.symm)
theorem inorm_self {l : List PItem} (hr : Ris iless l) (ha : DotsApart l) : inorm l = l := ris_ext sto_item (ris_inorm l) hr fun t => by
  rw [mem_inorm]
  refine ⟨fun h => h.1, fun h => ⟨h, fun y hy e hl => ?_⟩⟩
  have := ha y hy t h e
  subst this
  exact sto_item.irrefl y hl
theorem inorm_inorm (l : List PItem) : inorm (inorm l) = inorm l := inorm_self (ris_inorm l) (apart_inorm l)
theorem inorm_ext {a b : List PItem} (h : ∀ t, t ∈ a ↔ t ∈ b) : inorm a = inorm b := ris_ext sto_item (ris_inorm a) (ris_inorm b) fun t => by
  rw [mem_inorm, mem_inorm, h]
  exact ⟨fun ⟨p, q⟩ => ⟨p, fun y hy => q y ((h y).2 hy)⟩, fun ⟨p, q⟩ => ⟨p, fun y hy => q y ((h y).1 hy)⟩⟩
theorem inorm_back (l : List PItem) : inorm l.reverse = inorm l := inorm_ext fun t => List.mem_reverse
theorem inorm_len (l : List PItem) : (inorm l).length ≤ l.length := by
  unfold inorm
  have := onceR_len (r := iless) (l.filter (firstOf l))
  have := List.length_filter_le (firstOf l) l
  omega
theorem inorm_filter {l : List PItem} (hr : Ris iless l) (ha : DotsApart l) (p : PItem → Bool) : inorm (l.filter p) = l.filter p :=
  inorm_self (hr.filter p) fun x hx y hy e => ha x (List.mem_filter.1 hx).1 y (List.mem_filter.1 hy).1 e

/-! ### parts -/
def hasDot (dots : List PDot) (d : PDot) : Bool := dots.any fun e => decide (e = d)
def iwithout (l : List PItem) (dots : List PDot) : List PItem := l.filter fun x => !hasDot dots x.dot
def iunder (l : List PItem) (z : List Txt) : List PItem := l.filter fun x => covers z x.key
def iof (l : List PItem) (key : Txt) : List PItem := l.filter fun x => decide (x.key = key)
def ikeys (l : List PItem) : List Txt := once (l.map (·.key))
def isize1 (x : PItem) : Nat := 24 + x.key.length + x.field.length + x.elem.length
def isize : List PItem → Nat
  | [] => 0
  | x :: l => isize1 x + isize l
theorem isize_append : ∀ a b : List PItem, isize (a ++ b) = isize a + isize b
  | [], b => by simp [isize]
  | x :: a, b => by rw [List.cons_append, isize, isize, isize_append a b]; omega
theorem hasDot_iff {dots : List PDot} {d : PDot} : hasDot dots d = true ↔ d ∈ dots := by
  unfold hasDot
  rw [List.any_eq_true]
  constructor
  · rintro ⟨e, he, h⟩
    rw [← of_decide_eq_true h]; exact he
  · intro h
    exact ⟨d, h, decide_eq_true rfl⟩
theorem iunder_without (l : List PItem) (dots : List PDot) (z : List Txt) : iunder (iwithout l dots) z = iwithout (iunder l z) dots := by
  unfold iunder iwithout
  rw [List.filter_filter, List.filter_filter]
  congr 1
  funext x
  exact Bool.and_comm _ _
theorem iunder_len (l : List PItem) (z : List Txt) : (iunder l z).length ≤ l.length := List.length_filter_le _ _
theorem iwithout_len (l : List PItem) (d : List PDot) : (iwithout l d).length ≤ l.length := List.length_filter_le _ _
theorem iof_len (l : List PItem) (k : Txt) : (iof l k).length ≤ l.length := List.length_filter_le _ _
theorem ikeys_len (l : List PItem) : (ikeys l).length ≤ l.length := by
  unfold ikeys
  have := once_len (l.map (·.key))
  rwa [List.length_map] at this
/-- the parts of rising keys, one behind the other -/
def partsOf (l : List PItem) (ks : List Txt) : List PItem := ks.flatMap (iof l)
theorem partsOf_append (l : List PItem) (a b : List Txt) : partsOf l (a ++ b) = partsOf l a ++ partsOf l b := by unfold partsOf; rw [List.flatMap_append]
theorem partsOf_one (l : List PItem) (k : Txt) : partsOf l [k] = iof l k := by unfold partsOf; simp
theorem iless_key {x y : PItem} (h : x.key < y.key) : iless x y := .inl h
theorem partsOf_all {l : List PItem} (hr : Ris iless l) : partsOf l (ikeys l) = l := by
  refine ris_ext sto_item ?_ hr fun t => ?_
  · have key : ∀ ks : List Txt, Rising ks → Ris iless (partsOf l ks) := by
      intro ks
      induction ks with
      | nil => intro _; exact List.Pairwise.nil
      | cons k ks ih =>
        intro h
        show Ris iless (List.flatMap (iof l) (k :: ks))
        rw [List.flatMap_cons]
        refine List.pairwise_append.2 ⟨hr.filter _, ih h.tail, fun x hx y hy => ?_⟩
        obtain ⟨k2, hk2, hy2⟩ := List.mem_flatMap.1 hy
        have e1 : x.key = k := of_decide_eq_true (List.mem_filter.1 hx).2
        have e2 : y.key = k2 := of_decide_eq_true (List.mem_filter.1 hy2).2
        exact iless_key (by rw [e1, e2]; exact h.head k2 hk2)
    exact key _ (rising_once _)
  · unfold partsOf
    rw [List.mem_flatMap]
    constructor
    · rintro ⟨k, hk, h⟩
      exact (List.mem_filter.1 h).1
    · intro h
      refine ⟨t.key, ?_, List.mem_filter.2 ⟨h, decide_eq_true rfl⟩⟩
      unfold ikeys
      rw [mem_once]
      exact List.mem_map.2 ⟨t, h, rfl⟩

theorem partsOf_split (l : List PItem) (ks : List Txt) (j : Nat) : partsOf l (ks.take j) ++ partsOf l (ks.drop j) = partsOf l ks := by rw [← partsOf_append, List.take_append_drop]
theorem partsOf_le {l : List PItem} (hr : Ris iless l) (j : Nat) : isize (partsOf l ((ikeys l).take j)) ≤ isize l ∧ (partsOf l ((ikeys l).take j)).length ≤ l.length := by
  have h := partsOf_split l (ikeys l) j
  rw [partsOf_all hr] at h
  refine ⟨?_, ?_⟩
  · have := congrArg isize h
    rw [isize_append] at this
    omega
  · have := congrArg List.length h
    rw [List.length_append] at this
    omega
theorem partsOf_next {l : List PItem} {ks : List Txt} {j : Nat} (hj : j < ks.length) : partsOf l (ks.take (j + 1)) = partsOf l (ks.take j) ++ iof l (ks.getD j []) := by
  rw [List.take_succ_eq_append_getElem hj, partsOf_append, partsOf_one]
  simp [List.getD, List.getElem?_eq_getElem hj]
theorem isize_le : ∀ {l : List PItem}, (∀ x ∈ l, x.key.length ≤ 300 ∧ x.field.length ≤ 300 ∧ x.elem.length ≤ 300) → isize l ≤ 924 * l.length
  | [], _ => by simp [isize]
  | x :: l, h => by
    have h1 := h x List.mem_cons_self
    have h2 := isize_le (l := l) fun y hy => h y (List.mem_cons_of_mem _ hy)
    rw [isize, List.length_cons]
    unfold isize1
    omega
theorem parts_without {l : List PItem} (hr : Ris iless l) (ha : DotsApart l) (d : List PDot) : inorm (iwithout l d) = iwithout l d := inorm_filter hr ha _
theorem parts_under {l : List PItem} (hr : Ris iless l) (ha : DotsApart l) (z : List Txt) : inorm (iunder l z) = iunder l z := inorm_filter hr ha _

/-! ### formed -/
def dotB (d : PDot) : Bool := decide (0 ≤ d.node ∧ d.node ≤ 7 ∧ 1 ≤ d.seq ∧ d.seq ≤ 1073741824 ∧ 0 ≤ d.pos ∧ d.pos ≤ 7)
def valueB (x : PItem) : Bool := (decide (x.kind = 1 ∨ x.kind = 2) && decide (x.n = 0)) || (decide (x.kind = 3) && decide (x.elem.length = 0))
def formedB (x : PItem) : Bool := dotB x.dot && (keyB x.key && (prefixB x.field && (decide (x.elem.length ≤ 32) && valueB x)))
end Go.Proofs.Ytgllaoanpemjlaa.Plain
