/- Texts, prefixes and zones as plain mathematics: rising lists, what a list covers, the one form, and the laws that follow. Rising lists over whatever order: each once, laid into its place; two rising lists of the same things are the same. Plain mathematics. Items and lists of them as plain mathematics: the order, the one form, what is left without dots, under a zone, of a key; keys, sizes; the laws that follow. What the program's own way to a zone comes to, as plain mathematics: heads of a rising list are the least; a look at the neighbours tells what begins with what; all keys of one byte. The program's own way with items as plain mathematics: what its comparison tells, what it keeps of a sorted list, the keys that it asks at once. Effects as plain mathematics: what one makes and takes away, what a list of them does, those under a zone, when they are right; the laws that follow. The program's own way with effects as plain mathematics: what is made and left, from the last effect on; the drops, one list behind the other; what covered keys tell; formed and right, place by place. -/
import Derived.Lib.Bytealg
import Derived.Lib.Small
namespace Go.Proofs.YtmknpmamkjjiaaaGreat.Plain
set_option linter.unusedVariables false

/-- a text's bytes -/
abbrev Txt := List UInt8
theorem lt_irrefl (a : Txt) : ¬ a < a := List.lt_irrefl a
theorem lt_trans {a b c : Txt} (h : a < b) (g : b < c) : a < c := List.lt_trans h g
theorem lt_asymm {a b : Txt} (h : a < b) : ¬ b < a := fun g => lt_irrefl a (lt_trans h g)
theorem lt_total {a b : Txt} (h : ¬ a < b) (g : a ≠ b) : b < a := by
 rcases Classical.em (b < a) with k | k
 ·exact k
 ·exact absurd (List.le_antisymm (List.not_lt.1 k) (List.not_lt.1 h)) g

/-! ### rising lists -/
def Rising (l : List Txt) : Prop := l.Pairwise (· < ·)
theorem Rising.tail {x : Txt} {l : List Txt} (h : Rising (x :: l)) : Rising l := (List.pairwise_cons.1 h).2
theorem Rising.head {x : Txt} {l : List Txt} (h : Rising (x :: l)) : ∀ y ∈ l, x < y := (List.pairwise_cons.1 h).1
theorem Rising.filter {l : List Txt} (h : Rising l) (p : Txt → Bool) : Rising (l.filter p) := List.Pairwise.filter p h
/-- two rising lists of the same texts are the same -/
theorem rising_ext : ∀ {a b : List Txt}, Rising a → Rising b → (∀ t, t ∈ a ↔ t ∈ b) → a = b
 | [], [], _, _, _ => rfl
 | [], y :: b, _, _, h => absurd ((h y).2 List.mem_cons_self) (by simp)
 | x :: a, [], _, _, h => absurd ((h x).1 List.mem_cons_self) (by simp)
 | x :: a, y :: b, ha, hb, h => by
  have hx := (h x).1 List.mem_cons_self
  have hy := (h y).2 List.mem_cons_self
  have e : x = y := by
   rcases List.mem_cons.1 hx with rfl | hx
   ·rfl
   ·rcases List.mem_cons.1 hy with rfl | hy
    ·rfl
    ·exact absurd (ha.head y hy) (lt_asymm (hb.head x hx))
  subst e
  have ht : a = b := by
   refine rising_ext ha.tail hb.tail fun t => ⟨fun ht => ?_, fun ht => ?_⟩
   ·rcases List.mem_cons.1 ((h t).1 (List.mem_cons_of_mem _ ht)) with rfl | g
    ·exact absurd (ha.head t ht) (lt_irrefl t)
    ·exact g
   ·rcases List.mem_cons.1 ((h t).2 (List.mem_cons_of_mem _ ht)) with rfl | g
    ·exact absurd (hb.head t ht) (lt_irrefl t)
    ·exact g
  rw [ht]

/-- a text set into its place, once -/
def ins (x : Txt) : List Txt → List Txt
 | [] => [x]
 | y :: l => if x < y then x :: y :: l else if x = y then y :: l else y :: ins x l
/-- rising, each text once -/
def once : List Txt → List Txt
 | [] => []
 | x :: l => ins x (once l)
theorem mem_ins (x t : Txt) : ∀ l, t ∈ ins x l ↔ t = x ∨ t ∈ l
 | [] => by simp [ins]
 | y :: l => by
  unfold ins
  split
  ·simp
  ·split
   ·rename_i e
    subst e
    simp
   ·rw [List.mem_cons, mem_ins x t l, List.mem_cons]
    constructor
    ·rintro (h | h | h) <;> simp [h]
    ·rintro (h | h | h) <;> simp [h]
theorem rising_ins (x : Txt) : ∀ {l}, Rising l → Rising (ins x l)
 | [], _ => List.pairwise_cons.2 ⟨fun _ h => absurd h (by simp), List.Pairwise.nil⟩
 | y :: l, h => by
  unfold ins
  split
  ·rename_i g
   refine List.pairwise_cons.2 ⟨fun t ht => ?_, h⟩
   rcases List.mem_cons.1 ht with rfl | ht
   ·exact g
   ·exact lt_trans g (h.head t ht)
  ·rename_i g
   split
   ·exact h
   ·rename_i e
    refine List.pairwise_cons.2 ⟨fun t ht => ?_, rising_ins x h.tail⟩
    rcases (mem_ins x t l).1 ht with rfl | ht
    ·exact lt_total g e
    ·exact h.head t ht
theorem mem_once (t : Txt) : ∀ l, t ∈ once l ↔ t ∈ l
 | [] => by simp [once]
 | x :: l => by rw [once, mem_ins, mem_once t l, List.mem_cons]
theorem rising_once : ∀ l, Rising (once l)
 | [] => List.Pairwise.nil
 | x :: l => rising_ins x (rising_once l)
theorem once_ext {a b : List Txt} (h : ∀ t, t ∈ a ↔ t ∈ b) : once a = once b := rising_ext (rising_once a) (rising_once b) fun t => by rw [mem_once, mem_once, h]
theorem ins_len (x : Txt) : ∀ l, (ins x l).length ≤ l.length + 1
 | [] => by simp [ins]
 | y :: l => by
  have := ins_len x l
  unfold ins
  split
  ·simp
  ·split <;> simp <;> omega
theorem once_len : ∀ l, (once l).length ≤ l.length
 | [] => by simp [once]
 | x :: l => by
  have := ins_len x (once l)
  have := once_len l
  rw [once, List.length_cons]; omega

/-! ### what begins with what -/
def beg (s p : Txt) : Bool := p.isPrefixOf s
theorem beg_iff {s p : Txt} : beg s p = true ↔ p <+: s := by unfold beg; exact List.isPrefixOf_iff_prefix
theorem beg_self (s : Txt) : beg s s = true := beg_iff.2 (List.prefix_refl s)
theorem beg_trans {a b c : Txt} (h : beg a b = true) (g : beg b c = true) : beg a c = true := beg_iff.2 ((beg_iff.1 g).trans (beg_iff.1 h))
def covers (z : List Txt) (k : Txt) : Bool := z.any fun p => beg k p
theorem covers_iff {z : List Txt} {k : Txt} : covers z k = true ↔ ∃ p ∈ z, beg k p = true := by unfold covers; exact List.any_eq_true
theorem covers_self {z : List Txt} {s : Txt} (h : s ∈ z) : covers z s = true := covers_iff.2 ⟨s, h, beg_self s⟩
/-! ### prefixes, zones -/
def okByte (c : UInt8) : Bool := c == 47 || (48 ≤ c && c ≤ 57) || (97 ≤ c && c ≤ 122)
def prefixB (s : Txt) : Bool := s.all okByte && decide (s.length ≤ 16)
def keyB (s : Txt) : Bool := decide (0 < s.length) && prefixB s
/-- none begins with another one -/
def Apart1 (z : List Txt) : Prop := ∀ s ∈ z, ∀ t ∈ z, beg s t = true → t = s
/-- does none of l, but itself, begin s? -/
def alone (l : List Txt) (s : Txt) : Bool := l.all fun t => t == s || !beg s t
theorem alone_iff {l : List Txt} {s : Txt} : alone l s = true ↔ ∀ t ∈ l, beg s t = true → t = s := by
 unfold alone
 rw [List.all_eq_true]
 constructor
 ·intro h t ht hb
  have := h t ht
  simpa [hb] using this
 ·intro h t ht
  by_cases hb : beg s t = true
  ·simp [h t ht hb]
  ·simp [hb]
def least (l : List Txt) : List Txt := once (l.filter (alone l))
theorem mem_least {l : List Txt} {s : Txt} : s ∈ least l ↔ s ∈ l ∧ ∀ t ∈ l, beg s t = true → t = s := by
 unfold least
 rw [mem_once, List.mem_filter, alone_iff]
/-- each text of a list begins with one of the least -/
theorem least_below (l : List Txt) : ∀ n (s : Txt), s.length ≤ n → s ∈ l → ∃ t ∈ least l, beg s t = true := by
 intro n
 induction n with
 | zero =>
  intro s hn hs
  obtain rfl : s = [] := List.eq_nil_of_length_eq_zero (by omega)
  refine ⟨[], mem_least.2 ⟨hs, fun t _ hb => ?_⟩, beg_self _⟩
  have := (beg_iff.1 hb).length_le
  exact List.eq_nil_of_length_eq_zero (by simpa using this)
 | succ n ih =>
  intro s hn hs
  by_cases h : ∀ t ∈ l, beg s t = true → t = s
  ·exact ⟨s, mem_least.2 ⟨hs, h⟩, beg_self s⟩
  ·have : ∃ t, t ∈ l ∧ beg s t = true ∧ t ≠ s := Classical.byContradiction fun hno => h fun t ht hb => Classical.byContradiction fun hne => hno ⟨t, ht, hb, hne⟩
   obtain ⟨t, ht, hb, hne⟩ := this
   have hlt : t.length < s.length := by
    have := (beg_iff.1 hb).length_le
    rcases Nat.lt_or_ge t.length s.length with g | g
    ·exact g
    ·exact absurd (List.IsPrefix.eq_of_length (beg_iff.1 hb) (by omega)) hne
   obtain ⟨u, hu, hbu⟩ := ih t (by omega) ht
   exact ⟨u, hu, beg_trans hb hbu⟩
theorem covers_least (l : List Txt) (k : Txt) : covers (least l) k = covers l k := by
 rw [Bool.eq_iff_iff, covers_iff, covers_iff]
 constructor
 ·rintro ⟨p, hp, hb⟩
  exact ⟨p, (mem_least.1 hp).1, hb⟩
 ·rintro ⟨p, hp, hb⟩
  obtain ⟨t, ht, hbt⟩ := least_below l p.length p (Nat.le_refl _) hp
  exact ⟨t, ht, beg_trans hb hbt⟩
theorem apart_least (l : List Txt) : Apart1 (least l) := fun s hs t ht hb => (mem_least.1 hs).2 t (mem_least.1 ht).1 hb
theorem least_len (l : List Txt) : (least l).length ≤ l.length := by
 unfold least
 have := once_len (l.filter (alone l))
 have := List.length_filter_le (alone l) l
 omega

/-! ### both, without, within -/
def without (a b : List Txt) : List Txt := once (a.filter fun s => !covers b s)
theorem mem_without {a b : List Txt} {s : Txt} : s ∈ without a b ↔ s ∈ a ∧ covers b s = false := by
 unfold without
 rw [mem_once, List.mem_filter]
 simp
theorem without_len (a b : List Txt) : (without a b).length ≤ a.length := by
 unfold without
 have := once_len (a.filter fun s => !covers b s)
 have := List.length_filter_le (fun s => !covers b s) a
 omega
/-! ### a zone with itself -/
end Go.Proofs.YtmknpmamkjjiaaaGreat.Plain
namespace Go.Proofs.YtmknpmamkjjiaaaGreat.Plain
set_option linter.unusedVariables false

/-- an order in which of two unlike things one is the lesser -/
structure Sto {α : Type} (r : α → α → Prop) : Prop where
 irrefl : ∀ a, ¬ r a a
 trans : ∀ {a b c}, r a b → r b c → r a c
 conn : ∀ {a b}, ¬ r a b → ¬ r b a → a = b
section
variable {α : Type} {r : α → α → Prop}
theorem Sto.total (S : Sto r) {a b : α} (h : ¬ r a b) (g : a ≠ b) : r b a := Classical.byContradiction fun k => g (S.conn h k)
/-- rising by r -/
def Ris (r : α → α → Prop) (l : List α) : Prop := l.Pairwise r
theorem Ris.tail {x : α} {l : List α} (h : Ris r (x :: l)) : Ris r l := (List.pairwise_cons.1 h).2
theorem Ris.head {x : α} {l : List α} (h : Ris r (x :: l)) : ∀ y ∈ l, r x y := (List.pairwise_cons.1 h).1
theorem Ris.filter {l : List α} (h : Ris r l) (p : α → Bool) : Ris r (l.filter p) := List.Pairwise.filter p h
theorem Ris.nodup (S : Sto r) : ∀ {l : List α}, Ris r l → l.Nodup
 | [], _ => List.nodup_nil
 | x :: l, h => List.nodup_cons.2 ⟨fun hx => S.irrefl x (h.head x hx), Ris.nodup S h.tail⟩
/-- at two places -/
theorem Ris.at {l : List α} (h : Ris r l) {i j : Nat} {x y : α} (hij : i < j) (hi : l[i]? = some x) (hj : l[j]? = some y) : r x y := by
 obtain ⟨hil, rfl⟩ := List.getElem?_eq_some_iff.1 hi
 obtain ⟨hjl, rfl⟩ := List.getElem?_eq_some_iff.1 hj
 exact List.pairwise_iff_getElem.1 h i j hil hjl hij
variable [DecidableRel r] [DecidableEq α]
/-- laid into its place, once -/
def insR (r : α → α → Prop) [DecidableRel r] [DecidableEq α] (x : α) : List α → List α
 | [] => [x]
 | y :: l => if r x y then x :: y :: l else if x = y then y :: l else y :: insR r x l
def onceR (r : α → α → Prop) [DecidableRel r] [DecidableEq α] : List α → List α
 | [] => []
 | x :: l => insR r x (onceR r l)
end
/-- first by f, then by r -/
def lexR {α β : Type} (f : α → β) (lt : β → β → Prop) (r : α → α → Prop) (a b : α) : Prop := lt (f a) (f b) ∨ (f a = f b ∧ r a b)
/-- a part of an order: what it tells apart stands in E -/
structure Pre {α : Type} (E : α → α → Prop) (r : α → α → Prop) : Prop where
 irrefl : ∀ a, ¬ r a a
 trans : ∀ {a b c}, r a b → r b c → r a c
 conn : ∀ {a b}, ¬ r a b → ¬ r b a → E a b
theorem Pre.last {α β : Type} (f : α → β) {lt : β → β → Prop} (S : Sto lt) : Pre (fun a b => f a = f b) (fun a b => lt (f a) (f b)) := ⟨fun a => S.irrefl _, fun h g => S.trans h g, fun h g => S.conn h g⟩
theorem Pre.lex {α β : Type} {E : α → α → Prop} {r : α → α → Prop} (p : Pre E r) (f : α → β) {lt : β → β → Prop} (S : Sto lt) : Pre (fun a b => f a = f b ∧ E a b) (lexR f lt r) where
 irrefl a h := h.elim (S.irrefl _) fun g => p.irrefl a g.2
 trans := by
  rintro a b c (h | ⟨e, h⟩) (g | ⟨e', g⟩)
  ·exact .inl (S.trans h g)
  ·exact .inl (by rw [← e']; exact h)
  ·exact .inl (by rw [e]; exact g)
  ·exact .inr ⟨e.trans e', p.trans h g⟩
 conn := by
  intro a b h g
  have e : f a = f b := S.conn (fun k => h (.inl k)) (fun k => g (.inl k))
  exact ⟨e, p.conn (fun k => h (.inr ⟨e, k⟩)) (fun k => g (.inr ⟨e.symm, k⟩))⟩
theorem Pre.sto {α : Type} {E : α → α → Prop} {r : α → α → Prop} (p : Pre E r) (h : ∀ {a b}, E a b → a = b) : Sto r := ⟨p.irrefl, p.trans, fun x y => h (p.conn x y)⟩
theorem sto_int : Sto (fun a b : Int => a < b) := ⟨fun a => by omega, fun h g => by omega, fun h g => by omega⟩
end Go.Proofs.YtmknpmamkjjiaaaGreat.Plain
namespace Go.Proofs.YtmknpmamkjjiaaaGreat.Plain
set_option linter.unusedVariables false

structure PDot where
 node : Int
 seq : Int
 pos : Int
structure PItem where
 key : Txt
 field : Txt
 kind : Int
 elem : Txt
 n : Int
 dot : PDot
theorem pdot_ext {a b : PDot} (h1 : a.node = b.node) (h2 : a.seq = b.seq) (h3 : a.pos = b.pos) : a = b := by
 cases a; cases b; simp_all
theorem pitem_ext {a b : PItem} (h1 : a.key = b.key) (h2 : a.field = b.field) (h3 : a.kind = b.kind) (h4 : a.elem = b.elem) (h5 : a.n = b.n) (h6 : a.dot = b.dot) : a = b := by
 cases a; cases b; simp_all
instance : DecidableEq PDot := fun a b => decidable_of_iff (a.node = b.node ∧ a.seq = b.seq ∧ a.pos = b.pos) ⟨fun ⟨h1, h2, h3⟩ => pdot_ext h1 h2 h3, fun e => by subst e; exact ⟨rfl, rfl, rfl⟩⟩
instance : DecidableEq PItem := fun a b => decidable_of_iff (a.key = b.key ∧ a.field = b.field ∧ a.kind = b.kind ∧ a.elem = b.elem ∧ a.n = b.n ∧ a.dot = b.dot) ⟨fun ⟨h1, h2, h3, h4, h5, h6⟩ => pitem_ext h1 h2 h3 h4 h5 h6, fun e => by subst e; exact ⟨rfl, rfl, rfl, rfl, rfl, rfl⟩⟩
instance : Inhabited PDot := ⟨⟨0, 0, 0⟩⟩
instance : Inhabited PItem := ⟨⟨[], [], 0, [], 0, default⟩⟩

/-! ### the order -/
theorem sto_txt : Sto (fun a b : Txt => a < b) := ⟨lt_irrefl, fun h g => lt_trans h g, fun h g => List.le_antisymm (List.not_lt.1 g) (List.not_lt.1 h)⟩
def iless (a b : PItem) : Prop :=
 a.key < b.key ∨ (a.key = b.key ∧ (a.field < b.field ∨ (a.field = b.field ∧ (a.kind < b.kind ∨ (a.kind = b.kind ∧ (a.dot.node < b.dot.node ∨ (a.dot.node = b.dot.node ∧
 (a.dot.seq < b.dot.seq ∨ (a.dot.seq = b.dot.seq ∧ (a.dot.pos < b.dot.pos ∨ (a.dot.pos = b.dot.pos ∧ (a.elem < b.elem ∨ (a.elem = b.elem ∧ a.n < b.n)))))))))))))
instance : DecidableRel iless := fun a b => by unfold iless; infer_instance
theorem sto_item : Sto iless := by
 have h := (((((((Pre.last (fun x : PItem => x.n) sto_int).lex (fun x => x.elem) sto_txt).lex (fun x => x.dot.pos) sto_int).lex (fun x => x.dot.seq) sto_int).lex (fun x => x.dot.node) sto_int).lex (fun x => x.kind) sto_int).lex (fun x => x.field) sto_txt).lex (fun x => x.key) sto_txt
 refine Pre.sto h ?_
 rintro a b ⟨h1, h2, h3, h4, h5, h6, h7, h8⟩
 exact pitem_ext h1 h2 h3 h7 h8 (pdot_ext h4 h5 h6)
def lessB (a b : PItem) : Bool := decide (iless a b)

/-! ### the one form -/
/-- is it, of all that have its dot, the one that stands first? -/
def firstOf (l : List PItem) (x : PItem) : Bool := l.all fun y => !(decide (y.dot = x.dot) && lessB y x)
def inorm (l : List PItem) : List PItem := onceR iless (l.filter (firstOf l))
/-- no two of one dot -/
def DotsApart (l : List PItem) : Prop := ∀ x ∈ l, ∀ y ∈ l, x.dot = y.dot → x = y
/-! ### parts -/
def hasDot (dots : List PDot) (d : PDot) : Bool := dots.any fun e => decide (e = d)
def iwithout (l : List PItem) (dots : List PDot) : List PItem := l.filter fun x => !hasDot dots x.dot
def iunder (l : List PItem) (z : List Txt) : List PItem := l.filter fun x => covers z x.key
def ikeys (l : List PItem) : List Txt := once (l.map (·.key))
theorem iunder_len (l : List PItem) (z : List Txt) : (iunder l z).length ≤ l.length := List.length_filter_le _ _
theorem ikeys_len (l : List PItem) : (ikeys l).length ≤ l.length := by
 unfold ikeys
 have := once_len (l.map (·.key))
 rwa [List.length_map] at this
/-! ### formed -/
def dotB (d : PDot) : Bool := decide (0 ≤ d.node ∧ d.node ≤ 7 ∧ 1 ≤ d.seq ∧ d.seq ≤ 1073741824 ∧ 0 ≤ d.pos ∧ d.pos ≤ 7)
def valueB (x : PItem) : Bool := (decide (x.kind = 1 ∨ x.kind = 2) && decide (x.n = 0)) || (decide (x.kind = 3) && decide (x.elem.length = 0))
def formedB (x : PItem) : Bool := dotB x.dot && (keyB x.key && (prefixB x.field && (decide (x.elem.length ≤ 32) && valueB x)))
end Go.Proofs.YtmknpmamkjjiaaaGreat.Plain
namespace Go.Proofs.YtmknpmamkjjiaaaGreat.Plain
set_option linter.unusedVariables false

theorem mem_gd {xs : List Txt} {k : Nat} (hk : k < xs.length) : xs.getD k [] ∈ xs := by
 rw [List.getD, List.getElem?_eq_getElem hk]
 exact List.getElem_mem hk
theorem gd_of {l : List Txt} {t : Txt} (h : t ∈ l) : ∃ j, j < l.length ∧ l.getD j [] = t := by
 obtain ⟨j, hj, rfl⟩ := List.getElem_of_mem h
 exact ⟨j, hj, by simp [List.getD, List.getElem?_eq_getElem hj]⟩
theorem take_nx {xs : List Txt} {k : Nat} (hk : k < xs.length) : xs.take (k + 1) = xs.take k ++ [xs.getD k []] := by
 rw [List.take_succ_eq_append_getElem hk]
 simp [List.getD, List.getElem?_eq_getElem hk]
theorem rising_gd {l : List Txt} (h : Rising l) {i j : Nat} (hij : i < j) (hj : j < l.length) : l.getD i [] < l.getD j [] := by
 have := List.pairwise_iff_getElem.1 h i j (by omega) hj hij
 simpa [List.getD, List.getElem?_eq_getElem hj, List.getElem?_eq_getElem (show i < l.length by omega)] using this
theorem le_of_beg {s p : Txt} (h : beg s p = true) : p < s ∨ p = s := by
 obtain ⟨r, rfl⟩ := beg_iff.1 h
 clear h
 induction p with
 | nil => cases r with
  | nil => exact .inr rfl
  | cons a r => exact .inl (by simp)
 | cons a p ih =>
  rcases ih with h | h
  ·exact .inl (by rw [List.cons_append]; exact List.cons_lt_cons_iff.2 (.inr ⟨rfl, h⟩))
  ·exact .inr (by rw [List.cons_append, ← h])
/-- what lies between a text and its beginning begins with that, too -/
theorem beg_mid : ∀ {u v s : Txt}, beg s u = true → (u < v ∨ u = v) → (v < s ∨ v = s) → beg v u = true
 | u, v, s, h, .inr e, _ => by rw [e]; exact beg_self v
 | u, v, s, h, _, .inr e => by rw [e]; exact h
 | [], v, s, h, _, _ => beg_iff.2 (List.nil_prefix)
 | a :: u, [], s, h, .inl g, _ => absurd g (by simp)
 | a :: u, b :: v, [], h, _, .inl g => absurd g (by simp)
 | a :: u, b :: v, c :: s, h, .inl g, .inl k => by
  obtain ⟨e, h0⟩ := List.cons_prefix_cons.1 (beg_iff.1 h)
  have h' := beg_iff.2 h0
  subst e
  rcases List.cons_lt_cons_iff.1 g with g1 | ⟨e1, g1⟩
  ·rcases List.cons_lt_cons_iff.1 k with k1 | ⟨e2, k1⟩
   ·exact absurd (UInt8.lt_trans g1 k1) (UInt8.lt_irrefl _)
   ·rw [e2] at g1; exact absurd g1 (UInt8.lt_irrefl _)
  ·subst e1
   rcases List.cons_lt_cons_iff.1 k with k1 | ⟨-, k1⟩
   ·exact absurd k1 (UInt8.lt_irrefl _)
   ·exact beg_iff.2 (List.cons_prefix_cons.2 ⟨rfl, beg_iff.1 (beg_mid h' (.inl g1) (.inl k1))⟩)

/-! ### heads, one behind the other -/
/-- of the first k of a rising list those that begin with no other one of it -/
def headsTo (r : List Txt) (k : Nat) : List Txt := (r.take k).filter (alone r)
theorem headsTo_next {r : List Txt} {k : Nat} (hk : k < r.length) : headsTo r (k + 1) = if alone r (r.getD k []) = true then headsTo r k ++ [r.getD k []] else headsTo r k := by
 unfold headsTo
 rw [take_nx hk, List.filter_append]
 split
 ·rename_i h
  simp only [List.filter_cons, h, if_true, List.filter_nil]
 ·rename_i h
  rw [List.filter_cons, if_neg h, List.filter_nil, List.append_nil]
theorem mem_headsTo {r : List Txt} {k : Nat} {t : Txt} (h : t ∈ headsTo r k) : t ∈ r ∧ alone r t = true ∧ ∃ j, j < k ∧ j < r.length ∧ r.getD j [] = t := by
 obtain ⟨h1, h2⟩ := List.mem_filter.1 h
 obtain ⟨j, hj, e⟩ := gd_of h1
 rw [List.length_take] at hj
 have e2 : (r.take k).getD j [] = r.getD j [] := by simp [List.getD, show j < k by omega]
 exact ⟨List.mem_of_mem_take h1, h2, j, by omega, by omega, by rw [← e2]; exact e⟩
theorem headsTo_in {r : List Txt} (hr : Rising r) {k : Nat} {t : Txt} (ht : t ∈ r) (ha : alone r t = true) (hlt : t < r.getD k []) (hk : k < r.length) : t ∈ headsTo r k := by
 obtain ⟨j, hj, rfl⟩ := gd_of ht
 have hjk : j < k := by
  rcases Nat.lt_or_ge j k with g | g
  ·exact g
  ·rcases Nat.lt_or_eq_of_le g with g | g
   ·exact absurd (rising_gd hr g hj) (lt_asymm hlt)
   ·subst g; exact absurd hlt (lt_irrefl _)
 unfold headsTo
 refine List.mem_filter.2 ⟨?_, ha⟩
 rw [show r.getD j [] = (r.take k).getD j [] by simp [List.getD, hjk]]
 exact mem_gd (by rw [List.length_take]; omega)
/-- the next one begins with another one of the list just where it begins with the last head -/
theorem alone_next {r : List Txt} (hr : Rising r) {k : Nat} (hk : k < r.length) : alone r (r.getD k []) = ((headsTo r k).length == 0 || !beg (r.getD k []) ((headsTo r k).getD ((headsTo r k).length - 1) [])) := by
 generalize hs : r.getD k [] = s
 generalize hh : headsTo r k = H
 have hmem : s ∈ r := by rw [← hs]; exact mem_gd hk
 have hHr : Rising H := by rw [← hh]; exact (List.Pairwise.take hr).filter _
 rw [Bool.eq_iff_iff, Bool.or_eq_true, beq_iff_eq, Bool.not_eq_true']
 constructor
 ·intro ha
  by_cases h0 : H.length = 0
  ·exact .inl h0
  ·refine .inr ?_
   have hin : H.getD (H.length - 1) [] ∈ H := mem_gd (by omega)
   generalize H.getD (H.length - 1) [] = t at hin
   cases hb : beg s t with
   | false => rfl
   | true =>
    exfalso
    rw [← hh] at hin
    obtain ⟨h1, h2, j, hj, hjl, e⟩ := mem_headsTo hin
    have h3 := alone_iff.1 ha t h1 hb
    have : r.getD j [] < r.getD k [] := rising_gd hr hj hk
    rw [e, hs, h3] at this
    exact lt_irrefl _ this
 ·intro h
  rcases Classical.em (alone r s = true) with ha | ha
  ·exact ha
  ·exfalso
   obtain ⟨u, hu, hbu⟩ := least_below r s.length s (Nat.le_refl _) hmem
   obtain ⟨hur, hua⟩ := mem_least.1 hu
   have hne : u ≠ s := by
    rintro rfl
    exact ha (alone_iff.2 hua)
   have hus : u < s := (le_of_beg hbu).resolve_right hne
   have huH : u ∈ H := by rw [← hh]; exact headsTo_in hr hur (alone_iff.2 hua) (by rw [hs]; exact hus) hk
   have hpos : H.length ≠ 0 := by
    intro e
    rw [List.eq_nil_of_length_eq_zero e] at huH
    simp at huH
   have hf := h.resolve_left hpos
   obtain ⟨i, hi, e⟩ := gd_of huH
   have hin : H.getD (H.length - 1) [] ∈ H := mem_gd (by omega)
   have huv : u < H.getD (H.length - 1) [] ∨ u = H.getD (H.length - 1) [] := by
    by_cases e2 : i = H.length - 1
    ·exact .inr (by rw [← e, e2])
    ·exact .inl (by rw [← e]; exact rising_gd hHr (by omega) (by omega))
   generalize hv : H.getD (H.length - 1) [] = v at hin huv hf
   rw [← hh] at hin
   obtain ⟨h1, h2, j, hj, hjl, ej⟩ := mem_headsTo hin
   have hvs : v < s := by rw [← ej, ← hs]; exact rising_gd hr hj hk
   have hbv := beg_mid hbu huv (.inl hvs)
   have := alone_iff.1 h2 u hur hbv
   subst this
   rw [hbu] at hf
   exact absurd hf (by decide)
theorem heads_all (l : List Txt) : headsTo (once l) (once l).length = least l := by
 unfold headsTo
 rw [List.take_length]
 refine rising_ext ((rising_once l).filter _) (rising_once _) fun t => ?_
 show _ ↔ t ∈ least l
 rw [List.mem_filter, alone_iff, mem_least, mem_once]
 exact ⟨fun ⟨p, q⟩ => ⟨p, fun u hu => q u ((mem_once u l).2 hu)⟩, fun ⟨p, q⟩ => ⟨p, fun u hu => q u ((mem_once u l).1 hu)⟩⟩
theorem headsTo_len (r : List Txt) (k : Nat) : (headsTo r k).length ≤ r.length := by
 unfold headsTo
 have := List.length_filter_le (alone r) (r.take k)
 rw [List.length_take] at this
 omega

/-! ### a look at the neighbours -/
/-- where s stands among heads: k of them are lesser -/
theorem covers_near {z : List Txt} (hr : Rising z) (ha : Apart1 z) {s : Txt} {k : Nat} (hk : k ≤ z.length) (h1 : ∀ j, j < k → z.getD j [] < s) (h2 : ∀ j, k ≤ j → j < z.length → ¬ z.getD j [] < s) :
  covers z s = (decide (k < z.length ∧ z.getD k [] = s) || (decide (0 < k) && beg s (z.getD (k - 1) []))) := by
 rw [Bool.eq_iff_iff, Bool.or_eq_true, Bool.and_eq_true, decide_eq_true_iff, decide_eq_true_iff]
 constructor
 ·intro h
  obtain ⟨p, hp, hb⟩ := covers_iff.1 h
  obtain ⟨j, hj, rfl⟩ := gd_of hp
  rcases le_of_beg hb with g | g
  ·have hjk : j < k := by
    rcases Nat.lt_or_ge j k with q | q
    ·exact q
    ·exact absurd g (h2 j q hj)
   refine .inr ⟨by omega, ?_⟩
   have hv : z.getD (k - 1) [] < s := h1 _ (by omega)
   have hm : z.getD j [] < z.getD (k - 1) [] ∨ z.getD j [] = z.getD (k - 1) [] := by
    by_cases e : j = k - 1
    ·exact .inr (by rw [e])
    ·exact .inl (rising_gd hr (by omega) (by omega))
   have hbv := beg_mid hb hm (.inl hv)
   have := ha _ (mem_gd (show k - 1 < z.length by omega)) _ hp hbv
   rw [← this]
   exact hb
  ·refine .inl ?_
   by_cases hjk : j < k
   ·have := h1 j hjk
    rw [g] at this
    exact absurd this (lt_irrefl _)
   ·by_cases e : j = k
    ·exact ⟨by omega, by rw [← e]; exact g⟩
    ·have := rising_gd hr (show k < j by omega) hj
     rw [g] at this
     exact absurd this (h2 k (Nat.le_refl _) (by omega))
 ·rintro (⟨h, e⟩ | ⟨h, hb⟩)
  ·rw [← e]; exact covers_self (mem_gd h)
  ·exact covers_iff.2 ⟨_, mem_gd (by omega), hb⟩
/-- of a rising list those below s stand ahead of the others -/
theorem parted {z : List Txt} (hr : Rising z) (s : Txt) : ∃ k, k ≤ z.length ∧ (∀ j, j < k → z.getD j [] < s) ∧ ∀ j, k ≤ j → j < z.length → ¬ z.getD j [] < s := by
 have key : ∀ m, m ≤ z.length → ∃ k, k ≤ m ∧ (∀ j, j < k → z.getD j [] < s) ∧ ∀ j, k ≤ j → j < m → ¬ z.getD j [] < s := by
  intro m
  induction m with
  | zero => intro _; exact ⟨0, Nat.le_refl _, fun j hj => absurd hj (Nat.not_lt_zero _), fun j _ hj => absurd hj (Nat.not_lt_zero _)⟩
  | succ m ih =>
   intro hm
   obtain ⟨k, hk, h1, h2⟩ := ih (by omega)
   by_cases g : z.getD m [] < s
   ·have hkm : k = m := by
     rcases Nat.lt_or_ge k m with q | q
     ·exact absurd (lt_trans (rising_gd hr q (by omega)) g) (h2 k (Nat.le_refl _) q)
     ·omega
    subst hkm
    refine ⟨k + 1, Nat.le_refl _, fun j hj => ?_, fun j hj hj2 => by omega⟩
    by_cases e : j = k
    ·rw [e]; exact g
    ·exact h1 j (by omega)
   ·refine ⟨k, by omega, h1, fun j hj hj2 => ?_⟩
    by_cases e : j = m
    ·rw [e]; exact g
    ·exact h2 j hj (by omega)
 exact key _ (Nat.le_refl _)

/-! ### is it a zone? a look at the neighbours -/
/-! ### all keys of one byte -/
def allB (z : List Txt) : Bool := (List.range 256).all fun b => !okByte (UInt8.ofNat b) || covers z [UInt8.ofNat b]
theorem nodup_len : ∀ {a b : List Txt}, a.Nodup → (∀ t ∈ a, t ∈ b) → a.length ≤ b.length
 | [], _, _, _ => Nat.zero_le _
 | x :: a, b, hn, hs => by
  have hx : x ∈ b := hs x List.mem_cons_self
  have hn' := List.nodup_cons.1 hn
  have := nodup_len (a := a) (b := b.erase x) hn'.2 fun t ht => (List.mem_erase_of_ne (by rintro rfl; exact hn'.1 ht)).2 (hs t (List.mem_cons_of_mem _ ht))
  rw [List.length_erase_of_mem hx] at this
  have := List.length_pos_of_mem hx
  rw [List.length_cons]
  omega
/-- the keys of one byte -/
def ones : List Txt := ((List.range 256).filter fun b => okByte (UInt8.ofNat b)).map fun b => [UInt8.ofNat b]
theorem ones_len : ones.length = 37 := by decide +kernel
theorem ones_nodup : ones.Nodup := by decide +kernel
/-- fewer texts than there are keys of one byte cover all of these only with the empty one -/
theorem all_nil {z : List Txt} (hl : z.length ≤ 36) (h : allB z = true) : [] ∈ z := by
 rcases Classical.em ([] ∈ z) with g | g
 ·exact g
 ·exfalso
  have hs : ∀ t ∈ ones, t ∈ z := by
   intro t ht
   obtain ⟨b, hb, rfl⟩ := List.mem_map.1 ht
   obtain ⟨hb1, hb2⟩ := List.mem_filter.1 hb
   unfold allB at h
   rw [List.all_eq_true] at h
   have hc := h b hb1
   rw [hb2] at hc
   obtain ⟨p, hp, hbp⟩ := covers_iff.1 (by simpa using hc)
   have hle := (beg_iff.1 hbp).length_le
   cases p with
   | nil => exact absurd hp g
   | cons c p =>
    have : c :: p = [UInt8.ofNat b] := List.IsPrefix.eq_of_length (beg_iff.1 hbp) (by simp at hle ⊢; exact hle)
    rw [← this]; exact hp
  have := nodup_len ones_nodup hs
  rw [ones_len] at this
  omega
end Go.Proofs.YtmknpmamkjjiaaaGreat.Plain
namespace Go.Proofs.YtmknpmamkjjiaaaGreat.Plain
set_option linter.unusedVariables false

/-! ### the comparison -/
/-- the first one that is not nought -/
def firstNZ : List Int → Int
 | [] => 0
 | x :: l => if x = 0 then firstNZ l else x
theorem icmp_spec (x y : Int) : (Lib.compareInt x y < 0 ↔ x < y) ∧ (Lib.compareInt x y = 0 ↔ x = y) := by
 unfold Lib.compareInt
 split
 ·refine ⟨⟨fun _ => by omega, fun _ => by decide⟩, ⟨fun e => absurd e (by decide), fun e => by omega⟩⟩
 ·split
  ·refine ⟨⟨fun e => absurd e (by decide), fun e => by omega⟩, ⟨fun e => absurd e (by decide), fun e => by omega⟩⟩
  ·refine ⟨⟨fun e => absurd e (by decide), fun e => by omega⟩, ⟨fun e => by omega, fun e => rfl⟩⟩
theorem firstNZ_step {c : Int} {l : List Int} {lt eq r : Prop} (h : (c < 0 ↔ lt) ∧ (c = 0 ↔ eq)) (hr : firstNZ l < 0 ↔ r) : firstNZ (c :: l) < 0 ↔ lt ∨ (eq ∧ r) := by
 rw [firstNZ]
 by_cases e : c = 0
 ·rw [if_pos e, hr]
  have hl : ¬ lt := fun k => by have := h.1.2 k; omega
  exact ⟨fun k => .inr ⟨h.2.1 e, k⟩, fun k => k.elim (fun k => absurd k hl) fun k => k.2⟩
 ·rw [if_neg e, h.1]
  exact ⟨.inl, fun k => k.elim id fun k => absurd (h.2.2 k.1) e⟩
theorem firstNZ_last {c : Int} {lt eq : Prop} (h : (c < 0 ↔ lt) ∧ (c = 0 ↔ eq)) : firstNZ [c] < 0 ↔ lt := by
 rw [firstNZ, firstNZ]
 split
 ·rename_i e
  rw [← h.1, e]
 ·exact h.1
/-! ### those that stay, by their places -/
section
variable {α : Type} [Inhabited α]
def pickK (f : Nat → Bool) (xs : List α) : Nat → List α
 | 0 => []
 | k + 1 => if f k then pickK f xs k ++ [xs.getD k default] else pickK f xs k
theorem pickK_yes {f : Nat → Bool} {xs : List α} {k : Nat} (h : f k = true) : pickK f xs (k + 1) = pickK f xs k ++ [xs.getD k default] := by rw [pickK, if_pos h]
theorem pickK_no {f : Nat → Bool} {xs : List α} {k : Nat} (h : f k = false) : pickK f xs (k + 1) = pickK f xs k := by rw [pickK, if_neg (by rw [h]; decide)]
theorem pickK_len (f : Nat → Bool) (xs : List α) : ∀ k, (pickK f xs k).length ≤ k
 | 0 => Nat.le_refl _
 | k + 1 => by
  have := pickK_len f xs k
  rw [pickK]
  split
  ·rw [List.length_append]; simp; omega
  ·omega
theorem take_nextD {xs : List α} {k : Nat} (hk : k < xs.length) : xs.take (k + 1) = xs.take k ++ [xs.getD k default] := by
 rw [List.take_succ_eq_append_getElem hk]
 simp [List.getD, List.getElem?_eq_getElem hk]
theorem pickK_pred (p : α → Bool) (xs : List α) : ∀ k, k ≤ xs.length → pickK (fun j => p (xs.getD j default)) xs k = (xs.take k).filter p
 | 0, _ => by simp [pickK]
 | k + 1, h => by
  rw [pickK, pickK_pred p xs k (by omega), take_nextD (by omega), List.filter_append]
  split
  ·rename_i e; rw [List.filter_cons, if_pos e, List.filter_nil]
  ·rename_i e; rw [List.filter_cons, if_neg e, List.filter_nil, List.append_nil]
theorem pickK_all (p : α → Bool) (xs : List α) : pickK (fun j => p (xs.getD j default)) xs xs.length = xs.filter p := by
 rw [pickK_pred p xs _ (Nat.le_refl _), List.take_length]
theorem pickK_cong {f g : Nat → Bool} (xs : List α) : ∀ k, (∀ j, j < k → f j = g j) → pickK f xs k = pickK g xs k
 | 0, _ => rfl
 | k + 1, h => by rw [pickK, pickK, pickK_cong xs k (fun j hj => h j (by omega)), h k (by omega)]
end

/-! ### Norm: sorted, and of one dot the first -/
/-! ### Keys, Under -/
def keyNew (xs : List PItem) (k : Nat) : Bool := decide (k = 0) || !decide ((xs.getD k default).key = (xs.getD (k - 1) default).key)
def keysUpTo (xs : List PItem) : Nat → List Txt
 | 0 => []
 | k + 1 => if keyNew xs k then keysUpTo xs k ++ [(xs.getD k default).key] else keysUpTo xs k
theorem keysUpTo_yes {xs : List PItem} {k : Nat} (h : keyNew xs k = true) : keysUpTo xs (k + 1) = keysUpTo xs k ++ [(xs.getD k default).key] := by rw [keysUpTo, if_pos h]
theorem keysUpTo_no {xs : List PItem} {k : Nat} (h : keyNew xs k = false) : keysUpTo xs (k + 1) = keysUpTo xs k := by rw [keysUpTo, if_neg (by rw [h]; decide)]
theorem keysUpTo_len (xs : List PItem) : ∀ k, (keysUpTo xs k).length ≤ k
 | 0 => Nat.le_refl _
 | k + 1 => by
  have := keysUpTo_len xs k
  rw [keysUpTo]
  split
  ·rw [List.length_append]; simp; omega
  ·omega
theorem mem_keysUpTo (xs : List PItem) : ∀ k, k ≤ xs.length → ∀ t, t ∈ keysUpTo xs k ↔ t ∈ (xs.take k).map (·.key)
 | 0, _, t => by simp [keysUpTo]
 | k + 1, h, t => by
  have ih := mem_keysUpTo xs k (by omega) t
  rw [take_nextD (by omega), List.map_append, List.mem_append, keysUpTo]
  split
  ·rw [List.mem_append, ih]; rfl
  ·rename_i hn
   rw [ih]
   refine ⟨.inl, fun g => g.elim id fun g => ?_⟩
   have hk : ¬ k = 0 ∧ (xs.getD k default).key = (xs.getD (k - 1) default).key := by
    unfold keyNew at hn
    simp only [Bool.or_eq_true, decide_eq_true_eq, Bool.not_eq_true', decide_eq_false_iff_not, not_or, Classical.not_not] at hn
    exact hn
   have e : t = (xs.getD k default).key := by simpa using g
   rw [e, hk.2]
   refine List.mem_map.2 ⟨xs.getD (k - 1) default, ?_, rfl⟩
   have e2 : (xs.take k).getD (k - 1) default = xs.getD (k - 1) default := by simp [List.getD, show k - 1 < k by omega]
   rw [← e2]
   have hl : k - 1 < (xs.take k).length := by rw [List.length_take]; omega
   have e3 : (xs.take k).getD (k - 1) default = (xs.take k)[k - 1] := by rw [List.getD, List.getElem?_eq_getElem hl]; rfl
   rw [e3]
   exact List.getElem_mem hl
theorem keys_way (xs : List PItem) : once (keysUpTo xs xs.length) = ikeys xs := once_ext fun t => by rw [mem_keysUpTo xs _ (Nat.le_refl _), List.take_length]
theorem under_way {xs : List PItem} {zs : List Txt} {x : PItem} (hx : x ∈ xs) : (!decide (x.key ∈ without (ikeys xs) zs)) = covers zs x.key := by
 have h : x.key ∈ ikeys xs := by unfold ikeys; rw [mem_once]; exact List.mem_map.2 ⟨x, hx, rfl⟩
 cases hc : covers zs x.key with
 | true =>
  rw [decide_eq_false fun k => by have := (mem_without.1 k).2; rw [hc] at this; cases this]
  rfl
 | false =>
  rw [decide_eq_true (mem_without.2 ⟨h, hc⟩)]
  rfl

/-! ### Size -/
end Go.Proofs.YtmknpmamkjjiaaaGreat.Plain
namespace Go.Proofs.YtmknpmamkjjiaaaGreat.Plain
set_option linter.unusedVariables false

structure PEff where
 pos : Int
 key : Txt
 field : Txt
 kind : Int
 elem : Txt
 n : Int
 drops : List PDot
theorem peff_ext {a b : PEff} (h0 : a.pos = b.pos) (h1 : a.key = b.key) (h2 : a.field = b.field) (h3 : a.kind = b.kind) (h4 : a.elem = b.elem) (h5 : a.n = b.n) (h6 : a.drops = b.drops) : a = b := by
 cases a; cases b; simp_all
instance : DecidableEq PEff := fun a b => decidable_of_iff (a.pos = b.pos ∧ a.key = b.key ∧ a.field = b.field ∧ a.kind = b.kind ∧ a.elem = b.elem ∧ a.n = b.n ∧ a.drops = b.drops) ⟨fun ⟨h0, h1, h2, h3, h4, h5, h6⟩ => peff_ext h0 h1 h2 h3 h4 h5 h6, fun e => by subst e; exact ⟨rfl, rfl, rfl, rfl, rfl, rfl, rfl⟩⟩
instance : Inhabited PEff := ⟨⟨0, [], [], 0, [], 0, []⟩⟩

/-! ### what effects do -/
def madeI (node seq : Int) (e : PEff) : PItem := ⟨e.key, e.field, e.kind, e.elem, e.n, ⟨node, seq, e.pos⟩⟩
/-- what one makes: nothing, or one item -/
def makes (node seq : Int) (e : PEff) : List PItem := if e.kind = 0 then [] else [madeI node seq e]
/-- done, but not put in its form -/
def rawStep (node seq : Int) (s : List PItem) (e : PEff) : List PItem := iwithout s e.drops ++ makes node seq e
def eraw (node seq : Int) (s : List PItem) (l : List PEff) : List PItem := l.foldl (rawStep node seq) s
def eonly (l : List PEff) (z : List Txt) : List PEff := l.filter fun e => covers z e.key
/-! ### lists of items -/
/-! ### what a list of effects does, at once -/
/-- what its effects make that stays -/
def own (node seq : Int) (l : List PEff) : List PItem := eraw node seq [] l
/-! ### the laws -/
/-! ### under a zone -/
theorem mem_iunder {a : List PItem} {z : List Txt} {t : PItem} : t ∈ iunder a z ↔ t ∈ a ∧ covers z t.key = true := List.mem_filter
/-! ### formed, right -/
def dlessB (a b : PDot) : Bool := decide (a.node < b.node ∨ (a.node = b.node ∧ (a.seq < b.seq ∨ (a.seq = b.seq ∧ a.pos < b.pos))))
/-- the Drops from the k-th on rise, and may be -/
def dropsB : List PDot → Bool
 | [] => true
 | [d] => dotB d
 | d :: e :: l => dotB d && (dlessB d e && dropsB (e :: l))
def makesB (node seq : Int) (e : PEff) : Bool :=
 if e.kind = 0 then decide (0 < e.drops.length) && (decide (e.elem.length = 0) && (decide (e.n = 0) && (keyB e.key && (prefixB e.field && dotB ⟨node, seq, e.pos⟩)))) else formedB (madeI node seq e)
def eformedB (node seq : Int) (e : PEff) : Bool := decide (e.drops.length ≤ 64) && (dropsB e.drops && makesB node seq e)
/-- no Drops has the dot of the same transaction's At of the effect itself or a later one -/
def pastB (node seq : Int) (e : PEff) : Bool := e.drops.all fun d => !(decide (d.node = node) && (decide (d.seq = seq) && decide (e.pos ≤ d.pos)))
def risesB : List PEff → Bool
 | [] => true
 | [_] => true
 | a :: b :: l => decide (a.pos < b.pos) && risesB (b :: l)
def rightB (node seq : Int) (l : List PEff) : Bool := l.all (eformedB node seq) && (risesB l && l.all (pastB node seq))
end Go.Proofs.YtmknpmamkjjiaaaGreat.Plain
namespace Go.Proofs.YtmknpmamkjjiaaaGreat.Plain
set_option linter.unusedVariables false

/-! ### Do -/
/-! ### Only -/
def keyI (e : PEff) : PItem := ⟨e.key, [], 0, [], 0, ⟨0, 0, 0⟩⟩
/-- the keys that are asked at once -/
def coveredK (l : List PEff) (z : List Txt) : List Txt := ikeys (iunder (l.map keyI) z)
theorem covered_way {l : List PEff} {z : List Txt} {e : PEff} (he : e ∈ l) : decide (e.key ∈ coveredK l z) = covers z e.key := by
 have h : e.key ∈ coveredK l z ↔ covers z e.key = true := by
  unfold coveredK ikeys
  rw [mem_once, List.mem_map]
  constructor
  ·rintro ⟨x, hx, hk⟩
   rw [← hk]
   exact (mem_iunder.1 hx).2
  ·intro h
   exact ⟨keyI e, mem_iunder.2 ⟨List.mem_map.2 ⟨e, he, rfl⟩, h⟩, rfl⟩
 cases hc : covers z e.key with
 | true => exact decide_eq_true (h.2 hc)
 | false => exact decide_eq_false fun k => by have := h.1 k; rw [hc] at this; cases this
theorem covered_len (l : List PEff) (z : List Txt) : (coveredK l z).length ≤ l.length := by
 have h1 := ikeys_len (iunder (l.map keyI) z)
 have h2 := iunder_len (l.map keyI) z
 rw [List.length_map] at h2
 unfold coveredK
 omega
theorem only_way (l : List PEff) (z : List Txt) : pickK (fun j => covers z (l.getD j default).key) l l.length = eonly l z := pickK_all (fun e : PEff => covers z e.key) l

/-! ### formed, right -/
def dcmps (a b : PDot) : List Int := [Lib.compareInt a.node b.node, Lib.compareInt a.seq b.seq, Lib.compareInt a.pos b.pos]
def dcmp (a b : PDot) : Int := firstNZ (dcmps a b)
theorem dcmp_dec (a b : PDot) : decide (dcmp a b < 0) = dlessB a b := by
 unfold dlessB dcmp dcmps
 exact decide_eq_decide.2 (firstNZ_step (icmp_spec _ _) (firstNZ_step (icmp_spec _ _) (firstNZ_last (icmp_spec _ _))))
theorem dcmp_ge (a b : PDot) : decide (0 ≤ dcmp a b) = !dlessB a b := by
 rw [← dcmp_dec, Bool.eq_iff_iff, Bool.not_eq_true', decide_eq_true_iff, decide_eq_false_iff_not]
 omega
theorem dropsB_iff : ∀ {l : List PDot}, dropsB l = true ↔ ∀ j, j < l.length → dotB (l.getD j default) = true ∧ (0 < j → dlessB (l.getD (j - 1) default) (l.getD j default) = true)
 | [] => ⟨fun _ j hj => absurd hj (by simp), fun _ => rfl⟩
 | [d] => by
  rw [dropsB]
  constructor
  ·intro h j hj
   obtain rfl : j = 0 := by simp at hj; exact hj
   exact ⟨h, fun k => absurd k (by omega)⟩
  ·intro h
   exact (h 0 (by simp)).1
 | d :: e :: l => by
  rw [dropsB, Bool.and_eq_true, Bool.and_eq_true, dropsB_iff (l := e :: l)]
  constructor
  ·rintro ⟨h1, h2, h3⟩ j hj
   cases j with
   | zero => exact ⟨h1, fun k => absurd k (by omega)⟩
   | succ j =>
    have h4 := h3 j (by simp at hj ⊢; omega)
    refine ⟨h4.1, fun _ => ?_⟩
    cases j with
    | zero => exact h2
    | succ j => exact h4.2 (by omega)
  ·intro h
   refine ⟨(h 0 (by simp)).1, (h 1 (by simp)).2 (by omega), fun j hj => ?_⟩
   have h4 := h (j + 1) (by simp at hj ⊢; omega)
   refine ⟨h4.1, fun hp => ?_⟩
   obtain ⟨i, rfl⟩ : ∃ i, j = i + 1 := ⟨j - 1, by omega⟩
   exact h4.2 (by omega)
theorem risesB_iff : ∀ {l : List PEff}, risesB l = true ↔ ∀ j, j < l.length → 0 < j → (l.getD (j - 1) default).pos < (l.getD j default).pos
 | [] => ⟨fun _ j hj => absurd hj (by simp), fun _ => rfl⟩
 | [d] => by
  rw [risesB]
  exact ⟨fun _ j hj hp => by simp at hj; omega, fun _ => rfl⟩
 | d :: e :: l => by
  rw [risesB, Bool.and_eq_true, decide_eq_true_iff, risesB_iff (l := e :: l)]
  constructor
  ·rintro ⟨h2, h3⟩ j hj hp
   obtain ⟨i, rfl⟩ : ∃ i, j = i + 1 := ⟨j - 1, by omega⟩
   cases i with
   | zero => exact h2
   | succ i => exact h3 (i + 1) (by simp at hj ⊢; omega) (by omega)
  ·intro h
   refine ⟨h 1 (by simp) (by omega), fun j hj hp => ?_⟩
   obtain ⟨i, rfl⟩ : ∃ i, j = i + 1 := ⟨j - 1, by omega⟩
   exact h (i + 1 + 1) (by simp at hj ⊢; omega) (by omega)
theorem mem_defE {l : List PEff} {k : Nat} (hk : k < l.length) : l.getD k default ∈ l := by
 have : l.getD k default = l[k] := by simp [List.getD, List.getElem?_eq_getElem hk]
 rw [this]
 exact List.getElem_mem hk
theorem all_getD {p : PEff → Bool} {l : List PEff} : l.all p = true ↔ ∀ j, j < l.length → p (l.getD j default) = true := by
 rw [List.all_eq_true]
 constructor
 ·intro h j hj
  exact h _ (mem_defE hj)
 ·intro h x hx
  obtain ⟨j, hj, rfl⟩ := List.getElem_of_mem hx
  have := h j hj
  rwa [show l.getD j default = l[j] by simp [List.getD, List.getElem?_eq_getElem hj]] at this
theorem rightB_iff {node seq : Int} {l : List PEff} : rightB node seq l = true ↔ ∀ j, j < l.length → (0 < j → (l.getD (j - 1) default).pos < (l.getD j default).pos) ∧ eformedB node seq (l.getD j default) = true ∧ pastB node seq (l.getD j default) = true := by
 unfold rightB
 rw [Bool.and_eq_true, Bool.and_eq_true, all_getD, all_getD, risesB_iff]
 exact ⟨fun ⟨h1, h2, h3⟩ j hj => ⟨h2 j hj, h1 j hj, h3 j hj⟩, fun h => ⟨fun j hj => (h j hj).2.1, fun j hj => (h j hj).1, fun j hj => (h j hj).2.2⟩⟩
def areB (l : List PDot) : Bool := decide (l.length ≤ 64) && dropsB l
/-- the item that is asked in its place, where nothing is made -/
def askI (node seq : Int) (e : PEff) : PItem := ⟨e.key, e.field, 1, e.elem, e.n, ⟨node, seq, e.pos⟩⟩
theorem eformed_zero {node seq : Int} {e : PEff} (hk : e.kind = 0) (he : e.elem.length = 0) (hd : 0 < e.drops.length) : eformedB node seq e = (formedB (askI node seq e) && areB e.drops) := by
 have h1 : e.elem.length ≤ 32 := by omega
 have h2 : (askI node seq e).elem.length ≤ 32 := h1
 unfold eformedB makesB formedB areB valueB
 rw [if_pos hk, decide_eq_true hd, decide_eq_true he, decide_eq_true h2]
 show (decide (e.drops.length ≤ 64) && (dropsB e.drops && (true && (true && (decide (e.n = 0) && (keyB e.key && (prefixB e.field && dotB ⟨node, seq, e.pos⟩))))))) = ((dotB ⟨node, seq, e.pos⟩ && (keyB e.key && (prefixB e.field && (true && (decide ((1 : Int) = 1 ∨ (1 : Int) = 2) && decide (e.n = 0) || (decide ((1 : Int) = 3) && decide (e.elem.length = 0))))))) && (decide (e.drops.length ≤ 64) && dropsB e.drops))
 rw [show decide ((1 : Int) = 1 ∨ (1 : Int) = 2) = true by decide, show decide ((1 : Int) = 3) = false by decide]
 generalize decide (e.drops.length ≤ 64) = b1
 generalize dropsB e.drops = b2
 generalize decide (e.n = 0) = b3
 generalize keyB e.key = b4
 generalize prefixB e.field = b5
 generalize dotB ⟨node, seq, e.pos⟩ = b6
 cases b1 <;> cases b2 <;> cases b3 <;> cases b4 <;> cases b5 <;> cases b6 <;> rfl
theorem eformed_bare {node seq : Int} {e : PEff} (hk : e.kind = 0) (he : ¬ e.elem.length = 0) : eformedB node seq e = false := by
 unfold eformedB makesB
 rw [if_pos hk, decide_eq_false he]
 simp
theorem eformed_idle {node seq : Int} {e : PEff} (hk : e.kind = 0) (hd : e.drops.length = 0) : eformedB node seq e = false := by
 unfold eformedB makesB
 rw [if_pos hk, decide_eq_false (by omega : ¬ 0 < e.drops.length)]
 simp
theorem eformed_made {node seq : Int} {e : PEff} (hk : ¬ e.kind = 0) : eformedB node seq e = (formedB (madeI node seq e) && areB e.drops) := by
 unfold eformedB makesB areB
 rw [if_neg hk]
 generalize decide (e.drops.length ≤ 64) = b1
 generalize dropsB e.drops = b2
 generalize formedB (madeI node seq e) = b3
 cases b1 <;> cases b2 <;> cases b3 <;> rfl
/-- what the last operand of Right asks of one dot -/
def unmadeB (node seq pos : Int) (d : PDot) : Bool := decide (d.node = node) && (decide (d.seq = seq) && decide (pos ≤ d.pos))
theorem past_any (node seq : Int) (e : PEff) : pastB node seq e = !(e.drops.any (unmadeB node seq e.pos)) := by
 unfold pastB unmadeB
 rw [Bool.eq_iff_iff, Bool.not_eq_true', List.all_eq_true, List.any_eq_false]
 constructor
 ·intro h d hd k
  have := h d hd
  rw [k] at this
  cases this
 ·intro h d hd
  have := h d hd
  cases hb : (decide (d.node = node) && (decide (d.seq = seq) && decide (e.pos ≤ d.pos))) with
  | true => exact absurd hb this
  | false => rfl
/-- a dot is one that an item may have: an item tells -/
theorem ask_dot (d : PDot) : formedB ⟨[97], [], 1, [], 0, d⟩ = dotB d := by
 have h1 : keyB [97] = true := by decide
 have h2 : prefixB [] = true := by decide
 unfold formedB valueB
 show (dotB d && (keyB [97] && (prefixB [] && (decide (([] : Txt).length ≤ 32) && ((decide ((1 : Int) = 1 ∨ (1 : Int) = 2) && decide ((0 : Int) = 0)) || (decide ((1 : Int) = 3) && decide (([] : Txt).length = 0))))))) = dotB d
 rw [h1, h2]
 simp
end Go.Proofs.YtmknpmamkjjiaaaGreat.Plain
