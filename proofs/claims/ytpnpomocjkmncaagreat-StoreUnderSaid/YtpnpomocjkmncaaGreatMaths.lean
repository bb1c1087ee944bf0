/- Texts, prefixes and zones as plain mathematics: rising lists, what a list covers, the one form, and the laws that follow. Rising lists over whatever order: each once, laid into its place; two rising lists of the same things are the same. Plain mathematics. Items and lists of them as plain mathematics: the order, the one form, what is left without dots, under a zone, of a key; keys, sizes; the laws that follow. What the program's own way to a zone comes to, as plain mathematics: heads of a rising list are the least; a look at the neighbours tells what begins with what; all keys of one byte. The program's own way with items as plain mathematics: what its comparison tells, what it keeps of a sorted list, the keys that it asks at once. Effects as plain mathematics: what one makes and takes away, what a list of them does, those under a zone, when they are right; the laws that follow. The program's own way with effects as plain mathematics: what is made and left, from the last effect on; the drops, one list behind the other; what covered keys tell; formed and right, place by place. -/
import Derived.Lib.Bytealg
import Derived.Lib.Small
namespace Go.Proofs.YtpnpomocjkmncaaGreat.Plain
set_option linter.unusedVariables false

abbrev Txt := List UInt8
theorem lt_irrefl (a : Txt) : ¬ a < a := List.lt_irrefl a
theorem lt_trans {a b c : Txt} (h : a < b) (g : b < c) : a < c := List.lt_trans h g
theorem lt_asymm {a b : Txt} (h : a < b) : ¬ b < a := fun g => lt_irrefl a (lt_trans h g)
theorem lt_total {a b : Txt} (h : ¬ a < b) (g : a ≠ b) : b < a := by
 rcases Classical.em (b < a) with k | k
 ·exact k
 ·exact absurd (List.le_antisymm (List.not_lt.1 k) (List.not_lt.1 h)) g

def Rising (l : List Txt) : Prop := l.Pairwise (· < ·)
theorem Rising.tail {x : Txt} {l : List Txt} (h : Rising (x :: l)) : Rising l := (List.pairwise_cons.1 h).2
theorem Rising.head {x : Txt} {l : List Txt} (h : Rising (x :: l)) : ∀ y ∈ l, x < y := (List.pairwise_cons.1 h).1
theorem Rising.filter {l : List Txt} (h : Rising l) (p : Txt → Bool) : Rising (l.filter p) := List.Pairwise.filter p h
theorem rising_ext : ∀ {a b : List Txt}, Rising a → Rising b → (∀ t, t ∈ a ↔ t ∈ b) → a = b
 | [], [], _, _, _ => rfl
 | [], y :: b, _, _, h => absurd ((h y).2 List.mem_cons_self) (by simp)
 | x :: a, [], _, _, h => absurd ((h x).1 List.mem_cons_self) (by simp)
 | x :: a, y :: b, ha, hb, h => by
  have hx := (h x).1 List.mem_cons_self
  have hy := (h y).2 List.mem_cons_self
  have e : x = y := by
   rcases List.mem_cons.1 hx with rfl | hx
   ·rfl
   ·rcases List.mem_cons.1 hy with rfl | hy
    ·rfl
    ·exact absurd (ha.head y hy) (lt_asymm (hb.head x hx))
  subst e
  have ht : a = b := by
   refine rising_ext ha.tail hb.tail fun t => ⟨fun ht => ?_, fun ht => ?_⟩
   ·rcases List.mem_cons.1 ((h t).1 (List.mem_cons_of_mem _ ht)) with rfl | g
    ·exact absurd (ha.head t ht) (lt_irrefl t)
    ·exact g
   ·rcases List.mem_cons.1 ((h t).2 (List.mem_cons_of_mem _ ht)) with rfl | g
    ·exact absurd (hb.head t ht) (lt_irrefl t)
    ·exact g
  rw [ht]

def ins (x : Txt) : List Txt → List Txt
 | [] => [x]
 | y :: l => if x < y then x :: y :: l else if x = y then y :: l else y :: ins x l
def once : List Txt → List Txt
 | [] => []
 | x :: l => ins x (once l)
theorem mem_ins (x t : Txt) : ∀ l, t ∈ ins x l ↔ t = x ∨ t ∈ l
 | [] => by simp [ins]
 | y :: l => by
  unfold ins
  split
  ·simp
  ·split
   ·rename_i e
    subst e
    simp
   ·rw [List.mem_cons, mem_ins x t l, List.mem_cons]
    constructor
    ·rintro (h | h | h) <;> simp [h]
    ·rintro (h | h | h) <;> simp [h]
theorem rising_ins (x : Txt) : ∀ {l}, Rising l → Rising (ins x l)
 | [], _ => List.pairwise_cons.2 ⟨fun _ h => absurd h (by simp), List.Pairwise.nil⟩
 | y :: l, h => by
  unfold ins
  split
  ·rename_i g
   refine List.pairwise_cons.2 ⟨fun t ht => ?_, h⟩
   rcases List.mem_cons.1 ht with rfl | ht
   ·exact g
   ·exact lt_trans g (h.head t ht)
  ·rename_i g
   split
   ·exact h
   ·rename_i e
    refine List.pairwise_cons.2 ⟨fun t ht => ?_, rising_ins x h.tail⟩
    rcases (mem_ins x t l).1 ht with rfl | ht
    ·exact lt_total g e
    ·exact h.head t ht
theorem mem_once (t : Txt) : ∀ l, t ∈ once l ↔ t ∈ l
 | [] => by simp [once]
 | x :: l => by rw [once, mem_ins, mem_once t l, List.mem_cons]
theorem rising_once : ∀ l, Rising (once l)
 | [] => List.Pairwise.nil
 | x :: l => rising_ins x (rising_once l)
theorem once_ext {a b : List Txt} (h : ∀ t, t ∈ a ↔ t ∈ b) : once a = once b := rising_ext (rising_once a) (rising_once b) fun t => by rw [mem_once, mem_once, h]
theorem ins_len (x : Txt) : ∀ l, (ins x l).length ≤ l.length + 1
 | [] => by simp [ins]
 | y :: l => by
  have := ins_len x l
  unfold ins
  split
  ·simp
  ·split <;> simp <;> omega
theorem once_len : ∀ l, (once l).length ≤ l.length
 | [] => by simp [once]
 | x :: l => by
  have := ins_len x (once l)
  have := once_len l
  rw [once, List.length_cons]; omega

def beg (s p : Txt) : Bool := p.isPrefixOf s
theorem beg_iff {s p : Txt} : beg s p = true ↔ p <+: s := by unfold beg; exact List.isPrefixOf_iff_prefix
theorem beg_self (s : Txt) : beg s s = true := beg_iff.2 (List.prefix_refl s)
theorem beg_trans {a b c : Txt} (h : beg a b = true) (g : beg b c = true) : beg a c = true := beg_iff.2 ((beg_iff.1 g).trans (beg_iff.1 h))
def covers (z : List Txt) (k : Txt) : Bool := z.any fun p => beg k p
theorem covers_iff {z : List Txt} {k : Txt} : covers z k = true ↔ ∃ p ∈ z, beg k p = true := by unfold covers; exact List.any_eq_true
theorem covers_self {z : List Txt} {s : Txt} (h : s ∈ z) : covers z s = true := covers_iff.2 ⟨s, h, beg_self s⟩
def okByte (c : UInt8) : Bool := c == 47 || (48 ≤ c && c ≤ 57) || (97 ≤ c && c ≤ 122)
def prefixB (s : Txt) : Bool := s.all okByte && decide (s.length ≤ 16)
def keyB (s : Txt) : Bool := decide (0 < s.length) && prefixB s
def Apart1 (z : List Txt) : Prop := ∀ s ∈ z, ∀ t ∈ z, beg s t = true → t = s
def alone (l : List Txt) (s : Txt) : Bool := l.all fun t => t == s || !beg s t
theorem alone_iff {l : List Txt} {s : Txt} : alone l s = true ↔ ∀ t ∈ l, beg s t = true → t = s := by
 unfold alone
 rw [List.all_eq_true]
 constructor
 ·intro h t ht hb
  have := h t ht
  simpa [hb] using this
 ·intro h t ht
  by_cases hb : beg s t = true
  ·simp [h t ht hb]
  ·simp [hb]
def least (l : List Txt) : List Txt := once (l.filter (alone l))
theorem mem_least {l : List Txt} {s : Txt} : s ∈ least l ↔ s ∈ l ∧ ∀ t ∈ l, beg s t = true → t = s := by
 unfold least
 rw [mem_once, List.mem_filter, alone_iff]
theorem least_ext {a b : List Txt} (h : ∀ t, t ∈ a ↔ t ∈ b) : least a = least b := rising_ext (rising_once _) (rising_once _) fun t => by
 show t ∈ least a ↔ t ∈ least b
 rw [mem_least, mem_least, h]
 exact ⟨fun ⟨p, q⟩ => ⟨p, fun u hu => q u ((h u).2 hu)⟩, fun ⟨p, q⟩ => ⟨p, fun u hu => q u ((h u).1 hu)⟩⟩
theorem least_below (l : List Txt) : ∀ n (s : Txt), s.length ≤ n → s ∈ l → ∃ t ∈ least l, beg s t = true := by
 intro n
 induction n with
 | zero =>
  intro s hn hs
  obtain rfl : s = [] := List.eq_nil_of_length_eq_zero (by omega)
  refine ⟨[], mem_least.2 ⟨hs, fun t _ hb => ?_⟩, beg_self _⟩
  have := (beg_iff.1 hb).length_le
  exact List.eq_nil_of_length_eq_zero (by simpa using this)
 | succ n ih =>
  intro s hn hs
  by_cases h : ∀ t ∈ l, beg s t = true → t = s
  ·exact ⟨s, mem_least.2 ⟨hs, h⟩, beg_self s⟩
  ·have : ∃ t, t ∈ l ∧ beg s t = true ∧ t ≠ s := Classical.byContradiction fun hno => h fun t ht hb => Classical.byContradiction fun hne => hno ⟨t, ht, hb, hne⟩
   obtain ⟨t, ht, hb, hne⟩ := this
   have hlt : t.length < s.length := by
    have := (beg_iff.1 hb).length_le
    rcases Nat.lt_or_ge t.length s.length with g | g
    ·exact g
    ·exact absurd (List.IsPrefix.eq_of_length (beg_iff.1 hb) (by omega)) hne
   obtain ⟨u, hu, hbu⟩ := ih t (by omega) ht
   exact ⟨u, hu, beg_trans hb hbu⟩
theorem covers_least (l : List Txt) (k : Txt) : covers (least l) k = covers l k := by
 rw [Bool.eq_iff_iff, covers_iff, covers_iff]
 constructor
 ·rintro ⟨p, hp, hb⟩
  exact ⟨p, (mem_least.1 hp).1, hb⟩
 ·rintro ⟨p, hp, hb⟩
  obtain ⟨t, ht, hbt⟩ := least_below l p.length p (Nat.le_refl _) hp
  exact ⟨t, ht, beg_trans hb hbt⟩
theorem apart_least (l : List Txt) : Apart1 (least l) := fun s hs t ht hb => (mem_least.1 hs).2 t (mem_least.1 ht).1 hb
theorem least_len (l : List Txt) : (least l).length ≤ l.length := by
 unfold least
 have := once_len (l.filter (alone l))
 have := List.length_filter_le (alone l) l
 omega

def without (a b : List Txt) : List Txt := once (a.filter fun s => !covers b s)
theorem mem_without {a b : List Txt} {s : Txt} : s ∈ without a b ↔ s ∈ a ∧ covers b s = false := by
 unfold without
 rw [mem_once, List.mem_filter]
 simp
theorem without_len (a b : List Txt) : (without a b).length ≤ a.length := by
 unfold without
 have := once_len (a.filter fun s => !covers b s)
 have := List.length_filter_le (fun s => !covers b s) a
 omega
end Go.Proofs.YtpnpomocjkmncaaGreat.Plain
namespace Go.Proofs.YtpnpomocjkmncaaGreat.Plain
set_option linter.unusedVariables false

structure Sto {α : Type} (r : α → α → Prop) : Prop where
 irrefl : ∀ a, ¬ r a a
 trans : ∀ {a b c}, r a b → r b c → r a c
 conn : ∀ {a b}, ¬ r a b → ¬ r b a → a = b
section
variable {α : Type} {r : α → α → Prop}
theorem Sto.asymm (S : Sto r) {a b : α} (h : r a b) : ¬ r b a := fun g => S.irrefl a (S.trans h g)
theorem Sto.total (S : Sto r) {a b : α} (h : ¬ r a b) (g : a ≠ b) : r b a := Classical.byContradiction fun k => g (S.conn h k)
def Ris (r : α → α → Prop) (l : List α) : Prop := l.Pairwise r
theorem Ris.tail {x : α} {l : List α} (h : Ris r (x :: l)) : Ris r l := (List.pairwise_cons.1 h).2
theorem Ris.head {x : α} {l : List α} (h : Ris r (x :: l)) : ∀ y ∈ l, r x y := (List.pairwise_cons.1 h).1
theorem Ris.filter {l : List α} (h : Ris r l) (p : α → Bool) : Ris r (l.filter p) := List.Pairwise.filter p h
theorem Ris.nodup (S : Sto r) : ∀ {l : List α}, Ris r l → l.Nodup
 | [], _ => List.nodup_nil
 | x :: l, h => List.nodup_cons.2 ⟨fun hx => S.irrefl x (h.head x hx), Ris.nodup S h.tail⟩
theorem ris_ext (S : Sto r) : ∀ {a b : List α}, Ris r a → Ris r b → (∀ t, t ∈ a ↔ t ∈ b) → a = b
 | [], [], _, _, _ => rfl
 | [], y :: b, _, _, h => absurd ((h y).2 List.mem_cons_self) (by simp)
 | x :: a, [], _, _, h => absurd ((h x).1 List.mem_cons_self) (by simp)
 | x :: a, y :: b, ha, hb, h => by
  have hx := (h x).1 List.mem_cons_self
  have hy := (h y).2 List.mem_cons_self
  have e : x = y := by
   rcases List.mem_cons.1 hx with rfl | hx
   ·rfl
   ·rcases List.mem_cons.1 hy with rfl | hy
    ·rfl
    ·exact absurd (ha.head y hy) (S.asymm (hb.head x hx))
  subst e
  have ht : a = b := by
   refine ris_ext S ha.tail hb.tail fun t => ⟨fun ht => ?_, fun ht => ?_⟩
   ·rcases List.mem_cons.1 ((h t).1 (List.mem_cons_of_mem _ ht)) with rfl | g
    ·exact absurd (ha.head t ht) (S.irrefl t)
    ·exact g
   ·rcases List.mem_cons.1 ((h t).2 (List.mem_cons_of_mem _ ht)) with rfl | g
    ·exact absurd (hb.head t ht) (S.irrefl t)
    ·exact g
  rw [ht]
theorem Ris.at {l : List α} (h : Ris r l) {i j : Nat} {x y : α} (hij : i < j) (hi : l[i]? = some x) (hj : l[j]? = some y) : r x y := by
 obtain ⟨hil, rfl⟩ := List.getElem?_eq_some_iff.1 hi
 obtain ⟨hjl, rfl⟩ := List.getElem?_eq_some_iff.1 hj
 exact List.pairwise_iff_getElem.1 h i j hil hjl hij
variable [DecidableRel r] [DecidableEq α]
def insR (r : α → α → Prop) [DecidableRel r] [DecidableEq α] (x : α) : List α → List α
 | [] => [x]
 | y :: l => if r x y then x :: y :: l else if x = y then y :: l else y :: insR r x l
def onceR (r : α → α → Prop) [DecidableRel r] [DecidableEq α] : List α → List α
 | [] => []
 | x :: l => insR r x (onceR r l)
theorem mem_insR (x t : α) : ∀ l, t ∈ insR r x l ↔ t = x ∨ t ∈ l
 | [] => by simp [insR]
 | y :: l => by
  unfold insR
  split
  ·simp
  ·split
   ·rename_i e
    subst e
    simp
   ·rw [List.mem_cons, mem_insR x t l, List.mem_cons]
    constructor
    ·rintro (h | h | h) <;> simp [h]
    ·rintro (h | h | h) <;> simp [h]
theorem ris_insR (S : Sto r) (x : α) : ∀ {l}, Ris r l → Ris r (insR r x l)
 | [], _ => List.pairwise_cons.2 ⟨fun _ h => absurd h (by simp), List.Pairwise.nil⟩
 | y :: l, h => by
  unfold insR
  split
  ·rename_i g
   refine List.pairwise_cons.2 ⟨fun t ht => ?_, h⟩
   rcases List.mem_cons.1 ht with rfl | ht
   ·exact g
   ·exact S.trans g (h.head t ht)
  ·rename_i g
   split
   ·exact h
   ·rename_i e
    refine List.pairwise_cons.2 ⟨fun t ht => ?_, ris_insR S x h.tail⟩
    rcases (mem_insR x t l).1 ht with rfl | ht
    ·exact S.total g e
    ·exact h.head t ht
theorem mem_onceR (t : α) : ∀ l, t ∈ onceR r l ↔ t ∈ l
 | [] => by simp [onceR]
 | x :: l => by rw [onceR, mem_insR, mem_onceR t l, List.mem_cons]
theorem ris_onceR (S : Sto r) : ∀ l, Ris r (onceR r l)
 | [] => List.Pairwise.nil
 | x :: l => ris_insR S x (ris_onceR S l)
theorem onceR_ext (S : Sto r) {a b : List α} (h : ∀ t, t ∈ a ↔ t ∈ b) : onceR r a = onceR r b := ris_ext S (ris_onceR S a) (ris_onceR S b) fun t => by rw [mem_onceR, mem_onceR, h]
theorem insR_len (x : α) : ∀ l, (insR r x l).length ≤ l.length + 1
 | [] => by simp [insR]
 | y :: l => by
  have := insR_len x l
  unfold insR
  split
  ·simp
  ·split <;> simp <;> omega
theorem onceR_len : ∀ l : List α, (onceR r l).length ≤ l.length
 | [] => by simp [onceR]
 | x :: l => by
  have := insR_len (r := r) x (onceR r l)
  have := onceR_len l
  rw [onceR, List.length_cons]; omega
theorem insR_at (S : Sto r) {x : α} {a b : List α} (hr : Ris r (a ++ b)) (ha : ∀ t ∈ a, r t x) (hb : ∀ t ∈ b, r x t) : insR r x (a ++ b) = a ++ x :: b := by
 refine ris_ext S (ris_insR S x hr) ?_ fun t => ?_
 ·obtain ⟨h1, h2, h3⟩ := List.pairwise_append.1 hr
  refine List.pairwise_append.2 ⟨h1, List.pairwise_cons.2 ⟨hb, h2⟩, fun t ht u hu => ?_⟩
  rcases List.mem_cons.1 hu with rfl | hu
  ·exact ha t ht
  ·exact h3 t ht u hu
 ·rw [mem_insR, List.mem_append, List.mem_append, List.mem_cons]
  constructor
  ·rintro (h | h | h) <;> simp [h]
  ·rintro (h | h | h) <;> simp [h]
end
def lexR {α β : Type} (f : α → β) (lt : β → β → Prop) (r : α → α → Prop) (a b : α) : Prop := lt (f a) (f b) ∨ (f a = f b ∧ r a b)
structure Pre {α : Type} (E : α → α → Prop) (r : α → α → Prop) : Prop where
 irrefl : ∀ a, ¬ r a a
 trans : ∀ {a b c}, r a b → r b c → r a c
 conn : ∀ {a b}, ¬ r a b → ¬ r b a → E a b
theorem Pre.last {α β : Type} (f : α → β) {lt : β → β → Prop} (S : Sto lt) : Pre (fun a b => f a = f b) (fun a b => lt (f a) (f b)) := ⟨fun a => S.irrefl _, fun h g => S.trans h g, fun h g => S.conn h g⟩
theorem Pre.lex {α β : Type} {E : α → α → Prop} {r : α → α → Prop} (p : Pre E r) (f : α → β) {lt : β → β → Prop} (S : Sto lt) : Pre (fun a b => f a = f b ∧ E a b) (lexR f lt r) where
 irrefl a h := h.elim (S.irrefl _) fun g => p.irrefl a g.2
 trans := by
  rintro a b c (h | ⟨e, h⟩) (g | ⟨e', g⟩)
  ·exact .inl (S.trans h g)
  ·exact .inl (by rw [← e']; exact h)
  ·exact .inl (by rw [e]; exact g)
  ·exact .inr ⟨e.trans e', p.trans h g⟩
 conn := by
  intro a b h g
  have e : f a = f b := S.conn (fun k => h (.inl k)) (fun k => g (.inl k))
  exact ⟨e, p.conn (fun k => h (.inr ⟨e, k⟩)) (fun k => g (.inr ⟨e.symm, k⟩))⟩
theorem Pre.sto {α : Type} {E : α → α → Prop} {r : α → α → Prop} (p : Pre E r) (h : ∀ {a b}, E a b → a = b) : Sto r := ⟨p.irrefl, p.trans, fun x y => h (p.conn x y)⟩
theorem sto_int : Sto (fun a b : Int => a < b) := ⟨fun a => by omega, fun h g => by omega, fun h g => by omega⟩
end Go.Proofs.YtpnpomocjkmncaaGreat.Plain
namespace Go.Proofs.YtpnpomocjkmncaaGreat.Plain
set_option linter.unusedVariables false

structure PDot where
 node : Int
 seq : Int
 pos : Int
structure PItem where
 key : Txt
 field : Txt
 kind : Int
 elem : Txt
 n : Int
 dot : PDot
theorem pdot_ext {a b : PDot} (h1 : a.node = b.node) (h2 : a.seq = b.seq) (h3 : a.pos = b.pos) : a = b := by
 cases a; cases b; simp_all
theorem pitem_ext {a b : PItem} (h1 : a.key = b.key) (h2 : a.field = b.field) (h3 : a.kind = b.kind) (h4 : a.elem = b.elem) (h5 : a.n = b.n) (h6 : a.dot = b.dot) : a = b := by
 cases a; cases b; simp_all
instance : DecidableEq PDot := fun a b => decidable_of_iff (a.node = b.node ∧ a.seq = b.seq ∧ a.pos = b.pos) ⟨fun ⟨h1, h2, h3⟩ => pdot_ext h1 h2 h3, fun e => by subst e; exact ⟨rfl, rfl, rfl⟩⟩
instance : DecidableEq PItem := fun a b => decidable_of_iff (a.key = b.key ∧ a.field = b.field ∧ a.kind = b.kind ∧ a.elem = b.elem ∧ a.n = b.n ∧ a.dot = b.dot) ⟨fun ⟨h1, h2, h3, h4, h5, h6⟩ => pitem_ext h1 h2 h3 h4 h5 h6, fun e => by subst e; exact ⟨rfl, rfl, rfl, rfl, rfl, rfl⟩⟩
instance : Inhabited PDot := ⟨⟨0, 0, 0⟩⟩
instance : Inhabited PItem := ⟨⟨[], [], 0, [], 0, default⟩⟩

theorem sto_txt : Sto (fun a b : Txt => a < b) := ⟨lt_irrefl, fun h g => lt_trans h g, fun h g => List.le_antisymm (List.not_lt.1 g) (List.not_lt.1 h)⟩
def iless (a b : PItem) : Prop :=
 a.key < b.key ∨ (a.key = b.key ∧ (a.field < b.field ∨ (a.field = b.field ∧ (a.kind < b.kind ∨ (a.kind = b.kind ∧ (a.dot.node < b.dot.node ∨ (a.dot.node = b.dot.node ∧
 (a.dot.seq < b.dot.seq ∨ (a.dot.seq = b.dot.seq ∧ (a.dot.pos < b.dot.pos ∨ (a.dot.pos = b.dot.pos ∧ (a.elem < b.elem ∨ (a.elem = b.elem ∧ a.n < b.n)))))))))))))
instance : DecidableRel iless := fun a b => by unfold iless; infer_instance
theorem sto_item : Sto iless := by
 have h := (((((((Pre.last (fun x : PItem => x.n) sto_int).lex (fun x => x.elem) sto_txt).lex (fun x => x.dot.pos) sto_int).lex (fun x => x.dot.seq) sto_int).lex (fun x => x.dot.node) sto_int).lex (fun x => x.kind) sto_int).lex (fun x => x.field) sto_txt).lex (fun x => x.key) sto_txt
 refine Pre.sto h ?_
 rintro a b ⟨h1, h2, h3, h4, h5, h6, h7, h8⟩
 exact pitem_ext h1 h2 h3 h7 h8 (pdot_ext h4 h5 h6)
def lessB (a b : PItem) : Bool := decide (iless a b)

def firstOf (l : List PItem) (x : PItem) : Bool := l.all fun y => !(decide (y.dot = x.dot) && lessB y x)
theorem firstOf_iff {l : List PItem} {x : PItem} : firstOf l x = true ↔ ∀ y ∈ l, y.dot = x.dot → ¬ iless y x := by
 unfold firstOf lessB
 rw [List.all_eq_true]
 constructor
 ·intro h y hy hd hl
  have := h y hy
  simp [hd, hl] at this
 ·intro h y hy
  by_cases hd : y.dot = x.dot
  ·simp [hd, h y hy hd]
  ·simp [hd]
def inorm (l : List PItem) : List PItem := onceR iless (l.filter (firstOf l))
theorem mem_inorm {l : List PItem} {x : PItem} : x ∈ inorm l ↔ x ∈ l ∧ ∀ y ∈ l, y.dot = x.dot → ¬ iless y x := by
 unfold inorm
 rw [mem_onceR, List.mem_filter, firstOf_iff]
theorem ris_inorm (l : List PItem) : Ris iless (inorm l) := ris_onceR sto_item _
def DotsApart (l : List PItem) : Prop := ∀ x ∈ l, ∀ y ∈ l, x.dot = y.dot → x = y
theorem apart_inorm (l : List PItem) : DotsApart (inorm l) := fun x hx y hy e =>
 sto_item.conn ((mem_inorm.1 hy).2 x (mem_inorm.1 hx).1 e) ((mem_inorm.1 hx).2 y (mem_inorm.1 hy).1 e.symm)
theorem inorm_self {l : List PItem} (hr : Ris iless l) (ha : DotsApart l) : inorm l = l := ris_ext sto_item (ris_inorm l) hr fun t => by
 rw [mem_inorm]
 refine ⟨fun h => h.1, fun h => ⟨h, fun y hy e hl => ?_⟩⟩
 have := ha y hy t h e
 subst this
 exact sto_item.irrefl y hl
theorem inorm_inorm (l : List PItem) : inorm (inorm l) = inorm l := inorm_self (ris_inorm l) (apart_inorm l)
theorem inorm_ext {a b : List PItem} (h : ∀ t, t ∈ a ↔ t ∈ b) : inorm a = inorm b := ris_ext sto_item (ris_inorm a) (ris_inorm b) fun t => by
 rw [mem_inorm, mem_inorm, h]
 exact ⟨fun ⟨p, q⟩ => ⟨p, fun y hy => q y ((h y).2 hy)⟩, fun ⟨p, q⟩ => ⟨p, fun y hy => q y ((h y).1 hy)⟩⟩
theorem inorm_len (l : List PItem) : (inorm l).length ≤ l.length := by
 unfold inorm
 have := onceR_len (r := iless) (l.filter (firstOf l))
 have := List.length_filter_le (firstOf l) l
 omega
def hasDot (dots : List PDot) (d : PDot) : Bool := dots.any fun e => decide (e = d)
def iwithout (l : List PItem) (dots : List PDot) : List PItem := l.filter fun x => !hasDot dots x.dot
def iunder (l : List PItem) (z : List Txt) : List PItem := l.filter fun x => covers z x.key
def ikeys (l : List PItem) : List Txt := once (l.map (·.key))
theorem hasDot_iff {dots : List PDot} {d : PDot} : hasDot dots d = true ↔ d ∈ dots := by
 unfold hasDot
 rw [List.any_eq_true]
 constructor
 ·rintro ⟨e, he, h⟩
  rw [← of_decide_eq_true h]; exact he
 ·intro h
  exact ⟨d, h, decide_eq_true rfl⟩
theorem iunder_len (l : List PItem) (z : List Txt) : (iunder l z).length ≤ l.length := List.length_filter_le _ _
theorem iwithout_len (l : List PItem) (d : List PDot) : (iwithout l d).length ≤ l.length := List.length_filter_le _ _
theorem ikeys_len (l : List PItem) : (ikeys l).length ≤ l.length := by
 unfold ikeys
 have := once_len (l.map (·.key))
 rwa [List.length_map] at this
def dotB (d : PDot) : Bool := decide (0 ≤ d.node ∧ d.node ≤ 7 ∧ 1 ≤ d.seq ∧ d.seq ≤ 1073741824 ∧ 0 ≤ d.pos ∧ d.pos ≤ 7)
def valueB (x : PItem) : Bool := (decide (x.kind = 1 ∨ x.kind = 2) && decide (x.n = 0)) || (decide (x.kind = 3) && decide (x.elem.length = 0))
def formedB (x : PItem) : Bool := dotB x.dot && (keyB x.key && (prefixB x.field && (decide (x.elem.length ≤ 32) && valueB x)))
end Go.Proofs.YtpnpomocjkmncaaGreat.Plain
namespace Go.Proofs.YtpnpomocjkmncaaGreat.Plain
set_option linter.unusedVariables false

theorem mem_gd {xs : List Txt} {k : Nat} (hk : k < xs.length) : xs.getD k [] ∈ xs := by
 rw [List.getD, List.getElem?_eq_getElem hk]
 exact List.getElem_mem hk
theorem gd_of {l : List Txt} {t : Txt} (h : t ∈ l) : ∃ j, j < l.length ∧ l.getD j [] = t := by
 obtain ⟨j, hj, rfl⟩ := List.getElem_of_mem h
 exact ⟨j, hj, by simp [List.getD, List.getElem?_eq_getElem hj]⟩
theorem take_nx {xs : List Txt} {k : Nat} (hk : k < xs.length) : xs.take (k + 1) = xs.take k ++ [xs.getD k []] := by
 rw [List.take_succ_eq_append_getElem hk]
 simp [List.getD, List.getElem?_eq_getElem hk]
theorem rising_gd {l : List Txt} (h : Rising l) {i j : Nat} (hij : i < j) (hj : j < l.length) : l.getD i [] < l.getD j [] := by
 have := List.pairwise_iff_getElem.1 h i j (by omega) hj hij
 simpa [List.getD, List.getElem?_eq_getElem hj, List.getElem?_eq_getElem (show i < l.length by omega)] using this
theorem le_of_beg {s p : Txt} (h : beg s p = true) : p < s ∨ p = s := by
 obtain ⟨r, rfl⟩ := beg_iff.1 h
 clear h
 induction p with
 | nil => cases r with
  | nil => exact .inr rfl
  | cons a r => exact .inl (by simp)
 | cons a p ih =>
  rcases ih with h | h
  ·exact .inl (by rw [List.cons_append]; exact List.cons_lt_cons_iff.2 (.inr ⟨rfl, h⟩))
  ·exact .inr (by rw [List.cons_append, ← h])
theorem beg_mid : ∀ {u v s : Txt}, beg s u = true → (u < v ∨ u = v) → (v < s ∨ v = s) → beg v u = true
 | u, v, s, h, .inr e, _ => by rw [e]; exact beg_self v
 | u, v, s, h, _, .inr e => by rw [e]; exact h
 | [], v, s, h, _, _ => beg_iff.2 (List.nil_prefix)
 | a :: u, [], s, h, .inl g, _ => absurd g (by simp)
 | a :: u, b :: v, [], h, _, .inl g => absurd g (by simp)
 | a :: u, b :: v, c :: s, h, .inl g, .inl k => by
  obtain ⟨e, h0⟩ := List.cons_prefix_cons.1 (beg_iff.1 h)
  have h' := beg_iff.2 h0
  subst e
  rcases List.cons_lt_cons_iff.1 g with g1 | ⟨e1, g1⟩
  ·rcases List.cons_lt_cons_iff.1 k with k1 | ⟨e2, k1⟩
   ·exact absurd (UInt8.lt_trans g1 k1) (UInt8.lt_irrefl _)
   ·rw [e2] at g1; exact absurd g1 (UInt8.lt_irrefl _)
  ·subst e1
   rcases List.cons_lt_cons_iff.1 k with k1 | ⟨-, k1⟩
   ·exact absurd k1 (UInt8.lt_irrefl _)
   ·exact beg_iff.2 (List.cons_prefix_cons.2 ⟨rfl, beg_iff.1 (beg_mid h' (.inl g1) (.inl k1))⟩)

def headsTo (r : List Txt) (k : Nat) : List Txt := (r.take k).filter (alone r)
theorem headsTo_next {r : List Txt} {k : Nat} (hk : k < r.length) : headsTo r (k + 1) = if alone r (r.getD k []) = true then headsTo r k ++ [r.getD k []] else headsTo r k := by
 unfold headsTo
 rw [take_nx hk, List.filter_append]
 split
 ·rename_i h
  simp only [List.filter_cons, h, if_true, List.filter_nil]
 ·rename_i h
  rw [List.filter_cons, if_neg h, List.filter_nil, List.append_nil]
theorem mem_headsTo {r : List Txt} {k : Nat} {t : Txt} (h : t ∈ headsTo r k) : t ∈ r ∧ alone r t = true ∧ ∃ j, j < k ∧ j < r.length ∧ r.getD j [] = t := by
 obtain ⟨h1, h2⟩ := List.mem_filter.1 h
 obtain ⟨j, hj, e⟩ := gd_of h1
 rw [List.length_take] at hj
 have e2 : (r.take k).getD j [] = r.getD j [] := by simp [List.getD, show j < k by omega]
 exact ⟨List.mem_of_mem_take h1, h2, j, by omega, by omega, by rw [← e2]; exact e⟩
theorem headsTo_in {r : List Txt} (hr : Rising r) {k : Nat} {t : Txt} (ht : t ∈ r) (ha : alone r t = true) (hlt : t < r.getD k []) (hk : k < r.length) : t ∈ headsTo r k := by
 obtain ⟨j, hj, rfl⟩ := gd_of ht
 have hjk : j < k := by
  rcases Nat.lt_or_ge j k with g | g
  ·exact g
  ·rcases Nat.lt_or_eq_of_le g with g | g
   ·exact absurd (rising_gd hr g hj) (lt_asymm hlt)
   ·subst g; exact absurd hlt (lt_irrefl _)
 unfold headsTo
 refine List.mem_filter.2 ⟨?_, ha⟩
 rw [show r.getD j [] = (r.take k).getD j [] by simp [List.getD, hjk]]
 exact mem_gd (by rw [List.length_take]; omega)
theorem alone_next {r : List Txt} (hr : Rising r) {k : Nat} (hk : k < r.length) : alone r (r.getD k []) = ((headsTo r k).length == 0 || !beg (r.getD k []) ((headsTo r k).getD ((headsTo r k).length - 1) [])) := by
 generalize hs : r.getD k [] = s
 generalize hh : headsTo r k = H
 have hmem : s ∈ r := by rw [← hs]; exact mem_gd hk
 have hHr : Rising H := by rw [← hh]; exact (List.Pairwise.take hr).filter _
 rw [Bool.eq_iff_iff, Bool.or_eq_true, beq_iff_eq, Bool.not_eq_true']
 constructor
 ·intro ha
  by_cases h0 : H.length = 0
  ·exact .inl h0
  ·refine .inr ?_
   have hin : H.getD (H.length - 1) [] ∈ H := mem_gd (by omega)
   generalize H.getD (H.length - 1) [] = t at hin
   cases hb : beg s t with
   | false => rfl
   | true =>
    exfalso
    rw [← hh] at hin
    obtain ⟨h1, h2, j, hj, hjl, e⟩ := mem_headsTo hin
    have h3 := alone_iff.1 ha t h1 hb
    have : r.getD j [] < r.getD k [] := rising_gd hr hj hk
    rw [e, hs, h3] at this
    exact lt_irrefl _ this
 ·intro h
  rcases Classical.em (alone r s = true) with ha | ha
  ·exact ha
  ·exfalso
   obtain ⟨u, hu, hbu⟩ := least_below r s.length s (Nat.le_refl _) hmem
   obtain ⟨hur, hua⟩ := mem_least.1 hu
   have hne : u ≠ s := by
    rintro rfl
    exact ha (alone_iff.2 hua)
   have hus : u < s := (le_of_beg hbu).resolve_right hne
   have huH : u ∈ H := by rw [← hh]; exact headsTo_in hr hur (alone_iff.2 hua) (by rw [hs]; exact hus) hk
   have hpos : H.length ≠ 0 := by
    intro e
    rw [List.eq_nil_of_length_eq_zero e] at huH
    simp at huH
   have hf := h.resolve_left hpos
   obtain ⟨i, hi, e⟩ := gd_of huH
   have hin : H.getD (H.length - 1) [] ∈ H := mem_gd (by omega)
   have huv : u < H.getD (H.length - 1) [] ∨ u = H.getD (H.length - 1) [] := by
    by_cases e2 : i = H.length - 1
    ·exact .inr (by rw [← e, e2])
    ·exact .inl (by rw [← e]; exact rising_gd hHr (by omega) (by omega))
   generalize hv : H.getD (H.length - 1) [] = v at hin huv hf
   rw [← hh] at hin
   obtain ⟨h1, h2, j, hj, hjl, ej⟩ := mem_headsTo hin
   have hvs : v < s := by rw [← ej, ← hs]; exact rising_gd hr hj hk
   have hbv := beg_mid hbu huv (.inl hvs)
   have := alone_iff.1 h2 u hur hbv
   subst this
   rw [hbu] at hf
   exact absurd hf (by decide)
theorem heads_all (l : List Txt) : headsTo (once l) (once l).length = least l := by
 unfold headsTo
 rw [List.take_length]
 refine rising_ext ((rising_once l).filter _) (rising_once _) fun t => ?_
 show _ ↔ t ∈ least l
 rw [List.mem_filter, alone_iff, mem_least, mem_once]
 exact ⟨fun ⟨p, q⟩ => ⟨p, fun u hu => q u ((mem_once u l).2 hu)⟩, fun ⟨p, q⟩ => ⟨p, fun u hu => q u ((mem_once u l).1 hu)⟩⟩
theorem headsTo_len (r : List Txt) (k : Nat) : (headsTo r k).length ≤ r.length := by
 unfold headsTo
 have := List.length_filter_le (alone r) (r.take k)
 rw [List.length_take] at this
 omega

theorem covers_near {z : List Txt} (hr : Rising z) (ha : Apart1 z) {s : Txt} {k : Nat} (hk : k ≤ z.length) (h1 : ∀ j, j < k → z.getD j [] < s) (h2 : ∀ j, k ≤ j → j < z.length → ¬ z.getD j [] < s) :
  covers z s = (decide (k < z.length ∧ z.getD k [] = s) || (decide (0 < k) && beg s (z.getD (k - 1) []))) := by
 rw [Bool.eq_iff_iff, Bool.or_eq_true, Bool.and_eq_true, decide_eq_true_iff, decide_eq_true_iff]
 constructor
 ·intro h
  obtain ⟨p, hp, hb⟩ := covers_iff.1 h
  obtain ⟨j, hj, rfl⟩ := gd_of hp
  rcases le_of_beg hb with g | g
  ·have hjk : j < k := by
    rcases Nat.lt_or_ge j k with q | q
    ·exact q
    ·exact absurd g (h2 j q hj)
   refine .inr ⟨by omega, ?_⟩
   have hv : z.getD (k - 1) [] < s := h1 _ (by omega)
   have hm : z.getD j [] < z.getD (k - 1) [] ∨ z.getD j [] = z.getD (k - 1) [] := by
    by_cases e : j = k - 1
    ·exact .inr (by rw [e])
    ·exact .inl (rising_gd hr (by omega) (by omega))
   have hbv := beg_mid hb hm (.inl hv)
   have := ha _ (mem_gd (show k - 1 < z.length by omega)) _ hp hbv
   rw [← this]
   exact hb
  ·refine .inl ?_
   by_cases hjk : j < k
   ·have := h1 j hjk
    rw [g] at this
    exact absurd this (lt_irrefl _)
   ·by_cases e : j = k
    ·exact ⟨by omega, by rw [← e]; exact g⟩
    ·have := rising_gd hr (show k < j by omega) hj
     rw [g] at this
     exact absurd this (h2 k (Nat.le_refl _) (by omega))
 ·rintro (⟨h, e⟩ | ⟨h, hb⟩)
  ·rw [← e]; exact covers_self (mem_gd h)
  ·exact covers_iff.2 ⟨_, mem_gd (by omega), hb⟩
theorem parted {z : List Txt} (hr : Rising z) (s : Txt) : ∃ k, k ≤ z.length ∧ (∀ j, j < k → z.getD j [] < s) ∧ ∀ j, k ≤ j → j < z.length → ¬ z.getD j [] < s := by
 have key : ∀ m, m ≤ z.length → ∃ k, k ≤ m ∧ (∀ j, j < k → z.getD j [] < s) ∧ ∀ j, k ≤ j → j < m → ¬ z.getD j [] < s := by
  intro m
  induction m with
  | zero => intro _; exact ⟨0, Nat.le_refl _, fun j hj => absurd hj (Nat.not_lt_zero _), fun j _ hj => absurd hj (Nat.not_lt_zero _)⟩
  | succ m ih =>
   intro hm
   obtain ⟨k, hk, h1, h2⟩ := ih (by omega)
   by_cases g : z.getD m [] < s
   ·have hkm : k = m := by
     rcases Nat.lt_or_ge k m with q | q
     ·exact absurd (lt_trans (rising_gd hr q (by omega)) g) (h2 k (Nat.le_refl _) q)
     ·omega
    subst hkm
    refine ⟨k + 1, Nat.le_refl _, fun j hj => ?_, fun j hj hj2 => by omega⟩
    by_cases e : j = k
    ·rw [e]; exact g
    ·exact h1 j (by omega)
   ·refine ⟨k, by omega, h1, fun j hj hj2 => ?_⟩
    by_cases e : j = m
    ·rw [e]; exact g
    ·exact h2 j hj (by omega)
 exact key _ (Nat.le_refl _)

end Go.Proofs.YtpnpomocjkmncaaGreat.Plain
namespace Go.Proofs.YtpnpomocjkmncaaGreat.Plain
set_option linter.unusedVariables false

def firstNZ : List Int → Int
 | [] => 0
 | x :: l => if x = 0 then firstNZ l else x
def tcmp (a b : Txt) : Int := Lib.compareBytes a b
theorem tcmp_spec : ∀ a b : Txt, (tcmp a b < 0 ↔ a < b) ∧ (tcmp a b = 0 ↔ a = b)
 | [], [] => ⟨⟨fun h => absurd h (by decide), fun h => absurd h (lt_irrefl [])⟩, ⟨fun _ => rfl, fun _ => rfl⟩⟩
 | [], y :: b => ⟨⟨fun _ => List.nil_lt_cons y b, fun _ => (by decide : (-1 : Int) < 0)⟩, ⟨fun h => absurd h (by decide : ¬ (-1 : Int) = 0), fun h => absurd h (by simp)⟩⟩
 | x :: a, [] => ⟨⟨fun h => absurd h (by decide : ¬ (1 : Int) < 0), fun h => absurd h (by simp)⟩, ⟨fun h => absurd h (by decide : ¬ (1 : Int) = 0), fun h => absurd h (by simp)⟩⟩
 | x :: a, y :: b => by
  have ih := tcmp_spec a b
  unfold tcmp at ih ⊢
  unfold Lib.compareBytes
  rw [List.cons_lt_cons_iff, List.cons.injEq]
  by_cases h : x < y
  ·rw [if_pos h]
   refine ⟨⟨fun _ => .inl h, fun _ => by decide⟩, ⟨fun e => absurd e (by decide), fun e => ?_⟩⟩
   rw [e.1] at h
   exact absurd h (UInt8.lt_irrefl y)
  ·rw [if_neg h]
   by_cases g : y < x
   ·rw [if_pos g]
    refine ⟨⟨fun e => absurd e (by decide), fun e => ?_⟩, ⟨fun e => absurd e (by decide), fun e => ?_⟩⟩
    ·rcases e with e | ⟨e, -⟩
     ·exact absurd e h
     ·rw [e] at g; exact absurd g (UInt8.lt_irrefl y)
    ·rw [e.1] at g; exact absurd g (UInt8.lt_irrefl y)
   ·rw [if_neg g]
    have e : x = y := UInt8.le_antisymm (UInt8.not_lt.1 g) (UInt8.not_lt.1 h)
    subst e
    refine ⟨ih.1.trans ⟨fun k => .inr ⟨rfl, k⟩, fun k => k.elim (fun k => absurd k h) fun k => k.2⟩, ih.2.trans ⟨fun k => ⟨rfl, k⟩, fun k => k.2⟩⟩
theorem icmp_spec (x y : Int) : (Lib.compareInt x y < 0 ↔ x < y) ∧ (Lib.compareInt x y = 0 ↔ x = y) := by
 unfold Lib.compareInt
 split
 ·refine ⟨⟨fun _ => by omega, fun _ => by decide⟩, ⟨fun e => absurd e (by decide), fun e => by omega⟩⟩
 ·split
  ·refine ⟨⟨fun e => absurd e (by decide), fun e => by omega⟩, ⟨fun e => absurd e (by decide), fun e => by omega⟩⟩
  ·refine ⟨⟨fun e => absurd e (by decide), fun e => by omega⟩, ⟨fun e => by omega, fun e => rfl⟩⟩
theorem firstNZ_step {c : Int} {l : List Int} {lt eq r : Prop} (h : (c < 0 ↔ lt) ∧ (c = 0 ↔ eq)) (hr : firstNZ l < 0 ↔ r) : firstNZ (c :: l) < 0 ↔ lt ∨ (eq ∧ r) := by
 rw [firstNZ]
 by_cases e : c = 0
 ·rw [if_pos e, hr]
  have hl : ¬ lt := fun k => by have := h.1.2 k; omega
  exact ⟨fun k => .inr ⟨h.2.1 e, k⟩, fun k => k.elim (fun k => absurd k hl) fun k => k.2⟩
 ·rw [if_neg e, h.1]
  exact ⟨.inl, fun k => k.elim id fun k => absurd (h.2.2 k.1) e⟩
theorem firstNZ_last {c : Int} {lt eq : Prop} (h : (c < 0 ↔ lt) ∧ (c = 0 ↔ eq)) : firstNZ [c] < 0 ↔ lt := by
 rw [firstNZ, firstNZ]
 split
 ·rename_i e
  rw [← h.1, e]
 ·exact h.1
def cmps (x y : PItem) : List Int := [tcmp x.key y.key, tcmp x.field y.field, Lib.compareInt x.kind y.kind, Lib.compareInt x.dot.node y.dot.node, Lib.compareInt x.dot.seq y.dot.seq, Lib.compareInt x.dot.pos y.dot.pos, tcmp x.elem y.elem, Lib.compareInt x.n y.n]
def icmp (x y : PItem) : Int := firstNZ (cmps x y)
theorem icmp_lt (x y : PItem) : icmp x y < 0 ↔ iless x y := by
 unfold icmp cmps iless
 exact firstNZ_step (tcmp_spec _ _) (firstNZ_step (tcmp_spec _ _) (firstNZ_step (icmp_spec _ _) (firstNZ_step (icmp_spec _ _) (firstNZ_step (icmp_spec _ _) (firstNZ_step (icmp_spec _ _) (firstNZ_step (tcmp_spec _ _) (firstNZ_last (icmp_spec _ _))))))))
theorem icmp_dec (x y : PItem) : decide (icmp x y < 0) = lessB x y := by
 unfold lessB
 exact decide_eq_decide.2 (icmp_lt x y)

section
variable {α : Type} [Inhabited α]
def pickK (f : Nat → Bool) (xs : List α) : Nat → List α
 | 0 => []
 | k + 1 => if f k then pickK f xs k ++ [xs.getD k default] else pickK f xs k
theorem pickK_yes {f : Nat → Bool} {xs : List α} {k : Nat} (h : f k = true) : pickK f xs (k + 1) = pickK f xs k ++ [xs.getD k default] := by rw [pickK, if_pos h]
theorem pickK_no {f : Nat → Bool} {xs : List α} {k : Nat} (h : f k = false) : pickK f xs (k + 1) = pickK f xs k := by rw [pickK, if_neg (by rw [h]; decide)]
theorem pickK_len (f : Nat → Bool) (xs : List α) : ∀ k, (pickK f xs k).length ≤ k
 | 0 => Nat.le_refl _
 | k + 1 => by
  have := pickK_len f xs k
  rw [pickK]
  split
  ·rw [List.length_append]; simp; omega
  ·omega
theorem take_nextD {xs : List α} {k : Nat} (hk : k < xs.length) : xs.take (k + 1) = xs.take k ++ [xs.getD k default] := by
 rw [List.take_succ_eq_append_getElem hk]
 simp [List.getD, List.getElem?_eq_getElem hk]
theorem pickK_pred (p : α → Bool) (xs : List α) : ∀ k, k ≤ xs.length → pickK (fun j => p (xs.getD j default)) xs k = (xs.take k).filter p
 | 0, _ => by simp [pickK]
 | k + 1, h => by
  rw [pickK, pickK_pred p xs k (by omega), take_nextD (by omega), List.filter_append]
  split
  ·rename_i e; rw [List.filter_cons, if_pos e, List.filter_nil]
  ·rename_i e; rw [List.filter_cons, if_neg e, List.filter_nil, List.append_nil]
theorem pickK_all (p : α → Bool) (xs : List α) : pickK (fun j => p (xs.getD j default)) xs xs.length = xs.filter p := by
 rw [pickK_pred p xs _ (Nat.le_refl _), List.take_length]
theorem pickK_cong {f g : Nat → Bool} (xs : List α) : ∀ k, (∀ j, j < k → f j = g j) → pickK f xs k = pickK g xs k
 | 0, _ => rfl
 | k + 1, h => by rw [pickK, pickK, pickK_cong xs k (fun j hj => h j (by omega)), h k (by omega)]
end

def dotsUpTo (xs : List PItem) (k : Nat) : List PDot := (xs.take k).map (·.dot)
theorem dotsUpTo_next {xs : List PItem} {k : Nat} (hk : k < xs.length) : dotsUpTo xs (k + 1) = dotsUpTo xs k ++ [(xs.getD k default).dot] := by
 unfold dotsUpTo
 rw [take_nextD hk, List.map_append]
 rfl
def fresh (xs : List PItem) (k : Nat) : Bool := !hasDot (dotsUpTo xs k) (xs.getD k default).dot
theorem fresh_iff {xs : List PItem} {k : Nat} : fresh xs k = true ↔ ∀ y ∈ xs.take k, y.dot ≠ (xs.getD k default).dot := by
 unfold fresh
 rw [Bool.not_eq_true', ← Bool.not_eq_true, hasDot_iff]
 unfold dotsUpTo
 rw [List.mem_map]
 constructor
 ·intro h y hy e
  exact h ⟨y, hy, e⟩
 ·rintro h ⟨y, hy, e⟩
  exact h y hy e
theorem pick_fresh {xs : List PItem} (hs : xs.Pairwise fun a b => ¬ iless b a) : ∀ k, k ≤ xs.length → Ris iless (pickK (fresh xs) xs k) ∧ ∀ t, t ∈ pickK (fresh xs) xs k ↔ t ∈ xs.take k ∧ ∀ y ∈ xs.take k, y.dot = t.dot → ¬ iless y t
 | 0, _ => ⟨List.Pairwise.nil, fun t => by simp [pickK]⟩
 | k + 1, hk => by
  obtain ⟨hr, hm⟩ := pick_fresh hs k (by omega)
  have hlt : k < xs.length := by omega
  have hx : ∀ y ∈ xs.take k, ¬ iless (xs.getD k default) y := by
   intro y hy
   have h2 := hs.sublist (List.take_sublist (k + 1) xs)
   rw [take_nextD hlt] at h2
   exact (List.pairwise_append.1 h2).2.2 y hy _ (List.mem_singleton.2 rfl)
  have hmem : ∀ t, t ∈ xs.take (k + 1) ↔ t ∈ xs.take k ∨ t = xs.getD k default := fun t => by rw [take_nextD hlt, List.mem_append, List.mem_singleton]
  have hfr := fresh_iff (xs := xs) (k := k)
  cases hf : fresh xs k with
  | true =>
   have hn := hfr.1 hf
   rw [pickK_yes hf]
   refine ⟨List.pairwise_append.2 ⟨hr, by simp, fun t ht u hu => ?_⟩, fun t => ?_⟩
   ·rw [List.mem_singleton.1 hu]
    have h1 := ((hm t).1 ht).1
    exact sto_item.total (hx t h1) fun e => hn t h1 (by rw [← e])
   ·rw [List.mem_append, List.mem_singleton, hm, hmem]
    constructor
    ·rintro (⟨h1, h2⟩ | rfl)
     ·refine ⟨.inl h1, fun y hy e => ?_⟩
      rcases (hmem y).1 hy with hy | rfl
      ·exact h2 y hy e
      ·exact absurd e.symm (hn t h1)
     ·refine ⟨.inr rfl, fun y hy e => ?_⟩
      rcases (hmem y).1 hy with hy | rfl
      ·exact absurd e (hn y hy)
      ·exact sto_item.irrefl _
    ·rintro ⟨h1 | h1, h2⟩
     ·exact .inl ⟨h1, fun y hy e => h2 y ((hmem y).2 (.inl hy)) e⟩
     ·exact .inr h1
  | false =>
   have hn : ∃ y ∈ xs.take k, y.dot = (xs.getD k default).dot := Classical.byContradiction fun h => by
    have := hfr.2 fun y hy e => h ⟨y, hy, e⟩
    rw [hf] at this
    cases this
   obtain ⟨y0, hy0, e0⟩ := hn
   rw [pickK_no hf]
   refine ⟨hr, fun t => ?_⟩
   rw [hm, hmem]
   constructor
   ·rintro ⟨h1, h2⟩
    refine ⟨.inl h1, fun y hy e => ?_⟩
    rcases (hmem y).1 hy with hy | rfl
    ·exact h2 y hy e
    ·exact hx t h1
   ·rintro ⟨h1, h2⟩
    have h3 : ∀ y ∈ xs.take k, y.dot = t.dot → ¬ iless y t := fun y hy e => h2 y ((hmem y).2 (.inl hy)) e
    rcases h1 with h1 | rfl
    ·exact ⟨h1, h3⟩
    ·have e := sto_item.conn (h3 y0 hy0 e0) (hx y0 hy0)
     exact ⟨by rw [← e]; exact hy0, h3⟩
def isort (xs : List PItem) : List PItem := xs.mergeSort fun x y => !lessB y x
theorem isort_pairwise (xs : List PItem) : (isort xs).Pairwise fun a b => ¬ iless b a := by
 have := List.pairwise_mergeSort (le := fun x y : PItem => !lessB y x) (fun a b c h g => by
  unfold lessB at *
  simp only [Bool.not_eq_true', decide_eq_false_iff_not] at *
  intro k
  by_cases e : b = c
  ·subst e; exact h k
  ·exact h (sto_item.trans (sto_item.total g (fun e2 => e e2.symm)) k)) (fun a b => by
  unfold lessB
  simp only [Bool.or_eq_true, Bool.not_eq_true', decide_eq_false_iff_not]
  by_cases k : iless b a
  ·exact .inr (sto_item.asymm k)
  ·exact .inl k) xs
 refine this.imp fun h => ?_
 unfold lessB at h
 simpa using h
theorem isort_len (xs : List PItem) : (isort xs).length = xs.length := List.length_mergeSort _
theorem isort_mem {xs : List PItem} {t : PItem} : t ∈ isort xs ↔ t ∈ xs := List.mem_mergeSort
theorem norm_way (xs : List PItem) : pickK (fresh (isort xs)) (isort xs) (isort xs).length = inorm xs := by
 obtain ⟨hr, hm⟩ := pick_fresh (isort_pairwise xs) _ (Nat.le_refl _)
 refine ris_ext sto_item hr (ris_inorm xs) fun t => ?_
 rw [hm, mem_inorm, List.take_length, isort_mem]
 exact ⟨fun ⟨h, g⟩ => ⟨h, fun y hy => g y (isort_mem.2 hy)⟩, fun ⟨h, g⟩ => ⟨h, fun y hy => g y (isort_mem.1 hy)⟩⟩

def keyNew (xs : List PItem) (k : Nat) : Bool := decide (k = 0) || !decide ((xs.getD k default).key = (xs.getD (k - 1) default).key)
def keysUpTo (xs : List PItem) : Nat → List Txt
 | 0 => []
 | k + 1 => if keyNew xs k then keysUpTo xs k ++ [(xs.getD k default).key] else keysUpTo xs k
theorem keysUpTo_yes {xs : List PItem} {k : Nat} (h : keyNew xs k = true) : keysUpTo xs (k + 1) = keysUpTo xs k ++ [(xs.getD k default).key] := by rw [keysUpTo, if_pos h]
theorem keysUpTo_no {xs : List PItem} {k : Nat} (h : keyNew xs k = false) : keysUpTo xs (k + 1) = keysUpTo xs k := by rw [keysUpTo, if_neg (by rw [h]; decide)]
theorem keysUpTo_len (xs : List PItem) : ∀ k, (keysUpTo xs k).length ≤ k
 | 0 => Nat.le_refl _
 | k + 1 => by
  have := keysUpTo_len xs k
  rw [keysUpTo]
  split
  ·rw [List.length_append]; simp; omega
  ·omega
theorem mem_keysUpTo (xs : List PItem) : ∀ k, k ≤ xs.length → ∀ t, t ∈ keysUpTo xs k ↔ t ∈ (xs.take k).map (·.key)
 | 0, _, t => by simp [keysUpTo]
 | k + 1, h, t => by
  have ih := mem_keysUpTo xs k (by omega) t
  rw [take_nextD (by omega), List.map_append, List.mem_append, keysUpTo]
  split
  ·rw [List.mem_append, ih]; rfl
  ·rename_i hn
   rw [ih]
   refine ⟨.inl, fun g => g.elim id fun g => ?_⟩
   have hk : ¬ k = 0 ∧ (xs.getD k default).key = (xs.getD (k - 1) default).key := by
    unfold keyNew at hn
    simp only [Bool.or_eq_true, decide_eq_true_eq, Bool.not_eq_true', decide_eq_false_iff_not, not_or, Classical.not_not] at hn
    exact hn
   have e : t = (xs.getD k default).key := by simpa using g
   rw [e, hk.2]
   refine List.mem_map.2 ⟨xs.getD (k - 1) default, ?_, rfl⟩
   have e2 : (xs.take k).getD (k - 1) default = xs.getD (k - 1) default := by simp [List.getD, show k - 1 < k by omega]
   rw [← e2]
   have hl : k - 1 < (xs.take k).length := by rw [List.length_take]; omega
   have e3 : (xs.take k).getD (k - 1) default = (xs.take k)[k - 1] := by rw [List.getD, List.getElem?_eq_getElem hl]; rfl
   rw [e3]
   exact List.getElem_mem hl
theorem keys_way (xs : List PItem) : once (keysUpTo xs xs.length) = ikeys xs := once_ext fun t => by rw [mem_keysUpTo xs _ (Nat.le_refl _), List.take_length]
theorem under_way {xs : List PItem} {zs : List Txt} {x : PItem} (hx : x ∈ xs) : (!decide (x.key ∈ without (ikeys xs) zs)) = covers zs x.key := by
 have h : x.key ∈ ikeys xs := by unfold ikeys; rw [mem_once]; exact List.mem_map.2 ⟨x, hx, rfl⟩
 cases hc : covers zs x.key with
 | true =>
  rw [decide_eq_false fun k => by have := (mem_without.1 k).2; rw [hc] at this; cases this]
  rfl
 | false =>
  rw [decide_eq_true (mem_without.2 ⟨h, hc⟩)]
  rfl

end Go.Proofs.YtpnpomocjkmncaaGreat.Plain
namespace Go.Proofs.YtpnpomocjkmncaaGreat.Plain
set_option linter.unusedVariables false

structure PEff where
 pos : Int
 key : Txt
 field : Txt
 kind : Int
 elem : Txt
 n : Int
 drops : List PDot
theorem peff_ext {a b : PEff} (h0 : a.pos = b.pos) (h1 : a.key = b.key) (h2 : a.field = b.field) (h3 : a.kind = b.kind) (h4 : a.elem = b.elem) (h5 : a.n = b.n) (h6 : a.drops = b.drops) : a = b := by
 cases a; cases b; simp_all
instance : DecidableEq PEff := fun a b => decidable_of_iff (a.pos = b.pos ∧ a.key = b.key ∧ a.field = b.field ∧ a.kind = b.kind ∧ a.elem = b.elem ∧ a.n = b.n ∧ a.drops = b.drops) ⟨fun ⟨h0, h1, h2, h3, h4, h5, h6⟩ => peff_ext h0 h1 h2 h3 h4 h5 h6, fun e => by subst e; exact ⟨rfl, rfl, rfl, rfl, rfl, rfl, rfl⟩⟩
instance : Inhabited PEff := ⟨⟨0, [], [], 0, [], 0, []⟩⟩

def madeI (node seq : Int) (e : PEff) : PItem := ⟨e.key, e.field, e.kind, e.elem, e.n, ⟨node, seq, e.pos⟩⟩
def makes (node seq : Int) (e : PEff) : List PItem := if e.kind = 0 then [] else [madeI node seq e]
def rawStep (node seq : Int) (s : List PItem) (e : PEff) : List PItem := iwithout s e.drops ++ makes node seq e
def doStep (node seq : Int) (s : List PItem) (e : PEff) : List PItem := inorm (rawStep node seq s e)
def eraw (node seq : Int) (s : List PItem) (l : List PEff) : List PItem := l.foldl (rawStep node seq) s
def edo (node seq : Int) (s : List PItem) (l : List PEff) : List PItem := l.foldl (doStep node seq) s
def eonly (l : List PEff) (z : List Txt) : List PEff := l.filter fun e => covers z e.key
def dropsOf (l : List PEff) : List PDot := l.flatMap (·.drops)

theorem mem_iwithout {s : List PItem} {d : List PDot} {t : PItem} : t ∈ iwithout s d ↔ t ∈ s ∧ t.dot ∉ d := by
 unfold iwithout
 rw [List.mem_filter, Bool.not_eq_true', ← Bool.not_eq_true, hasDot_iff]
theorem iwithout_append (a b : List PItem) (d : List PDot) : iwithout (a ++ b) d = iwithout a d ++ iwithout b d := List.filter_append _ _
theorem iwithout_two (a : List PItem) (d e : List PDot) : iwithout (iwithout a d) e = iwithout a (d ++ e) := by
 unfold iwithout
 rw [List.filter_filter]
 congr 1
 funext x
 unfold hasDot
 rw [List.any_append, Bool.not_or, Bool.and_comm]
theorem iwithout_none (a : List PItem) : iwithout a [] = a := by
 unfold iwithout
 exact List.filter_eq_self.2 fun _ _ => rfl
theorem least_of : ∀ (a : List PItem) (y : PItem), y ∈ a → ∃ m ∈ inorm a, m.dot = y.dot ∧ (m = y ∨ iless m y) := by
 intro a y hy
 have key : ∀ (n : Nat) (b : List PItem), b.length ≤ n → (∀ t ∈ b, t ∈ a) → (∀ t ∈ a, t.dot = y.dot → t ∉ b → ¬ iless t y) → ∃ m ∈ a, m.dot = y.dot ∧ (m = y ∨ iless m y) ∧ ∀ t ∈ a, t.dot = y.dot → ¬ iless t m := by
  have main : ∀ (b : List PItem), (∀ t ∈ b, t ∈ a) → ∃ m ∈ a, m.dot = y.dot ∧ (m = y ∨ iless m y) ∧ ∀ t ∈ b, t.dot = y.dot → ¬ iless t m := by
   intro b
   induction b with
   | nil => intro _; exact ⟨y, hy, rfl, .inl rfl, fun t ht => absurd ht (by simp)⟩
   | cons x b ih =>
    intro hb
    obtain ⟨m, hm, h1, h2, h3⟩ := ih fun t ht => hb t (List.mem_cons_of_mem _ ht)
    by_cases hx : x.dot = y.dot ∧ iless x m
    ·refine ⟨x, hb x List.mem_cons_self, hx.1, .inr ?_, fun t ht he => ?_⟩
     ·rcases h2 with rfl | h2
      ·exact hx.2
      ·exact sto_item.trans hx.2 h2
     ·rcases List.mem_cons.1 ht with rfl | ht
      ·exact sto_item.irrefl _
      ·exact fun k => h3 t ht he (sto_item.trans k hx.2)
    ·refine ⟨m, hm, h1, h2, fun t ht he => ?_⟩
     rcases List.mem_cons.1 ht with rfl | ht
     ·exact fun k => hx ⟨he, k⟩
     ·exact h3 t ht he
  intro n b _ _ _
  exact main a fun t h => h
 obtain ⟨m, hm, h1, h2, h3⟩ := key a.length a (Nat.le_refl _) (fun t h => h) (fun t h _ k => absurd h k)
 exact ⟨m, mem_inorm.2 ⟨hm, fun t ht he => h3 t ht (he.trans h1)⟩, h1, h2⟩
theorem inorm_in (a m : List PItem) : inorm (inorm a ++ m) = inorm (a ++ m) := ris_ext sto_item (ris_inorm _) (ris_inorm _) fun t => by
 rw [mem_inorm, mem_inorm]
 constructor
 ·rintro ⟨h, g⟩
  refine ⟨?_, fun y hy he hl => ?_⟩
  ·rcases List.mem_append.1 h with h | h
   ·exact List.mem_append.2 (.inl (mem_inorm.1 h).1)
   ·exact List.mem_append.2 (.inr h)
  ·rcases List.mem_append.1 hy with hy | hy
   ·obtain ⟨m2, hm2, h1, h2⟩ := least_of a y hy
    have := g m2 (List.mem_append.2 (.inl hm2)) (h1.trans he)
    rcases h2 with rfl | h2
    ·exact this hl
    ·exact this (sto_item.trans h2 hl)
   ·exact g y (List.mem_append.2 (.inr hy)) he hl
 ·rintro ⟨h, g⟩
  refine ⟨?_, fun y hy he => ?_⟩
  ·rcases List.mem_append.1 h with h | h
   ·exact List.mem_append.2 (.inl (mem_inorm.2 ⟨h, fun y hy he => g y (List.mem_append.2 (.inl hy)) he⟩))
   ·exact List.mem_append.2 (.inr h)
  ·rcases List.mem_append.1 hy with hy | hy
   ·exact g y (List.mem_append.2 (.inl (mem_inorm.1 hy).1)) he
   ·exact g y (List.mem_append.2 (.inr hy)) he
theorem iwithout_inorm (a : List PItem) (d : List PDot) : iwithout (inorm a) d = inorm (iwithout a d) := ris_ext sto_item ((ris_inorm a).filter _) (ris_inorm _) fun t => by
 rw [mem_iwithout, mem_inorm, mem_inorm, mem_iwithout]
 constructor
 ·rintro ⟨⟨h, g⟩, k⟩
  exact ⟨⟨h, k⟩, fun y hy he => g y (mem_iwithout.1 hy).1 he⟩
 ·rintro ⟨⟨h, k⟩, g⟩
  exact ⟨⟨h, fun y hy he => g y (mem_iwithout.2 ⟨hy, by rw [he]; exact k⟩) he⟩, k⟩

theorem eraw_split (node seq : Int) : ∀ (l : List PEff) (a b : List PItem), eraw node seq (a ++ b) l = iwithout a (dropsOf l) ++ eraw node seq b l
 | [], a, b => by
  show a ++ b = iwithout a [] ++ b
  rw [iwithout_none]
 | e :: l, a, b => by
  show eraw node seq (rawStep node seq (a ++ b) e) l = iwithout a (dropsOf (e :: l)) ++ eraw node seq (rawStep node seq b e) l
  unfold rawStep
  rw [iwithout_append, List.append_assoc, eraw_split node seq l, iwithout_two]
  rfl
def own (node seq : Int) (l : List PEff) : List PItem := eraw node seq [] l
theorem eraw_at (node seq : Int) (s : List PItem) (l : List PEff) : eraw node seq s l = iwithout s (dropsOf l) ++ own node seq l := by
 have := eraw_split node seq l s []
 rwa [List.append_nil] at this
theorem own_cons (node seq : Int) (e : PEff) (l : List PEff) : own node seq (e :: l) = iwithout (makes node seq e) (dropsOf l) ++ own node seq l := by
 have := eraw_split node seq l (makes node seq e) []
 rw [List.append_nil] at this
 exact this
theorem mem_makes {node seq : Int} {e : PEff} {t : PItem} : t ∈ makes node seq e ↔ e.kind ≠ 0 ∧ t = madeI node seq e := by
 unfold makes
 split
 ·rename_i h; simp [h]
 ·rename_i h; simp [h]
theorem own_dot {node seq : Int} : ∀ {l : List PEff} {t : PItem}, t ∈ own node seq l → ∃ e ∈ l, t = madeI node seq e
 | [], t, h => absurd h (by simp [own, eraw])
 | e :: l, t, h => by
  rw [own_cons, List.mem_append] at h
  rcases h with h | h
  ·exact ⟨e, List.mem_cons_self, (mem_makes.1 (mem_iwithout.1 h).1).2⟩
  ·obtain ⟨e2, h2, h3⟩ := own_dot h
   exact ⟨e2, List.mem_cons_of_mem _ h2, h3⟩
theorem edo_norm (node seq : Int) : ∀ (l : List PEff) (s : List PItem), inorm (edo node seq s l) = inorm (eraw node seq s l)
 | [], s => rfl
 | e :: l, s => by
  show inorm (edo node seq (inorm (rawStep node seq s e)) l) = inorm (eraw node seq (rawStep node seq s e) l)
  rw [edo_norm node seq l, eraw_at, iwithout_inorm, inorm_in, ← eraw_at]
theorem edo_form (node seq : Int) : ∀ (l : List PEff) (s : List PItem), l ≠ [] → inorm (edo node seq s l) = edo node seq s l
 | [], _, h => absurd rfl h
 | [e], s, _ => inorm_inorm _
 | e :: e2 :: l, s, _ => edo_form node seq (e2 :: l) _ (by simp)
theorem edo_at (node seq : Int) (l : List PEff) (s : List PItem) (h : l ≠ []) : edo node seq s l = inorm (eraw node seq s l) := by
 rw [← edo_form node seq l s h, edo_norm]
theorem edo_nil (node seq : Int) (s : List PItem) : edo node seq s [] = s := rfl
theorem eraw_inorm (node seq : Int) (l : List PEff) (x : List PItem) : inorm (eraw node seq (inorm x) l) = inorm (eraw node seq x l) := by
 rw [eraw_at, iwithout_inorm, inorm_in, ← eraw_at]
theorem edo_len (node seq : Int) : ∀ (l : List PEff) (s : List PItem), (edo node seq s l).length ≤ s.length + l.length
 | [], s => Nat.le_refl _
 | e :: l, s => by
  have h1 := edo_len node seq l (doStep node seq s e)
  have h2 := inorm_len (rawStep node seq s e)
  have h3 := iwithout_len s e.drops
  have h4 : (makes node seq e).length ≤ 1 := by unfold makes; split <;> simp
  have h5 : (rawStep node seq s e).length = (iwithout s e.drops).length + (makes node seq e).length := List.length_append
  show (edo node seq (doStep node seq s e) l).length ≤ s.length + (e :: l).length
  rw [List.length_cons]
  unfold doStep at h1 ⊢
  omega

def namesB (l : List PEff) (node seq : Int) : Bool := l.any fun e => e.drops.any fun d => decide (d.node = node) && decide (d.seq = seq)
def hasB (l : List PItem) (node seq : Int) : Bool := l.any fun x => decide (x.dot.node = node) && decide (x.dot.seq = seq)
theorem names_no {l : List PEff} {node seq : Int} (h : namesB l node seq = false) {d : PDot} (hd : d ∈ dropsOf l) : ¬ (d.node = node ∧ d.seq = seq) := by
 rintro ⟨h1, h2⟩
 obtain ⟨e, he, hde⟩ := List.mem_flatMap.1 hd
 unfold namesB at h
 rw [List.any_eq_false] at h
 refine h e he (List.any_eq_true.2 ⟨d, hde, ?_⟩)
 simp [h1, h2]
theorem has_no {l : List PItem} {node seq : Int} (h : hasB l node seq = false) {x : PItem} (hx : x ∈ l) : ¬ (x.dot.node = node ∧ x.dot.seq = seq) := by
 rintro ⟨h1, h2⟩
 unfold hasB at h
 rw [List.any_eq_false] at h
 refine h x hx ?_
 simp [h1, h2]
theorem own_kept {n s m t : Int} {a b : List PEff} (h : namesB b n s = false) : iwithout (own n s a) (dropsOf b) = own n s a := by
 unfold iwithout
 refine List.filter_eq_self.2 fun x hx => ?_
 rw [Bool.not_eq_true', ← Bool.not_eq_true, hasDot_iff]
 intro hd
 obtain ⟨e, -, rfl⟩ := own_dot hx
 exact names_no h hd ⟨rfl, rfl⟩
theorem edo_either {items : List PItem} {n s m t : Int} {a b : List PEff} (h1 : namesB a m t = false) (h2 : namesB b n s = false) : edo m t (edo n s items a) b = edo n s (edo m t items b) a := by
 by_cases ha : a = []
 ·subst ha
  rfl
 ·by_cases hb : b = []
  ·subst hb
   rfl
  ·rw [edo_at m t b _ hb, edo_at n s a _ ha, edo_at n s a _ ha, edo_at m t b _ hb, eraw_inorm, eraw_inorm, eraw_at m t _ b, eraw_at n s items a, eraw_at n s _ a, eraw_at m t items b, iwithout_append, iwithout_append,
    own_kept (m := m) (t := t) h2, own_kept (m := n) (t := s) h1, iwithout_two, iwithout_two]
   refine inorm_ext fun x => ?_
   simp only [List.mem_append, mem_iwithout]
   constructor
   ·rintro ((⟨p, q⟩ | p) | p)
    ·exact .inl (.inl ⟨p, fun k => q (k.symm)⟩)
    ·exact .inr p
    ·exact .inl (.inr p)
   ·rintro ((⟨p, q⟩ | p) | p)
    ·exact .inl (.inl ⟨p, fun k => q (k.symm)⟩)
    ·exact .inr p
    ·exact .inl (.inr p)
theorem mem_iunder {a : List PItem} {z : List Txt} {t : PItem} : t ∈ iunder a z ↔ t ∈ a ∧ covers z t.key = true := List.mem_filter
theorem mem_eonly {l : List PEff} {z : List Txt} {e : PEff} : e ∈ eonly l z ↔ e ∈ l ∧ covers z e.key = true := List.mem_filter
theorem mem_dropsOf {l : List PEff} {d : PDot} : d ∈ dropsOf l ↔ ∃ e ∈ l, d ∈ e.drops := List.mem_flatMap
def OwnKeys (node seq : Int) : List PEff → Prop
 | [] => True
 | e :: l => (∀ f ∈ l, (madeI node seq e).dot ∈ f.drops → e.key = f.key) ∧ OwnKeys node seq l
theorem own_only {node seq : Int} {z : List Txt} : ∀ {l : List PEff}, OwnKeys node seq l → ∀ t, (t ∈ iunder (own node seq l) z ↔ t ∈ own node seq (eonly l z))
 | [], _, t => by simp [own, eraw, eonly, iunder]
 | e :: l, ⟨h1, h2⟩, t => by
  have ih := own_only (z := z) h2 t
  have hk : (madeI node seq e).key = e.key := rfl
  rw [mem_iunder, own_cons, List.mem_append, mem_iwithout, mem_makes]
  unfold eonly
  by_cases hc : covers z e.key = true
  ·rw [List.filter_cons, if_pos hc, own_cons, List.mem_append, mem_iwithout, mem_makes]
   change _ ↔ (_ ∧ t.dot ∉ dropsOf (eonly l z)) ∨ t ∈ own node seq (eonly l z)
   rw [← ih, mem_iunder]
   constructor
   ·rintro ⟨⟨⟨p, rfl⟩, q⟩ | p, r⟩
    ·refine .inl ⟨⟨p, rfl⟩, fun k => q ?_⟩
     obtain ⟨f, hf, hd⟩ := mem_dropsOf.1 k
     exact mem_dropsOf.2 ⟨f, (mem_eonly.1 hf).1, hd⟩
    ·exact .inr ⟨p, r⟩
   ·rintro (⟨⟨p, rfl⟩, q⟩ | ⟨p, r⟩)
    ·refine ⟨.inl ⟨⟨p, rfl⟩, fun k => q ?_⟩, by rw [hk]; exact hc⟩
     obtain ⟨f, hf, hd⟩ := mem_dropsOf.1 k
     exact mem_dropsOf.2 ⟨f, mem_eonly.2 ⟨hf, by rw [← h1 f hf hd]; exact hc⟩, hd⟩
    ·exact ⟨.inr p, r⟩
  ·rw [List.filter_cons, if_neg hc]
   change _ ↔ t ∈ own node seq (eonly l z)
   rw [← ih, mem_iunder]
   constructor
   ·rintro ⟨⟨⟨p, rfl⟩, q⟩ | p, r⟩
    ·rw [hk] at r
     exact absurd r hc
    ·exact ⟨p, r⟩
   ·rintro ⟨p, r⟩
    exact ⟨.inr p, r⟩
theorem own_apart {node seq : Int} : ∀ {l : List PEff}, l.Pairwise (fun a b => a.pos < b.pos) → DotsApart (own node seq l)
 | [], _ => fun x hx => absurd hx (by simp [own, eraw])
 | e :: l, h => by
  obtain ⟨h1, h2⟩ := List.pairwise_cons.1 h
  have ih := own_apart (node := node) (seq := seq) h2
  intro x hx y hy hd
  rw [own_cons, List.mem_append, mem_iwithout, mem_makes] at hx hy
  have apart : ∀ {u : PItem}, u ∈ own node seq l → u.dot ≠ (madeI node seq e).dot := by
   intro u hu he
   obtain ⟨f, hf, rfl⟩ := own_dot hu
   have := h1 f hf
   have e2 : f.pos = e.pos := congrArg PDot.pos he
   omega
  rcases hx with ⟨⟨-, rfl⟩, -⟩ | hx <;> rcases hy with ⟨⟨-, rfl⟩, -⟩ | hy
  ·rfl
  ·exact absurd hd.symm (apart hy)
  ·exact absurd hd (apart hx)
  ·exact ih x hx y hy hd
theorem inorm_apart {a : List PItem} (h : DotsApart a) {t : PItem} : t ∈ inorm a ↔ t ∈ a := by
 rw [mem_inorm]
 refine ⟨fun k => k.1, fun k => ⟨k, fun y hy he hl => ?_⟩⟩
 have := h y hy t k he
 subst this
 exact sto_item.irrefl _ hl
theorem apart_append {a b : List PItem} (ha : DotsApart a) (hb : DotsApart b) (h : ∀ x ∈ a, ∀ y ∈ b, x.dot ≠ y.dot) : DotsApart (a ++ b) := by
 intro x hx y hy he
 rcases List.mem_append.1 hx with hx | hx <;> rcases List.mem_append.1 hy with hy | hy
 ·exact ha x hx y hy he
 ·exact absurd he (h x hx y hy)
 ·exact absurd he.symm (h y hy x hx)
 ·exact hb x hx y hy he
theorem apart_sub {a b : List PItem} (hb : DotsApart b) (h : ∀ t ∈ a, t ∈ b) : DotsApart a := fun x hx y hy he => hb x (h x hx) y (h y hy) he
theorem eraw_apart {node seq : Int} {s : List PItem} {l : List PEff} (hs : DotsApart s) (hh : hasB s node seq = false) (hl : l.Pairwise (fun a b => a.pos < b.pos)) : DotsApart (eraw node seq s l) := by
 rw [eraw_at]
 refine apart_append (apart_sub hs fun t ht => (mem_iwithout.1 ht).1) (own_apart hl) fun x hx y hy he => ?_
 obtain ⟨e, -, rfl⟩ := own_dot hy
 exact has_no hh (mem_iwithout.1 hx).1 ⟨congrArg PDot.node he, congrArg PDot.seq he⟩
theorem edo_only {node seq : Int} {s : List PItem} {l : List PEff} {z : List Txt} (hl : l ≠ []) (hn : inorm s = s) (hh : hasB s node seq = false) (hp : l.Pairwise (fun a b => a.pos < b.pos))
  (hk : ∀ e ∈ l, ∀ x ∈ s, x.dot ∈ e.drops → x.key = e.key) (ho : OwnKeys node seq l) : iunder (edo node seq s l) z = edo node seq (iunder s z) (eonly l z) := by
 have hs : DotsApart s := by rw [← hn]; exact apart_inorm s
 have hrs : Ris iless s := by rw [← hn]; exact ris_inorm s
 have hus : DotsApart (iunder s z) := apart_sub hs fun t ht => (mem_iunder.1 ht).1
 have huh : hasB (iunder s z) node seq = false := by
  unfold hasB at *
  rw [List.any_eq_false] at *
  exact fun x hx => hh x (mem_iunder.1 hx).1
 have main : ∀ t, (t ∈ iunder (edo node seq s l) z ↔ t ∈ eraw node seq (iunder s z) (eonly l z)) := by
  intro t
  rw [mem_iunder, edo_at _ _ _ _ hl, inorm_apart (eraw_apart hs hh hp), eraw_at, eraw_at, List.mem_append, List.mem_append, ← own_only ho, mem_iunder, mem_iwithout, mem_iwithout, mem_iunder]
  constructor
  ·rintro ⟨⟨p, q⟩ | p, r⟩
   ·refine .inl ⟨⟨p, r⟩, fun k => q ?_⟩
    obtain ⟨f, hf, hd⟩ := mem_dropsOf.1 k
    exact mem_dropsOf.2 ⟨f, (mem_eonly.1 hf).1, hd⟩
   ·exact .inr ⟨p, r⟩
  ·rintro (⟨⟨p, r⟩, q⟩ | ⟨p, r⟩)
   ·refine ⟨.inl ⟨p, fun k => q ?_⟩, r⟩
    obtain ⟨f, hf, hd⟩ := mem_dropsOf.1 k
    exact mem_dropsOf.2 ⟨f, mem_eonly.2 ⟨hf, by rw [← hk f hf t p hd]; exact r⟩, hd⟩
   ·exact ⟨.inr p, r⟩
 have hr1 : Ris iless (iunder (edo node seq s l) z) := by
  rw [edo_at _ _ _ _ hl]
  exact (ris_inorm _).filter _
 by_cases he : eonly l z = []
 ·rw [he] at main ⊢
  exact ris_ext sto_item hr1 (hrs.filter _) main
 ·rw [edo_at _ _ (eonly l z) _ he]
  refine ris_ext sto_item hr1 (ris_inorm _) fun t => ?_
  have hpo : (eonly l z).Pairwise (fun a b => a.pos < b.pos) := List.Pairwise.filter _ hp
  rw [main, inorm_apart (eraw_apart hus huh hpo)]

def dlessB (a b : PDot) : Bool := decide (a.node < b.node ∨ (a.node = b.node ∧ (a.seq < b.seq ∨ (a.seq = b.seq ∧ a.pos < b.pos))))
def dropsB : List PDot → Bool
 | [] => true
 | [d] => dotB d
 | d :: e :: l => dotB d && (dlessB d e && dropsB (e :: l))
def makesB (node seq : Int) (e : PEff) : Bool :=
 if e.kind = 0 then decide (0 < e.drops.length) && (decide (e.elem.length = 0) && (decide (e.n = 0) && (keyB e.key && (prefixB e.field && dotB ⟨node, seq, e.pos⟩)))) else formedB (madeI node seq e)
def eformedB (node seq : Int) (e : PEff) : Bool := decide (e.drops.length ≤ 64) && (dropsB e.drops && makesB node seq e)
def pastB (node seq : Int) (e : PEff) : Bool := e.drops.all fun d => !(decide (d.node = node) && (decide (d.seq = seq) && decide (e.pos ≤ d.pos)))
def risesB : List PEff → Bool
 | [] => true
 | [_] => true
 | a :: b :: l => decide (a.pos < b.pos) && risesB (b :: l)
def rightB (node seq : Int) (l : List PEff) : Bool := l.all (eformedB node seq) && (risesB l && l.all (pastB node seq))
theorem rises_pairwise : ∀ {l : List PEff}, risesB l = true → l.Pairwise (fun a b => a.pos < b.pos)
 | [], _ => List.Pairwise.nil
 | [a], _ => by simp
 | a :: b :: l, h => by
  unfold risesB at h
  rw [Bool.and_eq_true, decide_eq_true_iff] at h
  have ih := rises_pairwise h.2
  refine List.pairwise_cons.2 ⟨fun x hx => ?_, ih⟩
  rcases List.mem_cons.1 hx with rfl | hx
  ·exact h.1
  ·have := (List.pairwise_cons.1 ih).1 x hx
   omega
theorem right_rises {node seq : Int} {l : List PEff} (h : rightB node seq l = true) : l.Pairwise (fun a b => a.pos < b.pos) := by
 unfold rightB at h
 rw [Bool.and_eq_true, Bool.and_eq_true] at h
 exact rises_pairwise h.2.1
end Go.Proofs.YtpnpomocjkmncaaGreat.Plain
namespace Go.Proofs.YtpnpomocjkmncaaGreat.Plain
set_option linter.unusedVariables false

def adrops : List PEff → List PDot
 | [] => []
 | e :: l => adrops l ++ e.drops
theorem mem_adrops : ∀ {l : List PEff} {d : PDot}, d ∈ adrops l ↔ d ∈ dropsOf l
 | [], d => Iff.rfl
 | e :: l, d => by
  rw [adrops, List.mem_append, mem_adrops]
  unfold dropsOf
  rw [List.flatMap_cons, List.mem_append]
  exact Or.comm
def mleft (node seq : Int) : List PEff → List PItem
 | [] => []
 | e :: l => mleft node seq l ++ iwithout (makes node seq e) (adrops l)
theorem mem_mleft {node seq : Int} : ∀ {l : List PEff} {t : PItem}, t ∈ mleft node seq l ↔ t ∈ own node seq l
 | [], t => Iff.rfl
 | e :: l, t => by
  rw [mleft, own_cons, List.mem_append, List.mem_append, mem_mleft, mem_iwithout, mem_iwithout, mem_adrops]
  exact Or.comm
theorem makes_len (node seq : Int) (e : PEff) : (makes node seq e).length ≤ 1 := by unfold makes; split <;> simp
theorem mleft_len (node seq : Int) : ∀ l : List PEff, (mleft node seq l).length ≤ l.length
 | [] => Nat.le_refl _
 | e :: l => by
  have h1 := mleft_len node seq l
  have h2 := makes_len node seq e
  have h3 := iwithout_len (makes node seq e) (adrops l)
  rw [mleft, List.length_append, List.length_cons]
  omega
theorem mleft_yes {node seq : Int} {e : PEff} {l : List PEff} (hk : e.kind ≠ 0) (hd : hasDot (adrops l) ⟨node, seq, e.pos⟩ = false) : mleft node seq (e :: l) = mleft node seq l ++ [madeI node seq e] := by
 rw [mleft]
 congr 1
 unfold makes iwithout
 rw [if_neg hk, List.filter_cons, if_pos, List.filter_nil]
 show (!hasDot (adrops l) ⟨node, seq, e.pos⟩) = true
 rw [hd]
 rfl
theorem mleft_no {node seq : Int} {e : PEff} {l : List PEff} (h : e.kind = 0 ∨ hasDot (adrops l) ⟨node, seq, e.pos⟩ = true) : mleft node seq (e :: l) = mleft node seq l := by
 rw [mleft]
 conv => rhs; rw [← List.append_nil (mleft node seq l)]
 congr 1
 unfold makes iwithout
 rcases h with h | h
 ·rw [if_pos h, List.filter_nil]
 ·split
  ·rfl
  ·rw [List.filter_cons, if_neg, List.filter_nil]
   show ¬ (!hasDot (adrops l) ⟨node, seq, e.pos⟩) = true
   rw [h]
   decide
theorem edo_way {node seq : Int} {s : List PItem} {l : List PEff} (h : l ≠ []) : inorm (iwithout s (dropsOf l) ++ mleft node seq l) = edo node seq s l := by
 rw [edo_at node seq l s h, eraw_at]
 refine inorm_ext fun t => ?_
 rw [List.mem_append, List.mem_append, mem_mleft]
theorem drop_cons {α : Type} [Inhabited α] {l : List α} {k : Nat} (hk : k < l.length) : l.drop k = l.getD k default :: l.drop (k + 1) := by
 rw [List.drop_eq_getElem_cons hk]
 simp [List.getD, List.getElem?_eq_getElem hk]
theorem drops_take {l : List PEff} {k : Nat} (hk : k < l.length) : dropsOf (l.take (k + 1)) = dropsOf (l.take k) ++ (l.getD k default).drops := by
 rw [take_nextD hk]
 unfold dropsOf
 rw [List.flatMap_append]
 simp
theorem drops_len {l : List PEff} {m : Nat} (h : ∀ e ∈ l, e.drops.length ≤ m) : (dropsOf l).length ≤ l.length * m := by
 unfold dropsOf
 induction l with
 | nil => simp
 | cons e l ih =>
  have h1 := ih fun x hx => h x (List.mem_cons_of_mem _ hx)
  have h2 := h e List.mem_cons_self
  rw [List.flatMap_cons, List.length_append, List.length_cons, Nat.succ_mul]
  omega
theorem adrops_len {m : Nat} : ∀ {l : List PEff}, (∀ e ∈ l, e.drops.length ≤ m) → (adrops l).length ≤ l.length * m
 | [], _ => by simp [adrops]
 | e :: l, h => by
  have h1 := adrops_len (l := l) fun x hx => h x (List.mem_cons_of_mem _ hx)
  have h2 := h e List.mem_cons_self
  rw [adrops, List.length_append, List.length_cons, Nat.succ_mul]
  omega

def dcmps (a b : PDot) : List Int := [Lib.compareInt a.node b.node, Lib.compareInt a.seq b.seq, Lib.compareInt a.pos b.pos]
def dcmp (a b : PDot) : Int := firstNZ (dcmps a b)
theorem dcmp_dec (a b : PDot) : decide (dcmp a b < 0) = dlessB a b := by
 unfold dlessB dcmp dcmps
 exact decide_eq_decide.2 (firstNZ_step (icmp_spec _ _) (firstNZ_step (icmp_spec _ _) (firstNZ_last (icmp_spec _ _))))
theorem dcmp_ge (a b : PDot) : decide (0 ≤ dcmp a b) = !dlessB a b := by
 rw [← dcmp_dec, Bool.eq_iff_iff, Bool.not_eq_true', decide_eq_true_iff, decide_eq_false_iff_not]
 omega
theorem dropsB_iff : ∀ {l : List PDot}, dropsB l = true ↔ ∀ j, j < l.length → dotB (l.getD j default) = true ∧ (0 < j → dlessB (l.getD (j - 1) default) (l.getD j default) = true)
 | [] => ⟨fun _ j hj => absurd hj (by simp), fun _ => rfl⟩
 | [d] => by
  rw [dropsB]
  constructor
  ·intro h j hj
   obtain rfl : j = 0 := by simp at hj; exact hj
   exact ⟨h, fun k => absurd k (by omega)⟩
  ·intro h
   exact (h 0 (by simp)).1
 | d :: e :: l => by
  rw [dropsB, Bool.and_eq_true, Bool.and_eq_true, dropsB_iff (l := e :: l)]
  constructor
  ·rintro ⟨h1, h2, h3⟩ j hj
   cases j with
   | zero => exact ⟨h1, fun k => absurd k (by omega)⟩
   | succ j =>
    have h4 := h3 j (by simp at hj ⊢; omega)
    refine ⟨h4.1, fun _ => ?_⟩
    cases j with
    | zero => exact h2
    | succ j => exact h4.2 (by omega)
  ·intro h
   refine ⟨(h 0 (by simp)).1, (h 1 (by simp)).2 (by omega), fun j hj => ?_⟩
   have h4 := h (j + 1) (by simp at hj ⊢; omega)
   refine ⟨h4.1, fun hp => ?_⟩
   obtain ⟨i, rfl⟩ : ∃ i, j = i + 1 := ⟨j - 1, by omega⟩
   exact h4.2 (by omega)
theorem risesB_iff : ∀ {l : List PEff}, risesB l = true ↔ ∀ j, j < l.length → 0 < j → (l.getD (j - 1) default).pos < (l.getD j default).pos
 | [] => ⟨fun _ j hj => absurd hj (by simp), fun _ => rfl⟩
 | [d] => by
  rw [risesB]
  exact ⟨fun _ j hj hp => by simp at hj; omega, fun _ => rfl⟩
 | d :: e :: l => by
  rw [risesB, Bool.and_eq_true, decide_eq_true_iff, risesB_iff (l := e :: l)]
  constructor
  ·rintro ⟨h2, h3⟩ j hj hp
   obtain ⟨i, rfl⟩ : ∃ i, j = i + 1 := ⟨j - 1, by omega⟩
   cases i with
   | zero => exact h2
   | succ i => exact h3 (i + 1) (by simp at hj ⊢; omega) (by omega)
  ·intro h
   refine ⟨h 1 (by simp) (by omega), fun j hj hp => ?_⟩
   obtain ⟨i, rfl⟩ : ∃ i, j = i + 1 := ⟨j - 1, by omega⟩
   exact h (i + 1 + 1) (by simp at hj ⊢; omega) (by omega)
theorem mem_defE {l : List PEff} {k : Nat} (hk : k < l.length) : l.getD k default ∈ l := by
 have : l.getD k default = l[k] := by simp [List.getD, List.getElem?_eq_getElem hk]
 rw [this]
 exact List.getElem_mem hk
theorem all_getD {p : PEff → Bool} {l : List PEff} : l.all p = true ↔ ∀ j, j < l.length → p (l.getD j default) = true := by
 rw [List.all_eq_true]
 constructor
 ·intro h j hj
  exact h _ (mem_defE hj)
 ·intro h x hx
  obtain ⟨j, hj, rfl⟩ := List.getElem_of_mem hx
  have := h j hj
  rwa [show l.getD j default = l[j] by simp [List.getD, List.getElem?_eq_getElem hj]] at this
theorem rightB_iff {node seq : Int} {l : List PEff} : rightB node seq l = true ↔ ∀ j, j < l.length → (0 < j → (l.getD (j - 1) default).pos < (l.getD j default).pos) ∧ eformedB node seq (l.getD j default) = true ∧ pastB node seq (l.getD j default) = true := by
 unfold rightB
 rw [Bool.and_eq_true, Bool.and_eq_true, all_getD, all_getD, risesB_iff]
 exact ⟨fun ⟨h1, h2, h3⟩ j hj => ⟨h2 j hj, h1 j hj, h3 j hj⟩, fun h => ⟨fun j hj => (h j hj).2.1, fun j hj => (h j hj).1, fun j hj => (h j hj).2.2⟩⟩
def areB (l : List PDot) : Bool := decide (l.length ≤ 64) && dropsB l
def askI (node seq : Int) (e : PEff) : PItem := ⟨e.key, e.field, 1, e.elem, e.n, ⟨node, seq, e.pos⟩⟩
theorem eformed_zero {node seq : Int} {e : PEff} (hk : e.kind = 0) (he : e.elem.length = 0) (hd : 0 < e.drops.length) : eformedB node seq e = (formedB (askI node seq e) && areB e.drops) := by
 have h1 : e.elem.length ≤ 32 := by omega
 have h2 : (askI node seq e).elem.length ≤ 32 := h1
 unfold eformedB makesB formedB areB valueB
 rw [if_pos hk, decide_eq_true hd, decide_eq_true he, decide_eq_true h2]
 show (decide (e.drops.length ≤ 64) && (dropsB e.drops && (true && (true && (decide (e.n = 0) && (keyB e.key && (prefixB e.field && dotB ⟨node, seq, e.pos⟩))))))) = ((dotB ⟨node, seq, e.pos⟩ && (keyB e.key && (prefixB e.field && (true && (decide ((1 : Int) = 1 ∨ (1 : Int) = 2) && decide (e.n = 0) || (decide ((1 : Int) = 3) && decide (e.elem.length = 0))))))) && (decide (e.drops.length ≤ 64) && dropsB e.drops))
 rw [show decide ((1 : Int) = 1 ∨ (1 : Int) = 2) = true by decide, show decide ((1 : Int) = 3) = false by decide]
 generalize decide (e.drops.length ≤ 64) = b1
 generalize dropsB e.drops = b2
 generalize decide (e.n = 0) = b3
 generalize keyB e.key = b4
 generalize prefixB e.field = b5
 generalize dotB ⟨node, seq, e.pos⟩ = b6
 cases b1 <;> cases b2 <;> cases b3 <;> cases b4 <;> cases b5 <;> cases b6 <;> rfl
theorem eformed_bare {node seq : Int} {e : PEff} (hk : e.kind = 0) (he : ¬ e.elem.length = 0) : eformedB node seq e = false := by
 unfold eformedB makesB
 rw [if_pos hk, decide_eq_false he]
 simp
theorem eformed_idle {node seq : Int} {e : PEff} (hk : e.kind = 0) (hd : e.drops.length = 0) : eformedB node seq e = false := by
 unfold eformedB makesB
 rw [if_pos hk, decide_eq_false (by omega : ¬ 0 < e.drops.length)]
 simp
theorem eformed_made {node seq : Int} {e : PEff} (hk : ¬ e.kind = 0) : eformedB node seq e = (formedB (madeI node seq e) && areB e.drops) := by
 unfold eformedB makesB areB
 rw [if_neg hk]
 generalize decide (e.drops.length ≤ 64) = b1
 generalize dropsB e.drops = b2
 generalize formedB (madeI node seq e) = b3
 cases b1 <;> cases b2 <;> cases b3 <;> rfl
def unmadeB (node seq pos : Int) (d : PDot) : Bool := decide (d.node = node) && (decide (d.seq = seq) && decide (pos ≤ d.pos))
theorem past_any (node seq : Int) (e : PEff) : pastB node seq e = !(e.drops.any (unmadeB node seq e.pos)) := by
 unfold pastB unmadeB
 rw [Bool.eq_iff_iff, Bool.not_eq_true', List.all_eq_true, List.any_eq_false]
 constructor
 ·intro h d hd k
  have := h d hd
  rw [k] at this
  cases this
 ·intro h d hd
  have := h d hd
  cases hb : (decide (d.node = node) && (decide (d.seq = seq) && decide (e.pos ≤ d.pos))) with
  | true => exact absurd hb this
  | false => rfl
theorem ask_dot (d : PDot) : formedB ⟨[97], [], 1, [], 0, d⟩ = dotB d := by
 have h1 : keyB [97] = true := by decide
 have h2 : prefixB [] = true := by decide
 unfold formedB valueB
 show (dotB d && (keyB [97] && (prefixB [] && (decide (([] : Txt).length ≤ 32) && ((decide ((1 : Int) = 1 ∨ (1 : Int) = 2) && decide ((0 : Int) = 0)) || (decide ((1 : Int) = 3) && decide (([] : Txt).length = 0))))))) = dotB d
 rw [h1, h2]
 simp
end Go.Proofs.YtpnpomocjkmncaaGreat.Plain
