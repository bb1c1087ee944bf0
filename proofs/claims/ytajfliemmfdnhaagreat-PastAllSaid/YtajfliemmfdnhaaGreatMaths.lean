/- Texts, prefixes and zones as plain mathematics: rising lists, what a list covers, the one form, and the laws that follow. Rising lists over whatever order: each once, laid into its place; two rising lists of the same things are the same. Plain mathematics. Items and lists of them as plain mathematics: the order, the one form, what is left without dots, under a zone, of a key; keys, sizes; the laws that follow. What the program's own way to a zone comes to, as plain mathematics: heads of a rising list are the least; a look at the neighbours tells what begins with what; all keys of one byte. The program's own way with items as plain mathematics: what its comparison tells, what it keeps of a sorted list, the keys that it asks at once. Effects as plain mathematics: what one makes and takes away, what a list of them does, those under a zone, when they are right; the laws that follow. The program's own way with effects as plain mathematics: what is made and left, from the last effect on; the drops, one list behind the other; what covered keys tell; formed and right, place by place. -/
import Derived.Lib.Bytealg
import Derived.Lib.Small
namespace Go.Proofs.YtajfliemmfdnhaaGreat.Plain
set_option linter.unusedVariables false

abbrev Txt := List UInt8
theorem lt_irrefl (a : Txt) : ¬ a < a := List.lt_irrefl a
theorem lt_trans {a b c : Txt} (h : a < b) (g : b < c) : a < c := List.lt_trans h g
def Rising (l : List Txt) : Prop := l.Pairwise (· < ·)
theorem Rising.tail {x : Txt} {l : List Txt} (h : Rising (x :: l)) : Rising l := (List.pairwise_cons.1 h).2
theorem Rising.head {x : Txt} {l : List Txt} (h : Rising (x :: l)) : ∀ y ∈ l, x < y := (List.pairwise_cons.1 h).1
theorem Rising.filter {l : List Txt} (h : Rising l) (p : Txt → Bool) : Rising (l.filter p) := List.Pairwise.filter p h
def beg (s p : Txt) : Bool := p.isPrefixOf s
theorem beg_iff {s p : Txt} : beg s p = true ↔ p <+: s := by unfold beg; exact List.isPrefixOf_iff_prefix
def covers (z : List Txt) (k : Txt) : Bool := z.any fun p => beg k p
theorem covers_iff {z : List Txt} {k : Txt} : covers z k = true ↔ ∃ p ∈ z, beg k p = true := by unfold covers; exact List.any_eq_true
def okByte (c : UInt8) : Bool := c == 47 || (48 ≤ c && c ≤ 57) || (97 ≤ c && c ≤ 122)
def prefixB (s : Txt) : Bool := s.all okByte && decide (s.length ≤ 16)
def keyB (s : Txt) : Bool := decide (0 < s.length) && prefixB s
end Go.Proofs.YtajfliemmfdnhaaGreat.Plain
namespace Go.Proofs.YtajfliemmfdnhaaGreat.Plain
set_option linter.unusedVariables false

structure Sto {α : Type} (r : α → α → Prop) : Prop where
 irrefl : ∀ a, ¬ r a a
 trans : ∀ {a b c}, r a b → r b c → r a c
 conn : ∀ {a b}, ¬ r a b → ¬ r b a → a = b
section
variable {α : Type} {r : α → α → Prop}
theorem Sto.total (S : Sto r) {a b : α} (h : ¬ r a b) (g : a ≠ b) : r b a := Classical.byContradiction fun k => g (S.conn h k)
def Ris (r : α → α → Prop) (l : List α) : Prop := l.Pairwise r
theorem Ris.tail {x : α} {l : List α} (h : Ris r (x :: l)) : Ris r l := (List.pairwise_cons.1 h).2
theorem Ris.head {x : α} {l : List α} (h : Ris r (x :: l)) : ∀ y ∈ l, r x y := (List.pairwise_cons.1 h).1
theorem Ris.filter {l : List α} (h : Ris r l) (p : α → Bool) : Ris r (l.filter p) := List.Pairwise.filter p h
theorem Ris.nodup (S : Sto r) : ∀ {l : List α}, Ris r l → l.Nodup
 | [], _ => List.nodup_nil
 | x :: l, h => List.nodup_cons.2 ⟨fun hx => S.irrefl x (h.head x hx), Ris.nodup S h.tail⟩
theorem Ris.at {l : List α} (h : Ris r l) {i j : Nat} {x y : α} (hij : i < j) (hi : l[i]? = some x) (hj : l[j]? = some y) : r x y := by
 obtain ⟨hil, rfl⟩ := List.getElem?_eq_some_iff.1 hi
 obtain ⟨hjl, rfl⟩ := List.getElem?_eq_some_iff.1 hj
 exact List.pairwise_iff_getElem.1 h i j hil hjl hij
variable [DecidableRel r] [DecidableEq α]
def insR (r : α → α → Prop) [DecidableRel r] [DecidableEq α] (x : α) : List α → List α
 | [] => [x]
 | y :: l => if r x y then x :: y :: l else if x = y then y :: l else y :: insR r x l
def onceR (r : α → α → Prop) [DecidableRel r] [DecidableEq α] : List α → List α
 | [] => []
 | x :: l => insR r x (onceR r l)
end
def lexR {α β : Type} (f : α → β) (lt : β → β → Prop) (r : α → α → Prop) (a b : α) : Prop := lt (f a) (f b) ∨ (f a = f b ∧ r a b)
structure Pre {α : Type} (E : α → α → Prop) (r : α → α → Prop) : Prop where
 irrefl : ∀ a, ¬ r a a
 trans : ∀ {a b c}, r a b → r b c → r a c
 conn : ∀ {a b}, ¬ r a b → ¬ r b a → E a b
theorem Pre.last {α β : Type} (f : α → β) {lt : β → β → Prop} (S : Sto lt) : Pre (fun a b => f a = f b) (fun a b => lt (f a) (f b)) := ⟨fun a => S.irrefl _, fun h g => S.trans h g, fun h g => S.conn h g⟩
theorem Pre.lex {α β : Type} {E : α → α → Prop} {r : α → α → Prop} (p : Pre E r) (f : α → β) {lt : β → β → Prop} (S : Sto lt) : Pre (fun a b => f a = f b ∧ E a b) (lexR f lt r) where
 irrefl a h := h.elim (S.irrefl _) fun g => p.irrefl a g.2
 trans := by
  rintro a b c (h | ⟨e, h⟩) (g | ⟨e', g⟩)
  ·exact .inl (S.trans h g)
  ·exact .inl (by rw [← e']; exact h)
  ·exact .inl (by rw [e]; exact g)
  ·exact .inr ⟨e.trans e', p.trans h g⟩
 conn := by
  intro a b h g
  have e : f a = f b := S.conn (fun k => h (.inl k)) (fun k => g (.inl k))
  exact ⟨e, p.conn (fun k => h (.inr ⟨e, k⟩)) (fun k => g (.inr ⟨e.symm, k⟩))⟩
theorem Pre.sto {α : Type} {E : α → α → Prop} {r : α → α → Prop} (p : Pre E r) (h : ∀ {a b}, E a b → a = b) : Sto r := ⟨p.irrefl, p.trans, fun x y => h (p.conn x y)⟩
theorem sto_int : Sto (fun a b : Int => a < b) := ⟨fun a => by omega, fun h g => by omega, fun h g => by omega⟩
end Go.Proofs.YtajfliemmfdnhaaGreat.Plain
namespace Go.Proofs.YtajfliemmfdnhaaGreat.Plain
set_option linter.unusedVariables false

structure PDot where
 node : Int
 seq : Int
 pos : Int
structure PItem where
 key : Txt
 field : Txt
 kind : Int
 elem : Txt
 n : Int
 dot : PDot
theorem pdot_ext {a b : PDot} (h1 : a.node = b.node) (h2 : a.seq = b.seq) (h3 : a.pos = b.pos) : a = b := by
 cases a; cases b; simp_all
theorem pitem_ext {a b : PItem} (h1 : a.key = b.key) (h2 : a.field = b.field) (h3 : a.kind = b.kind) (h4 : a.elem = b.elem) (h5 : a.n = b.n) (h6 : a.dot = b.dot) : a = b := by
 cases a; cases b; simp_all
instance : DecidableEq PDot := fun a b => decidable_of_iff (a.node = b.node ∧ a.seq = b.seq ∧ a.pos = b.pos) ⟨fun ⟨h1, h2, h3⟩ => pdot_ext h1 h2 h3, fun e => by subst e; exact ⟨rfl, rfl, rfl⟩⟩
instance : DecidableEq PItem := fun a b => decidable_of_iff (a.key = b.key ∧ a.field = b.field ∧ a.kind = b.kind ∧ a.elem = b.elem ∧ a.n = b.n ∧ a.dot = b.dot) ⟨fun ⟨h1, h2, h3, h4, h5, h6⟩ => pitem_ext h1 h2 h3 h4 h5 h6, fun e => by subst e; exact ⟨rfl, rfl, rfl, rfl, rfl, rfl⟩⟩
instance : Inhabited PDot := ⟨⟨0, 0, 0⟩⟩
instance : Inhabited PItem := ⟨⟨[], [], 0, [], 0, default⟩⟩

theorem sto_txt : Sto (fun a b : Txt => a < b) := ⟨lt_irrefl, fun h g => lt_trans h g, fun h g => List.le_antisymm (List.not_lt.1 g) (List.not_lt.1 h)⟩
def iless (a b : PItem) : Prop :=
 a.key < b.key ∨ (a.key = b.key ∧ (a.field < b.field ∨ (a.field = b.field ∧ (a.kind < b.kind ∨ (a.kind = b.kind ∧ (a.dot.node < b.dot.node ∨ (a.dot.node = b.dot.node ∧
 (a.dot.seq < b.dot.seq ∨ (a.dot.seq = b.dot.seq ∧ (a.dot.pos < b.dot.pos ∨ (a.dot.pos = b.dot.pos ∧ (a.elem < b.elem ∨ (a.elem = b.elem ∧ a.n < b.n)))))))))))))
instance : DecidableRel iless := fun a b => by unfold iless; infer_instance
theorem sto_item : Sto iless := by
 have h := (((((((Pre.last (fun x : PItem => x.n) sto_int).lex (fun x => x.elem) sto_txt).lex (fun x => x.dot.pos) sto_int).lex (fun x => x.dot.seq) sto_int).lex (fun x => x.dot.node) sto_int).lex (fun x => x.kind) sto_int).lex (fun x => x.field) sto_txt).lex (fun x => x.key) sto_txt
 refine Pre.sto h ?_
 rintro a b ⟨h1, h2, h3, h4, h5, h6, h7, h8⟩
 exact pitem_ext h1 h2 h3 h7 h8 (pdot_ext h4 h5 h6)
def lessB (a b : PItem) : Bool := decide (iless a b)

def firstOf (l : List PItem) (x : PItem) : Bool := l.all fun y => !(decide (y.dot = x.dot) && lessB y x)
def inorm (l : List PItem) : List PItem := onceR iless (l.filter (firstOf l))
def DotsApart (l : List PItem) : Prop := ∀ x ∈ l, ∀ y ∈ l, x.dot = y.dot → x = y
def hasDot (dots : List PDot) (d : PDot) : Bool := dots.any fun e => decide (e = d)
def dotB (d : PDot) : Bool := decide (0 ≤ d.node ∧ d.node ≤ 7 ∧ 1 ≤ d.seq ∧ d.seq ≤ 1073741824 ∧ 0 ≤ d.pos ∧ d.pos ≤ 7)
def valueB (x : PItem) : Bool := (decide (x.kind = 1 ∨ x.kind = 2) && decide (x.n = 0)) || (decide (x.kind = 3) && decide (x.elem.length = 0))
def formedB (x : PItem) : Bool := dotB x.dot && (keyB x.key && (prefixB x.field && (decide (x.elem.length ≤ 32) && valueB x)))
end Go.Proofs.YtajfliemmfdnhaaGreat.Plain
namespace Go.Proofs.YtajfliemmfdnhaaGreat.Plain
set_option linter.unusedVariables false

def allB (z : List Txt) : Bool := (List.range 256).all fun b => !okByte (UInt8.ofNat b) || covers z [UInt8.ofNat b]
theorem nodup_len : ∀ {a b : List Txt}, a.Nodup → (∀ t ∈ a, t ∈ b) → a.length ≤ b.length
 | [], _, _, _ => Nat.zero_le _
 | x :: a, b, hn, hs => by
  have hx : x ∈ b := hs x List.mem_cons_self
  have hn' := List.nodup_cons.1 hn
  have := nodup_len (a := a) (b := b.erase x) hn'.2 fun t ht => (List.mem_erase_of_ne (by rintro rfl; exact hn'.1 ht)).2 (hs t (List.mem_cons_of_mem _ ht))
  rw [List.length_erase_of_mem hx] at this
  have := List.length_pos_of_mem hx
  rw [List.length_cons]
  omega
def ones : List Txt := ((List.range 256).filter fun b => okByte (UInt8.ofNat b)).map fun b => [UInt8.ofNat b]
theorem ones_len : ones.length = 37 := by decide +kernel
theorem ones_nodup : ones.Nodup := by decide +kernel
theorem all_nil {z : List Txt} (hl : z.length ≤ 36) (h : allB z = true) : [] ∈ z := by
 rcases Classical.em ([] ∈ z) with g | g
 ·exact g
 ·exfalso
  have hs : ∀ t ∈ ones, t ∈ z := by
   intro t ht
   obtain ⟨b, hb, rfl⟩ := List.mem_map.1 ht
   obtain ⟨hb1, hb2⟩ := List.mem_filter.1 hb
   unfold allB at h
   rw [List.all_eq_true] at h
   have hc := h b hb1
   rw [hb2] at hc
   obtain ⟨p, hp, hbp⟩ := covers_iff.1 (by simpa using hc)
   have hle := (beg_iff.1 hbp).length_le
   cases p with
   | nil => exact absurd hp g
   | cons c p =>
    have : c :: p = [UInt8.ofNat b] := List.IsPrefix.eq_of_length (beg_iff.1 hbp) (by simp at hle ⊢; exact hle)
    rw [← this]; exact hp
  have := nodup_len ones_nodup hs
  rw [ones_len] at this
  omega
end Go.Proofs.YtajfliemmfdnhaaGreat.Plain
namespace Go.Proofs.YtajfliemmfdnhaaGreat.Plain
set_option linter.unusedVariables false

def firstNZ : List Int → Int
 | [] => 0
 | x :: l => if x = 0 then firstNZ l else x
theorem icmp_spec (x y : Int) : (Lib.compareInt x y < 0 ↔ x < y) ∧ (Lib.compareInt x y = 0 ↔ x = y) := by
 unfold Lib.compareInt
 split
 ·refine ⟨⟨fun _ => by omega, fun _ => by decide⟩, ⟨fun e => absurd e (by decide), fun e => by omega⟩⟩
 ·split
  ·refine ⟨⟨fun e => absurd e (by decide), fun e => by omega⟩, ⟨fun e => absurd e (by decide), fun e => by omega⟩⟩
  ·refine ⟨⟨fun e => absurd e (by decide), fun e => by omega⟩, ⟨fun e => by omega, fun e => rfl⟩⟩
theorem firstNZ_step {c : Int} {l : List Int} {lt eq r : Prop} (h : (c < 0 ↔ lt) ∧ (c = 0 ↔ eq)) (hr : firstNZ l < 0 ↔ r) : firstNZ (c :: l) < 0 ↔ lt ∨ (eq ∧ r) := by
 rw [firstNZ]
 by_cases e : c = 0
 ·rw [if_pos e, hr]
  have hl : ¬ lt := fun k => by have := h.1.2 k; omega
  exact ⟨fun k => .inr ⟨h.2.1 e, k⟩, fun k => k.elim (fun k => absurd k hl) fun k => k.2⟩
 ·rw [if_neg e, h.1]
  exact ⟨.inl, fun k => k.elim id fun k => absurd (h.2.2 k.1) e⟩
theorem firstNZ_last {c : Int} {lt eq : Prop} (h : (c < 0 ↔ lt) ∧ (c = 0 ↔ eq)) : firstNZ [c] < 0 ↔ lt := by
 rw [firstNZ, firstNZ]
 split
 ·rename_i e
  rw [← h.1, e]
 ·exact h.1
section
variable {α : Type} [Inhabited α]
theorem take_nextD {xs : List α} {k : Nat} (hk : k < xs.length) : xs.take (k + 1) = xs.take k ++ [xs.getD k default] := by
 rw [List.take_succ_eq_append_getElem hk]
 simp [List.getD, List.getElem?_eq_getElem hk]
end

end Go.Proofs.YtajfliemmfdnhaaGreat.Plain
namespace Go.Proofs.YtajfliemmfdnhaaGreat.Plain
set_option linter.unusedVariables false

structure PEff where
 pos : Int
 key : Txt
 field : Txt
 kind : Int
 elem : Txt
 n : Int
 drops : List PDot
theorem peff_ext {a b : PEff} (h0 : a.pos = b.pos) (h1 : a.key = b.key) (h2 : a.field = b.field) (h3 : a.kind = b.kind) (h4 : a.elem = b.elem) (h5 : a.n = b.n) (h6 : a.drops = b.drops) : a = b := by
 cases a; cases b; simp_all
instance : DecidableEq PEff := fun a b => decidable_of_iff (a.pos = b.pos ∧ a.key = b.key ∧ a.field = b.field ∧ a.kind = b.kind ∧ a.elem = b.elem ∧ a.n = b.n ∧ a.drops = b.drops) ⟨fun ⟨h0, h1, h2, h3, h4, h5, h6⟩ => peff_ext h0 h1 h2 h3 h4 h5 h6, fun e => by subst e; exact ⟨rfl, rfl, rfl, rfl, rfl, rfl, rfl⟩⟩
instance : Inhabited PEff := ⟨⟨0, [], [], 0, [], 0, []⟩⟩

def madeI (node seq : Int) (e : PEff) : PItem := ⟨e.key, e.field, e.kind, e.elem, e.n, ⟨node, seq, e.pos⟩⟩
def dlessB (a b : PDot) : Bool := decide (a.node < b.node ∨ (a.node = b.node ∧ (a.seq < b.seq ∨ (a.seq = b.seq ∧ a.pos < b.pos))))
def dropsB : List PDot → Bool
 | [] => true
 | [d] => dotB d
 | d :: e :: l => dotB d && (dlessB d e && dropsB (e :: l))
def makesB (node seq : Int) (e : PEff) : Bool :=
 if e.kind = 0 then decide (0 < e.drops.length) && (decide (e.elem.length = 0) && (decide (e.n = 0) && (keyB e.key && (prefixB e.field && dotB ⟨node, seq, e.pos⟩)))) else formedB (madeI node seq e)
def eformedB (node seq : Int) (e : PEff) : Bool := decide (e.drops.length ≤ 64) && (dropsB e.drops && makesB node seq e)
def pastB (node seq : Int) (e : PEff) : Bool := e.drops.all fun d => !(decide (d.node = node) && (decide (d.seq = seq) && decide (e.pos ≤ d.pos)))
def risesB : List PEff → Bool
 | [] => true
 | [_] => true
 | a :: b :: l => decide (a.pos < b.pos) && risesB (b :: l)
def rightB (node seq : Int) (l : List PEff) : Bool := l.all (eformedB node seq) && (risesB l && l.all (pastB node seq))
end Go.Proofs.YtajfliemmfdnhaaGreat.Plain
namespace Go.Proofs.YtajfliemmfdnhaaGreat.Plain
set_option linter.unusedVariables false

def dcmps (a b : PDot) : List Int := [Lib.compareInt a.node b.node, Lib.compareInt a.seq b.seq, Lib.compareInt a.pos b.pos]
def dcmp (a b : PDot) : Int := firstNZ (dcmps a b)
theorem dcmp_dec (a b : PDot) : decide (dcmp a b < 0) = dlessB a b := by
 unfold dlessB dcmp dcmps
 exact decide_eq_decide.2 (firstNZ_step (icmp_spec _ _) (firstNZ_step (icmp_spec _ _) (firstNZ_last (icmp_spec _ _))))
theorem dcmp_ge (a b : PDot) : decide (0 ≤ dcmp a b) = !dlessB a b := by
 rw [← dcmp_dec, Bool.eq_iff_iff, Bool.not_eq_true', decide_eq_true_iff, decide_eq_false_iff_not]
 omega
theorem dropsB_iff : ∀ {l : List PDot}, dropsB l = true ↔ ∀ j, j < l.length → dotB (l.getD j default) = true ∧ (0 < j → dlessB (l.getD (j - 1) default) (l.getD j default) = true)
 | [] => ⟨fun _ j hj => absurd hj (by simp), fun _ => rfl⟩
 | [d] => by
  rw [dropsB]
  constructor
  ·intro h j hj
   obtain rfl : j = 0 := by simp at hj; exact hj
   exact ⟨h, fun k => absurd k (by omega)⟩
  ·intro h
   exact (h 0 (by simp)).1
 | d :: e :: l => by
  rw [dropsB, Bool.and_eq_true, Bool.and_eq_true, dropsB_iff (l := e :: l)]
  constructor
  ·rintro ⟨h1, h2, h3⟩ j hj
   cases j with
   | zero => exact ⟨h1, fun k => absurd k (by omega)⟩
   | succ j =>
    have h4 := h3 j (by simp at hj ⊢; omega)
    refine ⟨h4.1, fun _ => ?_⟩
    cases j with
    | zero => exact h2
    | succ j => exact h4.2 (by omega)
  ·intro h
   refine ⟨(h 0 (by simp)).1, (h 1 (by simp)).2 (by omega), fun j hj => ?_⟩
   have h4 := h (j + 1) (by simp at hj ⊢; omega)
   refine ⟨h4.1, fun hp => ?_⟩
   obtain ⟨i, rfl⟩ : ∃ i, j = i + 1 := ⟨j - 1, by omega⟩
   exact h4.2 (by omega)
theorem risesB_iff : ∀ {l : List PEff}, risesB l = true ↔ ∀ j, j < l.length → 0 < j → (l.getD (j - 1) default).pos < (l.getD j default).pos
 | [] => ⟨fun _ j hj => absurd hj (by simp), fun _ => rfl⟩
 | [d] => by
  rw [risesB]
  exact ⟨fun _ j hj hp => by simp at hj; omega, fun _ => rfl⟩
 | d :: e :: l => by
  rw [risesB, Bool.and_eq_true, decide_eq_true_iff, risesB_iff (l := e :: l)]
  constructor
  ·rintro ⟨h2, h3⟩ j hj hp
   obtain ⟨i, rfl⟩ : ∃ i, j = i + 1 := ⟨j - 1, by omega⟩
   cases i with
   | zero => exact h2
   | succ i => exact h3 (i + 1) (by simp at hj ⊢; omega) (by omega)
  ·intro h
   refine ⟨h 1 (by simp) (by omega), fun j hj hp => ?_⟩
   obtain ⟨i, rfl⟩ : ∃ i, j = i + 1 := ⟨j - 1, by omega⟩
   exact h (i + 1 + 1) (by simp at hj ⊢; omega) (by omega)
theorem mem_defE {l : List PEff} {k : Nat} (hk : k < l.length) : l.getD k default ∈ l := by
 have : l.getD k default = l[k] := by simp [List.getD, List.getElem?_eq_getElem hk]
 rw [this]
 exact List.getElem_mem hk
theorem all_getD {p : PEff → Bool} {l : List PEff} : l.all p = true ↔ ∀ j, j < l.length → p (l.getD j default) = true := by
 rw [List.all_eq_true]
 constructor
 ·intro h j hj
  exact h _ (mem_defE hj)
 ·intro h x hx
  obtain ⟨j, hj, rfl⟩ := List.getElem_of_mem hx
  have := h j hj
  rwa [show l.getD j default = l[j] by simp [List.getD, List.getElem?_eq_getElem hj]] at this
theorem rightB_iff {node seq : Int} {l : List PEff} : rightB node seq l = true ↔ ∀ j, j < l.length → (0 < j → (l.getD (j - 1) default).pos < (l.getD j default).pos) ∧ eformedB node seq (l.getD j default) = true ∧ pastB node seq (l.getD j default) = true := by
 unfold rightB
 rw [Bool.and_eq_true, Bool.and_eq_true, all_getD, all_getD, risesB_iff]
 exact ⟨fun ⟨h1, h2, h3⟩ j hj => ⟨h2 j hj, h1 j hj, h3 j hj⟩, fun h => ⟨fun j hj => (h j hj).2.1, fun j hj => (h j hj).1, fun j hj => (h j hj).2.2⟩⟩
def areB (l : List PDot) : Bool := decide (l.length ≤ 64) && dropsB l
def askI (node seq : Int) (e : PEff) : PItem := ⟨e.key, e.field, 1, e.elem, e.n, ⟨node, seq, e.pos⟩⟩
theorem eformed_zero {node seq : Int} {e : PEff} (hk : e.kind = 0) (he : e.elem.length = 0) (hd : 0 < e.drops.length) : eformedB node seq e = (formedB (askI node seq e) && areB e.drops) := by
 have h1 : e.elem.length ≤ 32 := by omega
 have h2 : (askI node seq e).elem.length ≤ 32 := h1
 unfold eformedB makesB formedB areB valueB
 rw [if_pos hk, decide_eq_true hd, decide_eq_true he, decide_eq_true h2]
 show (decide (e.drops.length ≤ 64) && (dropsB e.drops && (true && (true && (decide (e.n = 0) && (keyB e.key && (prefixB e.field && dotB ⟨node, seq, e.pos⟩))))))) = ((dotB ⟨node, seq, e.pos⟩ && (keyB e.key && (prefixB e.field && (true && (decide ((1 : Int) = 1 ∨ (1 : Int) = 2) && decide (e.n = 0) || (decide ((1 : Int) = 3) && decide (e.elem.length = 0))))))) && (decide (e.drops.length ≤ 64) && dropsB e.drops))
 rw [show decide ((1 : Int) = 1 ∨ (1 : Int) = 2) = true by decide, show decide ((1 : Int) = 3) = false by decide]
 generalize decide (e.drops.length ≤ 64) = b1
 generalize dropsB e.drops = b2
 generalize decide (e.n = 0) = b3
 generalize keyB e.key = b4
 generalize prefixB e.field = b5
 generalize dotB ⟨node, seq, e.pos⟩ = b6
 cases b1 <;> cases b2 <;> cases b3 <;> cases b4 <;> cases b5 <;> cases b6 <;> rfl
theorem eformed_bare {node seq : Int} {e : PEff} (hk : e.kind = 0) (he : ¬ e.elem.length = 0) : eformedB node seq e = false := by
 unfold eformedB makesB
 rw [if_pos hk, decide_eq_false he]
 simp
theorem eformed_idle {node seq : Int} {e : PEff} (hk : e.kind = 0) (hd : e.drops.length = 0) : eformedB node seq e = false := by
 unfold eformedB makesB
 rw [if_pos hk, decide_eq_false (by omega : ¬ 0 < e.drops.length)]
 simp
theorem eformed_made {node seq : Int} {e : PEff} (hk : ¬ e.kind = 0) : eformedB node seq e = (formedB (madeI node seq e) && areB e.drops) := by
 unfold eformedB makesB areB
 rw [if_neg hk]
 generalize decide (e.drops.length ≤ 64) = b1
 generalize dropsB e.drops = b2
 generalize formedB (madeI node seq e) = b3
 cases b1 <;> cases b2 <;> cases b3 <;> rfl
def unmadeB (node seq pos : Int) (d : PDot) : Bool := decide (d.node = node) && (decide (d.seq = seq) && decide (pos ≤ d.pos))
theorem past_any (node seq : Int) (e : PEff) : pastB node seq e = !(e.drops.any (unmadeB node seq e.pos)) := by
 unfold pastB unmadeB
 rw [Bool.eq_iff_iff, Bool.not_eq_true', List.all_eq_true, List.any_eq_false]
 constructor
 ·intro h d hd k
  have := h d hd
  rw [k] at this
  cases this
 ·intro h d hd
  have := h d hd
  cases hb : (decide (d.node = node) && (decide (d.seq = seq) && decide (e.pos ≤ d.pos))) with
  | true => exact absurd hb this
  | false => rfl
theorem ask_dot (d : PDot) : formedB ⟨[97], [], 1, [], 0, d⟩ = dotB d := by
 have h1 : keyB [97] = true := by decide
 have h2 : prefixB [] = true := by decide
 unfold formedB valueB
 show (dotB d && (keyB [97] && (prefixB [] && (decide (([] : Txt).length ≤ 32) && ((decide ((1 : Int) = 1 ∨ (1 : Int) = 2) && decide ((0 : Int) = 0)) || (decide ((1 : Int) = 3) && decide (([] : Txt).length = 0))))))) = dotB d
 rw [h1, h2]
 simp
end Go.Proofs.YtajfliemmfdnhaaGreat.Plain
