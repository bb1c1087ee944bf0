/- Rising lists over whatever order: each once, laid into its place; two rising lists of the same things are the same. Plain mathematics. -/
namespace Go.Proofs.Ytgllaoanpemjlaa.Plain
set_option linter.unusedVariables false

/-- an order in which of two unlike things one is the lesser -/
structure Sto {α : Type} (r : α → α → Prop) : Prop where
  irrefl : ∀ a, ¬ r a a
  trans : ∀ {a b c}, r a b → r b c → r a c
  conn : ∀ {a b}, ¬ r a b → ¬ r b a → a = b
section
variable {α : Type} {r : α → α → Prop}
theorem Sto.asymm (S : Sto r) {a b : α} (h : r a b) : ¬ r b a := fun g => S.irrefl a (S.trans h g)
theorem Sto.total (S : Sto r) {a b : α} (h : ¬ r a b) (g : a ≠ b) : r b a := Classical.byContradiction fun k => g (S.conn h k)
theorem Sto.ne (S : Sto r) {a b : α} (h : r a b) : a ≠ b := fun e => by rw [e] at h; exact S.irrefl b h
/-- rising by r -/
def Ris (r : α → α → Prop) (l : List α) : Prop := l.Pairwise r
theorem Ris.tail {x : α} {l : List α} (h : Ris r (x :: l)) : Ris r l := (List.pairwise_cons.1 h).2
theorem Ris.head {x : α} {l : List α} (h : Ris r (x :: l)) : ∀ y ∈ l, r x y := (List.pairwise_cons.1 h).1
theorem Ris.filter {l : List α} (h : Ris r l) (p : α → Bool) : Ris r (l.filter p) := List.Pairwise.filter p h
theorem Ris.nodup (S : Sto r) : ∀ {l : List α}, Ris r l → l.Nodup
  | [], _ => List.nodup_nil
  | x :: l, h => List.nodup_cons.2 ⟨fun hx => S.irrefl x (h.head x hx), Ris.nodup S h.tail⟩
theorem ris_ext (S : Sto r) : ∀ {a b : List α}, Ris r a → Ris r b → (∀ t, t ∈ a ↔ t ∈ b) → a = b
  | [], [], _, _, _ => rfl
  | [], y :: b, _, _, h => absurd ((h y).2 List.mem_cons_self) (by simp)
  | x :: a, [], _, _, h => absurd ((h x).1 List.mem_cons_self) (by simp)
  | x :: a, y :: b, ha, hb, h => by
    have hx := (h x).1 List.mem_cons_self
    have hy := (h y).2 List.mem_cons_self
    have e : x = y := by
      rcases List.mem_cons.1 hx with rfl | hx
      · rfl
      · rcases List.mem_cons.1 hy with rfl | hy
        · rfl
        · exact absurd (ha.head y hy) (S.asymm (hb.head x hx))
    subst e
    have ht : a = b := by
      refine ris_ext S ha.tail hb.tail fun t => ⟨fun ht => ?_, fun ht => ?_⟩
      · rcases List.mem_cons.1 ((h t).1 (List.mem_cons_of_mem _ ht)) with rfl | g
        · exact absurd (ha.head t ht) (S.irrefl t)
        · exact g
      · rcases List.mem_cons.1 ((h t).2 (List.mem_cons_of_mem _ ht)) with rfl | g
        · exact absurd (hb.head t ht) (S.irrefl t)
        · exact g
    rw [ht]
/-- at two places -/
theorem Ris.at {l : List α} (h : Ris r l) {i j : Nat} {x y : α} (hij : i < j) (hi : l[i]? = some x) (hj : l[j]? = some y) : r x y := by
  obtain ⟨hil, rfl⟩ := List.getElem?_eq_some_iff.1 hi
  obtain ⟨hjl, rfl⟩ := List.getElem?_eq_some_iff.1 hj
  exact List.pairwise_iff_getElem.1 h i j hil hjl hij
variable [DecidableRel r] [DecidableEq α]
/-- laid into its place, once -/
def insR (r : α → α → Prop) [DecidableRel r] [DecidableEq α] (x : α) : List α → List α
  | [] => [x]
  | y :: l => if r x y then x :: y :: l else if x = y then y :: l else y :: insR r x l
def onceR (r : α → α → Prop) [DecidableRel r] [DecidableEq α] : List α → List α
  | [] => []
  | x :: l => insR r x (onceR r l)
theorem mem_insR (x t : α) : ∀ l, t ∈ insR r x l ↔ t = x ∨ t ∈ l
  | [] => by simp [insR]
  | y :: l => by
    unfold insR
    split
    · simp
    · split
      · rename_i e
        subst e
        simp
      · rw [List.mem_cons, mem_insR x t l, List.mem_cons]
        constructor
        · rintro (h | h | h) <;> simp [h]
        · rintro (h | h | h) <;> simp [h]
theorem ris_insR (S : Sto r) (x : α) : ∀ {l}, Ris r l → Ris r (insR r x l)
  | [], _ => List.pairwise_cons.2 ⟨fun _ h => absurd h (by simp), List.Pairwise.nil⟩
  | y :: l, h => by
    unfold insR
    split
    · rename_i g
      refine List.pairwise_cons.2 ⟨fun t ht => ?_, h⟩
      rcases List.mem_cons.1 ht with rfl | ht
      · exact g
      · exact S.trans g (h.head t ht)
    · rename_i g
      split
      · exact h
      · rename_i e
        refine List.pairwise_cons.2 ⟨fun t ht => ?_, ris_insR S x h.tail⟩
        rcases (mem_insR x t l).1 ht with rfl | ht
        · exact S.total g e
        · exact h.head t ht
theorem mem_onceR (t : α) : ∀ l, t ∈ onceR r l ↔ t ∈ l
  | [] => by simp [onceR]
  | x :: l => by rw [onceR, mem_insR, mem_onceR t l, List.mem_cons]
theorem ris_onceR (S : Sto r) : ∀ l, Ris r (onceR r l)
  | [] => List.Pairwise.nil
  | x :: l => ris_insR S x (ris_onceR S l)
theorem onceR_ris (S : Sto r) {l : List α} (h : Ris r l) : onceR r l = l := ris_ext S (ris_onceR S l) h fun t => mem_onceR t l
theorem onceR_ext (S : Sto r) {a b : List α} (h : ∀ t, t ∈ a ↔ t ∈ b) : onceR r a = onceR r b := ris_ext S (ris_onceR S a) (ris_onceR S b) fun t => by rw [mem_onceR, mem_onceR, h]
theorem insR_len (x : α) : ∀ l, (insR r x l).length ≤ l.length + 1
  | [] => by simp [insR]
  | y :: l => by
    have := insR_len x l
    unfold insR
    split
    · simp
    · split <;> simp <;> omega
theorem onceR_len : ∀ l : List α, (onceR r l).length ≤ l.length
  | [] => by simp [onceR]
  | x :: l => by
    have := insR_len (r := r) x (onceR r l)
    have := onceR_len l
    rw [onceR, List.length_cons]; omega
/-- laid into its place: behind all that are lesser, ahead of all others -/
theorem insR_at (S : Sto r) {x : α} {a b : List α} (hr : Ris r (a ++ b)) (ha : ∀ t ∈ a, r t x) (hb : ∀ t ∈ b, r x t) : insR r x (a ++ b) = a ++ x :: b := by
  refine ris_ext S (ris_insR S x hr) ?_ fun t => ?_
  · obtain ⟨h1, h2, h3⟩ := List.pairwise_append.1 hr
    refine List.pairwise_append.2 ⟨h1, List.pairwise_cons.2 ⟨hb, h2⟩, fun t ht u hu => ?_⟩
    rcases List.mem_cons.1 hu with rfl | hu
    · exact ha t ht
    · exact h3 t ht u hu
  · rw [mem_insR, List.mem_append, List.mem_append, List.mem_cons]
    constructor
    · rintro (h | h | h) <;> simp [h]
    · rintro (h | h | h) <;> simp [h]
end
/-- first by f, then by r -/
def lexR {α β : Type} (f : α → β) (lt : β → β → Prop) (r : α → α → Prop) (a b : α) : Prop := lt (f a) (f b) ∨ (f a = f b ∧ r a b)
/-- a part of an order: what it tells apart stands in E -/
structure Pre {α : Type} (E : α → α → Prop) (r : α → α → Prop) : Prop where
  irrefl : ∀ a, ¬ r a a
  trans : ∀ {a b c}, r a b → r b c → r a c
  conn : ∀ {a b}, ¬ r a b → ¬ r b a → E a b
theorem Pre.last {α β : Type} (f : α → β) {lt : β → β → Prop} (S : Sto lt) : Pre (fun a b => f a = f b) (fun a b => lt (f a) (f b)) := ⟨fun a => S.irrefl _, fun h g => S.trans h g, fun h g => S.conn h g⟩
theorem Pre.lex {α β : Type} {E : α → α → Prop} {r : α → α → Prop} (p : Pre E r) (f : α → β) {lt : β → β → Prop} (S : Sto lt) : Pre (fun a b => f a = f b ∧ E a b) (lexR f lt r) where
  irrefl a h := h.elim (S.irrefl _) fun g => p.irrefl a g.2
  trans := by
    rintro a b c (h | ⟨e, h⟩) (g | ⟨e', g⟩)
    · exact .inl (S.trans h g)
    · exact .inl (by rw [← e']; exact h)
    · exact .inl (by rw [e]; exact g)
    · exact .inr ⟨e.trans e', p.trans h g⟩
  conn := by
    intro a b h g
    have e : f a = f b := S.conn (fun k => h (.inl k)) (fun k => g (.inl k))
    exact ⟨e, p.conn (fun k => h (.inr ⟨e, k⟩)) (fun k => g (.inr ⟨e.symm, k⟩))⟩
theorem Pre.sto {α : Type} {E : α → α → Prop} {r : α → α → Prop} (p : Pre E r) (h : ∀ {a b}, E a b → a = b) : Sto r := ⟨p.irrefl, p.trans, fun x y => h (p.conn x y)⟩
theorem sto_int : Sto (fun a b : Int => a < b) := ⟨fun a => by omega, fun h g => by omega, fun h g => by omega⟩
end Go.Proofs.Ytgllaoanpemjlaa.Plain
