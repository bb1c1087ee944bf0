/- Effects as plain mathematics: what one makes and takes away, what a list of them does, those under a zone, when they are right; the laws that follow. -/
import Derived.Test.YtgllaoanpemjlaaIMath
namespace Go.Proofs.Ytgllaoanpemjlaa.Plain
set_option linter.unusedVariables false

structure PEff where
  pos : Int
  key : Txt
  field : Txt
  kind : Int
  elem : Txt
  n : Int
  drops : List PDot
theorem peff_ext {a b : PEff} (h0 : a.pos = b.pos) (h1 : a.key = b.key) (h2 : a.field = b.field) (h3 : a.kind = b.kind) (h4 : a.elem = b.elem) (h5 : a.n = b.n) (h6 : a.drops = b.drops) : a = b := by
  cases a; cases b; simp_all
instance : DecidableEq PEff := fun a b => decidable_of_iff (a.pos = b.pos ∧ a.key = b.key ∧ a.field = b.field ∧ a.kind = b.kind ∧ a.elem = b.elem ∧ a.n = b.n ∧ a.drops = b.drops) ⟨fun ⟨h0, h1, h2, h3, h4, h5, h6⟩ => peff_ext h0 h1 h2 h3 h4 h5 h6, fun e => by subst e; exact ⟨rfl, rfl, rfl, rfl, rfl, rfl, rfl⟩⟩
instance : Inhabited PEff := ⟨⟨0, [], [], 0, [], 0, []⟩⟩

/-! ### what effects do -/
def madeI (node seq : Int) (e : PEff) : PItem := ⟨e.key, e.field, e.kind, e.elem, e.n, ⟨node, seq, e.pos⟩⟩
/-- what one makes: nothing, or one item -/
def makes (node seq : Int) (e : PEff) : List PItem := if e.kind = 0 then [] else [madeI node seq e]
/-- done, but not put in its form -/
def rawStep (node seq : Int) (s : List PItem) (e : PEff) : List PItem := iwithout s e.drops ++ makes node seq e
def doStep (node seq : Int) (s : List PItem) (e : PEff) : List PItem := inorm (rawStep node seq s e)
def eraw (node seq : Int) (s : List PItem) (l : List PEff) : List PItem := l.foldl (rawStep node seq) s
def edo (node seq : Int) (s : List PItem) (l : List PEff) : List PItem := l.foldl (doStep node seq) s
def eonly (l : List PEff) (z : List Txt) : List PEff := l.filter fun e => covers z e.key
def dropsOf (l : List PEff) : List PDot := l.flatMap (·.drops)

/-! ### lists of items -/
theorem mem_iwithout {s : List PItem} {d : List PDot} {t : PItem} : t ∈ iwithout s d ↔ t ∈ s ∧ t.dot ∉ d := by
  unfold iwithout
  rw [List.mem_filter, Bool.not_eq_true', ← Bool.not_eq_true, hasDot_iff]
theorem iwithout_append (a b : List PItem) (d : List PDot) : iwithout (a ++ b) d = iwithout a d ++ iwithout b d := List.filter_append _ _
theorem iwithout_two (a : List PItem) (d e : List PDot) : iwithout (iwithout a d) e = iwithout a (d ++ e) := by
  unfold iwithout
  rw [List.filter_filter]
  congr 1
  funext x
  unfold hasDot
  rw [List.any_append, Bool.not_or, Bool.and_comm]
theorem iwithout_none (a : List PItem) : iwithout a [] = a := by
  unfold iwithout
  exact List.filter_eq_self.2 fun _ _ => rfl
/-- of those of one dot one stands first -/
theorem least_of : ∀ (a : List PItem) (y : PItem), y ∈ a → ∃ m ∈ inorm a, m.dot = y.dot ∧ (m = y ∨ iless m y) := by
  intro a y hy
  have key : ∀ (n : Nat) (b : List PItem), b.length ≤ n → (∀ t ∈ b, t ∈ a) → (∀ t ∈ a, t.dot = y.dot → t ∉ b → ¬ iless t y) → ∃ m ∈ a, m.dot = y.dot ∧ (m = y ∨ iless m y) ∧ ∀ t ∈ a, t.dot = y.dot → ¬ iless t m := by
    have main : ∀ (b : List PItem), (∀ t ∈ b, t ∈ a) → ∃ m ∈ a, m.dot = y.dot ∧ (m = y ∨ iless m y) ∧ ∀ t ∈ b, t.dot = y.dot → ¬ iless t m := by
      intro b
      induction b with
      | nil => intro _; exact ⟨y, hy, rfl, .inl rfl, fun t ht => absurd ht (by simp)⟩
      | cons x b ih =>
        intro hb
        obtain ⟨m, hm, h1, h2, h3⟩ := ih fun t ht => hb t (List.mem_cons_of_mem _ ht)
        by_cases hx : x.dot = y.dot ∧ iless x m
        · refine ⟨x, hb x List.mem_cons_self, hx.1, .inr ?_, fun t ht he => ?_⟩
          · rcases h2 with rfl | h2
            · exact hx.2
            · exact sto_item.trans hx.2 h2
          · rcases List.mem_cons.1 ht with rfl | ht
            · exact sto_item.irrefl _
            · exact fun k => h3 t ht he (sto_item.trans k hx.2)
        · refine ⟨m, hm, h1, h2, fun t ht he => ?_⟩
          rcases List.mem_cons.1 ht with rfl | ht
          · exact fun k => hx ⟨he, k⟩
          · exact h3 t ht he
    intro n b _ _ _
    exact main a fun t h => h
  obtain ⟨m, hm, h1, h2, h3⟩ := key a.length a (Nat.le_refl _) (fun t h => h) (fun t h _ k => absurd h k)
  exact ⟨m, mem_inorm.2 ⟨hm, fun t ht he => h3 t ht (he.trans h1)⟩, h1, h2⟩
theorem inorm_in (a m : List PItem) : inorm (inorm a ++ m) = inorm (a ++ m) := ris_ext sto_item (ris_inorm _) (ris_inorm _) fun t => by
  rw [mem_inorm, mem_inorm]
  constructor
  · rintro ⟨h, g⟩
    refine ⟨?_, fun y hy he hl => ?_⟩
    · rcases List.mem_append.1 h with h | h
      · exact List.mem_append.2 (.inl (mem_inorm.1 h).1)
      · exact List.mem_append.2 (.inr h)
    · rcases List.mem_append.1 hy with hy | hy
      · obtain ⟨m2, hm2, h1, h2⟩ := least_of a y hy
        have := g m2 (List.mem_append.2 (.inl hm2)) (h1.trans he)
        rcases h2 with rfl | h2
        · exact this hl
        · exact this (sto_item.trans h2 hl)
      · exact g y (List.mem_append.2 (.inr hy)) he hl
  · rintro ⟨h, g⟩
    refine ⟨?_, fun y hy he => ?_⟩
    · rcases List.mem_append.1 h with h | h
      · exact List.mem_append.2 (.inl (mem_inorm.2 ⟨h, fun y hy he => g y (List.mem_append.2 (.inl hy)) he⟩))
      · exact List.mem_append.2 (.inr h)
    · rcases List.mem_append.1 hy with hy | hy
      · exact g y (List.mem_append.2 (.inl (mem_inorm.1 hy).1)) he
      · exact g y (List.mem_append.2 (.inr hy)) he
theorem iwithout_inorm (a : List PItem) (d : List PDot) : iwithout (inorm a) d = inorm (iwithout a d) := ris_ext sto_item ((ris_inorm a).filter _) (ris_inorm _) fun t => by
  rw [mem_iwithout, mem_inorm, mem_inorm, mem_iwithout]
  constructor
  · rintro ⟨⟨h, g⟩, k⟩
    exact ⟨⟨h, k⟩, fun y hy he => g y (mem_iwithout.1 hy).1 he⟩
  · rintro ⟨⟨h, k⟩, g⟩
    exact ⟨⟨h, fun y hy he => g y (mem_iwithout.2 ⟨hy, by rw [he]; exact k⟩) he⟩, k⟩

/-! ### what a list of effects does, at once -/
theorem eraw_split (node seq : Int) : ∀ (l : List PEff) (a b : List PItem), eraw node seq (a ++ b) l = iwithout a (dropsOf l) ++ eraw node seq b l
  | [], a, b => by
    show a ++ b = iwithout a [] ++ b
    rw [iwithout_none]
  | e :: l, a, b => by
    show eraw node seq (rawStep node seq (a ++ b) e) l = iwithout a (dropsOf (e :: l)) ++ eraw node seq (rawStep node seq b e) l
    unfold rawStep
    rw [iwithout_append, List.append_assoc, eraw_split node seq l, iwithout_two]
    rfl
/-- what its effects make that stays -/
def own (node seq : Int) (l : List PEff) : List PItem := eraw node seq [] l
theorem eraw_at (node seq : Int) (s : List PItem) (l : List PEff) : eraw node seq s l = iwithout s (dropsOf l) ++ own node seq l := by
  have := eraw_split node seq l s []
  rwa [List.append_nil] at this
theorem own_cons (node seq : Int) (e : PEff) (l : List PEff) : own node seq (e :: l) = iwithout (makes node seq e) (dropsOf l) ++ own node seq l := by
  have := eraw_split node seq l (makes node seq e) []
  rw [List.append_nil] at this
  exact this
theorem mem_makes {node seq : Int} {e : PEff} {t : PItem} : t ∈ makes node seq e ↔ e.kind ≠ 0 ∧ t = madeI node seq e := by
  unfold makes
  split
  · rename_i h; simp [h]
  · rename_i h; simp [h]
theorem own_dot {node seq : Int} : ∀ {l : List PEff} {t : PItem}, t ∈ own node seq l → ∃ e ∈ l, t = madeI node seq e
  | [], t, h => absurd h (by simp [own, eraw])
  | e :: l, t, h => by
    rw [own_cons, List.mem_append] at h
    rcases h with h | h
    · exact ⟨e, List.mem_cons_self, (mem_makes.1 (mem_iwithout.1 h).1).2⟩
    · obtain ⟨e2, h2, h3⟩ := own_dot h
      exact ⟨e2, List.mem_cons_of_mem _ h2, h3⟩
theorem edo_norm (node seq : Int) : ∀ (l : List PEff) (s : List PItem), inorm (edo node seq s l) = inorm (eraw node seq s l)
  | [], s => rfl
  | e :: l, s => by
    show inorm (edo node seq (inorm (rawStep node seq s e)) l) = inorm (eraw node seq (rawStep node seq s e) l)
    rw [edo_norm node seq l, eraw_at, iwithout_inorm, inorm_in, ← eraw_at]
theorem edo_form (node seq : Int) : ∀ (l : List PEff) (s : List PItem), l ≠ [] → inorm (edo node seq s l) = edo node seq s l
  | [], _, h => absurd rfl h
  | [e], s, _ => inorm_inorm _
  | e :: e2 :: l, s, _ => edo_form node seq (e2 :: l) _ (by simp)
theorem edo_at (node seq : Int) (l : List PEff) (s : List PItem) (h : l ≠ []) : edo node seq s l = inorm (eraw node seq s l) := by
  rw [← edo_form node seq l s h, edo_norm]
theorem edo_nil (node seq : Int) (s : List PItem) : edo node seq s [] = s := rfl
theorem eraw_inorm (node seq : Int) (l : List PEff) (x : List PItem) : inorm (eraw node seq (inorm x) l) = inorm (eraw node seq x l) := by
  rw [eraw_at, iwithout_inorm, inorm_in, ← eraw_at]
theorem edo_len (node seq : Int) : ∀ (l : List PEff) (s : List PItem), (edo node seq s l).length ≤ s.length + l.length
  | [], s => Nat.le_refl _
  | e :: l, s => by
    have h1 := edo_len node seq l (doStep node seq s e)
    have h2 := inorm_len (rawStep node seq s e)
    have h3 := iwithout_len s e.drops
    have h4 : (makes node seq e).length ≤ 1 := by unfold makes; split <;> simp
    have h5 : (rawStep node seq s e).length = (iwithout s e.drops).length + (makes node seq e).length := List.length_append
    show (edo node seq (doStep node seq s e) l).length ≤ s.length + (e :: l).length
    rw [List.length_cons]
    unfold doStep at h1 ⊢
    omega

/-! ### the laws -/
/-- a list names no dot of that transaction -/
def namesB (l : List PEff) (node seq : Int) : Bool := l.any fun e => e.drops.any fun d => decide (d.node = node) && decide (d.seq = seq)
def hasB (l : List PItem) (node seq : Int) : Bool := l.any fun x => decide (x.dot.node = node) && decide (x.dot.seq = seq)
theorem names_no {l : List PEff} {node seq : Int} (h : namesB l node seq = false) {d : PDot} (hd : d ∈ dropsOf l) : ¬ (d.node = node ∧ d.seq = seq) := by
  rintro ⟨h1, h2⟩
  obtain ⟨e, he, hde⟩ := List.mem_flatMap.1 hd
  unfold namesB at h
  rw [List.any_eq_false] at h
  refine h e he (List.any_eq_true.2 ⟨d, hde, ?_⟩)
  simp [h1, h2]
theorem has_no {l : List PItem} {node seq : Int} (h : hasB l node seq = false) {x : PItem} (hx : x ∈ l) : ¬ (x.dot.node = node ∧ x.dot.seq = seq) := by
  rintro ⟨h1, h2⟩
  unfold hasB at h
  rw [List.any_eq_false] at h
  refine h x hx ?_
  simp [h1, h2]
theorem own_kept {n s m t : Int} {a b : List PEff} (h : namesB b n s = false) : iwithout (own n s a) (dropsOf b) = own n s a := by
  unfold iwithout
  refine List.filter_eq_self.2 fun x hx => ?_
  rw [Bool.not_eq_true', ← Bool.not_eq_true, hasDot_iff]
  intro hd
  obtain ⟨e, -, rfl⟩ := own_dot hx
  exact names_no h hd ⟨rfl, rfl⟩
/-- two transactions of which neither names the other's dots may be done in either order -/
theorem edo_either {items : List PItem} {n s m t : Int} {a b : List PEff} (h1 : namesB a m t = false) (h2 : namesB b n s = false) : edo m t (edo n s items a) b = edo n s (edo m t items b) a := by
  by_cases ha : a = []
  · subst ha
    rfl
  · by_cases hb : b = []
    · subst hb
      rfl
    · rw [edo_at m t b _ hb, edo_at n s a _ ha, edo_at n s a _ ha, edo_at m t b _ hb, eraw_inorm, eraw_inorm, eraw_at m t _ b, eraw_at n s items a, eraw_at n s _ a, eraw_at m t items b, iwithout_append, iwithout_append,
        own_kept (m := m) (t := t) h2, own_kept (m := n) (t := s) h1, iwithout_two, iwithout_two]
      refine inorm_ext fun x => ?_
      simp only [List.mem_append, mem_iwithout]
      constructor
      · rintro ((⟨p, q⟩ | p) | p)
        · exact .inl (.inl ⟨p, fun k => q (k.symm)⟩)
        · exact .inr p
        · exact .inl (.inr p)
      · rintro ((⟨p, q⟩ | p) | p)
        · exact .inl (.inl ⟨p, fun k => q (k.symm)⟩)
        · exact .inr p
        · exact .inl (.inr p)
/-- done once more effects change nothing -/
theorem edo_again {items : List PItem} {n s : Int} {l : List PEff} : edo n s (edo n s items l) l = edo n s items l := by
  by_cases hl : l = []
  · subst hl; rfl
  · rw [edo_at n s l _ hl, edo_at n s l _ hl, eraw_inorm, eraw_at n s _ l, eraw_at n s items l, iwithout_append, iwithout_two]
    refine inorm_ext fun x => ?_
    simp only [List.mem_append, mem_iwithout]
    constructor
    · rintro ((⟨p, q⟩ | ⟨p, q⟩) | p)
      · exact .inl ⟨p, fun k => q (.inl k)⟩
      · exact .inr p
      · exact .inr p
    · rintro (⟨p, q⟩ | p)
      · exact .inl (.inl ⟨p, fun k => k.elim q q⟩)
      · exact .inr p

/-! ### under a zone -/
theorem iunder_append (a b : List PItem) (z : List Txt) : iunder (a ++ b) z = iunder a z ++ iunder b z := List.filter_append _ _
theorem mem_iunder {a : List PItem} {z : List Txt} {t : PItem} : t ∈ iunder a z ↔ t ∈ a ∧ covers z t.key = true := List.mem_filter
theorem mem_eonly {l : List PEff} {z : List Txt} {e : PEff} : e ∈ eonly l z ↔ e ∈ l ∧ covers z e.key = true := List.mem_filter
theorem mem_dropsOf {l : List PEff} {d : PDot} : d ∈ dropsOf l ↔ ∃ e ∈ l, d ∈ e.drops := List.mem_flatMap
/-- what each of l takes away of what l makes stands under its own key -/
def OwnKeys (node seq : Int) : List PEff → Prop
  | [] => True
  | e :: l => (∀ f ∈ l, (madeI node seq e).dot ∈ f.drops → e.key = f.key) ∧ OwnKeys node seq l
theorem own_only {node seq : Int} {z : List Txt} : ∀ {l : List PEff}, OwnKeys node seq l → ∀ t, (t ∈ iunder (own node seq l) z ↔ t ∈ own node seq (eonly l z))
  | [], _, t => by simp [own, eraw, eonly, iunder]
  | e :: l, ⟨h1, h2⟩, t => by
    have ih := own_only (z := z) h2 t
    have hk : (madeI node seq e).key = e.key := rfl
    rw [mem_iunder, own_cons, List.mem_append, mem_iwithout, mem_makes]
    unfold eonly
    by_cases hc : covers z e.key = true
    · rw [List.filter_cons, if_pos hc, own_cons, List.mem_append, mem_iwithout, mem_makes]
      change _ ↔ (_ ∧ t.dot ∉ dropsOf (eonly l z)) ∨ t ∈ own node seq (eonly l z)
      rw [← ih, mem_iunder]
      constructor
      · rintro ⟨⟨⟨p, rfl⟩, q⟩ | p, r⟩
        · refine .inl ⟨⟨p, rfl⟩, fun k => q ?_⟩
          obtain ⟨f, hf, hd⟩ := mem_dropsOf.1 k
          exact mem_dropsOf.2 ⟨f, (mem_eonly.1 hf).1, hd⟩
        · exact .inr ⟨p, r⟩
      · rintro (⟨⟨p, rfl⟩, q⟩ | ⟨p, r⟩)
        · refine ⟨.inl ⟨⟨p, rfl⟩, fun k => q ?_⟩, by rw [hk]; exact hc⟩
          obtain ⟨f, hf, hd⟩ := mem_dropsOf.1 k
          exact mem_dropsOf.2 ⟨f, mem_eonly.2 ⟨hf, by rw [← h1 f hf hd]; exact hc⟩, hd⟩
        · exact ⟨.inr p, r⟩
    · rw [List.filter_cons, if_neg hc]
      change _ ↔ t ∈ own node seq (eonly l z)
      rw [← ih, mem_iunder]
      constructor
      · rintro ⟨⟨⟨p, rfl⟩, q⟩ | p, r⟩
        · rw [hk] at r
          exact absurd r hc
        · exact ⟨p, r⟩
      · rintro ⟨p, r⟩
        exact ⟨.inr p, r⟩
theorem own_apart {node seq : Int} : ∀ {l : List PEff}, l.Pairwise (fun a b => a.pos < b.pos) → DotsApart (own node seq l)
  | [], _ => fun x hx => absurd hx (by simp [own, eraw])
  | e :: l, h => by
    obtain ⟨h1, h2⟩ := List.pairwise_cons.1 h
    have ih := own_apart (node := node) (seq := seq) h2
    intro x hx y hy hd
    rw [own_cons, List.mem_append, mem_iwithout, mem_makes] at hx hy
    have apart : ∀ {u : PItem}, u ∈ own node seq l → u.dot ≠ (madeI node seq e).dot := by
      intro u hu he
      obtain ⟨f, hf, rfl⟩ := own_dot hu
      have := h1 f hf
      have e2 : f.pos = e.pos := congrArg PDot.pos he
      omega
    rcases hx with ⟨⟨-, rfl⟩, -⟩ | hx <;> rcases hy with ⟨⟨-, rfl⟩, -⟩ | hy
    · rfl
    · exact absurd hd.symm (apart hy)
    · exact absurd hd (apart hx)
    · exact ih x hx y hy hd
theorem inorm_apart {a : List PItem} (h : DotsApart a) {t : PItem} : t ∈ inorm a ↔ t ∈ a := by
  rw [mem_inorm]
  refine ⟨fun k => k.1, fun k => ⟨k, fun y hy he hl => ?_⟩⟩
  have := h y hy t k he
  subst this
  exact sto_item.irrefl _ hl
theorem apart_append {a b : List PItem} (ha : DotsApart a) (hb : DotsApart b) (h : ∀ x ∈ a, ∀ y ∈ b, x.dot ≠ y.dot) : DotsApart (a ++ b) := by
  intro x hx y hy he
  rcases List.mem_append.1 hx with hx | hx <;> rcases List.mem_append.1 hy with hy | hy
  · exact ha x hx y hy he
  · exact absurd he (h x hx y hy)
  · exact absurd he.symm (h y hy x hx)
  · exact hb x hx y hy he
theorem apart_sub {a b : List PItem} (hb : DotsApart b) (h : ∀ t ∈ a, t ∈ b) : DotsApart a := fun x hx y hy he => hb x (h x hx) y (h y hy) he
theorem eraw_apart {node seq : Int} {s : List PItem} {l : List PEff} (hs : DotsApart s) (hh : hasB s node seq = false) (hl : l.Pairwise (fun a b => a.pos < b.pos)) : DotsApart (eraw node seq s l) := by
  rw [eraw_at]
  refine apart_append (apart_sub hs fun t ht => (mem_iwithout.1 ht).1) (own_apart hl) fun x hx y hy he => ?_
  obtain ⟨e, -, rfl⟩ := own_dot hy
  exact has_no hh (mem_iwithout.1 hx).1 ⟨congrArg PDot.node he, congrArg PDot.seq he⟩
/-- what stands under a zone behind effects is what the effects under it make of what stood there -/
theorem edo_only {node seq : Int} {s : List PItem} {l : List PEff} {z : List Txt} (hl : l ≠ []) (hn : inorm s = s) (hh : hasB s node seq = false) (hp : l.Pairwise (fun a b => a.pos < b.pos))
    (hk : ∀ e ∈ l, ∀ x ∈ s, x.dot ∈ e.drops → x.key = e.key) (ho : OwnKeys node seq l) : iunder (edo node seq s l) z = edo node seq (iunder s z) (eonly l z) := by
  have hs : DotsApart s := by rw [← hn]; exact apart_inorm s
  have hrs : Ris iless s := by rw [← hn]; exact ris_inorm s
  have hus : DotsApart (iunder s z) := apart_sub hs fun t ht => (mem_iunder.1 ht).1
  have huh : hasB (iunder s z) node seq = false := by
    unfold hasB at *
    rw [List.any_eq_false] at *
    exact fun x hx => hh x (mem_iunder.1 hx).1
  have main : ∀ t, (t ∈ iunder (edo node seq s l) z ↔ t ∈ eraw node seq (iunder s z) (eonly l z)) := by
    intro t
    rw [mem_iunder, edo_at _ _ _ _ hl, inorm_apart (eraw_apart hs hh hp), eraw_at, eraw_at, List.mem_append, List.mem_append, ← own_only ho, mem_iunder, mem_iwithout, mem_iwithout, mem_iunder]
    constructor
    · rintro ⟨⟨p, q⟩ | p, r⟩
      · refine .inl ⟨⟨p, r⟩, fun k => q ?_⟩
        obtain ⟨f, hf, hd⟩ := mem_dropsOf.1 k
        exact mem_dropsOf.2 ⟨f, (mem_eonly.1 hf).1, hd⟩
      · exact .inr ⟨p, r⟩
    · rintro (⟨⟨p, r⟩, q⟩ | ⟨p, r⟩)
      · refine ⟨.inl ⟨p, fun k => q ?_⟩, r⟩
        obtain ⟨f, hf, hd⟩ := mem_dropsOf.1 k
        exact mem_dropsOf.2 ⟨f, mem_eonly.2 ⟨hf, by rw [← hk f hf t p hd]; exact r⟩, hd⟩
      · exact ⟨.inr p, r⟩
  have hr1 : Ris iless (iunder (edo node seq s l) z) := by
    rw [edo_at _ _ _ _ hl]
    exact (ris_inorm _).filter _
  by_cases he : eonly l z = []
  · rw [he] at main ⊢
    exact ris_ext sto_item hr1 (hrs.filter _) main
  · rw [edo_at _ _ (eonly l z) _ he]
    refine ris_ext sto_item hr1 (ris_inorm _) fun t => ?_
    have hpo : (eonly l z).Pairwise (fun a b => a.pos < b.pos) := List.Pairwise.filter _ hp
    rw [main, inorm_apart (eraw_apart hus huh hpo)]

/-! ### formed, right -/
def dlessB (a b : PDot) : Bool := decide (a.node < b.node ∨ (a.node = b.node ∧ (a.seq < b.seq ∨ (a.seq = b.seq ∧ a.pos < b.pos))))
/-- the Drops from the k-th on rise, and may be -/
def dropsB : List PDot → Bool
  | [] => true
  | [d] => dotB d
  | d :: e :: l => dotB d && (dlessB d e && dropsB (e :: l))
def makesB (node seq : Int) (e : PEff) : Bool :=
  if e.kind = 0 then decide (0 < e.drops.length) && (decide (e.elem.length = 0) && (decide (e.n = 0) && (keyB e.key && (prefixB e.field && dotB ⟨node, seq, e.pos⟩)))) else formedB (madeI node seq e)
def eformedB (node seq : Int) (e : PEff) : Bool := decide (e.drops.length ≤ 64) && (dropsB e.drops && makesB node seq e)
/-- no Drops has the dot of the same transaction's At of the effect itself or a later one -/
def pastB (node seq : Int) (e : PEff) : Bool := e.drops.all fun d => !(decide (d.node = node) && (decide (d.seq = seq) && decide (e.pos ≤ d.pos)))
def risesB : List PEff → Bool
  | [] => true
  | [_] => true
  | a :: b :: l => decide (a.pos < b.pos) && risesB (b :: l)
def rightB (node seq : Int) (l : List PEff) : Bool := l.all (eformedB node seq) && (risesB l && l.all (pastB node seq))
theorem rises_pairwise : ∀ {l : List PEff}, risesB l = true → l.Pairwise (fun a b => a.pos < b.pos)
  | [], _ => List.Pairwise.nil
  | [a], _ => by simp
  | a :: b :: l, h => by
    unfold risesB at h
    rw [Bool.and_eq_true, decide_eq_true_iff] at h
    have ih := rises_pairwise h.2
    refine List.pairwise_cons.2 ⟨fun x hx => ?_, ih⟩
    rcases List.mem_cons.1 hx with rfl | hx
    · exact h.1
    · have := (List.pairwise_cons.1 ih).1 x hx
      omega
theorem right_rises {node seq : Int} {l : List PEff} (h : rightB node seq l = true) : l.Pairwise (fun a b => a.pos < b.pos) := by
  unfold rightB at h
  rw [Bool.and_eq_true, Bool.and_eq_true] at h
  exact rises_pairwise h.2.1
end Go.Proofs.Ytgllaoanpemjlaa.Plain
