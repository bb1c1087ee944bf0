/- Texts, prefixes and zones as plain mathematics: rising lists, what a list covers, the one form, and the laws that follow. -/
namespace Go.Proofs.Ytgllaoanpemjlaa.Plain
set_option linter.unusedVariables false

/-- a text's bytes -/
abbrev Txt := List UInt8
theorem lt_irrefl (a : Txt) : ¬ a < a := List.lt_irrefl a
theorem lt_trans {a b c : Txt} (h : a < b) (g : b < c) : a < c := List.lt_trans h g
theorem lt_asymm {a b : Txt} (h : a < b) : ¬ b < a := fun g => lt_irrefl a (lt_trans h g)
theorem lt_total {a b : Txt} (h : ¬ a < b) (g : a ≠ b) : b < a := by
  rcases Classical.em (b < a) with k | k
  · exact k
  · exact absurd (List.le_antisymm (List.not_lt.1 k) (List.not_lt.1 h)) g

/-! ### rising lists -/
def Rising (l : List Txt) : Prop := l.Pairwise (· < ·)
theorem Rising.tail {x : Txt} {l : List Txt} (h : Rising (x :: l)) : Rising l := (List.pairwise_cons.1 h).2
theorem Rising.head {x : Txt} {l : List Txt} (h : Rising (x :: l)) : ∀ y ∈ l, x < y := (List.pairwise_cons.1 h).1
theorem Rising.filter {l : List Txt} (h : Rising l) (p : Txt → Bool) : Rising (l.filter p) := List.Pairwise.filter p h
/-- two rising lists of the same texts are the same -/
theorem rising_ext : ∀ {a b : List Txt}, Rising a → Rising b → (∀ t, t ∈ a ↔ t ∈ b) → a = b
  | [], [], _, _, _ => rfl
  | [], y :: b, _, _, h => absurd ((h y).2 List.mem_cons_self) (by simp)
  | x :: a, [], _, _, h => absurd ((h x).1 List.mem_cons_self) (by simp)
  | x :: a, y :: b, ha, hb, h => by
    have hx := (h x).1 List.mem_cons_self
    have hy := (h y).2 List.mem_cons_self
    have e : x = y := by
      rcases List.mem_cons.1 hx with rfl | hx
      · rfl
      · rcases List.mem_cons.1 hy with rfl | hy
        · rfl
        · exact absurd (ha.head y hy) (lt_asymm (hb.head x hx))
    subst e
    have ht : a = b := by
      refine rising_ext ha.tail hb.tail fun t => ⟨fun ht => ?_, fun ht => ?_⟩
      · rcases List.mem_cons.1 ((h t).1 (List.mem_cons_of_mem _ ht)) with rfl | g
        · exact absurd (ha.head t ht) (lt_irrefl t)
        · exact g
      · rcases List.mem_cons.1 ((h t).2 (List.mem_cons_of_mem _ ht)) with rfl | g
        · exact absurd (hb.head t ht) (lt_irrefl t)
        · exact g
    rw [ht]

/-- a text set into its place, once -/
def ins (x : Txt) : List Txt → List Txt
  | [] => [x]
  | y :: l => if x < y then x :: y :: l else if x = y then y :: l else y :: ins x l
/-- rising, each text once -/
def once : List Txt → List Txt
  | [] => []
  | x :: l => ins x (once l)
theorem mem_ins (x t : Txt) : ∀ l, t ∈ ins x l ↔ t = x ∨ t ∈ l
  | [] => by simp [ins]
  | y :: l => by
    unfold ins
    split
    · simp
    · split
      · rename_i e
        subst e
        simp
      · rw [List.mem_cons, mem_ins x t l, List.mem_cons]
        constructor
        · rintro (h | h | h) <;> simp [h]
        · rintro (h | h | h) <;> simp [h]
theorem rising_ins (x : Txt) : ∀ {l}, Rising l → Rising (ins x l)
  | [], _ => List.pairwise_cons.2 ⟨fun _ h => absurd h (by simp), List.Pairwise.nil⟩
  | y :: l, h => by
    unfold ins
    split
    · rename_i g
      refine List.pairwise_cons.2 ⟨fun t ht => ?_, h⟩
      rcases List.mem_cons.1 ht with rfl | ht
      · exact g
      · exact lt_trans g (h.head t ht)
    · rename_i g
      split
      · exact h
      · rename_i e
        refine List.pairwise_cons.2 ⟨fun t ht => ?_, rising_ins x h.tail⟩
        rcases (mem_ins x t l).1 ht with rfl | ht
        · exact lt_total g e
        · exact h.head t ht
theorem mem_once (t : Txt) : ∀ l, t ∈ once l ↔ t ∈ l
  | [] => by simp [once]
  | x :: l => by rw [once, mem_ins, mem_once t l, List.mem_cons]
theorem rising_once : ∀ l, Rising (once l)
  | [] => List.Pairwise.nil
  | x :: l => rising_ins x (rising_once l)
theorem once_rising {l : List Txt} (h : Rising l) : once l = l := rising_ext (rising_once l) h fun t => mem_once t l
theorem once_ext {a b : List Txt} (h : ∀ t, t ∈ a ↔ t ∈ b) : once a = once b := rising_ext (rising_once a) (rising_once b) fun t => by rw [mem_once, mem_once, h]
theorem ins_len (x : Txt) : ∀ l, (ins x l).length ≤ l.length + 1
  | [] => by simp [ins]
  | y :: l => by
    have := ins_len x l
    unfold ins
    split
    · simp
    · split <;> simp <;> omega
theorem once_len : ∀ l, (once l).length ≤ l.length
  | [] => by simp [once]
  | x :: l => by
    have := ins_len x (once l)
    have := once_len l
    rw [once, List.length_cons]; omega

/-! ### what begins with what -/
def beg (s p : Txt) : Bool := p.isPrefixOf s
theorem beg_iff {s p : Txt} : beg s p = true ↔ p <+: s := by unfold beg; exact List.isPrefixOf_iff_prefix
theorem beg_self (s : Txt) : beg s s = true := beg_iff.2 (List.prefix_refl s)
theorem beg_trans {a b c : Txt} (h : beg a b = true) (g : beg b c = true) : beg a c = true := beg_iff.2 ((beg_iff.1 g).trans (beg_iff.1 h))
theorem beg_antisymm {a b : Txt} (h : beg a b = true) (g : beg b a = true) : a = b := (List.IsPrefix.eq_of_length (beg_iff.1 g) (by have := (beg_iff.1 g).length_le; have := (beg_iff.1 h).length_le; omega))
/-- two that begin one text: one begins with the other -/
theorem beg_two {k a b : Txt} (h : beg k a = true) (g : beg k b = true) : beg a b = true ∨ beg b a = true := by
  rcases Nat.le_total a.length b.length with hl | hl
  · exact .inr (beg_iff.2 (List.prefix_of_prefix_length_le (beg_iff.1 h) (beg_iff.1 g) hl))
  · exact .inl (beg_iff.2 (List.prefix_of_prefix_length_le (beg_iff.1 g) (beg_iff.1 h) hl))
def covers (z : List Txt) (k : Txt) : Bool := z.any fun p => beg k p
theorem covers_iff {z : List Txt} {k : Txt} : covers z k = true ↔ ∃ p ∈ z, beg k p = true := by unfold covers; exact List.any_eq_true
theorem covers_self {z : List Txt} {s : Txt} (h : s ∈ z) : covers z s = true := covers_iff.2 ⟨s, h, beg_self s⟩
theorem covers_trans {z : List Txt} {k s : Txt} (h : covers z s = true) (g : beg k s = true) : covers z k = true := by
  obtain ⟨p, hp, hs⟩ := covers_iff.1 h
  exact covers_iff.2 ⟨p, hp, beg_trans g hs⟩
theorem covers_ext {a b : List Txt} (h : ∀ t, t ∈ a ↔ t ∈ b) (k : Txt) : covers a k = covers b k := by
  rw [Bool.eq_iff_iff, covers_iff, covers_iff]
  exact ⟨fun ⟨p, hp, g⟩ => ⟨p, (h p).1 hp, g⟩, fun ⟨p, hp, g⟩ => ⟨p, (h p).2 hp, g⟩⟩
theorem covers_once (l : List Txt) (k : Txt) : covers (once l) k = covers l k := covers_ext (fun t => mem_once t l) k
theorem covers_append (a b : List Txt) (k : Txt) : covers (a ++ b) k = (covers a k || covers b k) := by unfold covers; exact List.any_append

/-! ### prefixes, zones -/
def okByte (c : UInt8) : Bool := c == 47 || (48 ≤ c && c ≤ 57) || (97 ≤ c && c ≤ 122)
def prefixB (s : Txt) : Bool := s.all okByte && decide (s.length ≤ 16)
def keyB (s : Txt) : Bool := decide (0 < s.length) && prefixB s
/-- none begins with another one -/
def Apart1 (z : List Txt) : Prop := ∀ s ∈ z, ∀ t ∈ z, beg s t = true → t = s
/-- does none of l, but itself, begin s? -/
def alone (l : List Txt) (s : Txt) : Bool := l.all fun t => t == s || !beg s t
theorem alone_iff {l : List Txt} {s : Txt} : alone l s = true ↔ ∀ t ∈ l, beg s t = true → t = s := by
  unfold alone
  rw [List.all_eq_true]
  constructor
  · intro h t ht hb
    have := h t ht
    simpa [hb] using this
  · intro h t ht
    by_cases hb : beg s t = true
    · simp [h t ht hb]
    · simp [hb]
def least (l : List Txt) : List Txt := once (l.filter (alone l))
theorem mem_least {l : List Txt} {s : Txt} : s ∈ least l ↔ s ∈ l ∧ ∀ t ∈ l, beg s t = true → t = s := by
  unfold least
  rw [mem_once, List.mem_filter, alone_iff]
theorem least_ext {a b : List Txt} (h : ∀ t, t ∈ a ↔ t ∈ b) : least a = least b := rising_ext (rising_once _) (rising_once _) fun t => by
  show t ∈ least a ↔ t ∈ least b
  rw [mem_least, mem_least, h]
  exact ⟨fun ⟨p, q⟩ => ⟨p, fun u hu => q u ((h u).2 hu)⟩, fun ⟨p, q⟩ => ⟨p, fun u hu => q u ((h u).1 hu)⟩⟩
/-- each text of a list begins with one of the least -/
theorem least_below (l : List Txt) : ∀ n (s : Txt), s.length ≤ n → s ∈ l → ∃ t ∈ least l, beg s t = true := by
  intro n
  induction n with
  | zero =>
    intro s hn hs
    obtain rfl : s = [] := List.eq_nil_of_length_eq_zero (by omega)
    refine ⟨[], mem_least.2 ⟨hs, fun t _ hb => ?_⟩, beg_self _⟩
    have := (beg_iff.1 hb).length_le
    exact List.eq_nil_of_length_eq_zero (by simpa using this)
  | succ n ih =>
    intro s hn hs
    by_cases h : ∀ t ∈ l, beg s t = true → t = s
    · exact ⟨s, mem_least.2 ⟨hs, h⟩, beg_self s⟩
    · have : ∃ t, t ∈ l ∧ beg s t = true ∧ t ≠ s := Classical.byContradiction fun hno => h fun t ht hb => Classical.byContradiction fun hne => hno ⟨t, ht, hb, hne⟩
      obtain ⟨t, ht, hb, hne⟩ := this
      have hlt : t.length < s.length := by
        have := (beg_iff.1 hb).length_le
        rcases Nat.lt_or_ge t.length s.length with g | g
        · exact g
        · exact absurd (List.IsPrefix.eq_of_length (beg_iff.1 hb) (by omega)) hne
      obtain ⟨u, hu, hbu⟩ := ih t (by omega) ht
      exact ⟨u, hu, beg_trans hb hbu⟩
theorem covers_least (l : List Txt) (k : Txt) : covers (least l) k = covers l k := by
  rw [Bool.eq_iff_iff, covers_iff, covers_iff]
  constructor
  · rintro ⟨p, hp, hb⟩
    exact ⟨p, (mem_least.1 hp).1, hb⟩
  · rintro ⟨p, hp, hb⟩
    obtain ⟨t, ht, hbt⟩ := least_below l p.length p (Nat.le_refl _) hp
    exact ⟨t, ht, beg_trans hb hbt⟩
theorem apart_least (l : List Txt) : Apart1 (least l) := fun s hs t ht hb => (mem_least.1 hs).2 t (mem_least.1 ht).1 hb
theorem least_apart {l : List Txt} (hr : Rising l) (h : Apart1 l) : least l = l := rising_ext (rising_once _) hr fun t => by
  show t ∈ least l ↔ t ∈ l
  rw [mem_least]
  exact ⟨fun g => g.1, fun g => ⟨g, fun u hu hb => h t g u hu hb⟩⟩
theorem least_least (l : List Txt) : least (least l) = least l := least_apart (rising_once _) (apart_least l)
theorem least_len (l : List Txt) : (least l).length ≤ l.length := by
  unfold least
  have := once_len (l.filter (alone l))
  have := List.length_filter_le (alone l) l
  omega

/-- the error of Norm -/
def normE (l : List Txt) : Nat := if l.all prefixB = true then (if 8 < (least l).length then 4 else 0) else 2
/-- a zone in its one form -/
def Zone (z : List Txt) : Prop := Rising z ∧ Apart1 z ∧ z.all prefixB = true ∧ z.length ≤ 8
theorem zone_iff {z : List Txt} : Zone z ↔ normE z = 0 ∧ least z = z := by
  constructor
  · rintro ⟨h1, h2, h3, h4⟩
    have e := least_apart h1 h2
    refine ⟨?_, e⟩
    unfold normE
    rw [if_pos h3, e, if_neg (by omega)]
  · rintro ⟨h, e⟩
    unfold normE at h
    split at h
    · rename_i hp
      split at h
      · exact absurd h (by decide)
      · rename_i hl
        rw [e] at hl
        exact ⟨by rw [← e]; exact rising_once _, by rw [← e]; exact apart_least z, hp, by omega⟩
    · exact absurd h (by decide)
theorem zone_least {l : List Txt} (h : normE l = 0) : Zone (least l) := by
  unfold normE at h
  split at h
  · rename_i hp
    split at h
    · exact absurd h (by decide)
    · rename_i hl
      refine ⟨rising_once _, apart_least l, ?_, by omega⟩
      rw [List.all_eq_true] at hp ⊢
      exact fun s hs => hp s (mem_least.1 hs).1
  · exact absurd h (by decide)
theorem zone_nil : Zone [] := ⟨List.Pairwise.nil, fun _ h => absurd h (by simp), rfl, by simp⟩

/-! ### both, without, within -/
def inter (a b : List Txt) : List Txt := once (a.filter (covers b) ++ b.filter (covers a))
def without (a b : List Txt) : List Txt := once (a.filter fun s => !covers b s)
def withinZ (a b : List Txt) : Bool := a.all (covers b)
theorem mem_inter {a b : List Txt} {s : Txt} : s ∈ inter a b ↔ (s ∈ a ∧ covers b s = true) ∨ (s ∈ b ∧ covers a s = true) := by
  unfold inter
  rw [mem_once, List.mem_append, List.mem_filter, List.mem_filter]
theorem mem_without {a b : List Txt} {s : Txt} : s ∈ without a b ↔ s ∈ a ∧ covers b s = false := by
  unfold without
  rw [mem_once, List.mem_filter]
  simp
theorem withinZ_iff {a b : List Txt} : withinZ a b = true ↔ ∀ s ∈ a, covers b s = true := by unfold withinZ; exact List.all_eq_true
theorem within_without (a b : List Txt) : withinZ a b = (without a b).isEmpty := by
  rw [Bool.eq_iff_iff, withinZ_iff, List.isEmpty_iff]
  constructor
  · intro h
    refine List.eq_nil_iff_forall_not_mem.2 fun s hs => ?_
    obtain ⟨h1, h2⟩ := mem_without.1 hs
    rw [h s h1] at h2
    exact absurd h2 (by decide)
  · intro h s hs
    by_cases g : covers b s = true
    · exact g
    · have : s ∈ without a b := mem_without.2 ⟨hs, by simpa using g⟩
      rw [h] at this
      exact absurd this (by simp)
theorem covers_inter (a b : List Txt) (k : Txt) : covers (inter a b) k = (covers a k && covers b k) := by
  rw [Bool.eq_iff_iff, Bool.and_eq_true]
  constructor
  · intro h
    obtain ⟨s, hs, hb⟩ := covers_iff.1 h
    rcases mem_inter.1 hs with ⟨h1, h2⟩ | ⟨h1, h2⟩
    · exact ⟨covers_iff.2 ⟨s, h1, hb⟩, covers_trans h2 hb⟩
    · exact ⟨covers_trans h2 hb, covers_iff.2 ⟨s, h1, hb⟩⟩
  · rintro ⟨h, g⟩
    obtain ⟨p, hp, hbp⟩ := covers_iff.1 h
    obtain ⟨q, hq, hbq⟩ := covers_iff.1 g
    rcases beg_two hbp hbq with e | e
    · exact covers_iff.2 ⟨p, mem_inter.2 (.inl ⟨hp, covers_iff.2 ⟨q, hq, e⟩⟩), hbp⟩
    · exact covers_iff.2 ⟨q, mem_inter.2 (.inr ⟨hq, covers_iff.2 ⟨p, hp, e⟩⟩), hbq⟩
theorem zone_inter {a b : List Txt} (ha : Zone a) (hb : Zone b) (hl : (inter a b).length ≤ 8) : Zone (inter a b) := by
  obtain ⟨-, a2, a3, -⟩ := ha
  obtain ⟨-, b2, b3, -⟩ := hb
  rw [List.all_eq_true] at a3 b3
  refine ⟨rising_once _, ?_, ?_, hl⟩
  · intro s hs t ht hb
    rcases mem_inter.1 hs with ⟨s1, s2⟩ | ⟨s1, s2⟩ <;> rcases mem_inter.1 ht with ⟨t1, t2⟩ | ⟨t1, t2⟩
    · exact a2 s s1 t t1 hb
    · obtain ⟨u, hu, hub⟩ := covers_iff.1 t2
      have e := a2 s s1 u hu (beg_trans hb hub)
      subst e
      exact beg_antisymm hub hb
    · obtain ⟨u, hu, hub⟩ := covers_iff.1 t2
      have e := b2 s s1 u hu (beg_trans hb hub)
      subst e
      exact beg_antisymm hub hb
    · exact b2 s s1 t t1 hb
  · rw [List.all_eq_true]
    intro s hs
    rcases mem_inter.1 hs with ⟨h, -⟩ | ⟨h, -⟩
    · exact a3 s h
    · exact b3 s h
theorem without_filter {a : List Txt} (h : Rising a) (b : List Txt) : without a b = a.filter fun s => !covers b s := once_rising (h.filter _)
theorem without_len (a b : List Txt) : (without a b).length ≤ a.length := by
  unfold without
  have := once_len (a.filter fun s => !covers b s)
  have := List.length_filter_le (fun s => !covers b s) a
  omega
theorem inter_len (a b : List Txt) : (inter a b).length ≤ a.length + b.length := by
  unfold inter
  have := once_len (a.filter (covers b) ++ b.filter (covers a))
  rw [List.length_append] at this
  have := List.length_filter_le (covers b) a
  have := List.length_filter_le (covers a) b
  omega
theorem zone_without {a : List Txt} (ha : Zone a) (b : List Txt) : Zone (without a b) := by
  obtain ⟨-, a2, a3, a4⟩ := ha
  rw [List.all_eq_true] at a3
  refine ⟨rising_once _, fun s hs t ht h => a2 s (mem_without.1 hs).1 t (mem_without.1 ht).1 h, ?_, ?_⟩
  · rw [List.all_eq_true]
    exact fun s hs => a3 s (mem_without.1 hs).1
  · have := without_len a b
    omega
theorem without_within (a b : List Txt) : withinZ (without a b) a = true := withinZ_iff.2 fun s hs => covers_self (mem_without.1 hs).1
theorem within_covers {a b : List Txt} {k : Txt} (h : withinZ a b = true) (g : covers a k = true) : covers b k = true := by
  obtain ⟨s, hs, hb⟩ := covers_iff.1 g
  exact covers_trans (withinZ_iff.1 h s hs) hb
/-- two zones in their one form that are within each other are the same -/
theorem zone_one {a b : List Txt} (ha : Zone a) (hb : Zone b) (h : withinZ a b = true) (g : withinZ b a = true) : a = b := by
  have half : ∀ {a b : List Txt}, Apart1 a → withinZ a b = true → withinZ b a = true → ∀ s ∈ a, s ∈ b := by
    intro a b ha h g s hs
    obtain ⟨t, ht, hst⟩ := covers_iff.1 (withinZ_iff.1 h s hs)
    obtain ⟨u, hu, htu⟩ := covers_iff.1 (withinZ_iff.1 g t ht)
    have e := ha s hs u hu (beg_trans hst htu)
    subst e
    rw [beg_antisymm hst htu]
    exact ht
  exact rising_ext ha.1 hb.1 fun t => ⟨half ha.2.1 h g t, half hb.2.1 g h t⟩
theorem within_self (a : List Txt) : withinZ a a = true := withinZ_iff.2 fun _ hs => covers_self hs

/-! ### a zone with itself -/
theorem least_self2 {z : List Txt} (h : Zone z) : least (z ++ z) = z := by
  rw [least_ext (a := z ++ z) (b := z) (fun t => by simp)]
  exact (zone_iff.1 h).2
theorem normE_ext {a b : List Txt} (h : ∀ t, t ∈ a ↔ t ∈ b) : normE a = normE b := by
  have e : a.all prefixB = b.all prefixB := by
    rw [Bool.eq_iff_iff, List.all_eq_true, List.all_eq_true]
    exact ⟨fun g t ht => g t ((h t).2 ht), fun g t ht => g t ((h t).1 ht)⟩
  unfold normE
  rw [e, least_ext h]
theorem normE_self2 {z : List Txt} (h : Zone z) : normE (z ++ z) = 0 := by
  rw [normE_ext (a := z ++ z) (b := z) (fun t => by simp)]
  exact (zone_iff.1 h).1
theorem inter_self {z : List Txt} (h : Zone z) : inter z z = z := rising_ext (rising_once _) h.1 fun t => by
  show t ∈ inter z z ↔ t ∈ z
  rw [mem_inter]
  exact ⟨fun g => g.elim (·.1) (·.1), fun g => .inl ⟨g, covers_self g⟩⟩
theorem without_self (z : List Txt) : without z z = [] := List.eq_nil_iff_forall_not_mem.2 fun s hs => by
  obtain ⟨h, g⟩ := mem_without.1 hs
  rw [covers_self h] at g
  exact absurd g (by decide)
theorem inter_nil (z : List Txt) : inter z [] = [] := List.eq_nil_iff_forall_not_mem.2 fun s hs => by
  rcases mem_inter.1 hs with ⟨-, h⟩ | ⟨h, -⟩
  · simp [covers] at h
  · simp at h
theorem without_nil {z : List Txt} (h : Zone z) : without z [] = z := rising_ext (rising_once _) h.1 fun t => by
  show t ∈ without z [] ↔ t ∈ z
  rw [mem_without]
  simp [covers]
theorem within_nil (z : List Txt) : withinZ [] z = true := rfl
end Go.Proofs.Ytgllaoanpemjlaa.Plain
