/- What the program's own way to a zone comes to, as plain mathematics: heads of a rising list are the least; a look at the neighbours tells what begins with what; all keys of one byte. -/
import Derived.Test.YthcpglbeiibniaaZMath
namespace Go.Proofs.Ythcpglbeiibniaa.Plain
set_option linter.unusedVariables false

theorem mem_gd {xs : List Txt} {k : Nat} (hk : k < xs.length) : xs.getD k [] ∈ xs := by
  rw [List.getD, List.getElem?_eq_getElem hk]
  exact List.getElem_mem hk
theorem gd_of {l : List Txt} {t : Txt} (h : t ∈ l) : ∃ j, j < l.length ∧ l.getD j [] = t := by
  obtain ⟨j, hj, rfl⟩ := List.getElem_of_mem h
  exact ⟨j, hj, by simp [List.getD, List.getElem?_eq_getElem hj]⟩
theorem take_nx {xs : List Txt} {k : Nat} (hk : k < xs.length) : xs.take (k + 1) = xs.take k ++ [xs.getD k []] := by
  rw [List.take_succ_eq_append_getElem hk]
  simp [List.getD, List.getElem?_eq_getElem hk]
theorem rising_gd {l : List Txt} (h : Rising l) {i j : Nat} (hij : i < j) (hj : j < l.length) : l.getD i [] < l.getD j [] := by
  have := List.pairwise_iff_getElem.1 h i j (by omega) hj hij
  simpa [List.getD, List.getElem?_eq_getElem hj, List.getElem?_eq_getElem (show i < l.length by omega)] using this
theorem le_of_beg {s p : Txt} (h : beg s p = true) : p < s ∨ p = s := by
  obtain ⟨r, rfl⟩ := beg_iff.1 h
  clear h
  induction p with
  | nil => cases r with
    | nil => exact .inr rfl
    | cons a r => exact .inl (by simp)
  | cons a p ih =>
    rcases ih with h | h
    · exact .inl (by rw [List.cons_append]; exact List.cons_lt_cons_iff.2 (.inr ⟨rfl, h⟩))
    · exact .inr (by rw [List.cons_append, ← h])
/-- what lies between a text and its beginning begins with that, too -/
theorem beg_mid : ∀ {u v s : Txt}, beg s u = true → (u < v ∨ u = v) → (v < s ∨ v = s) → beg v u = true
  | u, v, s, h, .inr e, _ => by rw [e]; exact beg_self v
  | u, v, s, h, _, .inr e => by rw [e]; exact h
  | [], v, s, h, _, _ => beg_iff.2 (List.nil_prefix)
  | a :: u, [], s, h, .inl g, _ => absurd g (by simp)
  | a :: u, b :: v, [], h, _, .inl g => absurd g (by simp)
  | a :: u, b :: v, c :: s, h, .inl g, .inl k => by
    obtain ⟨e, h0⟩ := List.cons_prefix_cons.1 (beg_iff.1 h)
    have h' := beg_iff.2 h0
    subst e
    rcases List.cons_lt_cons_iff.1 g with g1 | ⟨e1, g1⟩
    · rcases List.cons_lt_cons_iff.1 k with k1 | ⟨e2, k1⟩
      · exact absurd (UInt8.lt_trans g1 k1) (UInt8.lt_irrefl _)
      · rw [e2] at g1; exact absurd g1 (UInt8.lt_irrefl _)
    · subst e1
      rcases List.cons_lt_cons_iff.1 k with k1 | ⟨-, k1⟩
      · exact absurd k1 (UInt8.lt_irrefl _)
      · exact beg_iff.2 (List.cons_prefix_cons.2 ⟨rfl, beg_iff.1 (beg_mid h' (.inl g1) (.inl k1))⟩)

/-! ### heads, one behind the other -/
/-- of the first k of a rising list those that begin with no other one of it -/
def headsTo (r : List Txt) (k : Nat) : List Txt := (r.take k).filter (alone r)
theorem headsTo_zero (r : List Txt) : headsTo r 0 = [] := rfl
theorem headsTo_next {r : List Txt} {k : Nat} (hk : k < r.length) : headsTo r (k + 1) = if alone r (r.getD k []) = true then headsTo r k ++ [r.getD k []] else headsTo r k := by
  unfold headsTo
  rw [take_nx hk, List.filter_append]
  split
  · rename_i h
    simp only [List.filter_cons, h, if_true, List.filter_nil]
  · rename_i h
    rw [List.filter_cons, if_neg h, List.filter_nil, List.append_nil]
theorem mem_headsTo {r : List Txt} {k : Nat} {t : Txt} (h : t ∈ headsTo r k) : t ∈ r ∧ alone r t = true ∧ ∃ j, j < k ∧ j < r.length ∧ r.getD j [] = t := by
  obtain ⟨h1, h2⟩ := List.mem_filter.1 h
  obtain ⟨j, hj, e⟩ := gd_of h1
  rw [List.length_take] at hj
  have e2 : (r.take k).getD j [] = r.getD j [] := by simp [List.getD, show j < k by omega]
  exact ⟨List.mem_of_mem_take h1, h2, j, by omega, by omega, by rw [← e2]; exact e⟩
theorem headsTo_in {r : List Txt} (hr : Rising r) {k : Nat} {t : Txt} (ht : t ∈ r) (ha : alone r t = true) (hlt : t < r.getD k []) (hk : k < r.length) : t ∈ headsTo r k := by
  obtain ⟨j, hj, rfl⟩ := gd_of ht
  have hjk : j < k := by
    rcases Nat.lt_or_ge j k with g | g
    · exact g
    · rcases Nat.lt_or_eq_of_le g with g | g
      · exact absurd (rising_gd hr g hj) (lt_asymm hlt)
      · subst g; exact absurd hlt (lt_irrefl _)
  unfold headsTo
  refine List.mem_filter.2 ⟨?_, ha⟩
  rw [show r.getD j [] = (r.take k).getD j [] by simp [List.getD, hjk]]
  exact mem_gd (by rw [List.length_take]; omega)
/-- the next one begins with another one of the list just where it begins with the last head -/
theorem alone_next {r : List Txt} (hr : Rising r) {k : Nat} (hk : k < r.length) : alone r (r.getD k []) = ((headsTo r k).length == 0 || !beg (r.getD k []) ((headsTo r k).getD ((headsTo r k).length - 1) [])) := by
  generalize hs : r.getD k [] = s
  generalize hh : headsTo r k = H
  have hmem : s ∈ r := by rw [← hs]; exact mem_gd hk
  have hHr : Rising H := by rw [← hh]; exact (List.Pairwise.take hr).filter _
  rw [Bool.eq_iff_iff, Bool.or_eq_true, beq_iff_eq, Bool.not_eq_true']
  constructor
  · intro ha
    by_cases h0 : H.length = 0
    · exact .inl h0
    · refine .inr ?_
      have hin : H.getD (H.length - 1) [] ∈ H := mem_gd (by omega)
      generalize H.getD (H.length - 1) [] = t at hin
      cases hb : beg s t with
      | false => rfl
      | true =>
        exfalso
        rw [← hh] at hin
        obtain ⟨h1, h2, j, hj, hjl, e⟩ := mem_headsTo hin
        have h3 := alone_iff.1 ha t h1 hb
        have : r.getD j [] < r.getD k [] := rising_gd hr hj hk
        rw [e, hs, h3] at this
        exact lt_irrefl _ this
  · intro h
    rcases Classical.em (alone r s = true) with ha | ha
    · exact ha
    · exfalso
      obtain ⟨u, hu, hbu⟩ := least_below r s.length s (Nat.le_refl _) hmem
      obtain ⟨hur, hua⟩ := mem_least.1 hu
      have hne : u ≠ s := by
        rintro rfl
        exact ha (alone_iff.2 hua)
      have hus : u < s := (le_of_beg hbu).resolve_right hne
      have huH : u ∈ H := by rw [← hh]; exact headsTo_in hr hur (alone_iff.2 hua) (by rw [hs]; exact hus) hk
      have hpos : H.length ≠ 0 := by
        intro e
        rw [List.eq_nil_of_length_eq_zero e] at huH
        simp at huH
      have hf := h.resolve_left hpos
      obtain ⟨i, hi, e⟩ := gd_of huH
      have hin : H.getD (H.length - 1) [] ∈ H := mem_gd (by omega)
      have huv : u < H.getD (H.length - 1) [] ∨ u = H.getD (H.length - 1) [] := by
        by_cases e2 : i = H.length - 1
        · exact .inr (by rw [← e, e2])
        · exact .inl (by rw [← e]; exact rising_gd hHr (by omega) (by omega))
      generalize hv : H.getD (H.length - 1) [] = v at hin huv hf
      rw [← hh] at hin
      obtain ⟨h1, h2, j, hj, hjl, ej⟩ := mem_headsTo hin
      have hvs : v < s := by rw [← ej, ← hs]; exact rising_gd hr hj hk
      have hbv := beg_mid hbu huv (.inl hvs)
      have := alone_iff.1 h2 u hur hbv
      subst this
      rw [hbu] at hf
      exact absurd hf (by decide)
theorem heads_all (l : List Txt) : headsTo (once l) (once l).length = least l := by
  unfold headsTo
  rw [List.take_length]
  refine rising_ext ((rising_once l).filter _) (rising_once _) fun t => ?_
  show _ ↔ t ∈ least l
  rw [List.mem_filter, alone_iff, mem_least, mem_once]
  exact ⟨fun ⟨p, q⟩ => ⟨p, fun u hu => q u ((mem_once u l).2 hu)⟩, fun ⟨p, q⟩ => ⟨p, fun u hu => q u ((mem_once u l).1 hu)⟩⟩
theorem headsTo_len (r : List Txt) (k : Nat) : (headsTo r k).length ≤ r.length := by
  unfold headsTo
  have := List.length_filter_le (alone r) (r.take k)
  rw [List.length_take] at this
  omega

/-! ### a look at the neighbours -/
/-- where s stands among heads: k of them are lesser -/
theorem covers_near {z : List Txt} (hr : Rising z) (ha : Apart1 z) {s : Txt} {k : Nat} (hk : k ≤ z.length) (h1 : ∀ j, j < k → z.getD j [] < s) (h2 : ∀ j, k ≤ j → j < z.length → ¬ z.getD j [] < s) :
    covers z s = (decide (k < z.length ∧ z.getD k [] = s) || (decide (0 < k) && beg s (z.getD (k - 1) []))) := by
  rw [Bool.eq_iff_iff, Bool.or_eq_true, Bool.and_eq_true, decide_eq_true_iff, decide_eq_true_iff]
  constructor
  · intro h
    obtain ⟨p, hp, hb⟩ := covers_iff.1 h
    obtain ⟨j, hj, rfl⟩ := gd_of hp
    rcases le_of_beg hb with g | g
    · have hjk : j < k := by
        rcases Nat.lt_or_ge j k with q | q
        · exact q
        · exact absurd g (h2 j q hj)
      refine .inr ⟨by omega, ?_⟩
      have hv : z.getD (k - 1) [] < s := h1 _ (by omega)
      have hm : z.getD j [] < z.getD (k - 1) [] ∨ z.getD j [] = z.getD (k - 1) [] := by
        by_cases e : j = k - 1
        · exact .inr (by rw [e])
        · exact .inl (rising_gd hr (by omega) (by omega))
      have hbv := beg_mid hb hm (.inl hv)
      have := ha _ (mem_gd (show k - 1 < z.length by omega)) _ hp hbv
      rw [← this]
      exact hb
    · refine .inl ?_
      by_cases hjk : j < k
      · have := h1 j hjk
        rw [g] at this
        exact absurd this (lt_irrefl _)
      · by_cases e : j = k
        · exact ⟨by omega, by rw [← e]; exact g⟩
        · have := rising_gd hr (show k < j by omega) hj
          rw [g] at this
          exact absurd this (h2 k (Nat.le_refl _) (by omega))
  · rintro (⟨h, e⟩ | ⟨h, hb⟩)
    · rw [← e]; exact covers_self (mem_gd h)
    · exact covers_iff.2 ⟨_, mem_gd (by omega), hb⟩
/-- of a rising list those below s stand ahead of the others -/
theorem parted {z : List Txt} (hr : Rising z) (s : Txt) : ∃ k, k ≤ z.length ∧ (∀ j, j < k → z.getD j [] < s) ∧ ∀ j, k ≤ j → j < z.length → ¬ z.getD j [] < s := by
  have key : ∀ m, m ≤ z.length → ∃ k, k ≤ m ∧ (∀ j, j < k → z.getD j [] < s) ∧ ∀ j, k ≤ j → j < m → ¬ z.getD j [] < s := by
    intro m
    induction m with
    | zero => intro _; exact ⟨0, Nat.le_refl _, fun j hj => absurd hj (Nat.not_lt_zero _), fun j _ hj => absurd hj (Nat.not_lt_zero _)⟩
    | succ m ih =>
      intro hm
      obtain ⟨k, hk, h1, h2⟩ := ih (by omega)
      by_cases g : z.getD m [] < s
      · have hkm : k = m := by
          rcases Nat.lt_or_ge k m with q | q
          · exact absurd (lt_trans (rising_gd hr q (by omega)) g) (h2 k (Nat.le_refl _) q)
          · omega
        subst hkm
        refine ⟨k + 1, Nat.le_refl _, fun j hj => ?_, fun j hj hj2 => by omega⟩
        by_cases e : j = k
        · rw [e]; exact g
        · exact h1 j (by omega)
      · refine ⟨k, by omega, h1, fun j hj hj2 => ?_⟩
        by_cases e : j = m
        · rw [e]; exact g
        · exact h2 j hj (by omega)
  exact key _ (Nat.le_refl _)

/-! ### is it a zone? a look at the neighbours -/
/-- the first k of z may stand in a zone -/
def RightTo (z : List Txt) (k : Nat) : Prop := (∀ j, j < k → prefixB (z.getD j []) = true) ∧ ∀ j, 0 < j → j < k → z.getD (j - 1) [] < z.getD j [] ∧ beg (z.getD j []) (z.getD (j - 1) []) = false
theorem rightTo_zero (z : List Txt) : RightTo z 0 := ⟨fun j hj => absurd hj (Nat.not_lt_zero _), fun j _ hj => absurd hj (Nat.not_lt_zero _)⟩
theorem rightTo_next {z : List Txt} {k : Nat} (h : RightTo z k) (hp : prefixB (z.getD k []) = true) (hn : 0 < k → z.getD (k - 1) [] < z.getD k [] ∧ beg (z.getD k []) (z.getD (k - 1) []) = false) : RightTo z (k + 1) := by
  refine ⟨fun j hj => ?_, fun j h0 hj => ?_⟩
  · by_cases e : j = k
    · rw [e]; exact hp
    · exact h.1 j (by omega)
  · by_cases e : j = k
    · rw [e] at h0 ⊢; exact hn h0
    · exact h.2 j h0 (by omega)
theorem rightTo_less {z : List Txt} {n : Nat} (h : RightTo z n) : ∀ d i, i + d + 1 < n → z.getD i [] < z.getD (i + d + 1) []
  | 0, i, hi => by have := (h.2 (i + 1) (by omega) (by omega)).1; simpa using this
  | d + 1, i, hi => by
    have h1 := rightTo_less h d i (by omega)
    have h2 := (h.2 (i + d + 2) (by omega) (by omega)).1
    rw [show i + d + 2 - 1 = i + d + 1 by omega] at h2
    exact lt_trans h1 h2
theorem right_zone {z : List Txt} (hl : z.length ≤ 8) (h : RightTo z z.length) : Zone z := by
  have hlt : ∀ i j, i < j → j < z.length → z.getD i [] < z.getD j [] := fun i j hij hj => by
    have := rightTo_less h (j - i - 1) i (by omega)
    rwa [show i + (j - i - 1) + 1 = j by omega] at this
  have hr : Rising z := List.pairwise_iff_getElem.2 fun i j hi hj hij => by
    have := hlt i j hij hj
    simpa [List.getD, List.getElem?_eq_getElem hj, List.getElem?_eq_getElem hi] using this
  refine ⟨hr, fun s hs t ht hb => ?_, ?_, hl⟩
  · obtain ⟨i, hi, rfl⟩ := gd_of hs
    obtain ⟨j, hj, rfl⟩ := gd_of ht
    rcases Nat.lt_or_ge j i with g | g
    · exfalso
      have hm : z.getD (j + 1) [] < z.getD i [] ∨ z.getD (j + 1) [] = z.getD i [] := by
        by_cases e : j + 1 = i
        · exact .inr (by rw [e])
        · exact .inl (hlt _ _ (by omega) hi)
      have hb2 := beg_mid hb (.inl (hlt j (j + 1) (by omega) (by omega))) hm
      have := (h.2 (j + 1) (by omega) (by omega)).2
      rw [show j + 1 - 1 = j by omega, hb2] at this
      exact absurd this (by decide)
    · by_cases e : i = j
      · rw [e]
      · rcases le_of_beg hb with q | q
        · exact absurd q (lt_asymm (hlt i j (by omega) hj))
        · exact q
  · rw [List.all_eq_true]
    intro s hs
    obtain ⟨i, hi, rfl⟩ := gd_of hs
    exact h.1 i hi
theorem zone_right {z : List Txt} (h : Zone z) : z.length ≤ 8 ∧ RightTo z z.length := by
  obtain ⟨h1, h2, h3, h4⟩ := h
  rw [List.all_eq_true] at h3
  refine ⟨h4, fun j hj => h3 _ (mem_gd hj), fun j h0 hj => ⟨rising_gd h1 (by omega) hj, ?_⟩⟩
  cases hb : beg (z.getD j []) (z.getD (j - 1) []) with
  | false => rfl
  | true =>
    have e := h2 _ (mem_gd hj) _ (mem_gd (show j - 1 < z.length by omega)) hb
    have := rising_gd h1 (show j - 1 < j by omega) hj
    rw [e] at this
    exact absurd this (lt_irrefl _)

/-! ### all keys of one byte -/
/-- the first k bytes: each that may stand in a key begins with one of z -/
def allTo (z : List Txt) (k : Nat) : Prop := ∀ b, b < k → okByte (UInt8.ofNat b) = true → covers z [UInt8.ofNat b] = true
def allB (z : List Txt) : Bool := (List.range 256).all fun b => !okByte (UInt8.ofNat b) || covers z [UInt8.ofNat b]
theorem allB_true {z : List Txt} (h : allTo z 256) : allB z = true := by
  unfold allB
  rw [List.all_eq_true]
  intro b hb
  cases g : okByte (UInt8.ofNat b) with
  | false => rfl
  | true => rw [h b (List.mem_range.1 hb) g]; rfl
theorem allB_false {z : List Txt} (b : Nat) (hb : b < 256) (h : okByte (UInt8.ofNat b) = true) (g : covers z [UInt8.ofNat b] = false) : allB z = false := by
  cases e : allB z with
  | false => rfl
  | true =>
    unfold allB at e
    rw [List.all_eq_true] at e
    have := e b (List.mem_range.2 hb)
    rw [h, g] at this
    exact absurd this (by decide)
theorem nodup_len : ∀ {a b : List Txt}, a.Nodup → (∀ t ∈ a, t ∈ b) → a.length ≤ b.length
  | [], _, _, _ => Nat.zero_le _
  | x :: a, b, hn, hs => by
    have hx : x ∈ b := hs x List.mem_cons_self
    have hn' := List.nodup_cons.1 hn
    have := nodup_len (a := a) (b := b.erase x) hn'.2 fun t ht => (List.mem_erase_of_ne (by rintro rfl; exact hn'.1 ht)).2 (hs t (List.mem_cons_of_mem _ ht))
    rw [List.length_erase_of_mem hx] at this
    have := List.length_pos_of_mem hx
    rw [List.length_cons]
    omega
/-- the keys of one byte -/
def ones : List Txt := ((List.range 256).filter fun b => okByte (UInt8.ofNat b)).map fun b => [UInt8.ofNat b]
theorem ones_len : ones.length = 37 := by decide +kernel
theorem ones_nodup : ones.Nodup := by decide +kernel
/-- fewer texts than there are keys of one byte cover all of these only with the empty one -/
theorem all_nil {z : List Txt} (hl : z.length ≤ 36) (h : allB z = true) : [] ∈ z := by
  rcases Classical.em ([] ∈ z) with g | g
  · exact g
  · exfalso
    have hs : ∀ t ∈ ones, t ∈ z := by
      intro t ht
      obtain ⟨b, hb, rfl⟩ := List.mem_map.1 ht
      obtain ⟨hb1, hb2⟩ := List.mem_filter.1 hb
      unfold allB at h
      rw [List.all_eq_true] at h
      have hc := h b hb1
      rw [hb2] at hc
      obtain ⟨p, hp, hbp⟩ := covers_iff.1 (by simpa using hc)
      have hle := (beg_iff.1 hbp).length_le
      cases p with
      | nil => exact absurd hp g
      | cons c p =>
        have : c :: p = [UInt8.ofNat b] := List.IsPrefix.eq_of_length (beg_iff.1 hbp) (by simp at hle ⊢; exact hle)
        rw [← this]; exact hp
    have := nodup_len ones_nodup hs
    rw [ones_len] at this
    omega
theorem least_nil {l : List Txt} (h : [] ∈ least l) : least l = [[]] := by
  refine rising_ext (rising_once _) (List.pairwise_singleton _ _) fun t => ?_
  show t ∈ least l ↔ t ∈ [[]]
  rw [List.mem_singleton]
  constructor
  · intro ht
    exact ((mem_least.1 ht).2 [] (mem_least.1 h).1 (beg_iff.2 List.nil_prefix)).symm
  · rintro rfl
    exact h
/-- Norm as the program answers it: the error, the zone -/
def nE (l : List Txt) : Nat := if l.all prefixB = true then (if allB (least l) = true then 0 else if 8 < (least l).length then 4 else 0) else 2
def nV (l : List Txt) : List Txt := if nE l = 0 then (if allB (least l) = true then [[]] else least l) else []
/-- of at most 36 texts it is the document's own -/
theorem nE_few {l : List Txt} (hl : l.length ≤ 36) : nE l = normE l := by
  unfold nE normE
  split
  · split
    · rename_i h
      have := least_len l
      rw [least_nil (all_nil (by omega) h), if_neg (by simp)]
    · rfl
  · rfl
theorem nV_few {l : List Txt} (hl : l.length ≤ 36) : nV l = if normE l = 0 then least l else [] := by
  unfold nV
  rw [nE_few hl]
  split
  · split
    · rename_i h
      have := least_len l
      rw [least_nil (all_nil (by omega) h)]
    · rfl
  · rfl
end Go.Proofs.Ythcpglbeiibniaa.Plain
