/- The program's own way with items as plain mathematics: what its comparison tells, what it keeps of a sorted list, the keys that it asks at once. -/
import Derived.Test.YtpkmjddjllpglaaIMath
import Derived.Lib.Bytealg
import Derived.Lib.Small
namespace Go.Proofs.Ytpkmjddjllpglaa.Plain
set_option linter.unusedVariables false

/-! ### the comparison -/
/-- the first one that is not nought -/
def firstNZ : List Int → Int
  | [] => 0
  | x :: l => if x = 0 then firstNZ l else x
def tcmp (a b : Txt) : Int := Lib.compareBytes a b
theorem tcmp_spec : ∀ a b : Txt, (tcmp a b < 0 ↔ a < b) ∧ (tcmp a b = 0 ↔ a = b)
  | [], [] => ⟨⟨fun h => absurd h (by decide), fun h => absurd h (lt_irrefl [])⟩, ⟨fun _ => rfl, fun _ => rfl⟩⟩
  | [], y :: b => ⟨⟨fun _ => List.nil_lt_cons y b, fun _ => (by decide : (-1 : Int) < 0)⟩, ⟨fun h => absurd h (by decide : ¬ (-1 : Int) = 0), fun h => absurd h (by simp)⟩⟩
  | x :: a, [] => ⟨⟨fun h => absurd h (by decide : ¬ (1 : Int) < 0), fun h => absurd h (by simp)⟩, ⟨fun h => absurd h (by decide : ¬ (1 : Int) = 0), fun h => absurd h (by simp)⟩⟩
  | x :: a, y :: b => by
    have ih := tcmp_spec a b
    unfold tcmp at ih ⊢
    unfold Lib.compareBytes
    rw [List.cons_lt_cons_iff, List.cons.injEq]
    by_cases h : x < y
    · rw [if_pos h]
      refine ⟨⟨fun _ => .inl h, fun _ => by decide⟩, ⟨fun e => absurd e (by decide), fun e => ?_⟩⟩
      rw [e.1] at h
      exact absurd h (UInt8.lt_irrefl y)
    · rw [if_neg h]
      by_cases g : y < x
      · rw [if_pos g]
        refine ⟨⟨fun e => absurd e (by decide), fun e => ?_⟩, ⟨fun e => absurd e (by decide), fun e => ?_⟩⟩
        · rcases e with e | ⟨e, -⟩
          · exact absurd e h
          · rw [e] at g; exact absurd g (UInt8.lt_irrefl y)
        · rw [e.1] at g; exact absurd g (UInt8.lt_irrefl y)
      · rw [if_neg g]
        have e : x = y := UInt8.le_antisymm (UInt8.not_lt.1 g) (UInt8.not_lt.1 h)
        subst e
        refine ⟨ih.1.trans ⟨fun k => .inr ⟨rfl, k⟩, fun k => k.elim (fun k => absurd k h) fun k => k.2⟩, ih.2.trans ⟨fun k => ⟨rfl, k⟩, fun k => k.2⟩⟩
theorem icmp_spec (x y : Int) : (Lib.compareInt x y < 0 ↔ x < y) ∧ (Lib.compareInt x y = 0 ↔ x = y) := by
  unfold Lib.compareInt
  split
  · refine ⟨⟨fun _ => by omega, fun _ => by decide⟩, ⟨fun e => absurd e (by decide), fun e => by omega⟩⟩
  · split
    · refine ⟨⟨fun e => absurd e (by decide), fun e => by omega⟩, ⟨fun e => absurd e (by decide), fun e => by omega⟩⟩
    · refine ⟨⟨fun e => absurd e (by decide), fun e => by omega⟩, ⟨fun e => by omega, fun e => rfl⟩⟩
theorem firstNZ_step {c : Int} {l : List Int} {lt eq r : Prop} (h : (c < 0 ↔ lt) ∧ (c = 0 ↔ eq)) (hr : firstNZ l < 0 ↔ r) : firstNZ (c :: l) < 0 ↔ lt ∨ (eq ∧ r) := by
  rw [firstNZ]
  by_cases e : c = 0
  · rw [if_pos e, hr]
    have hl : ¬ lt := fun k => by have := h.1.2 k; omega
    exact ⟨fun k => .inr ⟨h.2.1 e, k⟩, fun k => k.elim (fun k => absurd k hl) fun k => k.2⟩
  · rw [if_neg e, h.1]
    exact ⟨.inl, fun k => k.elim id fun k => absurd (h.2.2 k.1) e⟩
theorem firstNZ_last {c : Int} {lt eq : Prop} (h : (c < 0 ↔ lt) ∧ (c = 0 ↔ eq)) : firstNZ [c] < 0 ↔ lt := by
  rw [firstNZ, firstNZ]
  split
  · rename_i e
    rw [← h.1, e]
  · exact h.1
/-- the eight numbers -/
def cmps (x y : PItem) : List Int := [tcmp x.key y.key, tcmp x.field y.field, Lib.compareInt x.kind y.kind, Lib.compareInt x.dot.node y.dot.node, Lib.compareInt x.dot.seq y.dot.seq, Lib.compareInt x.dot.pos y.dot.pos, tcmp x.elem y.elem, Lib.compareInt x.n y.n]
def icmp (x y : PItem) : Int := firstNZ (cmps x y)
theorem icmp_lt (x y : PItem) : icmp x y < 0 ↔ iless x y := by
  unfold icmp cmps iless
  exact firstNZ_step (tcmp_spec _ _) (firstNZ_step (tcmp_spec _ _) (firstNZ_step (icmp_spec _ _) (firstNZ_step (icmp_spec _ _) (firstNZ_step (icmp_spec _ _) (firstNZ_step (icmp_spec _ _) (firstNZ_step (tcmp_spec _ _) (firstNZ_last (icmp_spec _ _))))))))
theorem icmp_dec (x y : PItem) : decide (icmp x y < 0) = lessB x y := by
  unfold lessB
  exact decide_eq_decide.2 (icmp_lt x y)

/-! ### those that stay, by their places -/
section
variable {α : Type} [Inhabited α]
def pickK (f : Nat → Bool) (xs : List α) : Nat → List α
  | 0 => []
  | k + 1 => if f k then pickK f xs k ++ [xs.getD k default] else pickK f xs k
theorem pickK_yes {f : Nat → Bool} {xs : List α} {k : Nat} (h : f k = true) : pickK f xs (k + 1) = pickK f xs k ++ [xs.getD k default] := by rw [pickK, if_pos h]
theorem pickK_no {f : Nat → Bool} {xs : List α} {k : Nat} (h : f k = false) : pickK f xs (k + 1) = pickK f xs k := by rw [pickK, if_neg (by rw [h]; decide)]
theorem pickK_len (f : Nat → Bool) (xs : List α) : ∀ k, (pickK f xs k).length ≤ k
  | 0 => Nat.le_refl _
  | k + 1 => by
    have := pickK_len f xs k
    rw [pickK]
    split
    · rw [List.length_append]; simp; omega
    · omega
theorem take_nextD {xs : List α} {k : Nat} (hk : k < xs.length) : xs.take (k + 1) = xs.take k ++ [xs.getD k default] := by
  rw [List.take_succ_eq_append_getElem hk]
  simp [List.getD, List.getElem?_eq_getElem hk]
theorem pickK_pred (p : α → Bool) (xs : List α) : ∀ k, k ≤ xs.length → pickK (fun j => p (xs.getD j default)) xs k = (xs.take k).filter p
  | 0, _ => by simp [pickK]
  | k + 1, h => by
    rw [pickK, pickK_pred p xs k (by omega), take_nextD (by omega), List.filter_append]
    split
    · rename_i e; rw [List.filter_cons, if_pos e, List.filter_nil]
    · rename_i e; rw [List.filter_cons, if_neg e, List.filter_nil, List.append_nil]
theorem pickK_all (p : α → Bool) (xs : List α) : pickK (fun j => p (xs.getD j default)) xs xs.length = xs.filter p := by
  rw [pickK_pred p xs _ (Nat.le_refl _), List.take_length]
theorem pickK_cong {f g : Nat → Bool} (xs : List α) : ∀ k, (∀ j, j < k → f j = g j) → pickK f xs k = pickK g xs k
  | 0, _ => rfl
  | k + 1, h => by rw [pickK, pickK, pickK_cong xs k (fun j hj => h j (by omega)), h k (by omega)]
end

/-! ### Norm: sorted, and of one dot the first -/
def dotsUpTo (xs : List PItem) (k : Nat) : List PDot := (xs.take k).map (·.dot)
theorem dotsUpTo_next {xs : List PItem} {k : Nat} (hk : k < xs.length) : dotsUpTo xs (k + 1) = dotsUpTo xs k ++ [(xs.getD k default).dot] := by
  unfold dotsUpTo
  rw [take_nextD hk, List.map_append]
  rfl
def fresh (xs : List PItem) (k : Nat) : Bool := !hasDot (dotsUpTo xs k) (xs.getD k default).dot
theorem fresh_iff {xs : List PItem} {k : Nat} : fresh xs k = true ↔ ∀ y ∈ xs.take k, y.dot ≠ (xs.getD k default).dot := by
  unfold fresh
  rw [Bool.not_eq_true', ← Bool.not_eq_true, hasDot_iff]
  unfold dotsUpTo
  rw [List.mem_map]
  constructor
  · intro h y hy e
    exact h ⟨y, hy, e⟩
  · rintro h ⟨y, hy, e⟩
    exact h y hy e
theorem pick_fresh {xs : List PItem} (hs : xs.Pairwise fun a b => ¬ iless b a) : ∀ k, k ≤ xs.length → Ris iless (pickK (fresh xs) xs k) ∧ ∀ t, t ∈ pickK (fresh xs) xs k ↔ t ∈ xs.take k ∧ ∀ y ∈ xs.take k, y.dot = t.dot → ¬ iless y t
  | 0, _ => ⟨List.Pairwise.nil, fun t => by simp [pickK]⟩
  | k + 1, hk => by
    obtain ⟨hr, hm⟩ := pick_fresh hs k (by omega)
    have hlt : k < xs.length := by omega
    have hx : ∀ y ∈ xs.take k, ¬ iless (xs.getD k default) y := by
      intro y hy
      have h2 := hs.sublist (List.take_sublist (k + 1) xs)
      rw [take_nextD hlt] at h2
      exact (List.pairwise_append.1 h2).2.2 y hy _ (List.mem_singleton.2 rfl)
    have hmem : ∀ t, t ∈ xs.take (k + 1) ↔ t ∈ xs.take k ∨ t = xs.getD k default := fun t => by rw [take_nextD hlt, List.mem_append, List.mem_singleton]
    have hfr := fresh_iff (xs := xs) (k := k)
    cases hf : fresh xs k with
    | true =>
      have hn := hfr.1 hf
      rw [pickK_yes hf]
      refine ⟨List.pairwise_append.2 ⟨hr, by simp, fun t ht u hu => ?_⟩, fun t => ?_⟩
      · rw [List.mem_singleton.1 hu]
        have h1 := ((hm t).1 ht).1
        exact sto_item.total (hx t h1) fun e => hn t h1 (by rw [← e])
      · rw [List.mem_append, List.mem_singleton, hm, hmem]
        constructor
        · rintro (⟨h1, h2⟩ | rfl)
          · refine ⟨.inl h1, fun y hy e => ?_⟩
            rcases (hmem y).1 hy with hy | rfl
            · exact h2 y hy e
            · exact absurd e.symm (hn t h1)
          · refine ⟨.inr rfl, fun y hy e => ?_⟩
            rcases (hmem y).1 hy with hy | rfl
            · exact absurd e (hn y hy)
            · exact sto_item.irrefl _
        · rintro ⟨h1 | h1, h2⟩
          · exact .inl ⟨h1, fun y hy e => h2 y ((hmem y).2 (.inl hy)) e⟩
          · exact .inr h1
    | false =>
      have hn : ∃ y ∈ xs.take k, y.dot = (xs.getD k default).dot := Classical.byContradiction fun h => by
        have := hfr.2 fun y hy e => h ⟨y, hy, e⟩
        rw [hf] at this
        cases this
      obtain ⟨y0, hy0, e0⟩ := hn
      rw [pickK_no hf]
      refine ⟨hr, fun t => ?_⟩
      rw [hm, hmem]
      constructor
      · rintro ⟨h1, h2⟩
        refine ⟨.inl h1, fun y hy e => ?_⟩
        rcases (hmem y).1 hy with hy | rfl
        · exact h2 y hy e
        · exact hx t h1
      · rintro ⟨h1, h2⟩
        have h3 : ∀ y ∈ xs.take k, y.dot = t.dot → ¬ iless y t := fun y hy e => h2 y ((hmem y).2 (.inl hy)) e
        rcases h1 with h1 | rfl
        · exact ⟨h1, h3⟩
        · have e := sto_item.conn (h3 y0 hy0 e0) (hx y0 hy0)
          exact ⟨by rw [← e]; exact hy0, h3⟩
def isort (xs : List PItem) : List PItem := xs.mergeSort fun x y => !lessB y x
theorem isort_pairwise (xs : List PItem) : (isort xs).Pairwise fun a b => ¬ iless b a := by
  have := List.pairwise_mergeSort (le := fun x y : PItem => !lessB y x) (fun a b c h g => by
    unfold lessB at *
    simp only [Bool.not_eq_true', decide_eq_false_iff_not] at *
    intro k
    by_cases e : b = c
    · subst e; exact h k
    · exact h (sto_item.trans (sto_item.total g (fun e2 => e e2.symm)) k)) (fun a b => by
    unfold lessB
    simp only [Bool.or_eq_true, Bool.not_eq_true', decide_eq_false_iff_not]
    by_cases k : iless b a
    · exact .inr (sto_item.asymm k)
    · exact .inl k) xs
  refine this.imp fun h => ?_
  unfold lessB at h
  simpa using h
theorem isort_len (xs : List PItem) : (isort xs).length = xs.length := List.length_mergeSort _
theorem isort_mem {xs : List PItem} {t : PItem} : t ∈ isort xs ↔ t ∈ xs := List.mem_mergeSort
theorem norm_way (xs : List PItem) : pickK (fresh (isort xs)) (isort xs) (isort xs).length = inorm xs := by
  obtain ⟨hr, hm⟩ := pick_fresh (isort_pairwise xs) _ (Nat.le_refl _)
  refine ris_ext sto_item hr (ris_inorm xs) fun t => ?_
  rw [hm, mem_inorm, List.take_length, isort_mem]
  exact ⟨fun ⟨h, g⟩ => ⟨h, fun y hy => g y (isort_mem.2 hy)⟩, fun ⟨h, g⟩ => ⟨h, fun y hy => g y (isort_mem.1 hy)⟩⟩

/-! ### Keys, Under -/
def keyNew (xs : List PItem) (k : Nat) : Bool := decide (k = 0) || !decide ((xs.getD k default).key = (xs.getD (k - 1) default).key)
def keysUpTo (xs : List PItem) : Nat → List Txt
  | 0 => []
  | k + 1 => if keyNew xs k then keysUpTo xs k ++ [(xs.getD k default).key] else keysUpTo xs k
theorem keysUpTo_yes {xs : List PItem} {k : Nat} (h : keyNew xs k = true) : keysUpTo xs (k + 1) = keysUpTo xs k ++ [(xs.getD k default).key] := by rw [keysUpTo, if_pos h]
theorem keysUpTo_no {xs : List PItem} {k : Nat} (h : keyNew xs k = false) : keysUpTo xs (k + 1) = keysUpTo xs k := by rw [keysUpTo, if_neg (by rw [h]; decide)]
theorem keysUpTo_len (xs : List PItem) : ∀ k, (keysUpTo xs k).length ≤ k
  | 0 => Nat.le_refl _
  | k + 1 => by
    have := keysUpTo_len xs k
    rw [keysUpTo]
    split
    · rw [List.length_append]; simp; omega
    · omega
theorem mem_keysUpTo (xs : List PItem) : ∀ k, k ≤ xs.length → ∀ t, t ∈ keysUpTo xs k ↔ t ∈ (xs.take k).map (·.key)
  | 0, _, t => by simp [keysUpTo]
  | k + 1, h, t => by
    have ih := mem_keysUpTo xs k (by omega) t
    rw [take_nextD (by omega), List.map_append, List.mem_append, keysUpTo]
    split
    · rw [List.mem_append, ih]; rfl
    · rename_i hn
      rw [ih]
      refine ⟨.inl, fun g => g.elim id fun g => ?_⟩
      have hk : ¬ k = 0 ∧ (xs.getD k default).key = (xs.getD (k - 1) default).key := by
        unfold keyNew at hn
        simp only [Bool.or_eq_true, decide_eq_true_eq, Bool.not_eq_true', decide_eq_false_iff_not, not_or, Classical.not_not] at hn
        exact hn
      have e : t = (xs.getD k default).key := by simpa using g
      rw [e, hk.2]
      refine List.mem_map.2 ⟨xs.getD (k - 1) default, ?_, rfl⟩
      have e2 : (xs.take k).getD (k - 1) default = xs.getD (k - 1) default := by simp [List.getD, show k - 1 < k by omega]
      rw [← e2]
      have hl : k - 1 < (xs.take k).length := by rw [List.length_take]; omega
      have e3 : (xs.take k).getD (k - 1) default = (xs.take k)[k - 1] := by rw [List.getD, List.getElem?_eq_getElem hl]; rfl
      rw [e3]
      exact List.getElem_mem hl
theorem keys_way (xs : List PItem) : once (keysUpTo xs xs.length) = ikeys xs := once_ext fun t => by rw [mem_keysUpTo xs _ (Nat.le_refl _), List.take_length]
theorem under_way {xs : List PItem} {zs : List Txt} {x : PItem} (hx : x ∈ xs) : (!decide (x.key ∈ without (ikeys xs) zs)) = covers zs x.key := by
  have h : x.key ∈ ikeys xs := by unfold ikeys; rw [mem_once]; exact List.mem_map.2 ⟨x, hx, rfl⟩
  cases hc : covers zs x.key with
  | true =>
    rw [decide_eq_false fun k => by have := (mem_without.1 k).2; rw [hc] at this; cases this]
    rfl
  | false =>
    rw [decide_eq_true (mem_without.2 ⟨h, hc⟩)]
    rfl

/-! ### Size -/
theorem isize_take (xs : List PItem) {k : Nat} (hk : k < xs.length) : isize (xs.take (k + 1)) = isize (xs.take k) + isize1 (xs.getD k default) := by
  rw [take_nextD hk, isize_append]
  simp [isize]
theorem isize_take_le (xs : List PItem) (k : Nat) : isize (xs.take k) ≤ isize xs := by
  have h := isize_append (xs.take k) (xs.drop k)
  rw [List.take_append_drop] at h
  omega
end Go.Proofs.Ytpkmjddjllpglaa.Plain
