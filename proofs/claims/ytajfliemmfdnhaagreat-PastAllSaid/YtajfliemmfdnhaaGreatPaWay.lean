/- The program's own way through a past, as plain mathematics: floors longer than there are nodes; what the loops over its list say; what is left of a list whose row is rewritten in place. -/
import Derived.Test.YtajfliemmfdnhaaGreatPaMath
namespace Go.Proofs.YtajfliemmfdnhaaGreat.Plain
set_option linter.unusedVariables false

theorem take_says (v : Ints) (m i : Nat) : says (v.take m) i = if i < m then says v i else 0 := by
 unfold says
 simp only [List.getD_eq_getElem?_getD, List.getElem?_take]
 split <;> simp
theorem oNext_far (v : Ints) (t : PTxn) {i : Nat} (h : 8 ≤ i) : says (oNext v t) i = says v i := by
 rw [oNext_says]
 split
 ·rename_i e
  have := (oValid_iff.1 e.1).1
  omega
 ·rfl
theorem oEnd_far : ∀ (l : List PTxn) (v : Ints) {i : Nat}, 8 ≤ i → says (oEnd v l) i = says v i
 | [], v, i, _ => rfl
 | t :: l, v, i, h => by rw [oEnd_cons, oEnd_far l _ h, oNext_far v t h]
theorem oEnd_at : ∀ (l : List PTxn) (u v : Ints) (i : Nat), says u i = says v i → says (oEnd u l) i = says (oEnd v l) i
 | [], u, v, i, h => h
 | t :: l, u, v, i, h => by
  rw [oEnd_cons, oEnd_cons]
  refine oEnd_at l _ _ i ?_
  rw [oNext_says, oNext_says, h]
def pOthers (v : Ints) : Ints := List.replicate (min 8 v.length) 0 ++ v.drop 8
theorem pOthers_says (v : Ints) (i : Nat) : says (pOthers v) i = if i < 8 then 0 else says v i := by
 unfold says pOthers
 simp only [List.getD_eq_getElem?_getD]
 by_cases h : i < min 8 v.length
 ·rw [List.getElem?_append_left (by rw [List.length_replicate]; exact h), List.getElem?_replicate, if_pos h, if_pos (by omega)]
  rfl
 ·rw [List.getElem?_append_right (by rw [List.length_replicate]; omega), List.length_replicate, List.getElem?_drop]
  by_cases h8 : i < 8
  ·rw [if_pos h8, List.getElem?_eq_none (by omega)]
   rfl
  ·rw [if_neg h8]
   by_cases hl : 8 ≤ v.length
   ·rw [show 8 + (i - min 8 v.length) = i by omega]
   ·rw [List.getElem?_eq_none (by omega), List.getElem?_eq_none (by omega)]
theorem pEnd_way (p : PPast) : join (oEnd (p.floor.take 8) p.list) (pOthers p.floor) = pEnd p := by
 refine short_ext (join_short _ _) (pEnd_short _) fun i => ?_
 rw [join_says, pEnd_says, pOthers_says]
 have h0 := says_pos (oEnd (p.floor.take 8) p.list) i
 have h1 := says_pos p.floor i
 by_cases h : i < 8
 ·rw [if_pos h, oEnd_at p.list (p.floor.take 8) p.floor i (by rw [take_says, if_pos h])] at *
  omega
 ·rw [if_neg h, oEnd_far _ _ (by omega), oEnd_far _ _ (by omega), take_says, if_neg h]
  omega
theorem formed_deps {t : PTxn} (h : tformedB t = true) : t.deps.length ≤ 8 := by
 have h2 := (tformed_parts.1 h).2.1
 unfold depsB at h2
 rw [Bool.and_eq_true, decide_eq_true_iff] at h2
 exact h2.1
theorem within_at {d u v : Ints} (hd : d.length ≤ 8) (h : ∀ i, i < 8 → says u i = says v i) : within d u = within d v := by
 rw [Bool.eq_iff_iff, within_iff, within_iff]
 constructor
 ·exact fun g => within_of fun i hi => by rw [← h i (by omega)]; exact g i
 ·exact fun g => within_of fun i hi => by rw [h i (by omega)]; exact g i
theorem oReady_at {u v : Ints} {t : PTxn} (h : ∀ i, i < 8 → says u i = says v i) (hf : tformedB t = true) : oReady u t = oReady v t := by
 have hv := (oValid_iff.1 (oFormed_valid hf)).1
 unfold oReady
 rw [within_at (formed_deps hf) h, saysI_of hv.1, saysI_of hv.1, h _ (by omega)]
theorem oChain_at : ∀ {l : List PTxn} {u v : Ints}, (∀ i, i < 8 → says u i = says v i) → (∀ t ∈ l, tformedB t = true) → oChain u l = oChain v l
 | [], u, v, _, _ => rfl
 | t :: l, u, v, h, hf => by
  have h1 := oReady_at h (hf t List.mem_cons_self)
  have h2 : oChain (oNext u t) l = oChain (oNext v t) l := oChain_at (fun i hi => by rw [oNext_says, oNext_says, h i hi]) fun x hx => hf x (List.mem_cons_of_mem _ hx)
  rw [Bool.eq_iff_iff, oChain_cons, oChain_cons, h1, h2]
def pUnformed (t : PTxn) : Bool := !tformedB t
theorem pSound_way (p : PPast) : (decide (p.floor = trim p.floor) && (!(p.list.any pUnformed) && oChain (p.floor.take 8) p.list)) = pSound p := by
 unfold pSound
 have e1 : decide (p.floor = trim p.floor) = decide (trim p.floor = p.floor) := by rw [decide_eq_decide]; exact ⟨Eq.symm, Eq.symm⟩
 rw [e1]
 congr 1
 cases h : p.list.any pUnformed with
 | true =>
  have : p.list.all tformedB = false := by
   rw [List.any_eq_true] at h
   obtain ⟨t, ht, hu⟩ := h
   rw [List.all_eq_false]
   exact ⟨t, ht, by unfold pUnformed at hu; simpa using hu⟩
  rw [this]
  simp
 | false =>
  have hf : ∀ t ∈ p.list, tformedB t = true := fun t ht => by
   have := List.any_eq_false.1 h t ht
   unfold pUnformed at this
   simpa using this
  rw [oChain_at (v := p.floor) (fun i hi => by rw [take_says, if_pos hi]) hf, List.all_eq_true.2 hf]
  simp

structure DelInv {α : Type} (p : α → Bool) (xs ys : List α) (i j : Nat) : Prop where
 len : ys.length = xs.length
 lt : i < j
 le : j ≤ xs.length
 head : ys.take i = (xs.take j).filter fun x => !p x
 tail : ys.drop j = xs.drop j
theorem filter_all {α : Type} {p : α → Bool} {l : List α} (h : ∀ x ∈ l, p x = false) : (l.filter fun x => !p x) = l := List.filter_eq_self.2 fun x hx => by rw [h x hx]; rfl
theorem filter_snoc_no {α : Type} {p : α → Bool} {l : List α} {x : α} (h : p x = true) : ((l ++ [x]).filter fun x => !p x) = l.filter fun x => !p x := by
 rw [List.filter_append, List.filter_cons_of_neg (by simp [h]), List.filter_nil, List.append_nil]
theorem filter_snoc_yes {α : Type} {p : α → Bool} {l : List α} {x : α} (h : p x = false) : ((l ++ [x]).filter fun x => !p x) = (l.filter fun x => !p x) ++ [x] := by
 rw [List.filter_append, List.filter_cons_of_pos (by simp [h]), List.filter_nil]
theorem take_at {α : Type} {xs : List α} {k : Nat} (hk : k < xs.length) : xs.take (k + 1) = xs.take k ++ [xs[k]] := List.take_succ_eq_append_getElem hk
theorem drop_tail {α : Type} {xs ys : List α} {j : Nat} (h : ys.drop j = xs.drop j) : ys.drop (j + 1) = xs.drop (j + 1) := by
 rw [← List.drop_drop, ← List.drop_drop, h]
theorem DelInv.start {α : Type} {p : α → Bool} {xs : List α} {i : Nat} (hi : i < xs.length) (h : ∀ (j : Nat) (hj : j < xs.length), j < i → p xs[j] = false) (h1 : p xs[i] = true) : DelInv p xs xs i (i + 1) := by
 refine ⟨rfl, Nat.lt_succ_self _, hi, ?_, rfl⟩
 rw [take_at hi, filter_snoc_no h1, filter_all]
 intro x hx
 obtain ⟨j, hj, rfl⟩ := List.getElem_of_mem hx
 rw [List.getElem_take]
 rw [List.length_take] at hj
 exact h j (by omega) (by omega)
theorem DelInv.skip {α : Type} {p : α → Bool} {xs ys : List α} {i j : Nat} (h : DelInv p xs ys i j) (hj : j < xs.length) (hp : p xs[j] = true) : DelInv p xs ys i (j + 1) :=
 ⟨h.len, Nat.lt_succ_of_lt h.lt, hj, by rw [take_at hj, filter_snoc_no hp]; exact h.head, drop_tail h.tail⟩
theorem DelInv.stays {α : Type} {p : α → Bool} {xs ys : List α} {i j : Nat} (h : DelInv p xs ys i j) (hj : j < xs.length) (hp : p xs[j] = false) : DelInv p xs (ys.set i xs[j]) (i + 1) (j + 1) := by
 have hl := h.len
 have hlt := h.lt
 refine ⟨by rw [List.length_set]; exact hl, by omega, hj, ?_, ?_⟩
 ·rw [take_at hj, filter_snoc_yes hp, ← h.head, take_at (by rw [List.length_set]; omega), List.getElem_set_self, List.take_set_of_le (Nat.le_refl _)]
 ·rw [List.drop_set_of_lt (by omega)]
  exact drop_tail h.tail
theorem DelInv.at {α : Type} {p : α → Bool} {xs ys : List α} {i j : Nat} (h : DelInv p xs ys i j) {m : Nat} (hm : j ≤ m) (hx : m < xs.length) : ys[m]? = some xs[m] := by
 have e : (ys.drop j)[m - j]? = (xs.drop j)[m - j]? := by rw [h.tail]
 rw [List.getElem?_drop, List.getElem?_drop, show j + (m - j) = m by omega, List.getElem?_eq_getElem hx] at e
 exact e
theorem DelInv.done {α : Type} {p : α → Bool} {xs ys : List α} {i : Nat} (h : DelInv p xs ys i xs.length) : ys.take i = xs.filter fun x => !p x := by rw [h.head, List.take_length]
theorem del_none {α : Type} {p : α → Bool} {xs : List α} (h : ∀ (j : Nat) (hj : j < xs.length), p xs[j] = false) : (xs.filter fun x => !p x) = xs := filter_all fun x hx => by
 obtain ⟨j, hj, rfl⟩ := List.getElem_of_mem hx
 exact h j hj
theorem pLeft_yes {l : List PTxn} {v : Ints} {k : Nat} (hk : k < l.length) (h : pHeard v l[k] = true) : pLeft (l.take (k + 1)) v = pLeft (l.take k) v := by
 unfold pLeft
 rw [take_at hk, filter_snoc_no h]
theorem pLeft_no {l : List PTxn} {v : Ints} {k : Nat} (hk : k < l.length) (h : pHeard v l[k] = false) : pLeft (l.take (k + 1)) v = pLeft (l.take k) v ++ [l[k]] := by
 unfold pLeft
 rw [take_at hk, filter_snoc_yes h]
end Go.Proofs.YtajfliemmfdnhaaGreat.Plain
