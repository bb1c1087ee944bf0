/- The queue as plain mathematics: what is pushed, what was heard, and what waits (P20.1 to P20.3). -/
import Derived.Test.YtmknpmamkjjiaaaTxMaths
import Derived.Test.YtmknpmamkjjiaaaOrWait
namespace Go.Proofs.Ytmknpmamkjjiaaa.Plain
set_option linter.unusedVariables false

structure PQueue where
 most : Int
 list : List PTxn
def qHas (v : Ints) (t : PTxn) : Bool := decide (1 ≤ t.seq) && decide (t.seq ≤ saysI v t.node)
def qLeft (l : List PTxn) (v : Ints) : List PTxn := l.filter fun t => !qHas v t
def qHeard (q : PQueue) (v : Ints) : PQueue := ⟨q.most, qLeft q.list v⟩
def qEnd (l : List PTxn) : PTxn := otx l (l.length - 1)
def qNext (l : List PTxn) (t : PTxn) : Bool := decide (l.length = 0) || (decide (t.node = (qEnd l).node) && decide (t.seq - 1 = (qEnd l).seq))
def qErr (q : PQueue) (t : PTxn) : Int := if tformedB t = false then 2 else if qNext q.list t = false then 9 else if q.most ≤ (q.list.length : Int) then 6 else 0
def qPush (q : PQueue) (t : PTxn) : PQueue := if qErr q t = 0 then ⟨q.most, q.list ++ [t]⟩ else ⟨0, []⟩
theorem qLeft_len (l : List PTxn) (v : Ints) : (qLeft l v).length ≤ l.length := List.length_filter_le _ _
theorem qLeft_in {l : List PTxn} {v : Ints} {t : PTxn} (h : t ∈ qLeft l v) : t ∈ l := (List.mem_filter.1 h).1
theorem qLeft_take {l : List PTxn} {v : Ints} {k : Nat} (hk : k < l.length) : qLeft (l.take (k + 1)) v = qLeft (l.take k) v ++ (if qHas v (otx l k) = true then [] else [otx l k]) := by
 unfold qLeft
 rw [List.take_succ_eq_append_getElem hk, List.filter_append, otx_lt hk]
 congr 1
 cases h : qHas v l[k] <;> simp [h]
theorem qErr_form {q : PQueue} {t : PTxn} (h : tformedB t = false) : qErr q t = 2 ∧ qPush q t = ⟨0, []⟩ := by
 have e : qErr q t = 2 := by unfold qErr; rw [if_pos h]
 exact ⟨e, by unfold qPush; rw [e]; rfl⟩
theorem qErr_gap {q : PQueue} {t : PTxn} (h : tformedB t = true) (h1 : qNext q.list t = false) : qErr q t = 9 ∧ qPush q t = ⟨0, []⟩ := by
 have e : qErr q t = 9 := by unfold qErr; rw [if_neg (by simp [h]), if_pos h1]
 exact ⟨e, by unfold qPush; rw [e]; rfl⟩
theorem qErr_full {q : PQueue} {t : PTxn} (h : tformedB t = true) (h1 : qNext q.list t = true) (h2 : q.most ≤ (q.list.length : Int)) : qErr q t = 6 ∧ qPush q t = ⟨0, []⟩ := by
 have e : qErr q t = 6 := by unfold qErr; rw [if_neg (by simp [h]), if_neg (by simp [h1]), if_pos h2]
 exact ⟨e, by unfold qPush; rw [e]; rfl⟩
theorem qErr_ok {q : PQueue} {t : PTxn} (h : tformedB t = true) (h1 : qNext q.list t = true) (h2 : ¬ q.most ≤ (q.list.length : Int)) : qErr q t = 0 ∧ qPush q t = ⟨q.most, q.list ++ [t]⟩ := by
 have e : qErr q t = 0 := by unfold qErr; rw [if_neg (by simp [h]), if_neg (by simp [h1]), if_neg h2]
 exact ⟨e, by unfold qPush; rw [e]; rfl⟩
theorem qHas_nil (t : PTxn) : qHas [] t = false := by
 unfold qHas
 have e : saysI [] t.node = 0 := by unfold saysI says; split <;> simp
 rw [e]
 by_cases h : 1 ≤ t.seq
 ·rw [decide_eq_false (show ¬ t.seq ≤ 0 by omega), Bool.and_false]
 ·rw [decide_eq_false h, Bool.false_and]
theorem qLeft_nil (l : List PTxn) : qLeft l [] = l := by
 unfold qLeft
 rw [List.filter_eq_self]
 intro t _
 rw [qHas_nil]
 rfl
theorem qHeard_nil (q : PQueue) : qHeard q [] = q := by unfold qHeard; rw [qLeft_nil]
theorem qHas_join (v w : Ints) (t : PTxn) : qHas (join v w) t = (qHas v t || qHas w t) := by
 unfold qHas
 have e : saysI (join v w) t.node = max (saysI v t.node) (saysI w t.node) := by
  unfold saysI
  split
  ·exact join_says v w _
  ·rfl
 rw [e]
 by_cases h : 1 ≤ t.seq
 ·simp only [decide_eq_true h, Bool.true_and]
  by_cases h1 : t.seq ≤ saysI v t.node
  ·rw [decide_eq_true h1, decide_eq_true (show t.seq ≤ max _ _ by omega), Bool.true_or]
  ·by_cases h2 : t.seq ≤ saysI w t.node
   ·rw [decide_eq_true h2, decide_eq_true (show t.seq ≤ max _ _ by omega), Bool.or_true]
   ·rw [decide_eq_false h1, decide_eq_false h2, decide_eq_false (show ¬ t.seq ≤ max _ _ by omega), Bool.or_false]
 ·simp only [decide_eq_false h, Bool.false_and, Bool.or_false]
theorem qHeard_two (q : PQueue) (v w : Ints) : qHeard (qHeard q v) w = qHeard q (join v w) := by
 unfold qHeard qLeft
 simp only [List.filter_filter, qHas_join, Bool.not_or]
 congr 1
 exact List.filter_congr fun t _ => Bool.and_comm _ _
theorem qHeard_turn (q : PQueue) (v w : Ints) : qHeard (qHeard q w) v = qHeard (qHeard q v) w := by
 unfold qHeard qLeft
 simp only [List.filter_filter]
 congr 1
 exact List.filter_congr fun t _ => Bool.and_comm _ _
theorem qwrap {n : Nat} (h : n ≤ 9223372036854775807) : IntKind.i64.wrap (n : Int) = n := by
 simp [IntKind.wrap, IntKind.bits, IntKind.signed]
 omega
structure QChain (l : List PTxn) : Prop where
 form : ∀ t ∈ l, tformedB t = true
 node : ∀ k, k < l.length → (otx l k).node = (otx l 0).node
 seq : ∀ k, k < l.length → (otx l k).seq = (otx l 0).seq + k
theorem QChain.nil : QChain [] := ⟨fun t h => (by cases h), fun k h => absurd h (Nat.not_lt_zero _), fun k h => absurd h (Nat.not_lt_zero _)⟩
theorem otx_app {l : List PTxn} {t : PTxn} {k : Nat} (h : k < l.length) : otx (l ++ [t]) k = otx l k := by
 rw [otx_lt (by simp; omega), otx_lt h, List.getElem_append_left h]
theorem otx_new (l : List PTxn) (t : PTxn) : otx (l ++ [t]) l.length = t := by
 rw [otx_lt (by simp)]
 simp
theorem qNext_one {l : List PTxn} {t : PTxn} (h : QChain l) (hn : qNext l t = true) (hl : 0 < l.length) : t.node = (otx l 0).node ∧ t.seq = (otx l 0).seq + l.length := by
 unfold qNext at hn
 rw [decide_eq_false (by omega), Bool.false_or, Bool.and_eq_true, decide_eq_true_iff, decide_eq_true_iff] at hn
 unfold qEnd at hn
 have e1 := h.node (l.length - 1) (by omega)
 have e2 := h.seq (l.length - 1) (by omega)
 exact ⟨hn.1.trans e1, by have := hn.2; omega⟩
theorem QChain.push {l : List PTxn} {t : PTxn} (h : QChain l) (hf : tformedB t = true) (hn : qNext l t = true) : QChain (l ++ [t]) := by
 have hl : (l ++ [t]).length = l.length + 1 := by simp
 rcases Nat.eq_zero_or_pos l.length with e | e
 ·obtain rfl := List.eq_nil_of_length_eq_zero e
  refine ⟨fun x hx => ?_, fun k hk => ?_, fun k hk => ?_⟩
  ·rw [List.nil_append, List.mem_singleton] at hx
   rw [hx]; exact hf
  ·obtain rfl : k = 0 := by rw [hl] at hk; simp at hk; exact hk
   rfl
  ·obtain rfl : k = 0 := by rw [hl] at hk; simp at hk; exact hk
   simp
 ·obtain ⟨n1, n2⟩ := qNext_one h hn e
  refine ⟨fun x hx => ?_, fun k hk => ?_, fun k hk => ?_⟩
  ·rcases List.mem_append.1 hx with h1 | h1
   ·exact h.form x h1
   ·rw [List.mem_singleton.1 h1]; exact hf
  ·rw [otx_app e]
   by_cases hk1 : k < l.length
   ·rw [otx_app hk1]; exact h.node k hk1
   ·obtain rfl : k = l.length := by omega
    rw [otx_new]; exact n1
  ·rw [otx_app e]
   by_cases hk1 : k < l.length
   ·rw [otx_app hk1]; exact h.seq k hk1
   ·obtain rfl : k = l.length := by omega
    rw [otx_new]; exact n2
theorem qFormed_node {t : PTxn} (h : tformedB t = true) : 0 ≤ t.node ∧ t.node ≤ 7 ∧ 1 ≤ t.seq ∧ t.seq ≤ 1073741824 := by
 have := (tformed_parts.1 h).1
 unfold inRange at this
 rw [decide_eq_true_iff] at this
 exact this
theorem QChain.heard {l : List PTxn} (h : QChain l) (v : Ints) (n : Nat) (hn : n ≤ l.length) (hv : 0 < l.length → saysI v (otx l 0).node = (otx l 0).seq - 1 + n) : qLeft l v = l.drop n := by
 have hs : ∀ k, k < l.length → (qHas v (otx l k) = true ↔ k < n) := fun k hk => by
  have hf := qFormed_node (h.form (otx l k) (by rw [otx_lt hk]; exact List.getElem_mem hk))
  have e1 := h.node k hk
  have e2 := h.seq k hk
  have e3 := hv (by omega)
  unfold qHas
  rw [Bool.and_eq_true, decide_eq_true_iff, decide_eq_true_iff, e1, e3]
  omega
 have hi : ∀ k, k ≤ l.length → qLeft (l.take k) v = (l.take k).drop n := fun k => by
  induction k with
  | zero => intro _; simp [qLeft]
  | succ k ih =>
   intro hk
   rw [qLeft_take (by omega), ih (by omega)]
   have hkl : k < l.length := by omega
   by_cases hkn : k < n
   ·rw [if_pos ((hs k hkl).2 hkn), List.append_nil, List.drop_eq_nil_of_le (by rw [List.length_take]; omega), List.drop_eq_nil_of_le (by rw [List.length_take]; omega)]
   ·rw [if_neg (fun e => hkn ((hs k hkl).1 e)), List.take_succ_eq_append_getElem hkl, List.drop_append_of_le_length (by rw [List.length_take]; omega), otx_lt hkl]
 have := hi l.length (Nat.le_refl _)
 rwa [List.take_length] at this
theorem otx_drop (l : List PTxn) (n k : Nat) (h : n + k < l.length) : otx (l.drop n) k = otx l (n + k) := by
 rw [otx_lt (by rw [List.length_drop]; omega), otx_lt h, List.getElem_drop]
theorem QChain.drop {l : List PTxn} (h : QChain l) (n : Nat) : QChain (l.drop n) := by
 refine ⟨fun t ht => h.form t (List.mem_of_mem_drop ht), fun k hk => ?_, fun k hk => ?_⟩
 ·rw [List.length_drop] at hk
  rw [otx_drop _ _ _ (by omega), otx_drop _ _ _ (by omega), h.node (n + k) (by omega), h.node (n + 0) (by omega)]
 ·rw [List.length_drop] at hk
  rw [otx_drop _ _ _ (by omega), otx_drop _ _ _ (by omega), h.seq (n + k) (by omega), h.seq (n + 0) (by omega)]
  omega
end Go.Proofs.Ytmknpmamkjjiaaa.Plain
