/- The queue as plain mathematics: what is pushed, what was heard, and what waits (P20.1 to P20.3). -/
import Derived.Test.YtmknpmamkjjiaaaGreatTxMaths
import Derived.Test.YtmknpmamkjjiaaaGreatOrCon
namespace Go.Proofs.YtmknpmamkjjiaaaGreat.Plain
set_option linter.unusedVariables false

structure PQueue where
 most : Int
 list : List PTxn
/-- has a vector heard a transaction? (vec.Has of its dot) -/
def qHas (v : Ints) (t : PTxn) : Bool := decide (1 ≤ t.seq) && decide (t.seq ≤ saysI v t.node)
def qLeft (l : List PTxn) (v : Ints) : List PTxn := l.filter fun t => !qHas v t
def qHeard (q : PQueue) (v : Ints) : PQueue := ⟨q.most, qLeft q.list v⟩
/-- the one behind all others -/
def qEnd (l : List PTxn) : PTxn := otx l (l.length - 1)
def qNext (l : List PTxn) (t : PTxn) : Bool := decide (l.length = 0) || (decide (t.node = (qEnd l).node) && decide (t.seq - 1 = (qEnd l).seq))
def qErr (q : PQueue) (t : PTxn) : Int := if tformedB t = false then 2 else if qNext q.list t = false then 9 else if q.most ≤ (q.list.length : Int) then 6 else 0
def qPush (q : PQueue) (t : PTxn) : PQueue := if qErr q t = 0 then ⟨q.most, q.list ++ [t]⟩ else ⟨0, []⟩
theorem qLeft_len (l : List PTxn) (v : Ints) : (qLeft l v).length ≤ l.length := List.length_filter_le _ _
theorem qLeft_in {l : List PTxn} {v : Ints} {t : PTxn} (h : t ∈ qLeft l v) : t ∈ l := (List.mem_filter.1 h).1
theorem qLeft_take {l : List PTxn} {v : Ints} {k : Nat} (hk : k < l.length) : qLeft (l.take (k + 1)) v = qLeft (l.take k) v ++ (if qHas v (otx l k) = true then [] else [otx l k]) := by
 unfold qLeft
 rw [List.take_succ_eq_append_getElem hk, List.filter_append, otx_lt hk]
 congr 1
 cases h : qHas v l[k] <;> simp [h]
theorem qErr_form {q : PQueue} {t : PTxn} (h : tformedB t = false) : qErr q t = 2 ∧ qPush q t = ⟨0, []⟩ := by
 have e : qErr q t = 2 := by unfold qErr; rw [if_pos h]
 exact ⟨e, by unfold qPush; rw [e]; rfl⟩
theorem qErr_gap {q : PQueue} {t : PTxn} (h : tformedB t = true) (h1 : qNext q.list t = false) : qErr q t = 9 ∧ qPush q t = ⟨0, []⟩ := by
 have e : qErr q t = 9 := by unfold qErr; rw [if_neg (by simp [h]), if_pos h1]
 exact ⟨e, by unfold qPush; rw [e]; rfl⟩
theorem qErr_full {q : PQueue} {t : PTxn} (h : tformedB t = true) (h1 : qNext q.list t = true) (h2 : q.most ≤ (q.list.length : Int)) : qErr q t = 6 ∧ qPush q t = ⟨0, []⟩ := by
 have e : qErr q t = 6 := by unfold qErr; rw [if_neg (by simp [h]), if_neg (by simp [h1]), if_pos h2]
 exact ⟨e, by unfold qPush; rw [e]; rfl⟩
theorem qErr_ok {q : PQueue} {t : PTxn} (h : tformedB t = true) (h1 : qNext q.list t = true) (h2 : ¬ q.most ≤ (q.list.length : Int)) : qErr q t = 0 ∧ qPush q t = ⟨q.most, q.list ++ [t]⟩ := by
 have e : qErr q t = 0 := by unfold qErr; rw [if_neg (by simp [h]), if_neg (by simp [h1]), if_neg h2]
 exact ⟨e, by unfold qPush; rw [e]; rfl⟩
/-- nothing heard: all is left -/
theorem qHas_nil (t : PTxn) : qHas [] t = false := by
 unfold qHas
 have e : saysI [] t.node = 0 := by unfold saysI says; split <;> simp
 rw [e]
 by_cases h : 1 ≤ t.seq
 ·rw [decide_eq_false (show ¬ t.seq ≤ 0 by omega), Bool.and_false]
 ·rw [decide_eq_false h, Bool.false_and]
theorem qLeft_nil (l : List PTxn) : qLeft l [] = l := by
 unfold qLeft
 rw [List.filter_eq_self]
 intro t _
 rw [qHas_nil]
 rfl
theorem qHeard_nil (q : PQueue) : qHeard q [] = q := by unfold qHeard; rw [qLeft_nil]
theorem qwrap {n : Nat} (h : n ≤ 9223372036854775807) : IntKind.i64.wrap (n : Int) = n := by
 simp [IntKind.wrap, IntKind.bits, IntKind.signed]
 omega
/-! ### P20.3 -/
theorem qFormed_node {t : PTxn} (h : tformedB t = true) : 0 ≤ t.node ∧ t.node ≤ 7 ∧ 1 ≤ t.seq ∧ t.seq ≤ 1073741824 := by
 have := (tformed_parts.1 h).1
 unfold inRange at this
 rw [decide_eq_true_iff] at this
 exact this
end Go.Proofs.YtmknpmamkjjiaaaGreat.Plain
