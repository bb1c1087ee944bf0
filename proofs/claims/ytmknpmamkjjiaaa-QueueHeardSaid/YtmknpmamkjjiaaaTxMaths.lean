/- Transactions as plain mathematics: when one is formed, what is left of it under a zone, its bytes, how they are read; the laws that follow. Causal order as plain mathematics: when a transaction is ready, what is taken, chains, and the laws of P14.3. -/
import Derived.Test.YtmknpmamkjjiaaaMaths
import Derived.Test.YtmknpmamkjjiaaaVwMaths
import Derived.Test.YtmknpmamkjjiaaaVMath
namespace Go.Proofs.Ytmknpmamkjjiaaa.Plain
set_option linter.unusedVariables false

structure PTxn where
 node : Int
 seq : Int
 deps : List Int
 effs : List PEff
theorem ptxn_ext {a b : PTxn} (h1 : a.node = b.node) (h2 : a.seq = b.seq) (h3 : a.deps = b.deps) (h4 : a.effs = b.effs) : a = b := by
 cases a; cases b; simp_all
instance : DecidableEq PTxn := fun a b => decidable_of_iff (a.node = b.node ∧ a.seq = b.seq ∧ a.deps = b.deps ∧ a.effs = b.effs) ⟨fun ⟨h1, h2, h3, h4⟩ => ptxn_ext h1 h2 h3 h4, fun e => by subst e; exact ⟨rfl, rfl, rfl, rfl⟩⟩
instance : Inhabited PTxn := ⟨⟨0, 0, [], []⟩⟩
def heard1 (node seq : Int) (v : List Int) (d : PDot) : Bool := (decide (d.node = node) && decide (d.seq = seq)) || (decide (1 ≤ d.seq) && decide (d.seq ≤ saysI v d.node))
def heardB (l : List PEff) (node seq : Int) (v : List Int) : Bool := l.all fun e => e.drops.all (heard1 node seq v)
def depsB (t : PTxn) : Bool := decide (t.deps.length ≤ 8) && (decide (trim t.deps = t.deps) && (t.deps.all (fun n => decide (n ≤ 1073741824)) && decide (saysI t.deps t.node + 1 = t.seq)))
def tformedB (t : PTxn) : Bool := inRange t.node t.seq && (depsB t && (decide (t.effs.length ≤ 8) && (rightB t.node t.seq t.effs && heardB t.effs t.node t.seq t.deps)))
def tonly (t : PTxn) (z : List Txt) : PTxn := ⟨t.node, t.seq, t.deps, eonly t.effs z⟩
theorem tformed_parts {t : PTxn} : tformedB t = true ↔ inRange t.node t.seq = true ∧ depsB t = true ∧ t.effs.length ≤ 8 ∧ rightB t.node t.seq t.effs = true ∧ heardB t.effs t.node t.seq t.deps = true := by
 unfold tformedB
 simp only [Bool.and_eq_true, decide_eq_true_iff]
theorem tonly_all (t : PTxn) : tonly t [[]] = t := by
 have : eonly t.effs [[]] = t.effs := List.filter_eq_self.2 fun e _ => covers_iff.2 ⟨[], List.mem_singleton.2 rfl, by rfl⟩
 unfold tonly
 rw [this]

end Go.Proofs.Ytmknpmamkjjiaaa.Plain
namespace Go.Proofs.Ytmknpmamkjjiaaa.Plain
set_option linter.unusedVariables false

def oValid (t : PTxn) : Bool := decide (0 ≤ t.node) && decide (t.node ≤ 7) && decide (0 ≤ t.seq) && decide (t.seq ≤ 1073741824)
def oReady (v : Ints) (t : PTxn) : Bool := decide (0 < t.seq) && decide (saysI v t.node = t.seq - 1) && within t.deps v
def oNext (v : Ints) (t : PTxn) : Ints := if oValid t then withN v t.node.toNat t.seq else trim v
theorem oValid_iff {t : PTxn} : oValid t = true ↔ (0 ≤ t.node ∧ t.node ≤ 7) ∧ 0 ≤ t.seq ∧ t.seq ≤ 1073741824 := by
 unfold oValid; simp [and_assoc]
theorem oReady_iff {v : Ints} {t : PTxn} : oReady v t = true ↔ 0 < t.seq ∧ saysI v t.node = t.seq - 1 ∧ Within t.deps v := by
 unfold oReady; rw [Bool.and_eq_true, Bool.and_eq_true, within_iff, decide_eq_true_eq, decide_eq_true_eq, and_assoc]
theorem saysI_of {v : Ints} {n : Int} (h : 0 ≤ n) : saysI v n = says v n.toNat := by unfold saysI; rw [if_pos h]
theorem saysI_neg {v : Ints} {n : Int} (h : ¬ 0 ≤ n) : saysI v n = 0 := by unfold saysI; rw [if_neg h]
theorem oNext_says (v : Ints) (t : PTxn) (i : Nat) : says (oNext v t) i = if oValid t = true ∧ i = t.node.toNat then t.seq else says v i := by
 unfold oNext
 by_cases h : oValid t = true
 ·rw [if_pos h, with_says v _ _ (oValid_iff.1 h).2.1]
  unfold withF
  by_cases e : i = t.node.toNat
  ·rw [if_pos e, if_pos ⟨h, e⟩]
  ·rw [if_neg e, if_neg (fun x => e x.2)]
 ·rw [if_neg h, trim_says, if_neg (fun x => h x.1)]
theorem oNext_up {v : Ints} {t : PTxn} (h : oReady v t = true) (i : Nat) : says v i ≤ says (oNext v t) i := by
 rw [oNext_says]
 split
 ·rename_i c
  have h1 := (oReady_iff.1 h).2.1
  rw [saysI_of (oValid_iff.1 c.1).1.1, ← c.2] at h1
  omega
 ·exact Int.le_refl _
end Go.Proofs.Ytmknpmamkjjiaaa.Plain
