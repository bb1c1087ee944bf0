/- Transactions as plain mathematics: when one is formed, what is left of it under a zone, its bytes, how they are read; the laws that follow. Causal order as plain mathematics: when a transaction is ready, what is taken, chains, and the laws of P14.3. -/
import Derived.Test.YtmknpmamkjjiaaaGreatMaths
import Derived.Test.YtmknpmamkjjiaaaGreatVwMaths
import Derived.Test.YtmknpmamkjjiaaaGreatVMath
namespace Go.Proofs.YtmknpmamkjjiaaaGreat.Plain
set_option linter.unusedVariables false

structure PTxn where
 node : Int
 seq : Int
 deps : List Int
 effs : List PEff
theorem ptxn_ext {a b : PTxn} (h1 : a.node = b.node) (h2 : a.seq = b.seq) (h3 : a.deps = b.deps) (h4 : a.effs = b.effs) : a = b := by
 cases a; cases b; simp_all
instance : DecidableEq PTxn := fun a b => decidable_of_iff (a.node = b.node ∧ a.seq = b.seq ∧ a.deps = b.deps ∧ a.effs = b.effs) ⟨fun ⟨h1, h2, h3, h4⟩ => ptxn_ext h1 h2 h3 h4, fun e => by subst e; exact ⟨rfl, rfl, rfl, rfl⟩⟩
instance : Inhabited PTxn := ⟨⟨0, 0, [], []⟩⟩
/-- is each of the drops heard, or of this very transaction? -/
def heard1 (node seq : Int) (v : List Int) (d : PDot) : Bool := (decide (d.node = node) && decide (d.seq = seq)) || (decide (1 ≤ d.seq) && decide (d.seq ≤ saysI v d.node))
def heardB (l : List PEff) (node seq : Int) (v : List Int) : Bool := l.all fun e => e.drops.all (heard1 node seq v)
def depsB (t : PTxn) : Bool := decide (t.deps.length ≤ 8) && (decide (trim t.deps = t.deps) && (t.deps.all (fun n => decide (n ≤ 1073741824)) && decide (saysI t.deps t.node + 1 = t.seq)))
def tformedB (t : PTxn) : Bool := inRange t.node t.seq && (depsB t && (decide (t.effs.length ≤ 8) && (rightB t.node t.seq t.effs && heardB t.effs t.node t.seq t.deps)))
def tonly (t : PTxn) (z : List Txt) : PTxn := ⟨t.node, t.seq, t.deps, eonly t.effs z⟩
theorem tformed_parts {t : PTxn} : tformedB t = true ↔ inRange t.node t.seq = true ∧ depsB t = true ∧ t.effs.length ≤ 8 ∧ rightB t.node t.seq t.effs = true ∧ heardB t.effs t.node t.seq t.deps = true := by
 unfold tformedB
 simp only [Bool.and_eq_true, decide_eq_true_iff]
/-! ### under a zone -/
theorem tonly_all (t : PTxn) : tonly t [[]] = t := by
 have : eonly t.effs [[]] = t.effs := List.filter_eq_self.2 fun e _ => covers_iff.2 ⟨[], List.mem_singleton.2 rfl, by rfl⟩
 unfold tonly
 rw [this]

/-! ### bytes -/
/-! ### how long the bytes are -/
end Go.Proofs.YtmknpmamkjjiaaaGreat.Plain
namespace Go.Proofs.YtmknpmamkjjiaaaGreat.Plain
set_option linter.unusedVariables false

/-! ## How a program goes about it -/
end Go.Proofs.YtmknpmamkjjiaaaGreat.Plain
