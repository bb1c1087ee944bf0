/- Transactions as plain mathematics: when one is formed, what is left of it under a zone, its bytes, how they are read; the laws that follow. Causal order as plain mathematics: when a transaction is ready, what is taken, chains, and the laws of P14.3. -/
import Derived.Test.YtajfliemmfdnhaaMaths
import Derived.Test.YtajfliemmfdnhaaVwMaths
import Derived.Test.YtajfliemmfdnhaaVMath
namespace Go.Proofs.Ytajfliemmfdnhaa.Plain
set_option linter.unusedVariables false

structure PTxn where
 node : Int
 seq : Int
 deps : List Int
 effs : List PEff
theorem ptxn_ext {a b : PTxn} (h1 : a.node = b.node) (h2 : a.seq = b.seq) (h3 : a.deps = b.deps) (h4 : a.effs = b.effs) : a = b := by
 cases a; cases b; simp_all
instance : DecidableEq PTxn := fun a b => decidable_of_iff (a.node = b.node ∧ a.seq = b.seq ∧ a.deps = b.deps ∧ a.effs = b.effs) ⟨fun ⟨h1, h2, h3, h4⟩ => ptxn_ext h1 h2 h3 h4, fun e => by subst e; exact ⟨rfl, rfl, rfl, rfl⟩⟩
instance : Inhabited PTxn := ⟨⟨0, 0, [], []⟩⟩
def heard1 (node seq : Int) (v : List Int) (d : PDot) : Bool := (decide (d.node = node) && decide (d.seq = seq)) || (decide (1 ≤ d.seq) && decide (d.seq ≤ saysI v d.node))
def heardB (l : List PEff) (node seq : Int) (v : List Int) : Bool := l.all fun e => e.drops.all (heard1 node seq v)
def depsB (t : PTxn) : Bool := decide (t.deps.length ≤ 8) && (decide (trim t.deps = t.deps) && (t.deps.all (fun n => decide (n ≤ 1073741824)) && decide (saysI t.deps t.node + 1 = t.seq)))
def tformedB (t : PTxn) : Bool := inRange t.node t.seq && (depsB t && (decide (t.effs.length ≤ 8) && (rightB t.node t.seq t.effs && heardB t.effs t.node t.seq t.deps)))
theorem tformed_parts {t : PTxn} : tformedB t = true ↔ inRange t.node t.seq = true ∧ depsB t = true ∧ t.effs.length ≤ 8 ∧ rightB t.node t.seq t.effs = true ∧ heardB t.effs t.node t.seq t.deps = true := by
 unfold tformedB
 simp only [Bool.and_eq_true, decide_eq_true_iff]
end Go.Proofs.Ytajfliemmfdnhaa.Plain
namespace Go.Proofs.Ytajfliemmfdnhaa.Plain
set_option linter.unusedVariables false

def oValid (t : PTxn) : Bool := decide (0 ≤ t.node) && decide (t.node ≤ 7) && decide (0 ≤ t.seq) && decide (t.seq ≤ 1073741824)
def oReady (v : Ints) (t : PTxn) : Bool := decide (0 < t.seq) && decide (saysI v t.node = t.seq - 1) && within t.deps v
def oNext (v : Ints) (t : PTxn) : Ints := if oValid t then withN v t.node.toNat t.seq else trim v
def oChain : Ints → List PTxn → Bool
 | _, [] => true
 | v, t :: l => oReady v t && oChain (oNext v t) l
def oEnd (v : Ints) (l : List PTxn) : Ints := l.foldl oNext v
theorem oValid_iff {t : PTxn} : oValid t = true ↔ (0 ≤ t.node ∧ t.node ≤ 7) ∧ 0 ≤ t.seq ∧ t.seq ≤ 1073741824 := by
 unfold oValid; simp [and_assoc]
theorem oReady_iff {v : Ints} {t : PTxn} : oReady v t = true ↔ 0 < t.seq ∧ saysI v t.node = t.seq - 1 ∧ Within t.deps v := by
 unfold oReady; rw [Bool.and_eq_true, Bool.and_eq_true, within_iff, decide_eq_true_eq, decide_eq_true_eq, and_assoc]
theorem saysI_of {v : Ints} {n : Int} (h : 0 ≤ n) : saysI v n = says v n.toNat := by unfold saysI; rw [if_pos h]
theorem oNext_says (v : Ints) (t : PTxn) (i : Nat) : says (oNext v t) i = if oValid t = true ∧ i = t.node.toNat then t.seq else says v i := by
 unfold oNext
 by_cases h : oValid t = true
 ·rw [if_pos h, with_says v _ _ (oValid_iff.1 h).2.1]
  unfold withF
  by_cases e : i = t.node.toNat
  ·rw [if_pos e, if_pos ⟨h, e⟩]
  ·rw [if_neg e, if_neg (fun x => e x.2)]
 ·rw [if_neg h, trim_says, if_neg (fun x => h x.1)]
theorem oNext_up {v : Ints} {t : PTxn} (h : oReady v t = true) (i : Nat) : says v i ≤ says (oNext v t) i := by
 rw [oNext_says]
 split
 ·rename_i c
  have h1 := (oReady_iff.1 h).2.1
  rw [saysI_of (oValid_iff.1 c.1).1.1, ← c.2] at h1
  omega
 ·exact Int.le_refl _
theorem oEnd_cons (v : Ints) (t : PTxn) (l : List PTxn) : oEnd v (t :: l) = oEnd (oNext v t) l := rfl
theorem oChain_cons {v : Ints} {t : PTxn} {l : List PTxn} : oChain v (t :: l) = true ↔ oReady v t = true ∧ oChain (oNext v t) l = true := by
 show (oReady v t && oChain (oNext v t) l) = true ↔ _
 rw [Bool.and_eq_true]
theorem oEnd_up : ∀ {l : List PTxn} {v : Ints}, oChain v l = true → ∀ i, says v i ≤ says (oEnd v l) i
 | [], v, _, i => Int.le_refl _
 | t :: l, v, h, i => Int.le_trans (oNext_up (oChain_cons.1 h).1 i) (oEnd_up (oChain_cons.1 h).2 i)
theorem oChain_above : ∀ {l : List PTxn} {v : Ints} {t : PTxn}, oChain v l = true → t ∈ l → 0 ≤ t.node → says v t.node.toNat < t.seq
 | [], _, _, _, h, _ => by cases h
 | u :: l, v, t, hc, hm, hn => by
  have hc' := oChain_cons.1 hc
  rcases List.mem_cons.1 hm with e | e
  ·subst e
   have := (oReady_iff.1 hc'.1).2.1
   rw [saysI_of hn] at this
   omega
  ·exact Int.lt_of_le_of_lt (oNext_up hc'.1 _) (oChain_above hc'.2 e hn)
theorem oFormed_valid {t : PTxn} (h : tformedB t = true) : oValid t = true := by
 have h := (tformed_parts.1 h).1
 unfold inRange at h
 simp only [decide_eq_true_eq] at h
 refine oValid_iff.2 ?_
 omega
theorem oChain_append : ∀ (a : List PTxn) (v : Ints) (b : List PTxn), oChain v (a ++ b) = (oChain v a && oChain (oEnd v a) b)
 | [], v, b => by simp [oChain, oEnd]
 | t :: a, v, b => by
  show (oReady v t && oChain (oNext v t) (a ++ b)) = ((oReady v t && oChain (oNext v t) a) && oChain (oEnd (oNext v t) a) b)
  rw [oChain_append a, Bool.and_assoc]
theorem oEnd_append (v : Ints) (a b : List PTxn) : oEnd v (a ++ b) = oEnd (oEnd v a) b := by unfold oEnd; rw [List.foldl_append]
theorem oEnd_snoc (v : Ints) (a : List PTxn) (t : PTxn) : oEnd v (a ++ [t]) = oNext (oEnd v a) t := by rw [oEnd_append]; rfl
theorem oChain_next {v : Ints} {l : List PTxn} {k : Nat} (hk : k < l.length) (h : oChain v (l.take k) = true) (hr : oReady (oEnd v (l.take k)) l[k] = true) :
  oChain v (l.take (k + 1)) = true ∧ oEnd v (l.take (k + 1)) = oNext (oEnd v (l.take k)) l[k] := by
 rw [List.take_succ_eq_append_getElem hk]
 refine ⟨?_, oEnd_snoc _ _ _⟩
 rw [oChain_append, h]
 simp [oChain, hr]
theorem oChain_break {v : Ints} {l : List PTxn} {k : Nat} (hk : k < l.length) (h : oChain v (l.take k) = true) (hr : ¬ oReady (oEnd v (l.take k)) l[k] = true) : oChain v l = false := by
 have e : l = l.take k ++ (l[k] :: l.drop (k + 1)) := by rw [← List.drop_eq_getElem_cons hk, List.take_append_drop]
 rw [e, oChain_append, h]
 simp only [Bool.true_and]
 show (oReady _ _ && _) = false
 rw [Bool.eq_false_iff.2 hr, Bool.false_and]
end Go.Proofs.Ytajfliemmfdnhaa.Plain
namespace Go.Proofs.Ytajfliemmfdnhaa.Plain
set_option linter.unusedVariables false

def oHas (v : Ints) (n s : Int) : Prop := 1 ≤ s ∧ s ≤ saysI v n
def TSmall (t : PTxn) : Prop := t.seq ≤ 9223372036854775807
def otx (l : List PTxn) (j : Nat) : PTxn := l.getD j default
theorem otx_lt {l : List PTxn} {j : Nat} (h : j < l.length) : otx l j = l[j] := by unfold otx; simp [List.getD, h]
def gone (g : List Bool) (j : Nat) : Bool := g.getD j false
end Go.Proofs.Ytajfliemmfdnhaa.Plain
