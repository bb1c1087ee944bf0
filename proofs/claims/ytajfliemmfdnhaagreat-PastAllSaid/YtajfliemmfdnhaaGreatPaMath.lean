/- Fields as plain mathematics: what a field is of items, the fields of a key; the laws that follow. Requests as plain mathematics: when one is formed, what it takes away, the effect that it becomes, what a list of them becomes; the laws that follow. The program's own way with requests as plain mathematics: what it asks of a request, the dots that it sorts, the state of its loop. -/
import Derived.Test.YtajfliemmfdnhaaGreatMaths
import Derived.Laws.BitsLemmas
import Derived.Laws.BitsAllLaws
import Derived.Test.YtajfliemmfdnhaaGreatVMath
namespace Go.Proofs.YtajfliemmfdnhaaGreat.Plain
set_option linter.unusedVariables false

structure PVal where
 elems : List Txt
 regs : List Txt
 total : Int
 over : Bool
theorem pval_ext {a b : PVal} (h1 : a.elems = b.elems) (h2 : a.regs = b.regs) (h3 : a.total = b.total) (h4 : a.over = b.over) : a = b := by
 cases a; cases b; simp_all
instance : DecidableEq PVal := fun a b => decidable_of_iff (a.elems = b.elems ∧ a.regs = b.regs ∧ a.total = b.total ∧ a.over = b.over) ⟨fun ⟨h1, h2, h3, h4⟩ => pval_ext h1 h2 h3 h4, fun e => by subst e; exact ⟨rfl, rfl, rfl, rfl⟩⟩
instance : Inhabited PVal := ⟨⟨[], [], 0, false⟩⟩
def inField (key field : Txt) (x : PItem) : Bool := decide (x.key = key) && decide (x.field = field)
end Go.Proofs.YtajfliemmfdnhaaGreat.Plain
namespace Go.Proofs.YtajfliemmfdnhaaGreat.Plain
set_option linter.unusedVariables false

structure PReq where
 op : Int
 key : Txt
 field : Txt
 elem : Txt
 n : Int
instance : Inhabited PReq := ⟨⟨0, [], [], [], 0⟩⟩
def takesB (node : Int) (q : PReq) (x : PItem) : Bool :=
 inField q.key q.field x && (if q.op = 1 ∨ q.op = 2 then decide (x.kind = 1) && decide (x.elem = q.elem) else if q.op = 3 then decide (x.kind = 2) else if q.op = 4 then decide (x.kind = 3) && decide (x.dot.node = node) else true)
def taken (node : Int) (q : PReq) (s : List PItem) : List PItem := s.filter (takesB node q)
def dlt (a b : PDot) : Prop := a.node < b.node ∨ (a.node = b.node ∧ (a.seq < b.seq ∨ (a.seq = b.seq ∧ a.pos < b.pos)))
instance : DecidableRel dlt := fun a b => by unfold dlt; infer_instance
def inRange (node seq : Int) : Bool := decide (0 ≤ node ∧ node ≤ 7 ∧ 1 ≤ seq ∧ seq ≤ 1073741824)
structure Usual (node seq i : Int) (s : List PItem) : Prop where
 form : inorm s = s
 fine : ∀ x ∈ s, formedB x = true
 past : ∀ x ∈ s, x.dot.node = node → x.dot.seq < seq ∨ (x.dot.seq = seq ∧ x.dot.pos < i)
theorem Usual.mono {node seq i j : Int} {s : List PItem} (h : Usual node seq i s) (hij : i ≤ j) : Usual node seq j s := ⟨h.form, h.fine, fun x hx hn => by have := h.past x hx hn; omega⟩
end Go.Proofs.YtajfliemmfdnhaaGreat.Plain
namespace Go.Proofs.YtajfliemmfdnhaaGreat.Plain
set_option linter.unusedVariables false

theorem nodup_dots : ∀ {l : List PItem}, l.Nodup → DotsApart l → (l.map (·.dot)).Nodup
 | [], _, _ => List.nodup_nil
 | x :: l, hn, ha => by
  rw [List.map_cons, List.nodup_cons]
  rw [List.nodup_cons] at hn
  refine ⟨fun h => ?_, nodup_dots hn.2 fun a h b g e => ha a (List.mem_cons_of_mem _ h) b (List.mem_cons_of_mem _ g) e⟩
  obtain ⟨y, hy, e⟩ := List.mem_map.1 h
  exact hn.1 (by rw [← ha y (List.mem_cons_of_mem _ hy) x List.mem_cons_self e]; exact hy)

def DotsOnce (s : List PItem) : Prop := (s.map (·.dot)).Nodup
theorem DotsOnce.of {s : List PItem} (hr : Ris iless s) (ha : DotsApart s) : DotsOnce s := nodup_dots (Ris.nodup sto_item hr) ha
def LoopOk (node : Int) (s : List PItem) (l : List PReq) : Prop := DotsOnce s ∨ ∀ q ∈ l, taken node q s = []
theorem LoopOk.tail {node : Int} {s : List PItem} {q : PReq} {l : List PReq} (h : LoopOk node s (q :: l)) : LoopOk node s l := h.elim .inl fun h => .inr fun x hx => h x (List.mem_cons_of_mem _ hx)
end Go.Proofs.YtajfliemmfdnhaaGreat.Plain
namespace Go.Proofs.YtajfliemmfdnhaaGreat.Plain
set_option linter.unusedVariables false

structure PTxn where
 node : Int
 seq : Int
 deps : List Int
 effs : List PEff
theorem ptxn_ext {a b : PTxn} (h1 : a.node = b.node) (h2 : a.seq = b.seq) (h3 : a.deps = b.deps) (h4 : a.effs = b.effs) : a = b := by
 cases a; cases b; simp_all
instance : DecidableEq PTxn := fun a b => decidable_of_iff (a.node = b.node ∧ a.seq = b.seq ∧ a.deps = b.deps ∧ a.effs = b.effs) ⟨fun ⟨h1, h2, h3, h4⟩ => ptxn_ext h1 h2 h3 h4, fun e => by subst e; exact ⟨rfl, rfl, rfl, rfl⟩⟩
instance : Inhabited PTxn := ⟨⟨0, 0, [], []⟩⟩
def heard1 (node seq : Int) (v : List Int) (d : PDot) : Bool := (decide (d.node = node) && decide (d.seq = seq)) || (decide (1 ≤ d.seq) && decide (d.seq ≤ saysI v d.node))
def heardB (l : List PEff) (node seq : Int) (v : List Int) : Bool := l.all fun e => e.drops.all (heard1 node seq v)
def depsB (t : PTxn) : Bool := decide (t.deps.length ≤ 8) && (decide (trim t.deps = t.deps) && (t.deps.all (fun n => decide (n ≤ 1073741824)) && decide (saysI t.deps t.node + 1 = t.seq)))
def tformedB (t : PTxn) : Bool := inRange t.node t.seq && (depsB t && (decide (t.effs.length ≤ 8) && (rightB t.node t.seq t.effs && heardB t.effs t.node t.seq t.deps)))
theorem tformed_parts {t : PTxn} : tformedB t = true ↔ inRange t.node t.seq = true ∧ depsB t = true ∧ t.effs.length ≤ 8 ∧ rightB t.node t.seq t.effs = true ∧ heardB t.effs t.node t.seq t.deps = true := by
 unfold tformedB
 simp only [Bool.and_eq_true, decide_eq_true_iff]
end Go.Proofs.YtajfliemmfdnhaaGreat.Plain
namespace Go.Proofs.YtajfliemmfdnhaaGreat.Plain
set_option linter.unusedVariables false

def oValid (t : PTxn) : Bool := decide (0 ≤ t.node) && decide (t.node ≤ 7) && decide (0 ≤ t.seq) && decide (t.seq ≤ 1073741824)
def oReady (v : Ints) (t : PTxn) : Bool := decide (0 < t.seq) && decide (saysI v t.node = t.seq - 1) && within t.deps v
def oNext (v : Ints) (t : PTxn) : Ints := if oValid t then withN v t.node.toNat t.seq else trim v
def oChain : Ints → List PTxn → Bool
 | _, [] => true
 | v, t :: l => oReady v t && oChain (oNext v t) l
def oEnd (v : Ints) (l : List PTxn) : Ints := l.foldl oNext v
theorem oValid_iff {t : PTxn} : oValid t = true ↔ (0 ≤ t.node ∧ t.node ≤ 7) ∧ 0 ≤ t.seq ∧ t.seq ≤ 1073741824 := by
 unfold oValid; simp [and_assoc]
theorem oReady_iff {v : Ints} {t : PTxn} : oReady v t = true ↔ 0 < t.seq ∧ saysI v t.node = t.seq - 1 ∧ Within t.deps v := by
 unfold oReady; rw [Bool.and_eq_true, Bool.and_eq_true, within_iff, decide_eq_true_eq, decide_eq_true_eq, and_assoc]
theorem saysI_of {v : Ints} {n : Int} (h : 0 ≤ n) : saysI v n = says v n.toNat := by unfold saysI; rw [if_pos h]
theorem oNext_says (v : Ints) (t : PTxn) (i : Nat) : says (oNext v t) i = if oValid t = true ∧ i = t.node.toNat then t.seq else says v i := by
 unfold oNext
 by_cases h : oValid t = true
 ·rw [if_pos h, with_says v _ _ (oValid_iff.1 h).2.1]
  unfold withF
  by_cases e : i = t.node.toNat
  ·rw [if_pos e, if_pos ⟨h, e⟩]
  ·rw [if_neg e, if_neg (fun x => e x.2)]
 ·rw [if_neg h, trim_says, if_neg (fun x => h x.1)]
theorem oEnd_cons (v : Ints) (t : PTxn) (l : List PTxn) : oEnd v (t :: l) = oEnd (oNext v t) l := rfl
theorem oChain_cons {v : Ints} {t : PTxn} {l : List PTxn} : oChain v (t :: l) = true ↔ oReady v t = true ∧ oChain (oNext v t) l = true := by
 show (oReady v t && oChain (oNext v t) l) = true ↔ _
 rw [Bool.and_eq_true]
theorem oFormed_valid {t : PTxn} (h : tformedB t = true) : oValid t = true := by
 have h := (tformed_parts.1 h).1
 unfold inRange at h
 simp only [decide_eq_true_eq] at h
 refine oValid_iff.2 ?_
 omega
theorem oChain_append : ∀ (a : List PTxn) (v : Ints) (b : List PTxn), oChain v (a ++ b) = (oChain v a && oChain (oEnd v a) b)
 | [], v, b => by simp [oChain, oEnd]
 | t :: a, v, b => by
  show (oReady v t && oChain (oNext v t) (a ++ b)) = ((oReady v t && oChain (oNext v t) a) && oChain (oEnd (oNext v t) a) b)
  rw [oChain_append a, Bool.and_assoc]
theorem oEnd_append (v : Ints) (a b : List PTxn) : oEnd v (a ++ b) = oEnd (oEnd v a) b := by unfold oEnd; rw [List.foldl_append]
theorem oEnd_snoc (v : Ints) (a : List PTxn) (t : PTxn) : oEnd v (a ++ [t]) = oNext (oEnd v a) t := by rw [oEnd_append]; rfl
theorem oChain_next {v : Ints} {l : List PTxn} {k : Nat} (hk : k < l.length) (h : oChain v (l.take k) = true) (hr : oReady (oEnd v (l.take k)) l[k] = true) :
  oChain v (l.take (k + 1)) = true ∧ oEnd v (l.take (k + 1)) = oNext (oEnd v (l.take k)) l[k] := by
 rw [List.take_succ_eq_append_getElem hk]
 refine ⟨?_, oEnd_snoc _ _ _⟩
 rw [oChain_append, h]
 simp [oChain, hr]
theorem oChain_break {v : Ints} {l : List PTxn} {k : Nat} (hk : k < l.length) (h : oChain v (l.take k) = true) (hr : ¬ oReady (oEnd v (l.take k)) l[k] = true) : oChain v l = false := by
 have e : l = l.take k ++ (l[k] :: l.drop (k + 1)) := by rw [← List.drop_eq_getElem_cons hk, List.take_append_drop]
 rw [e, oChain_append, h]
 simp only [Bool.true_and]
 show (oReady _ _ && _) = false
 rw [Bool.eq_false_iff.2 hr, Bool.false_and]
end Go.Proofs.YtajfliemmfdnhaaGreat.Plain
namespace Go.Proofs.YtajfliemmfdnhaaGreat.Plain
set_option linter.unusedVariables false

def TSmall (t : PTxn) : Prop := t.seq ≤ 9223372036854775807
def otx (l : List PTxn) (j : Nat) : PTxn := l.getD j default
theorem otx_lt {l : List PTxn} {j : Nat} (h : j < l.length) : otx l j = l[j] := by unfold otx; simp [List.getD, h]
def gone (g : List Bool) (j : Nat) : Bool := g.getD j false
end Go.Proofs.YtajfliemmfdnhaaGreat.Plain
namespace Go.Proofs.YtajfliemmfdnhaaGreat.Plain
set_option linter.unusedVariables false

structure PPast where
 floor : Ints
 list : List PTxn
theorem ppast_ext {a b : PPast} (h1 : a.floor = b.floor) (h2 : a.list = b.list) : a = b := by
 cases a; cases b; simp_all
theorem ppast_dec {a b : PPast} : a = b ↔ a.floor = b.floor ∧ a.list = b.list := ⟨fun e => by subst e; exact ⟨rfl, rfl⟩, fun ⟨h1, h2⟩ => ppast_ext h1 h2⟩
def pHeard (v : Ints) (t : PTxn) : Bool := decide (1 ≤ t.seq) && decide (t.seq ≤ saysI v t.node)
def pEnd (p : PPast) : Ints := trim (oEnd p.floor p.list)
def pSound (p : PPast) : Bool := decide (trim p.floor = p.floor) && (oChain p.floor p.list && p.list.all tformedB)
structure PaSound (p : PPast) : Prop where
 floor : trim p.floor = p.floor
 chain : oChain p.floor p.list = true
 formed : ∀ t ∈ p.list, tformedB t = true
theorem pSound_iff {p : PPast} : pSound p = true ↔ PaSound p := by
 unfold pSound
 rw [Bool.and_eq_true, Bool.and_eq_true, decide_eq_true_iff, List.all_eq_true]
 exact ⟨fun ⟨a, b, c⟩ => ⟨a, b, c⟩, fun h => ⟨h.floor, h.chain, h.formed⟩⟩
def pErr (p : PPast) (t : PTxn) : Int := if tformedB t = false then 2 else if pHeard (pEnd p) t = true then 8 else if oReady (pEnd p) t = false then 9 else if 4096 ≤ p.list.length then 6 else 0
def pKeep (p : PPast) (t : PTxn) : PPast := if pErr p t = 0 then ⟨p.floor, p.list ++ [t]⟩ else ⟨[], []⟩
def pLeft (l : List PTxn) (v : Ints) : List PTxn := l.filter fun t => !pHeard v t
def pFloor (p : PPast) (to : Ints) : Ints := join p.floor (meet to (pEnd p))
def pPrune (p : PPast) (to : Ints) : PPast := ⟨pFloor p to, pLeft p.list (pFloor p to)⟩
theorem pEnd_says (p : PPast) (i : Nat) : says (pEnd p) i = says (oEnd p.floor p.list) i := trim_says _ _
theorem pEnd_short (p : PPast) : Short (pEnd p) := trim_short _

theorem pLeft_len (l : List PTxn) (v : Ints) : (pLeft l v).length ≤ l.length := List.length_filter_le _ _
end Go.Proofs.YtajfliemmfdnhaaGreat.Plain
