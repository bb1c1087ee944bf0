/- Fields as plain mathematics: what a field is of items, the fields of a key; the laws that follow. Requests as plain mathematics: when one is formed, what it takes away, the effect that it becomes, what a list of them becomes; the laws that follow. The program's own way with requests as plain mathematics: what it asks of a request, the dots that it sorts, the state of its loop. -/
import Derived.Test.YtpnpomocjkmncaaGreatMaths
import Derived.Laws.BitsLemmas
import Derived.Laws.BitsAllLaws
import Derived.Test.YtpnpomocjkmncaaGreatVWords
namespace Go.Proofs.YtpnpomocjkmncaaGreat.Plain
set_option linter.unusedVariables false

structure PVal where
 elems : List Txt
 regs : List Txt
 total : Int
 over : Bool
theorem pval_ext {a b : PVal} (h1 : a.elems = b.elems) (h2 : a.regs = b.regs) (h3 : a.total = b.total) (h4 : a.over = b.over) : a = b := by
 cases a; cases b; simp_all
instance : DecidableEq PVal := fun a b => decidable_of_iff (a.elems = b.elems ∧ a.regs = b.regs ∧ a.total = b.total ∧ a.over = b.over) ⟨fun ⟨h1, h2, h3, h4⟩ => pval_ext h1 h2 h3 h4, fun e => by subst e; exact ⟨rfl, rfl, rfl, rfl⟩⟩
instance : Inhabited PVal := ⟨⟨[], [], 0, false⟩⟩
def inField (key field : Txt) (x : PItem) : Bool := decide (x.key = key) && decide (x.field = field)
end Go.Proofs.YtpnpomocjkmncaaGreat.Plain
namespace Go.Proofs.YtpnpomocjkmncaaGreat.Plain
set_option linter.unusedVariables false

structure PReq where
 op : Int
 key : Txt
 field : Txt
 elem : Txt
 n : Int
instance : Inhabited PReq := ⟨⟨0, [], [], [], 0⟩⟩
def takesB (node : Int) (q : PReq) (x : PItem) : Bool :=
 inField q.key q.field x && (if q.op = 1 ∨ q.op = 2 then decide (x.kind = 1) && decide (x.elem = q.elem) else if q.op = 3 then decide (x.kind = 2) else if q.op = 4 then decide (x.kind = 3) && decide (x.dot.node = node) else true)
def taken (node : Int) (q : PReq) (s : List PItem) : List PItem := s.filter (takesB node q)
def dlt (a b : PDot) : Prop := a.node < b.node ∨ (a.node = b.node ∧ (a.seq < b.seq ∨ (a.seq = b.seq ∧ a.pos < b.pos)))
instance : DecidableRel dlt := fun a b => by unfold dlt; infer_instance
def inRange (node seq : Int) : Bool := decide (0 ≤ node ∧ node ≤ 7 ∧ 1 ≤ seq ∧ seq ≤ 1073741824)
structure Usual (node seq i : Int) (s : List PItem) : Prop where
 form : inorm s = s
 fine : ∀ x ∈ s, formedB x = true
 past : ∀ x ∈ s, x.dot.node = node → x.dot.seq < seq ∨ (x.dot.seq = seq ∧ x.dot.pos < i)
theorem Usual.mono {node seq i j : Int} {s : List PItem} (h : Usual node seq i s) (hij : i ≤ j) : Usual node seq j s := ⟨h.form, h.fine, fun x hx hn => by have := h.past x hx hn; omega⟩
theorem rises_of : ∀ {l : List PEff}, l.Pairwise (fun a b => a.pos < b.pos) → risesB l = true
 | [], _ => rfl
 | [_], _ => rfl
 | a :: b :: l, h => by
  obtain ⟨h1, h2⟩ := List.pairwise_cons.1 h
  unfold risesB
  rw [decide_eq_true (h1 b List.mem_cons_self), rises_of h2]
  rfl
end Go.Proofs.YtpnpomocjkmncaaGreat.Plain
namespace Go.Proofs.YtpnpomocjkmncaaGreat.Plain
set_option linter.unusedVariables false

theorem nodup_dots : ∀ {l : List PItem}, l.Nodup → DotsApart l → (l.map (·.dot)).Nodup
 | [], _, _ => List.nodup_nil
 | x :: l, hn, ha => by
  rw [List.map_cons, List.nodup_cons]
  rw [List.nodup_cons] at hn
  refine ⟨fun h => ?_, nodup_dots hn.2 fun a h b g e => ha a (List.mem_cons_of_mem _ h) b (List.mem_cons_of_mem _ g) e⟩
  obtain ⟨y, hy, e⟩ := List.mem_map.1 h
  exact hn.1 (by rw [← ha y (List.mem_cons_of_mem _ hy) x List.mem_cons_self e]; exact hy)

def DotsOnce (s : List PItem) : Prop := (s.map (·.dot)).Nodup
theorem DotsOnce.of {s : List PItem} (hr : Ris iless s) (ha : DotsApart s) : DotsOnce s := nodup_dots (Ris.nodup sto_item hr) ha
end Go.Proofs.YtpnpomocjkmncaaGreat.Plain
namespace Go.Proofs.YtpnpomocjkmncaaGreat.Plain

set_option linter.unusedVariables false

structure PTxn where
 node : Int
 seq : Int
 deps : List Int
 effs : List PEff
theorem ptxn_ext {a b : PTxn} (h1 : a.node = b.node) (h2 : a.seq = b.seq) (h3 : a.deps = b.deps) (h4 : a.effs = b.effs) : a = b := by
 cases a; cases b; simp_all
instance : DecidableEq PTxn := fun a b => decidable_of_iff (a.node = b.node ∧ a.seq = b.seq ∧ a.deps = b.deps ∧ a.effs = b.effs) ⟨fun ⟨h1, h2, h3, h4⟩ => ptxn_ext h1 h2 h3 h4, fun e => by subst e; exact ⟨rfl, rfl, rfl, rfl⟩⟩
instance : Inhabited PTxn := ⟨⟨0, 0, [], []⟩⟩
def heard1 (node seq : Int) (v : List Int) (d : PDot) : Bool := (decide (d.node = node) && decide (d.seq = seq)) || (decide (1 ≤ d.seq) && decide (d.seq ≤ saysI v d.node))
def heardB (l : List PEff) (node seq : Int) (v : List Int) : Bool := l.all fun e => e.drops.all (heard1 node seq v)
def depsB (t : PTxn) : Bool := decide (t.deps.length ≤ 8) && (decide (trim t.deps = t.deps) && (t.deps.all (fun n => decide (n ≤ 1073741824)) && decide (saysI t.deps t.node + 1 = t.seq)))
def tformedB (t : PTxn) : Bool := inRange t.node t.seq && (depsB t && (decide (t.effs.length ≤ 8) && (rightB t.node t.seq t.effs && heardB t.effs t.node t.seq t.deps)))
def tonly (t : PTxn) (z : List Txt) : PTxn := ⟨t.node, t.seq, t.deps, eonly t.effs z⟩
theorem tformed_parts {t : PTxn} : tformedB t = true ↔ inRange t.node t.seq = true ∧ depsB t = true ∧ t.effs.length ≤ 8 ∧ rightB t.node t.seq t.effs = true ∧ heardB t.effs t.node t.seq t.deps = true := by
 unfold tformedB
 simp only [Bool.and_eq_true, decide_eq_true_iff]
theorem right_only {node seq : Int} {l : List PEff} (h : rightB node seq l = true) (z : List Txt) : rightB node seq (eonly l z) = true := by
 have hr := right_rises h
 unfold rightB at h ⊢
 rw [Bool.and_eq_true, Bool.and_eq_true, List.all_eq_true, List.all_eq_true] at h ⊢
 refine ⟨fun e he => h.1 e (mem_eonly.1 he).1, rises_of ?_, fun e he => h.2.2 e (mem_eonly.1 he).1⟩
 exact List.Pairwise.filter _ hr
theorem tonly_formed {t : PTxn} (h : tformedB t = true) (z : List Txt) : tformedB (tonly t z) = true := by
 obtain ⟨h1, h2, h3, h4, h5⟩ := tformed_parts.1 h
 refine tformed_parts.2 ⟨h1, h2, ?_, right_only h4 z, ?_⟩
 ·have : (eonly t.effs z).length ≤ t.effs.length := List.length_filter_le _ _
  show (eonly t.effs z).length ≤ 8
  omega
 ·unfold heardB at h5 ⊢
  rw [List.all_eq_true] at h5 ⊢
  exact fun e he => h5 e (mem_eonly.1 he).1
end Go.Proofs.YtpnpomocjkmncaaGreat.Plain
namespace Go.Proofs.YtpnpomocjkmncaaGreat.Plain
set_option linter.unusedVariables false

def oValid (t : PTxn) : Bool := decide (0 ≤ t.node) && decide (t.node ≤ 7) && decide (0 ≤ t.seq) && decide (t.seq ≤ 1073741824)
def oReady (v : Ints) (t : PTxn) : Bool := decide (0 < t.seq) && decide (saysI v t.node = t.seq - 1) && within t.deps v
def oNext (v : Ints) (t : PTxn) : Ints := if oValid t then withN v t.node.toNat t.seq else trim v
def oChain : Ints → List PTxn → Bool
 | _, [] => true
 | v, t :: l => oReady v t && oChain (oNext v t) l
def oEnd (v : Ints) (l : List PTxn) : Ints := l.foldl oNext v
def oFirst (v : Ints) : List PTxn → Option (PTxn × List PTxn)
 | [] => none
 | t :: l => if oReady v t then some (t, l) else (oFirst v l).map fun x => (x.1, t :: x.2)
def oTakeN : Nat → Ints → List PTxn → List PTxn
 | 0, _, _ => []
 | n + 1, v, l => match oFirst v l with
  | none => []
  | some (t, r) => t :: oTakeN n (oNext v t) r
def oTake (v : Ints) (l : List PTxn) : List PTxn := oTakeN l.length v l
def oLeftN : Nat → Ints → List PTxn → List PTxn
 | 0, _, l => l
 | n + 1, v, l => match oFirst v l with
  | none => l
  | some (t, r) => oLeftN n (oNext v t) r

theorem oValid_iff {t : PTxn} : oValid t = true ↔ (0 ≤ t.node ∧ t.node ≤ 7) ∧ 0 ≤ t.seq ∧ t.seq ≤ 1073741824 := by
 unfold oValid; simp [and_assoc]
theorem oReady_iff {v : Ints} {t : PTxn} : oReady v t = true ↔ 0 < t.seq ∧ saysI v t.node = t.seq - 1 ∧ Within t.deps v := by
 unfold oReady; rw [Bool.and_eq_true, Bool.and_eq_true, within_iff, decide_eq_true_eq, decide_eq_true_eq, and_assoc]
theorem saysI_of {v : Ints} {n : Int} (h : 0 ≤ n) : saysI v n = says v n.toNat := by unfold saysI; rw [if_pos h]
theorem saysI_neg {v : Ints} {n : Int} (h : ¬ 0 ≤ n) : saysI v n = 0 := by unfold saysI; rw [if_neg h]
theorem oNext_says (v : Ints) (t : PTxn) (i : Nat) : says (oNext v t) i = if oValid t = true ∧ i = t.node.toNat then t.seq else says v i := by
 unfold oNext
 by_cases h : oValid t = true
 ·rw [if_pos h, with_says v _ _ (oValid_iff.1 h).2.1]
  unfold withF
  by_cases e : i = t.node.toNat
  ·rw [if_pos e, if_pos ⟨h, e⟩]
  ·rw [if_neg e, if_neg (fun x => e x.2)]
 ·rw [if_neg h, trim_says, if_neg (fun x => h x.1)]
theorem oNext_short (v : Ints) (t : PTxn) : Short (oNext v t) := by
 unfold oNext
 by_cases h : oValid t = true
 ·rw [if_pos h]; exact with_short v _ _ (oValid_iff.1 h).2.1
 ·rw [if_neg h]; exact trim_short v
theorem oNext_up {v : Ints} {t : PTxn} (h : oReady v t = true) (i : Nat) : says v i ≤ says (oNext v t) i := by
 rw [oNext_says]
 split
 ·rename_i c
  have h1 := (oReady_iff.1 h).2.1
  rw [saysI_of (oValid_iff.1 c.1).1.1, ← c.2] at h1
  omega
 ·exact Int.le_refl _
theorem oChain_cons {v : Ints} {t : PTxn} {l : List PTxn} : oChain v (t :: l) = true ↔ oReady v t = true ∧ oChain (oNext v t) l = true := by
 show (oReady v t && oChain (oNext v t) l) = true ↔ _
 rw [Bool.and_eq_true]
theorem oEnd_up : ∀ {l : List PTxn} {v : Ints}, oChain v l = true → ∀ i, says v i ≤ says (oEnd v l) i
 | [], v, _, i => Int.le_refl _
 | t :: l, v, h, i => Int.le_trans (oNext_up (oChain_cons.1 h).1 i) (oEnd_up (oChain_cons.1 h).2 i)
theorem oEnd_short : ∀ {l : List PTxn} {v : Ints}, l ≠ [] → Short (oEnd v l)
 | [], v, h => absurd rfl h
 | [t], v, h => oNext_short v t
 | t :: u :: l, v, h => oEnd_short (l := u :: l) (v := oNext v t) (by simp)
theorem oEnd_heard : ∀ {l : List PTxn} {v : Ints} {t : PTxn}, oChain v l = true → t ∈ l → oValid t = true → t.seq ≤ says (oEnd v l) t.node.toNat
 | [], _, _, _, h, _ => by cases h
 | u :: l, v, t, hc, hm, ht => by
  rcases List.mem_cons.1 hm with e | e
  ·subst e
   have h1 := oEnd_up (oChain_cons.1 hc).2 t.node.toNat
   rw [oNext_says, if_pos ⟨ht, rfl⟩] at h1
   exact h1
  ·show t.seq ≤ says (oEnd (oNext v u) l) t.node.toNat
   exact oEnd_heard (oChain_cons.1 hc).2 e ht
theorem oEnd_hits : ∀ {l : List PTxn} {v : Ints} {k : Nat} {s : Int}, oChain v l = true → says v k < s → s ≤ says (oEnd v l) k →
  ∃ t ∈ l, oValid t = true ∧ t.node = (k : Int) ∧ t.seq = s
 | [], _, _, _, _, h1, h2 => by
  exact absurd (Int.lt_of_lt_of_le h1 h2) (Int.lt_irrefl _)
 | u :: l, v, k, s, hc, h1, h2 => by
  have hc' := oChain_cons.1 hc
  by_cases c : oValid u = true ∧ k = u.node.toNat
  ·have hr := (oReady_iff.1 hc'.1).2.1
   have hn := (oValid_iff.1 c.1).1.1
   rw [saysI_of hn, ← c.2] at hr
   by_cases e : u.seq = s
   ·exact ⟨u, by simp, c.1, by omega, e⟩
   ·obtain ⟨t, ht, h⟩ := oEnd_hits (k := k) (s := s) hc'.2 (by rw [oNext_says, if_pos c]; omega) h2
    exact ⟨t, by simp [ht], h⟩
  ·obtain ⟨t, ht, h⟩ := oEnd_hits (k := k) (s := s) hc'.2 (by rw [oNext_says, if_neg c]; exact h1) h2
   exact ⟨t, by simp [ht], h⟩
theorem oFirst_some : ∀ {l : List PTxn} {v : Ints} {t : PTxn} {r : List PTxn}, oFirst v l = some (t, r) → oReady v t = true ∧ l.Perm (t :: r)
 | [], _, _, _, h => by cases h
 | u :: l, v, t, r, h => by
  unfold oFirst at h
  by_cases c : oReady v u = true
  ·rw [if_pos c] at h
   cases h
   exact ⟨c, List.Perm.refl _⟩
  ·rw [if_neg c] at h
   rcases hf : oFirst v l with _ | ⟨x, y⟩
   ·rw [hf] at h; cases h
   ·rw [hf] at h
    cases h
    obtain ⟨h1, h2⟩ := oFirst_some hf
    exact ⟨h1, (h2.cons u).trans (List.Perm.swap _ _ _)⟩
theorem oFirst_none : ∀ {l : List PTxn} {v : Ints}, oFirst v l = none ↔ ∀ t ∈ l, ¬ oReady v t = true
 | [], v => by simp [oFirst]
 | u :: l, v => by
  unfold oFirst
  by_cases c : oReady v u = true
  ·rw [if_pos c]
   constructor
   ·intro h; cases h
   ·intro h; exact absurd c (h u (by simp))
  ·rw [if_neg c, Option.map_eq_none_iff, oFirst_none]
   constructor
   ·intro h t ht
    rcases List.mem_cons.1 ht with e | e
    ·subst e; exact c
    ·exact h t e
   ·intro h t ht; exact h t (by simp [ht])
theorem oTakeN_chain : ∀ (n : Nat) (v : Ints) (l : List PTxn), oChain v (oTakeN n v l) = true
 | 0, _, _ => rfl
 | n + 1, v, l => by
  unfold oTakeN
  rcases hf : oFirst v l with _ | ⟨t, r⟩
  ·rfl
  ·exact oChain_cons.2 ⟨(oFirst_some hf).1, oTakeN_chain n _ r⟩
theorem oTakeN_perm : ∀ (n : Nat) (v : Ints) (l : List PTxn), l.Perm (oTakeN n v l ++ oLeftN n v l)
 | 0, _, _ => List.Perm.refl _
 | n + 1, v, l => by
  unfold oTakeN oLeftN
  rcases hf : oFirst v l with _ | ⟨t, r⟩
  ·exact List.Perm.refl _
  ·exact (oFirst_some hf).2.trans ((oTakeN_perm n _ r).cons t)
theorem oTakeN_done : ∀ (n : Nat) (v : Ints) (l : List PTxn), l.length ≤ n → ∀ t ∈ oLeftN n v l, ¬ oReady (oEnd v (oTakeN n v l)) t = true
 | 0, v, l, h, t, ht => by
  have : l = [] := by cases l; rfl; simp at h
  subst this; cases ht
 | n + 1, v, l, h, t, ht => by
  unfold oTakeN
  unfold oLeftN at ht
  rcases hf : oFirst v l with _ | ⟨u, r⟩
  ·rw [hf] at ht
   exact oFirst_none.1 hf t ht
  ·rw [hf] at ht
   have hl := (oFirst_some hf).2.length_eq
   exact oTakeN_done n _ r (by simp at hl; omega) t ht
theorem oTake_chain (v : Ints) (l : List PTxn) : oChain v (oTake v l) = true := oTakeN_chain _ v l
theorem oTake_sub {v : Ints} {l : List PTxn} {t : PTxn} (h : t ∈ oTake v l) : t ∈ l :=
 (oTakeN_perm l.length v l).mem_iff.2 (List.mem_append.2 (Or.inl h))
theorem oTake_done {v : Ints} {l : List PTxn} {t : PTxn} (h : t ∈ l) : t ∈ oTake v l ∨ ¬ oReady (oEnd v (oTake v l)) t = true := by
 rcases List.mem_append.1 ((oTakeN_perm l.length v l).mem_iff.1 h) with e | e
 ·exact Or.inl e
 ·exact Or.inr (oTakeN_done _ v l (Nat.le_refl _) t e)
theorem oTake_len (v : Ints) (l : List PTxn) : (oTake v l).length ≤ l.length := by
 have := (oTakeN_perm l.length v l).length_eq
 rw [List.length_append] at this
 show (oTakeN l.length v l).length ≤ _
 omega
theorem oTake_none {v : Ints} {l : List PTxn} (h : ∀ t ∈ l, ¬ oReady v t = true) : oTake v l = [] := by
 unfold oTake
 rcases l with _ | ⟨t, l⟩
 ·rfl
 ·show oTakeN (l.length + 1) v (t :: l) = []
  unfold oTakeN
  rw [oFirst_none.2 h]
theorem oConf {w v : Ints} {b : List PTxn} (hb : oChain v b = true) (hw : w = oEnd v b) :
  ∀ {a : List PTxn} {u : Ints}, oChain u a = true → (∀ i, says v i ≤ says u i) → (∀ i, says u i ≤ says w i) →
   (∀ t ∈ a, t ∈ b ∨ ¬ oReady w t = true) → (∀ t ∈ a, ∀ t' ∈ b, t'.node = t.node → t'.seq = t.seq → t' = t) → ∀ t ∈ a, t ∈ b
 | [], _, _, _, _, _, _, t, h => by cases h
 | s :: a, u, hc, h1, h2, hd, hu, t, ht => by
  have hc' := oChain_cons.1 hc
  have hs : s ∈ b := by
   refine Decidable.byContradiction fun hn => ?_
   have e : ¬ oReady w s = true := (hd s (by simp)).resolve_left hn
   obtain ⟨r1, r2, r3⟩ := oReady_iff.1 hc'.1
   apply e
   refine oReady_iff.2 ⟨r1, ?_, fun i => Int.le_trans (r3 i) (h2 i)⟩
   by_cases n0 : 0 ≤ s.node
   ·rw [saysI_of n0] at r2 ⊢
    have q1 := h1 s.node.toNat
    have q2 := h2 s.node.toNat
    by_cases z : says w s.node.toNat = s.seq - 1
    ·exact z
    ·exfalso
     subst hw
     obtain ⟨t', m', v', n', s'⟩ := oEnd_hits (k := s.node.toNat) (s := s.seq) hb (by omega) (by omega)
     have := hu s (by simp) t' m' (by omega) s'
     subst this
     exact hn m'
   ·rw [saysI_neg n0] at r2 ⊢; exact r2
  rcases List.mem_cons.1 ht with e | e
  ·subst e; exact hs
  ·refine oConf hb hw hc'.2 (fun i => Int.le_trans (h1 i) (oNext_up hc'.1 i)) (fun i => ?_) (fun x hx => hd x (by simp [hx])) (fun x hx => hu x (by simp [hx])) t e
   rw [oNext_says]
   split
   ·rename_i c
    rw [c.2, hw]
    exact oEnd_heard hb hs c.1
   ·exact h2 i
theorem oTake_conf {v : Ints} {l m : List PTxn} (hs : ∀ t ∈ l, t ∈ m) (hu : ∀ t ∈ m, ∀ t' ∈ m, t'.node = t.node → t'.seq = t.seq → t' = t)
  {t : PTxn} (h : t ∈ oTake v l) : t ∈ oTake v m :=
 oConf (b := oTake v m) (oTake_chain v m) rfl (oTake_chain v l) (fun i => Int.le_refl _) (oEnd_up (oTake_chain v m))
  (fun t ht => oTake_done (hs t (oTake_sub ht))) (fun t ht t' ht' => hu t (hs t (oTake_sub ht)) t' (oTake_sub ht')) t h
theorem oEnd_le {v : Ints} {b : List PTxn} (hb : oChain v b = true) {w : Ints} (hw : w = oEnd v b) :
  ∀ {a : List PTxn} {u : Ints}, oChain u a = true → (∀ i, says u i ≤ says w i) → (∀ t ∈ a, t ∈ b) → ∀ i, says (oEnd u a) i ≤ says w i
 | [], _, _, h, _, i => h i
 | s :: a, u, hc, h, hm, i => by
  have hc' := oChain_cons.1 hc
  refine oEnd_le hb hw hc'.2 (fun i => ?_) (fun t ht => hm t (by simp [ht])) i
  rw [oNext_says]
  split
  ·rename_i c
   rw [c.2, hw]
   exact oEnd_heard hb (hm s (by simp)) c.1
  ·exact h i
theorem oEnd_same {v : Ints} {a b : List PTxn} (ha : oChain v a = true) (hb : oChain v b = true) (h1 : ∀ t ∈ a, t ∈ b) (h2 : ∀ t ∈ b, t ∈ a) (i : Nat) : says (oEnd v a) i = says (oEnd v b) i :=
 Int.le_antisymm (oEnd_le hb rfl ha (oEnd_up hb) h1 i) (oEnd_le ha rfl hb (oEnd_up ha) h2 i)
theorem oEnd_eq {v : Ints} {a b : List PTxn} (ha : oChain v a = true) (hb : oChain v b = true) (h1 : ∀ t ∈ a, t ∈ b) (h2 : ∀ t ∈ b, t ∈ a) : oEnd v a = oEnd v b := by
 rcases a with _ | ⟨s, a⟩
 ·rcases b with _ | ⟨t, b⟩
  ·rfl
  ·exact absurd (h2 t (by simp)) (by simp)
 ·rcases b with _ | ⟨t, b⟩
  ·exact absurd (h1 s (by simp)) (by simp)
  ·exact short_ext (oEnd_short (by simp)) (oEnd_short (by simp)) (oEnd_same ha hb h1 h2)
theorem oChain_above : ∀ {l : List PTxn} {v : Ints} {t : PTxn}, oChain v l = true → t ∈ l → 0 ≤ t.node → says v t.node.toNat < t.seq
 | [], _, _, _, h, _ => by cases h
 | u :: l, v, t, hc, hm, hn => by
  have hc' := oChain_cons.1 hc
  rcases List.mem_cons.1 hm with e | e
  ·subst e
   have := (oReady_iff.1 hc'.1).2.1
   rw [saysI_of hn] at this
   omega
  ·exact Int.lt_of_le_of_lt (oNext_up hc'.1 _) (oChain_above hc'.2 e hn)
theorem oChain_nodup : ∀ {l : List PTxn} {v : Ints}, oChain v l = true → (∀ t ∈ l, oValid t = true) → l.Nodup
 | [], _, _, _ => List.nodup_nil
 | t :: l, v, hc, hv => by
  have hc' := oChain_cons.1 hc
  refine List.nodup_cons.2 ⟨fun hm => ?_, oChain_nodup hc'.2 fun x hx => hv x (by simp [hx])⟩
  have hq := hv t (by simp)
  have := oChain_above hc'.2 hm (oValid_iff.1 hq).1.1
  rw [oNext_says, if_pos ⟨hq, rfl⟩] at this
  exact absurd this (Int.lt_irrefl _)
theorem otx_nodup_len : ∀ {a b : List PTxn}, a.Nodup → (∀ x ∈ a, x ∈ b) → a.length ≤ b.length
 | [], _, _, _ => Nat.zero_le _
 | x :: a, b, hn, h => by
  have hn' := List.nodup_cons.1 hn
  have hx := h x (by simp)
  have h1 := otx_nodup_len (b := b.erase x) hn'.2 fun y hy => (List.mem_erase_of_ne (show y ≠ x from fun e => hn'.1 (by rw [← e]; exact hy))).2 (h y (by simp [hy]))
  have h2 := List.length_erase_of_mem hx
  have h3 := List.length_pos_of_mem hx
  rw [h2] at h1
  show a.length + 1 ≤ _
  omega
theorem oTake_twice {v : Ints} {l : List PTxn} (hv : ∀ t ∈ l, oValid t = true) : oTake (oEnd v (oTake v l)) l = [] := by
 refine oTake_none fun t ht hr => ?_
 rcases oTake_done (v := v) ht with e | e
 ·have h1 := oEnd_heard (oTake_chain v l) e (hv t ht)
  have h2 := (oReady_iff.1 hr).2.1
  rw [saysI_of (oValid_iff.1 (hv t ht)).1.1] at h2
  omega
 ·exact e hr
def oApart (l : List PTxn) : Prop := l.Pairwise fun a b => ¬ (a.node = b.node ∧ a.seq = b.seq)
theorem oApart_nodup {l : List PTxn} (h : oApart l) : l.Nodup := List.Pairwise.imp (fun {a b} hab (e : a = b) => hab ⟨by rw [e], by rw [e]⟩) h
theorem oApart_eq : ∀ {l : List PTxn}, oApart l → ∀ t ∈ l, ∀ t' ∈ l, t'.node = t.node → t'.seq = t.seq → t' = t
 | [], _, t, ht, _, _, _, _ => by cases ht
 | u :: l, h, t, ht, t', ht', e1, e2 => by
  have h' := List.pairwise_cons.1 h
  rcases List.mem_cons.1 ht with e | e
  ·rcases List.mem_cons.1 ht' with f | f
   ·rw [e, f]
   ·exact absurd ⟨by rw [← e, e1], by rw [← e, e2]⟩ (h'.1 t' f)
  ·rcases List.mem_cons.1 ht' with f | f
   ·exact absurd ⟨by rw [← f, e1], by rw [← f, e2]⟩ (h'.1 t e)
   ·exact oApart_eq h'.2 t e t' f e1 e2
theorem oTake_nodup {v : Ints} {l : List PTxn} (h : l.Nodup) : (oTake v l).Nodup :=
 (List.nodup_append.1 ((oTakeN_perm l.length v l).nodup_iff.1 h)).1
theorem oTake_any {v : Ints} {l m : List PTxn} (h : oApart l) (hp : l.Perm m) :
  (∀ t, t ∈ oTake v l ↔ t ∈ oTake v m) ∧ (oTake v l).length = (oTake v m).length ∧ oEnd v (oTake v l) = oEnd v (oTake v m) := by
 have hu := oApart_eq h
 have hum : ∀ t ∈ m, ∀ t' ∈ m, t'.node = t.node → t'.seq = t.seq → t' = t := fun t ht t' ht' => hu t (hp.mem_iff.2 ht) t' (hp.mem_iff.2 ht')
 have h1 : ∀ t ∈ oTake v l, t ∈ oTake v m := fun t ht => oTake_conf (fun x hx => hp.mem_iff.1 hx) hum ht
 have h2 : ∀ t ∈ oTake v m, t ∈ oTake v l := fun t ht => oTake_conf (fun x hx => hp.mem_iff.2 hx) hu ht
 have n1 := oApart_nodup h
 have n2 := hp.nodup_iff.1 n1
 exact ⟨fun t => ⟨h1 t, h2 t⟩, Nat.le_antisymm (otx_nodup_len (oTake_nodup n1) h1) (otx_nodup_len (oTake_nodup n2) h2), oEnd_eq (oTake_chain v l) (oTake_chain v m) h1 h2⟩
theorem oFormed_valid {t : PTxn} (h : tformedB t = true) : oValid t = true := by
 have h := (tformed_parts.1 h).1
 unfold inRange at h
 simp only [decide_eq_true_eq] at h
 refine oValid_iff.2 ?_
 omega
theorem oTake_step {v : Ints} {l : List PTxn} {t : PTxn} {r : List PTxn} (h : oFirst v l = some (t, r)) : oTake v l = t :: oTake (oNext v t) r := by
 have hl := (oFirst_some h).2.length_eq
 unfold oTake
 rw [hl]
 show oTakeN (r.length + 1) v l = _
 conv => lhs; unfold oTakeN
 rw [h]
theorem oTake_stop {v : Ints} {l : List PTxn} (h : oFirst v l = none) : oTake v l = [] := oTake_none (oFirst_none.1 h)
theorem oChain_append : ∀ (a : List PTxn) (v : Ints) (b : List PTxn), oChain v (a ++ b) = (oChain v a && oChain (oEnd v a) b)
 | [], v, b => by simp [oChain, oEnd]
 | t :: a, v, b => by
  show (oReady v t && oChain (oNext v t) (a ++ b)) = ((oReady v t && oChain (oNext v t) a) && oChain (oEnd (oNext v t) a) b)
  rw [oChain_append a, Bool.and_assoc]
theorem oEnd_append (v : Ints) (a b : List PTxn) : oEnd v (a ++ b) = oEnd (oEnd v a) b := by unfold oEnd; rw [List.foldl_append]
theorem oEnd_snoc (v : Ints) (a : List PTxn) (t : PTxn) : oEnd v (a ++ [t]) = oNext (oEnd v a) t := by rw [oEnd_append]; rfl
def oLeft : List Bool → List PTxn → List PTxn
 | g :: gs, t :: l => if g then oLeft gs l else t :: oLeft gs l
 | _, _ => []
theorem oLeft_all : ∀ l : List PTxn, oLeft (List.replicate l.length false) l = l
 | [] => rfl
 | t :: l => congrArg (t :: ·) (oLeft_all l)
theorem oLeft_first : ∀ {g : List Bool} {l : List PTxn} {v : Ints} {i : Nat} (hg : i < g.length) (hl : i < l.length), g[i] = false → oReady v l[i] = true →
  (∀ j (h1 : j < g.length) (h2 : j < l.length), j < i → g[j] = true ∨ ¬ oReady v l[j] = true) → oFirst v (oLeft g l) = some (l[i], oLeft (g.set i true) l)
 | [], _, _, _, hg, _, _, _, _ => by simp at hg
 | _ :: _, [], _, _, _, hl, _, _, _ => by simp at hl
 | b :: g, t :: l, v, 0, hg, hl, h1, h2, _ => by
  have hb : b = false := h1
  subst hb
  have h2 : oReady v t = true := h2
  show oFirst v (t :: oLeft g l) = some (t, oLeft g l)
  unfold oFirst
  rw [if_pos h2]
 | b :: g, t :: l, v, i + 1, hg, hl, h1, h2, h3 => by
  have hi := oLeft_first (g := g) (l := l) (v := v) (i := i) (by simpa using hg) (by simpa using hl) h1 h2
   fun j a c e => h3 (j + 1) (by simpa using a) (by simpa using c) (by omega)
  have h0 := h3 0 (by simp) (by simp) (by omega)
  cases b with
  | true => exact hi
  | false =>
   have h0 : ¬ oReady v t = true := h0.resolve_left (by simp)
   have hl' : i < l.length := by simpa using hl
   show oFirst v (t :: oLeft g l) = some (l[i], t :: oLeft (g.set i true) l)
   unfold oFirst
   rw [if_neg h0, hi]
   rfl
theorem oLeft_none : ∀ {g : List Bool} {l : List PTxn} {v : Ints}, (∀ j (h1 : j < g.length) (h2 : j < l.length), g[j] = true ∨ ¬ oReady v l[j] = true) → oFirst v (oLeft g l) = none
 | [], _, _, _ => by unfold oLeft; rfl
 | _ :: _, [], _, _ => by unfold oLeft; rfl
 | b :: g, t :: l, v, h => by
  have hi := oLeft_none (g := g) (l := l) (v := v) fun j a c => h (j + 1) (by simpa using a) (by simpa using c)
  have h0 := h 0 (by simp) (by simp)
  cases b with
  | true => exact hi
  | false =>
   have h0 : ¬ oReady v t = true := h0.resolve_left (by simp)
   show oFirst v (t :: oLeft g l) = none
   unfold oFirst
   rw [if_neg h0, hi]
   rfl
end Go.Proofs.YtpnpomocjkmncaaGreat.Plain
