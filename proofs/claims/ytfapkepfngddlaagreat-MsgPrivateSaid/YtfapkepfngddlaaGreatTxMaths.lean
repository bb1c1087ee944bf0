/- Signs and halves of 64-bit integers under xor, and, or, as the model reckons them; for all integers within 64 bits. Sums of lists of integers, by their upper and lower halves; for all lists. -/
import Derived.Laws.BitsLemmas
import Derived.Laws.BitsAllLaws
import Derived.Test.YtfapkepfngddlaaGreatMaths
import Derived.Test.YtfapkepfngddlaaGreatVWords
import Derived.Test.YtfapkepfngddlaaGreatBCodes
namespace Go.Proofs.YtfapkepfngddlaaGreat.Nm.Plain

end Go.Proofs.YtfapkepfngddlaaGreat.Nm.Plain
namespace Go.Proofs.YtfapkepfngddlaaGreat.Nm.Plain

def fits (n : Int) : Prop := -9223372036854775808 ≤ n ∧ n ≤ 9223372036854775807
instance (n : Int) : Decidable (fits n) := by unfold fits; infer_instance
def sumV (n : Int) : Int := if fits n then n else 0
def sumE (n : Int) : Int := if fits n then 0 else 5

def tot (l : List Int) : Int := l.foldr (· + ·) 0
end Go.Proofs.YtfapkepfngddlaaGreat.Nm.Plain
namespace Go.Proofs.YtfapkepfngddlaaGreat.Plain
open Nm.Plain (fits sumV sumE tot)
set_option linter.unusedVariables false

structure PVal where
 elems : List Txt
 regs : List Txt
 total : Int
 over : Bool
theorem pval_ext {a b : PVal} (h1 : a.elems = b.elems) (h2 : a.regs = b.regs) (h3 : a.total = b.total) (h4 : a.over = b.over) : a = b := by
 cases a; cases b; simp_all
instance : DecidableEq PVal := fun a b => decidable_of_iff (a.elems = b.elems ∧ a.regs = b.regs ∧ a.total = b.total ∧ a.over = b.over) ⟨fun ⟨h1, h2, h3, h4⟩ => pval_ext h1 h2 h3 h4, fun e => by subst e; exact ⟨rfl, rfl, rfl, rfl⟩⟩
instance : Inhabited PVal := ⟨⟨[], [], 0, false⟩⟩
end Go.Proofs.YtfapkepfngddlaaGreat.Plain
namespace Go.Proofs.YtfapkepfngddlaaGreat.Plain
open Nm.Plain (fits sumV sumE tot)
set_option linter.unusedVariables false

structure PReq where
 op : Int
 key : Txt
 field : Txt
 elem : Txt
 n : Int
instance : Inhabited PReq := ⟨⟨0, [], [], [], 0⟩⟩
def dlt (a b : PDot) : Prop := a.node < b.node ∨ (a.node = b.node ∧ (a.seq < b.seq ∨ (a.seq = b.seq ∧ a.pos < b.pos)))
instance : DecidableRel dlt := fun a b => by unfold dlt; infer_instance
def inRange (node seq : Int) : Bool := decide (0 ≤ node ∧ node ≤ 7 ∧ 1 ≤ seq ∧ seq ≤ 1073741824)
structure Usual (node seq i : Int) (s : List PItem) : Prop where
 form : inorm s = s
 fine : ∀ x ∈ s, formedB x = true
 past : ∀ x ∈ s, x.dot.node = node → x.dot.seq < seq ∨ (x.dot.seq = seq ∧ x.dot.pos < i)
theorem Usual.apart {node seq i : Int} {s : List PItem} (h : Usual node seq i s) : DotsApart s := by rw [← h.form]; exact apart_inorm s
theorem Usual.mono {node seq i j : Int} {s : List PItem} (h : Usual node seq i s) (hij : i ≤ j) : Usual node seq j s := ⟨h.form, h.fine, fun x hx hn => by have := h.past x hx hn; omega⟩
theorem formed_parts {x : PItem} : formedB x = true ↔ dotB x.dot = true ∧ keyB x.key = true ∧ prefixB x.field = true ∧ x.elem.length ≤ 32 ∧ valueB x = true := by
 unfold formedB
 simp only [Bool.and_eq_true, decide_eq_true_iff]
theorem drops_dot : ∀ {l : List PDot}, dropsB l = true → ∀ d ∈ l, dotB d = true
 | [], _, d, hd => absurd hd (by simp)
 | [x], h, d, hd => by rw [List.mem_singleton.1 hd]; exact h
 | x :: y :: l, h, d, hd => by
  rw [dropsB, Bool.and_eq_true, Bool.and_eq_true] at h
  rcases List.mem_cons.1 hd with rfl | hd
  ·exact h.1
  ·exact drops_dot h.2.2 d hd
end Go.Proofs.YtfapkepfngddlaaGreat.Plain
namespace Go.Proofs.YtfapkepfngddlaaGreat.Plain
open Nm.Plain (fits sumV sumE tot)
set_option linter.unusedVariables false

theorem nodup_dots : ∀ {l : List PItem}, l.Nodup → DotsApart l → (l.map (·.dot)).Nodup
 | [], _, _ => List.nodup_nil
 | x :: l, hn, ha => by
  rw [List.map_cons, List.nodup_cons]
  rw [List.nodup_cons] at hn
  refine ⟨fun h => ?_, nodup_dots hn.2 fun a h b g e => ha a (List.mem_cons_of_mem _ h) b (List.mem_cons_of_mem _ g) e⟩
  obtain ⟨y, hy, e⟩ := List.mem_map.1 h
  exact hn.1 (by rw [← ha y (List.mem_cons_of_mem _ hy) x List.mem_cons_self e]; exact hy)

def DotsOnce (s : List PItem) : Prop := (s.map (·.dot)).Nodup
theorem DotsOnce.of {s : List PItem} (hr : Ris iless s) (ha : DotsApart s) : DotsOnce s := nodup_dots (Ris.nodup sto_item hr) ha
end Go.Proofs.YtfapkepfngddlaaGreat.Plain
namespace Go.Proofs.YtfapkepfngddlaaGreat.Plain
open Nm.Plain (fits)
set_option linter.unusedVariables false

structure PTxn where
 node : Int
 seq : Int
 deps : List Int
 effs : List PEff
theorem ptxn_ext {a b : PTxn} (h1 : a.node = b.node) (h2 : a.seq = b.seq) (h3 : a.deps = b.deps) (h4 : a.effs = b.effs) : a = b := by
 cases a; cases b; simp_all
instance : DecidableEq PTxn := fun a b => decidable_of_iff (a.node = b.node ∧ a.seq = b.seq ∧ a.deps = b.deps ∧ a.effs = b.effs) ⟨fun ⟨h1, h2, h3, h4⟩ => ptxn_ext h1 h2 h3 h4, fun e => by subst e; exact ⟨rfl, rfl, rfl, rfl⟩⟩
instance : Inhabited PTxn := ⟨⟨0, 0, [], []⟩⟩
def heard1 (node seq : Int) (v : List Int) (d : PDot) : Bool := (decide (d.node = node) && decide (d.seq = seq)) || (decide (1 ≤ d.seq) && decide (d.seq ≤ saysI v d.node))
def heardB (l : List PEff) (node seq : Int) (v : List Int) : Bool := l.all fun e => e.drops.all (heard1 node seq v)
def depsB (t : PTxn) : Bool := decide (t.deps.length ≤ 8) && (decide (trim t.deps = t.deps) && (t.deps.all (fun n => decide (n ≤ 1073741824)) && decide (saysI t.deps t.node + 1 = t.seq)))
def tformedB (t : PTxn) : Bool := inRange t.node t.seq && (depsB t && (decide (t.effs.length ≤ 8) && (rightB t.node t.seq t.effs && heardB t.effs t.node t.seq t.deps)))
def tonly (t : PTxn) (z : List Txt) : PTxn := ⟨t.node, t.seq, t.deps, eonly t.effs z⟩
theorem tformed_parts {t : PTxn} : tformedB t = true ↔ inRange t.node t.seq = true ∧ depsB t = true ∧ t.effs.length ≤ 8 ∧ rightB t.node t.seq t.effs = true ∧ heardB t.effs t.node t.seq t.deps = true := by
 unfold tformedB
 simp only [Bool.and_eq_true, decide_eq_true_iff]
theorem trim_pos {v : List Int} (h : trim v = v) : ∀ n ∈ v, 0 ≤ n := by
 intro n hn
 obtain ⟨j, hj, rfl⟩ := List.getElem_of_mem hn
 have e : (trim v).getD j 0 = v.getD j 0 := by rw [h]
 have e2 : v.getD j 0 = v[j] := by simp [List.getD, List.getElem?_eq_getElem hj]
 rw [e2] at e
 rw [← e]
 unfold trim
 rw [laid_getD, if_pos hj]
 exact says_pos v j
theorem deps_parts {t : PTxn} (h : depsB t = true) : t.deps.length ≤ 8 ∧ ∀ n ∈ t.deps, 0 ≤ n ∧ n ≤ 1073741824 := by
 unfold depsB at h
 simp only [Bool.and_eq_true, decide_eq_true_iff, List.all_eq_true] at h
 exact ⟨h.1, fun n hn => ⟨trim_pos h.2.1 n hn, h.2.2.1 n hn⟩⟩

def dotC : Codec PDot := (numI.seq (numI.seq numI)).emb (fun p => ⟨p.1, p.2.1, p.2.2⟩) (fun d => (d.node, d.seq, d.pos)) fun _ _ => rfl
def effC : Codec PEff := (numI.seq (textC.seq (textC.seq (numI.seq (textC.seq (intC.seq (dotC.list 64 2 (by decide) (by decide)))))))).emb (fun p => ⟨p.1, p.2.1, p.2.2.1, p.2.2.2.1, p.2.2.2.2.1, p.2.2.2.2.2.1, p.2.2.2.2.2.2⟩) (fun e => (e.pos, e.key, e.field, e.kind, e.elem, e.n, e.drops)) fun _ _ => rfl
def txnC0 : Codec PTxn := (numI.seq (numI.seq ((numI.list 8 2 (by decide) (by decide)).seq (effC.list 8 2 (by decide) (by decide))))).emb (fun p => ⟨p.1, p.2.1, p.2.2.1, p.2.2.2⟩) (fun t => (t.node, t.seq, t.deps, t.effs)) fun _ _ => rfl
def txnC : Codec PTxn := txnC0.test tformedB 2 (by decide)
theorem dotC_ok {d : PDot} (h : dotB d = true) : dotC.ok d := by
 unfold dotB at h
 rw [decide_eq_true_iff] at h
 exact ⟨⟨numI_ok.2 (by show 0 ≤ d.node ∧ d.node < _; omega), numI_ok.2 (by show 0 ≤ d.seq ∧ d.seq < _; omega), numI_ok.2 (by show 0 ≤ d.pos ∧ d.pos < _; omega)⟩, rfl⟩
theorem key_len {s : Txt} (h : prefixB s = true) : s.length ≤ 16 := by
 unfold prefixB at h
 rw [Bool.and_eq_true, decide_eq_true_iff] at h
 exact h.2
theorem key_pre {s : Txt} (h : keyB s = true) : prefixB s = true := by
 unfold keyB at h
 rw [Bool.and_eq_true] at h
 exact h.2
theorem eff_parts {node seq : Int} {e : PEff} (h : eformedB node seq e = true) : e.key.length ≤ 16 ∧ e.field.length ≤ 16 ∧ e.elem.length ≤ 32 ∧ 0 ≤ e.kind ∧ e.kind ≤ 3 ∧ 0 ≤ e.pos ∧ e.pos ≤ 7 ∧ e.drops.length ≤ 64 ∧ ∀ d ∈ e.drops, dotB d = true := by
 unfold eformedB at h
 rw [Bool.and_eq_true, Bool.and_eq_true, decide_eq_true_iff] at h
 obtain ⟨h1, h2, h3⟩ := h
 have hp : ∀ {p : Int}, dotB ⟨node, seq, p⟩ = true → 0 ≤ p ∧ p ≤ 7 := fun {p} g => by
  unfold dotB at g
  rw [decide_eq_true_iff] at g
  exact g.2.2.2.2
 unfold makesB at h3
 split at h3
 ·rename_i k
  simp only [Bool.and_eq_true, decide_eq_true_iff] at h3
  obtain ⟨-, g2, -, g4, g5, g6⟩ := h3
  exact ⟨key_len (key_pre g4), key_len g5, by omega, by omega, by omega, (hp g6).1, (hp g6).2, h1, drops_dot h2⟩
 ·obtain ⟨g1, g2, g3, g4, g5⟩ := formed_parts.1 h3
  have hk : 0 ≤ e.kind ∧ e.kind ≤ 3 := by
   change valueB (madeI node seq e) = true at g5
   unfold valueB madeI at g5
   simp only [Bool.or_eq_true, Bool.and_eq_true, decide_eq_true_iff] at g5
   omega
  exact ⟨key_len (key_pre g2), key_len g3, g4, hk.1, hk.2, (hp g1).1, (hp g1).2, h1, drops_dot h2⟩
theorem effC_ok {node seq : Int} {e : PEff} (h : eformedB node seq e = true) (hn : fits e.n) : effC.ok e := by
 obtain ⟨h1, h2, h3, h4, h5, h6, h7, h8, h9⟩ := eff_parts h
 refine ⟨⟨numI_ok.2 (by show 0 ≤ e.pos ∧ e.pos < _; omega), ?_, ?_, numI_ok.2 (by show 0 ≤ e.kind ∧ e.kind < _; omega), ?_, hn, h8, fun d hd => dotC_ok (h9 d hd)⟩, rfl⟩
 ·show e.key.length ≤ 65536; omega
 ·show e.field.length ≤ 65536; omega
 ·show e.elem.length ≤ 65536; omega
theorem txnC_ok {t : PTxn} (h : tformedB t = true) (hn : ∀ e ∈ t.effs, fits e.n) : txnC.ok t := by
 obtain ⟨h1, h2, h3, h4, h5⟩ := tformed_parts.1 h
 have hr : 0 ≤ t.node ∧ t.node ≤ 7 ∧ 1 ≤ t.seq ∧ t.seq ≤ 1073741824 := by
  unfold inRange at h1
  exact of_decide_eq_true h1
 obtain ⟨d1, d2⟩ := deps_parts h2
 have hf : ∀ e ∈ t.effs, eformedB t.node t.seq e = true := by
  unfold rightB at h4
  rw [Bool.and_eq_true, List.all_eq_true] at h4
  exact h4.1
 exact ⟨⟨⟨numI_ok.2 (by show 0 ≤ t.node ∧ t.node < _; omega), numI_ok.2 (by show 0 ≤ t.seq ∧ t.seq < _; omega), ⟨d1, fun n hn2 => numI_ok.2 (by have := d2 n hn2; omega)⟩, h3, fun e he => effC_ok (hf e he) (hn e he)⟩, rfl⟩, h⟩
theorem putAll_len {α : Type} (c : Codec α) (k : Nat) : ∀ l : List α, (∀ a ∈ l, (c.put a).length ≤ k) → (putAll c l).length ≤ l.length * k
 | [], _ => by simp [putAll]
 | a :: l, h => by
  rw [putAll_cons, List.length_append, List.length_cons, Nat.add_mul, Nat.one_mul]
  have h1 := h a List.mem_cons_self
  have h2 := putAll_len c k l fun x hx => h x (List.mem_cons_of_mem _ hx)
  omega
theorem numI_len {m : Int} (h : 0 ≤ m ∧ m < 72057594037927936) : (numI.put m).length ≤ 8 := by
 rw [numI_put]
 exact form_len8 _ (by omega)
theorem dotC_len {d : PDot} (h : dotB d = true) : (dotC.put d).length ≤ 24 := by
 unfold dotB at h
 rw [decide_eq_true_iff] at h
 show (numI.put d.node ++ (numI.put d.seq ++ numI.put d.pos)).length ≤ 24
 rw [List.length_append, List.length_append]
 have h1 := numI_len (m := d.node) (by omega)
 have h2 := numI_len (m := d.seq) (by omega)
 have h3 := numI_len (m := d.pos) (by omega)
 omega
theorem text_len {s : Txt} {k : Nat} (h : s.length ≤ k) (hk : k ≤ 65536) : (textC.put s).length ≤ 8 + k := by
 show (form s.length ++ tbs s).length ≤ _
 rw [List.length_append, tbs_len]
 have := form_len8 s.length (by omega)
 omega
theorem effC_len {node seq : Int} {e : PEff} (h : eformedB node seq e = true) : (effC.put e).length ≤ 1656 := by
 obtain ⟨h1, h2, h3, h4, h5, h6, h7, h8, h9⟩ := eff_parts h
 show (numI.put e.pos ++ (textC.put e.key ++ (textC.put e.field ++ (numI.put e.kind ++ (textC.put e.elem ++ (iform e.n ++ (form e.drops.length ++ putAll dotC e.drops))))))).length ≤ _
 simp only [List.length_append]
 have a1 := numI_len (m := e.pos) (by omega)
 have a2 := text_len h1 (by omega)
 have a3 := text_len h2 (by omega)
 have a4 := numI_len (m := e.kind) (by omega)
 have a5 := text_len h3 (by omega)
 have a6 := iform_len e.n
 have a7 := form_len8 e.drops.length (by omega)
 have a8 := putAll_len dotC 24 e.drops fun d hd => dotC_len (h9 d hd)
 omega
theorem txnC_len {t : PTxn} (h : tformedB t = true) : (txnC.put t).length ≤ 14000 := by
 obtain ⟨h1, h2, h3, h4, h5⟩ := tformed_parts.1 h
 have hr : 0 ≤ t.node ∧ t.node ≤ 7 ∧ 1 ≤ t.seq ∧ t.seq ≤ 1073741824 := by
  unfold inRange at h1
  exact of_decide_eq_true h1
 obtain ⟨d1, d2⟩ := deps_parts h2
 have hf : ∀ e ∈ t.effs, eformedB t.node t.seq e = true := by
  unfold rightB at h4
  rw [Bool.and_eq_true, List.all_eq_true] at h4
  exact h4.1
 show (numI.put t.node ++ (numI.put t.seq ++ ((form t.deps.length ++ putAll numI t.deps) ++ (form t.effs.length ++ putAll effC t.effs)))).length ≤ _
 simp only [List.length_append]
 have a1 := numI_len (m := t.node) (by omega)
 have a2 := numI_len (m := t.seq) (by omega)
 have a3 := form_len8 t.deps.length (by omega)
 have a4 := form_len8 t.effs.length (by omega)
 have a5 := putAll_len numI 8 t.deps fun n hn => numI_len (by have := d2 n hn; omega)
 have a6 := putAll_len effC 1656 t.effs fun e he => effC_len (hf e he)
 have a7 : t.effs.length * 1656 ≤ 8 * 1656 := Nat.mul_le_mul_right _ h3
 omega
theorem txnC_fits {t : PTxn} (h : txnC.ok t) : ∀ e ∈ t.effs, fits e.n := fun e he => (h.1.1.2.2.2.2 e he).1.2.2.2.2.2.1
end Go.Proofs.YtfapkepfngddlaaGreat.Plain
namespace Go.Proofs.YtfapkepfngddlaaGreat.Plain
set_option linter.unusedVariables false

def oValid (t : PTxn) : Bool := decide (0 ≤ t.node) && decide (t.node ≤ 7) && decide (0 ≤ t.seq) && decide (t.seq ≤ 1073741824)
def oReady (v : Ints) (t : PTxn) : Bool := decide (0 < t.seq) && decide (saysI v t.node = t.seq - 1) && within t.deps v
def oNext (v : Ints) (t : PTxn) : Ints := if oValid t then withN v t.node.toNat t.seq else trim v
def oChain : Ints → List PTxn → Bool
 | _, [] => true
 | v, t :: l => oReady v t && oChain (oNext v t) l
def oEnd (v : Ints) (l : List PTxn) : Ints := l.foldl oNext v
def oFirst (v : Ints) : List PTxn → Option (PTxn × List PTxn)
 | [] => none
 | t :: l => if oReady v t then some (t, l) else (oFirst v l).map fun x => (x.1, t :: x.2)
theorem oValid_iff {t : PTxn} : oValid t = true ↔ (0 ≤ t.node ∧ t.node ≤ 7) ∧ 0 ≤ t.seq ∧ t.seq ≤ 1073741824 := by
 unfold oValid; simp [and_assoc]
theorem oReady_iff {v : Ints} {t : PTxn} : oReady v t = true ↔ 0 < t.seq ∧ saysI v t.node = t.seq - 1 ∧ Within t.deps v := by
 unfold oReady; rw [Bool.and_eq_true, Bool.and_eq_true, within_iff, decide_eq_true_eq, decide_eq_true_eq, and_assoc]
theorem saysI_of {v : Ints} {n : Int} (h : 0 ≤ n) : saysI v n = says v n.toNat := by unfold saysI; rw [if_pos h]
theorem saysI_neg {v : Ints} {n : Int} (h : ¬ 0 ≤ n) : saysI v n = 0 := by unfold saysI; rw [if_neg h]
theorem oNext_says (v : Ints) (t : PTxn) (i : Nat) : says (oNext v t) i = if oValid t = true ∧ i = t.node.toNat then t.seq else says v i := by
 unfold oNext
 by_cases h : oValid t = true
 ·rw [if_pos h, with_says v _ _ (oValid_iff.1 h).2.1]
  unfold withF
  by_cases e : i = t.node.toNat
  ·rw [if_pos e, if_pos ⟨h, e⟩]
  ·rw [if_neg e, if_neg (fun x => e x.2)]
 ·rw [if_neg h, trim_says, if_neg (fun x => h x.1)]
theorem oNext_up {v : Ints} {t : PTxn} (h : oReady v t = true) (i : Nat) : says v i ≤ says (oNext v t) i := by
 rw [oNext_says]
 split
 ·rename_i c
  have h1 := (oReady_iff.1 h).2.1
  rw [saysI_of (oValid_iff.1 c.1).1.1, ← c.2] at h1
  omega
 ·exact Int.le_refl _
theorem oChain_cons {v : Ints} {t : PTxn} {l : List PTxn} : oChain v (t :: l) = true ↔ oReady v t = true ∧ oChain (oNext v t) l = true := by
 show (oReady v t && oChain (oNext v t) l) = true ↔ _
 rw [Bool.and_eq_true]
theorem oEnd_up : ∀ {l : List PTxn} {v : Ints}, oChain v l = true → ∀ i, says v i ≤ says (oEnd v l) i
 | [], v, _, i => Int.le_refl _
 | t :: l, v, h, i => Int.le_trans (oNext_up (oChain_cons.1 h).1 i) (oEnd_up (oChain_cons.1 h).2 i)
theorem oEnd_heard : ∀ {l : List PTxn} {v : Ints} {t : PTxn}, oChain v l = true → t ∈ l → oValid t = true → t.seq ≤ says (oEnd v l) t.node.toNat
 | [], _, _, _, h, _ => by cases h
 | u :: l, v, t, hc, hm, ht => by
  rcases List.mem_cons.1 hm with e | e
  ·subst e
   have h1 := oEnd_up (oChain_cons.1 hc).2 t.node.toNat
   rw [oNext_says, if_pos ⟨ht, rfl⟩] at h1
   exact h1
  ·show t.seq ≤ says (oEnd (oNext v u) l) t.node.toNat
   exact oEnd_heard (oChain_cons.1 hc).2 e ht
theorem oChain_above : ∀ {l : List PTxn} {v : Ints} {t : PTxn}, oChain v l = true → t ∈ l → 0 ≤ t.node → says v t.node.toNat < t.seq
 | [], _, _, _, h, _ => by cases h
 | u :: l, v, t, hc, hm, hn => by
  have hc' := oChain_cons.1 hc
  rcases List.mem_cons.1 hm with e | e
  ·subst e
   have := (oReady_iff.1 hc'.1).2.1
   rw [saysI_of hn] at this
   omega
  ·exact Int.lt_of_le_of_lt (oNext_up hc'.1 _) (oChain_above hc'.2 e hn)
theorem oFormed_valid {t : PTxn} (h : tformedB t = true) : oValid t = true := by
 have h := (tformed_parts.1 h).1
 unfold inRange at h
 simp only [decide_eq_true_eq] at h
 refine oValid_iff.2 ?_
 omega
theorem oChain_append : ∀ (a : List PTxn) (v : Ints) (b : List PTxn), oChain v (a ++ b) = (oChain v a && oChain (oEnd v a) b)
 | [], v, b => by simp [oChain, oEnd]
 | t :: a, v, b => by
  show (oReady v t && oChain (oNext v t) (a ++ b)) = ((oReady v t && oChain (oNext v t) a) && oChain (oEnd (oNext v t) a) b)
  rw [oChain_append a, Bool.and_assoc]
theorem oEnd_append (v : Ints) (a b : List PTxn) : oEnd v (a ++ b) = oEnd (oEnd v a) b := by unfold oEnd; rw [List.foldl_append]
theorem oEnd_snoc (v : Ints) (a : List PTxn) (t : PTxn) : oEnd v (a ++ [t]) = oNext (oEnd v a) t := by rw [oEnd_append]; rfl
theorem oChain_next {v : Ints} {l : List PTxn} {k : Nat} (hk : k < l.length) (h : oChain v (l.take k) = true) (hr : oReady (oEnd v (l.take k)) l[k] = true) :
  oChain v (l.take (k + 1)) = true ∧ oEnd v (l.take (k + 1)) = oNext (oEnd v (l.take k)) l[k] := by
 rw [List.take_succ_eq_append_getElem hk]
 refine ⟨?_, oEnd_snoc _ _ _⟩
 rw [oChain_append, h]
 simp [oChain, hr]
theorem oChain_break {v : Ints} {l : List PTxn} {k : Nat} (hk : k < l.length) (h : oChain v (l.take k) = true) (hr : ¬ oReady (oEnd v (l.take k)) l[k] = true) : oChain v l = false := by
 have e : l = l.take k ++ (l[k] :: l.drop (k + 1)) := by rw [← List.drop_eq_getElem_cons hk, List.take_append_drop]
 rw [e, oChain_append, h]
 simp only [Bool.true_and]
 show (oReady _ _ && _) = false
 rw [Bool.eq_false_iff.2 hr, Bool.false_and]
def oLeft : List Bool → List PTxn → List PTxn
 | g :: gs, t :: l => if g then oLeft gs l else t :: oLeft gs l
 | _, _ => []
theorem oLeft_first : ∀ {g : List Bool} {l : List PTxn} {v : Ints} {i : Nat} (hg : i < g.length) (hl : i < l.length), g[i] = false → oReady v l[i] = true →
  (∀ j (h1 : j < g.length) (h2 : j < l.length), j < i → g[j] = true ∨ ¬ oReady v l[j] = true) → oFirst v (oLeft g l) = some (l[i], oLeft (g.set i true) l)
 | [], _, _, _, hg, _, _, _, _ => by simp at hg
 | _ :: _, [], _, _, _, hl, _, _, _ => by simp at hl
 | b :: g, t :: l, v, 0, hg, hl, h1, h2, _ => by
  have hb : b = false := h1
  subst hb
  have h2 : oReady v t = true := h2
  show oFirst v (t :: oLeft g l) = some (t, oLeft g l)
  unfold oFirst
  rw [if_pos h2]
 | b :: g, t :: l, v, i + 1, hg, hl, h1, h2, h3 => by
  have hi := oLeft_first (g := g) (l := l) (v := v) (i := i) (by simpa using hg) (by simpa using hl) h1 h2
   fun j a c e => h3 (j + 1) (by simpa using a) (by simpa using c) (by omega)
  have h0 := h3 0 (by simp) (by simp) (by omega)
  cases b with
  | true => exact hi
  | false =>
   have h0 : ¬ oReady v t = true := h0.resolve_left (by simp)
   have hl' : i < l.length := by simpa using hl
   show oFirst v (t :: oLeft g l) = some (l[i], t :: oLeft (g.set i true) l)
   unfold oFirst
   rw [if_neg h0, hi]
   rfl
end Go.Proofs.YtfapkepfngddlaaGreat.Plain
