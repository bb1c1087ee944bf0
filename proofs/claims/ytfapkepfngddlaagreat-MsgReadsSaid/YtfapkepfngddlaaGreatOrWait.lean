/- Signs and halves of 64-bit integers under xor, and, or, as the model reckons them; for all integers within 64 bits. Sums of lists of integers, by their upper and lower halves; for all lists. -/
import Derived.Laws.BitsLemmas
import Derived.Laws.BitsAllLaws
import Derived.Test.YtfapkepfngddlaaGreatMaths
import Derived.Test.YtfapkepfngddlaaGreatVWords
import Derived.Test.YtfapkepfngddlaaGreatBCodes
namespace Go.Proofs.YtfapkepfngddlaaGreat.Nm.Plain
def fits (n : Int) : Prop := -9223372036854775808 ≤ n ∧ n ≤ 9223372036854775807
instance (n : Int) : Decidable (fits n) := by unfold fits; infer_instance
def sumV (n : Int) : Int := if fits n then n else 0
def sumE (n : Int) : Int := if fits n then 0 else 5
def tot (l : List Int) : Int := l.foldr (· + ·) 0
end Go.Proofs.YtfapkepfngddlaaGreat.Nm.Plain
namespace Go.Proofs.YtfapkepfngddlaaGreat.Plain
open Nm.Plain (fits sumV sumE tot)
set_option linter.unusedVariables false
structure PVal where
 elems : List Txt
 regs : List Txt
 total : Int
 over : Bool
theorem pval_ext {a b : PVal} (h1 : a.elems = b.elems) (h2 : a.regs = b.regs) (h3 : a.total = b.total) (h4 : a.over = b.over) : a = b := by
 cases a; cases b; simp_all
instance : DecidableEq PVal := fun a b => decidable_of_iff (a.elems = b.elems ∧ a.regs = b.regs ∧ a.total = b.total ∧ a.over = b.over) ⟨fun ⟨h1, h2, h3, h4⟩ => pval_ext h1 h2 h3 h4, fun e => by subst e; exact ⟨rfl, rfl, rfl, rfl⟩⟩
instance : Inhabited PVal := ⟨⟨[], [], 0, false⟩⟩
structure PReq where
 op : Int
 key : Txt
 field : Txt
 elem : Txt
 n : Int
instance : Inhabited PReq := ⟨⟨0, [], [], [], 0⟩⟩
def dlt (a b : PDot) : Prop := a.node < b.node ∨ (a.node = b.node ∧ (a.seq < b.seq ∨ (a.seq = b.seq ∧ a.pos < b.pos)))
instance : DecidableRel dlt := fun a b => by unfold dlt; infer_instance
def inRange (node seq : Int) : Bool := decide (0 ≤ node ∧ node ≤ 7 ∧ 1 ≤ seq ∧ seq ≤ 1073741824)
structure Usual (node seq i : Int) (s : List PItem) : Prop where
 form : inorm s = s
 fine : ∀ x ∈ s, formedB x = true
 past : ∀ x ∈ s, x.dot.node = node → x.dot.seq < seq ∨ (x.dot.seq = seq ∧ x.dot.pos < i)
theorem Usual.apart {node seq i : Int} {s : List PItem} (h : Usual node seq i s) : DotsApart s := by rw [← h.form]; exact apart_inorm s
theorem Usual.mono {node seq i j : Int} {s : List PItem} (h : Usual node seq i s) (hij : i ≤ j) : Usual node seq j s := ⟨h.form, h.fine, fun x hx hn => by have := h.past x hx hn; omega⟩
theorem formed_parts {x : PItem} : formedB x = true ↔ dotB x.dot = true ∧ keyB x.key = true ∧ prefixB x.field = true ∧ x.elem.length ≤ 32 ∧ valueB x = true := by
 unfold formedB;simp only [Bool.and_eq_true, decide_eq_true_iff]
theorem drops_dot : ∀ {l : List PDot}, dropsB l = true → ∀ d ∈ l, dotB d = true
 | [], _, d, hd => absurd hd (by simp)
 | [x], h, d, hd => by rw [List.mem_singleton.1 hd]; exact h
 | x :: y :: l, h, d, hd => by
  rw [dropsB, Bool.and_eq_true, Bool.and_eq_true] at h
  rcases List.mem_cons.1 hd with rfl | hd
  ·exact h.1
  ·exact drops_dot h.2.2 d hd
theorem nodup_dots : ∀ {l : List PItem}, l.Nodup → DotsApart l → (l.map (·.dot)).Nodup
 | [], _, _ => List.nodup_nil
 | x :: l, hn, ha => by
  rw [List.map_cons, List.nodup_cons];rw [List.nodup_cons] at hn;refine ⟨fun h => ?_, nodup_dots hn.2 fun a h b g e => ha a (List.mem_cons_of_mem _ h) b (List.mem_cons_of_mem _ g) e⟩;obtain ⟨y, hy, e⟩ := List.mem_map.1 h;exact hn.1 (by rw [← ha y (List.mem_cons_of_mem _ hy) x List.mem_cons_self e]; exact hy)
def DotsOnce (s : List PItem) : Prop := (s.map (·.dot)).Nodup
theorem DotsOnce.of {s : List PItem} (hr : Ris iless s) (ha : DotsApart s) : DotsOnce s := nodup_dots (Ris.nodup sto_item hr) ha
end Go.Proofs.YtfapkepfngddlaaGreat.Plain
namespace Go.Proofs.YtfapkepfngddlaaGreat.Plain
open Nm.Plain (fits)
set_option linter.unusedVariables false
structure PTxn where
 node : Int
 seq : Int
 deps : List Int
 effs : List PEff
theorem ptxn_ext {a b : PTxn} (h1 : a.node = b.node) (h2 : a.seq = b.seq) (h3 : a.deps = b.deps) (h4 : a.effs = b.effs) : a = b := by
 cases a; cases b; simp_all
instance : DecidableEq PTxn := fun a b => decidable_of_iff (a.node = b.node ∧ a.seq = b.seq ∧ a.deps = b.deps ∧ a.effs = b.effs) ⟨fun ⟨h1, h2, h3, h4⟩ => ptxn_ext h1 h2 h3 h4, fun e => by subst e; exact ⟨rfl, rfl, rfl, rfl⟩⟩
instance : Inhabited PTxn := ⟨⟨0, 0, [], []⟩⟩
def heard1 (node seq : Int) (v : List Int) (d : PDot) : Bool := (decide (d.node = node) && decide (d.seq = seq)) || (decide (1 ≤ d.seq) && decide (d.seq ≤ saysI v d.node))
def heardB (l : List PEff) (node seq : Int) (v : List Int) : Bool := l.all fun e => e.drops.all (heard1 node seq v)
def depsB (t : PTxn) : Bool := decide (t.deps.length ≤ 8) && (decide (trim t.deps = t.deps) && (t.deps.all (fun n => decide (n ≤ 1073741824)) && decide (saysI t.deps t.node + 1 = t.seq)))
def tformedB (t : PTxn) : Bool := inRange t.node t.seq && (depsB t && (decide (t.effs.length ≤ 8) && (rightB t.node t.seq t.effs && heardB t.effs t.node t.seq t.deps)))
def tonly (t : PTxn) (z : List Txt) : PTxn := ⟨t.node, t.seq, t.deps, eonly t.effs z⟩
theorem tformed_parts {t : PTxn} : tformedB t = true ↔ inRange t.node t.seq = true ∧ depsB t = true ∧ t.effs.length ≤ 8 ∧ rightB t.node t.seq t.effs = true ∧ heardB t.effs t.node t.seq t.deps = true := by
 unfold tformedB;simp only [Bool.and_eq_true, decide_eq_true_iff]
theorem trim_pos {v : List Int} (h : trim v = v) : ∀ n ∈ v, 0 ≤ n := by
 intro n hn;obtain ⟨j, hj, rfl⟩ := List.getElem_of_mem hn;have e : (trim v).getD j 0 = v.getD j 0 := by rw [h]
 have e2 : v.getD j 0 = v[j] := by simp [List.getD, List.getElem?_eq_getElem hj]
 rw [e2] at e;rw [← e];unfold trim;rw [laid_getD, if_pos hj];exact says_pos v j
theorem deps_parts {t : PTxn} (h : depsB t = true) : t.deps.length ≤ 8 ∧ ∀ n ∈ t.deps, 0 ≤ n ∧ n ≤ 1073741824 := by
 unfold depsB at h;simp only [Bool.and_eq_true, decide_eq_true_iff, List.all_eq_true] at h
 exact ⟨h.1, fun n hn => ⟨trim_pos h.2.1 n hn, h.2.2.1 n hn⟩⟩
def dotC : Codec PDot := (numI.seq (numI.seq numI)).emb (fun p => ⟨p.1, p.2.1, p.2.2⟩) (fun d => (d.node, d.seq, d.pos)) fun _ _ => rfl
def effC : Codec PEff := (numI.seq (textC.seq (textC.seq (numI.seq (textC.seq (intC.seq (dotC.list 64 2 (by decide) (by decide)))))))).emb (fun p => ⟨p.1, p.2.1, p.2.2.1, p.2.2.2.1, p.2.2.2.2.1, p.2.2.2.2.2.1, p.2.2.2.2.2.2⟩) (fun e => (e.pos, e.key, e.field, e.kind, e.elem, e.n, e.drops)) fun _ _ => rfl
def txnC0 : Codec PTxn := (numI.seq (numI.seq ((numI.list 8 2 (by decide) (by decide)).seq (effC.list 8 2 (by decide) (by decide))))).emb (fun p => ⟨p.1, p.2.1, p.2.2.1, p.2.2.2⟩) (fun t => (t.node, t.seq, t.deps, t.effs)) fun _ _ => rfl
def txnC : Codec PTxn := txnC0.test tformedB 2 (by decide)
theorem dotC_ok {d : PDot} (h : dotB d = true) : dotC.ok d := by
 unfold dotB at h;rw [decide_eq_true_iff] at h;exact ⟨⟨numI_ok.2 (by show 0 ≤ d.node ∧ d.node < _; omega), numI_ok.2 (by show 0 ≤ d.seq ∧ d.seq < _; omega), numI_ok.2 (by show 0 ≤ d.pos ∧ d.pos < _; omega)⟩, rfl⟩
theorem key_len {s : Txt} (h : prefixB s = true) : s.length ≤ 16 := by
 unfold prefixB at h;rw [Bool.and_eq_true, decide_eq_true_iff] at h;exact h.2
theorem key_pre {s : Txt} (h : keyB s = true) : prefixB s = true := by
 unfold keyB at h;rw [Bool.and_eq_true] at h;exact h.2
theorem eff_parts {node seq : Int} {e : PEff} (h : eformedB node seq e = true) : e.key.length ≤ 16 ∧ e.field.length ≤ 16 ∧ e.elem.length ≤ 32 ∧ 0 ≤ e.kind ∧ e.kind ≤ 3 ∧ 0 ≤ e.pos ∧ e.pos ≤ 7 ∧ e.drops.length ≤ 64 ∧ ∀ d ∈ e.drops, dotB d = true := by
 unfold eformedB at h;rw [Bool.and_eq_true, Bool.and_eq_true, decide_eq_true_iff] at h;obtain ⟨h1, h2, h3⟩ := h;have hp : ∀ {p : Int}, dotB ⟨node, seq, p⟩ = true → 0 ≤ p ∧ p ≤ 7 := fun {p} g => by
  unfold dotB at g;rw [decide_eq_true_iff] at g;exact g.2.2.2.2
 unfold makesB at h3
 split at h3
 ·rename_i k
  simp only [Bool.and_eq_true, decide_eq_true_iff] at h3
  obtain ⟨-, g2, -, g4, g5, g6⟩ := h3;exact ⟨key_len (key_pre g4), key_len g5, by omega, by omega, by omega, (hp g6).1, (hp g6).2, h1, drops_dot h2⟩
 ·obtain ⟨g1, g2, g3, g4, g5⟩ := formed_parts.1 h3
  have hk : 0 ≤ e.kind ∧ e.kind ≤ 3 := by
   change valueB (madeI node seq e) = true at g5;unfold valueB madeI at g5;simp only [Bool.or_eq_true, Bool.and_eq_true, decide_eq_true_iff] at g5
   omega
  exact ⟨key_len (key_pre g2), key_len g3, g4, hk.1, hk.2, (hp g1).1, (hp g1).2, h1, drops_dot h2⟩
theorem effC_ok {node seq : Int} {e : PEff} (h : eformedB node seq e = true) (hn : fits e.n) : effC.ok e := by
 obtain ⟨h1, h2, h3, h4, h5, h6, h7, h8, h9⟩ := eff_parts h;refine ⟨⟨numI_ok.2 (by show 0 ≤ e.pos ∧ e.pos < _; omega), ?_, ?_, numI_ok.2 (by show 0 ≤ e.kind ∧ e.kind < _; omega), ?_, hn, h8, fun d hd => dotC_ok (h9 d hd)⟩, rfl⟩
 ·show e.key.length ≤ 65536; omega
 ·show e.field.length ≤ 65536; omega
 ·show e.elem.length ≤ 65536; omega
theorem txnC_ok {t : PTxn} (h : tformedB t = true) (hn : ∀ e ∈ t.effs, fits e.n) : txnC.ok t := by
 obtain ⟨h1, h2, h3, h4, h5⟩ := tformed_parts.1 h;have hr : 0 ≤ t.node ∧ t.node ≤ 7 ∧ 1 ≤ t.seq ∧ t.seq ≤ 1073741824 := by
  unfold inRange at h1;exact of_decide_eq_true h1
 obtain ⟨d1, d2⟩ := deps_parts h2;have hf : ∀ e ∈ t.effs, eformedB t.node t.seq e = true := by
  unfold rightB at h4;rw [Bool.and_eq_true, List.all_eq_true] at h4;exact h4.1
 exact ⟨⟨⟨numI_ok.2 (by show 0 ≤ t.node ∧ t.node < _; omega), numI_ok.2 (by show 0 ≤ t.seq ∧ t.seq < _; omega), ⟨d1, fun n hn2 => numI_ok.2 (by have := d2 n hn2; omega)⟩, h3, fun e he => effC_ok (hf e he) (hn e he)⟩, rfl⟩, h⟩
theorem putAll_len {α : Type} (c : Codec α) (k : Nat) : ∀ l : List α, (∀ a ∈ l, (c.put a).length ≤ k) → (putAll c l).length ≤ l.length * k
 | [], _ => by simp [putAll]
 | a :: l, h => by
  rw [putAll_cons, List.length_append, List.length_cons, Nat.add_mul, Nat.one_mul];have h1 := h a List.mem_cons_self;have h2 := putAll_len c k l fun x hx => h x (List.mem_cons_of_mem _ hx)
  omega
theorem numI_len {m : Int} (h : 0 ≤ m ∧ m < 72057594037927936) : (numI.put m).length ≤ 8 := by
 rw [numI_put];exact form_len8 _ (by omega)
theorem dotC_len {d : PDot} (h : dotB d = true) : (dotC.put d).length ≤ 24 := by
 unfold dotB at h;rw [decide_eq_true_iff] at h
 show (numI.put d.node ++ (numI.put d.seq ++ numI.put d.pos)).length ≤ 24
 rw [List.length_append, List.length_append];have h1 := numI_len (m := d.node) (by omega);have h2 := numI_len (m := d.seq) (by omega);have h3 := numI_len (m := d.pos) (by omega);omega
theorem text_len {s : Txt} {k : Nat} (h : s.length ≤ k) (hk : k ≤ 65536) : (textC.put s).length ≤ 8 + k := by
 show (form s.length ++ tbs s).length ≤ _
 rw [List.length_append, tbs_len];have := form_len8 s.length (by omega);omega
theorem effC_len {node seq : Int} {e : PEff} (h : eformedB node seq e = true) : (effC.put e).length ≤ 1656 := by
 obtain ⟨h1, h2, h3, h4, h5, h6, h7, h8, h9⟩ := eff_parts h
 show (numI.put e.pos ++ (textC.put e.key ++ (textC.put e.field ++ (numI.put e.kind ++ (textC.put e.elem ++ (iform e.n ++ (form e.drops.length ++ putAll dotC e.drops))))))).length ≤ _
 simp only [List.length_append]
 have a1 := numI_len (m := e.pos) (by omega);have a2 := text_len h1 (by omega);have a3 := text_len h2 (by omega);have a4 := numI_len (m := e.kind) (by omega);have a5 := text_len h3 (by omega);have a6 := iform_len e.n;have a7 := form_len8 e.drops.length (by omega);have a8 := putAll_len dotC 24 e.drops fun d hd => dotC_len (h9 d hd)
 omega
theorem txnC_len {t : PTxn} (h : tformedB t = true) : (txnC.put t).length ≤ 14000 := by
 obtain ⟨h1, h2, h3, h4, h5⟩ := tformed_parts.1 h;have hr : 0 ≤ t.node ∧ t.node ≤ 7 ∧ 1 ≤ t.seq ∧ t.seq ≤ 1073741824 := by
  unfold inRange at h1;exact of_decide_eq_true h1
 obtain ⟨d1, d2⟩ := deps_parts h2;have hf : ∀ e ∈ t.effs, eformedB t.node t.seq e = true := by
  unfold rightB at h4;rw [Bool.and_eq_true, List.all_eq_true] at h4;exact h4.1
 show (numI.put t.node ++ (numI.put t.seq ++ ((form t.deps.length ++ putAll numI t.deps) ++ (form t.effs.length ++ putAll effC t.effs)))).length ≤ _
 simp only [List.length_append]
 have a1 := numI_len (m := t.node) (by omega);have a2 := numI_len (m := t.seq) (by omega);have a3 := form_len8 t.deps.length (by omega);have a4 := form_len8 t.effs.length (by omega);have a5 := putAll_len numI 8 t.deps fun n hn => numI_len (by have := d2 n hn; omega)
 have a6 := putAll_len effC 1656 t.effs fun e he => effC_len (hf e he)
 have a7 : t.effs.length * 1656 ≤ 8 * 1656 := Nat.mul_le_mul_right _ h3;omega
theorem txnC_fits {t : PTxn} (h : txnC.ok t) : ∀ e ∈ t.effs, fits e.n := fun e he => (h.1.1.2.2.2.2 e he).1.2.2.2.2.2.1
end Go.Proofs.YtfapkepfngddlaaGreat.Plain
namespace Go.Proofs.YtfapkepfngddlaaGreat.Plain
set_option linter.unusedVariables false
def oValid (t : PTxn) : Bool := decide (0 ≤ t.node) && decide (t.node ≤ 7) && decide (0 ≤ t.seq) && decide (t.seq ≤ 1073741824)
def oReady (v : Ints) (t : PTxn) : Bool := decide (0 < t.seq) && decide (saysI v t.node = t.seq - 1) && within t.deps v
def oNext (v : Ints) (t : PTxn) : Ints := if oValid t then withN v t.node.toNat t.seq else trim v
def oChain : Ints → List PTxn → Bool
 | _, [] => true
 | v, t :: l => oReady v t && oChain (oNext v t) l
def oEnd (v : Ints) (l : List PTxn) : Ints := l.foldl oNext v
def oFirst (v : Ints) : List PTxn → Option (PTxn × List PTxn)
 | [] => none
 | t :: l => if oReady v t then some (t, l) else (oFirst v l).map fun x => (x.1, t :: x.2)
theorem oValid_iff {t : PTxn} : oValid t = true ↔ (0 ≤ t.node ∧ t.node ≤ 7) ∧ 0 ≤ t.seq ∧ t.seq ≤ 1073741824 := by
 unfold oValid; simp [and_assoc]
theorem oReady_iff {v : Ints} {t : PTxn} : oReady v t = true ↔ 0 < t.seq ∧ saysI v t.node = t.seq - 1 ∧ Within t.deps v := by
 unfold oReady; rw [Bool.and_eq_true, Bool.and_eq_true, within_iff, decide_eq_true_eq, decide_eq_true_eq, and_assoc]
theorem saysI_of {v : Ints} {n : Int} (h : 0 ≤ n) : saysI v n = says v n.toNat := by unfold saysI; rw [if_pos h]
theorem saysI_neg {v : Ints} {n : Int} (h : ¬ 0 ≤ n) : saysI v n = 0 := by unfold saysI; rw [if_neg h]
theorem oNext_says (v : Ints) (t : PTxn) (i : Nat) : says (oNext v t) i = if oValid t = true ∧ i = t.node.toNat then t.seq else says v i := by
 unfold oNext
 by_cases h : oValid t = true
 ·rw [if_pos h, with_says v _ _ (oValid_iff.1 h).2.1]
  unfold withF
  by_cases e : i = t.node.toNat
  ·rw [if_pos e, if_pos ⟨h, e⟩]
  ·rw [if_neg e, if_neg (fun x => e x.2)]
 ·rw [if_neg h, trim_says, if_neg (fun x => h x.1)]
theorem oNext_up {v : Ints} {t : PTxn} (h : oReady v t = true) (i : Nat) : says v i ≤ says (oNext v t) i := by
 rw [oNext_says]
 split
 ·rename_i c
  have h1 := (oReady_iff.1 h).2.1;rw [saysI_of (oValid_iff.1 c.1).1.1, ← c.2] at h1;omega
 ·exact Int.le_refl _
theorem oChain_append : ∀ (a : List PTxn) (v : Ints) (b : List PTxn), oChain v (a ++ b) = (oChain v a && oChain (oEnd v a) b)
 | [], v, b => by simp [oChain, oEnd]
 | t :: a, v, b => by
  show (oReady v t && oChain (oNext v t) (a ++ b)) = ((oReady v t && oChain (oNext v t) a) && oChain (oEnd (oNext v t) a) b)
  rw [oChain_append a, Bool.and_assoc]
theorem oEnd_append (v : Ints) (a b : List PTxn) : oEnd v (a ++ b) = oEnd (oEnd v a) b := by unfold oEnd; rw [List.foldl_append]
theorem oEnd_snoc (v : Ints) (a : List PTxn) (t : PTxn) : oEnd v (a ++ [t]) = oNext (oEnd v a) t := by rw [oEnd_append]; rfl
theorem oChain_next {v : Ints} {l : List PTxn} {k : Nat} (hk : k < l.length) (h : oChain v (l.take k) = true) (hr : oReady (oEnd v (l.take k)) l[k] = true) :
  oChain v (l.take (k + 1)) = true ∧ oEnd v (l.take (k + 1)) = oNext (oEnd v (l.take k)) l[k] := by
 rw [List.take_succ_eq_append_getElem hk];refine ⟨?_, oEnd_snoc _ _ _⟩;rw [oChain_append, h];simp [oChain, hr]
theorem oChain_break {v : Ints} {l : List PTxn} {k : Nat} (hk : k < l.length) (h : oChain v (l.take k) = true) (hr : ¬ oReady (oEnd v (l.take k)) l[k] = true) : oChain v l = false := by
 have e : l = l.take k ++ (l[k] :: l.drop (k + 1)) := by rw [← List.drop_eq_getElem_cons hk, List.take_append_drop]
 rw [e, oChain_append, h];simp only [Bool.true_and]
 show (oReady _ _ && _) = false
 rw [Bool.eq_false_iff.2 hr, Bool.false_and]
def oLeft : List Bool → List PTxn → List PTxn
 | g :: gs, t :: l => if g then oLeft gs l else t :: oLeft gs l
 | _, _ => []
theorem oLeft_first : ∀ {g : List Bool} {l : List PTxn} {v : Ints} {i : Nat} (hg : i < g.length) (hl : i < l.length), g[i] = false → oReady v l[i] = true →
  (∀ j (h1 : j < g.length) (h2 : j < l.length), j < i → g[j] = true ∨ ¬ oReady v l[j] = true) → oFirst v (oLeft g l) = some (l[i], oLeft (g.set i true) l)
 | [], _, _, _, hg, _, _, _, _ => by simp at hg
 | _ :: _, [], _, _, _, hl, _, _, _ => by simp at hl
 | b :: g, t :: l, v, 0, hg, hl, h1, h2, _ => by
  have hb : b = false := h1;subst hb;have h2 : oReady v t = true := h2
  show oFirst v (t :: oLeft g l) = some (t, oLeft g l)
  unfold oFirst;rw [if_pos h2]
 | b :: g, t :: l, v, i + 1, hg, hl, h1, h2, h3 => by
  have hi := oLeft_first (g := g) (l := l) (v := v) (i := i) (by simpa using hg) (by simpa using hl) h1 h2
   fun j a c e => h3 (j + 1) (by simpa using a) (by simpa using c) (by omega)
  have h0 := h3 0 (by simp) (by simp) (by omega)
  cases b with
  | true => exact hi
  | false =>
   have h0 : ¬ oReady v t = true := h0.resolve_left (by simp);have hl' : i < l.length := by simpa using hl
   show oFirst v (t :: oLeft g l) = some (l[i], t :: oLeft (g.set i true) l)
   unfold oFirst;rw [if_neg h0, hi]
   rfl
def oHas (v : Ints) (n s : Int) : Prop := 1 ≤ s ∧ s ≤ saysI v n
def oPrev (s : Int) : Int := Go.IntKind.i64.wrap (s - 1)
theorem oPrev_of {s : Int} (h : 0 < s) (h2 : s ≤ 9223372036854775807) : oPrev s = s - 1 := by
 unfold oPrev;simp [Go.IntKind.wrap, Go.IntKind.bits, Go.IntKind.signed]
 omega
def OClear (v : Ints) (t : PTxn) : Prop := oPrev t.seq ≤ saysI v t.node ∧ Within t.deps v
def OBlocks (n s : Int) (t : PTxn) : Prop := ∀ u, ¬ oHas u n s → ¬ oReady u t = true
def ODead (v : Ints) (t : PTxn) : Prop := ∀ u, Within v u → ¬ oReady u t = true
def TSmall (t : PTxn) : Prop := t.seq ≤ 9223372036854775807
theorem saysI_up {u v : Ints} (h : Within u v) (n : Int) : saysI u n ≤ saysI v n := by
 unfold saysI
 split
 ·exact h _
 ·exact Int.le_refl _
theorem OClear.up {u v : Ints} {t : PTxn} (h : OClear u t) (hu : Within u v) : OClear v t :=
 ⟨Int.le_trans h.1 (saysI_up hu _), fun i => Int.le_trans (h.2 i) (hu i)⟩
theorem OClear.dead {v : Ints} {t : PTxn} (ht : TSmall t) (h : OClear v t) (hr : ¬ oReady v t = true) : ODead v t := by
 intro u hu r;obtain ⟨r1, r2, r3⟩ := oReady_iff.1 r
 apply hr
 have h1 := h.1;rw [oPrev_of r1 ht] at h1;have := saysI_up hu t.node;exact oReady_iff.2 ⟨r1, by omega, h.2⟩
theorem ODead.up {u v : Ints} {t : PTxn} (h : ODead u t) (hu : Within u v) : ODead v t := fun w hw => h w fun i => Int.le_trans (hu i) (hw i)
theorem oNext_within {v : Ints} {t : PTxn} (h : oReady v t = true) : Within v (oNext v t) := fun i => oNext_up h i
theorem oHas_next {v : Ints} {t : PTxn} (h : oReady v t = true) {n s : Int} (h0 : ¬ oHas v n s) (h1 : oHas (oNext v t) n s) : n = t.node ∧ s = t.seq := by
 obtain ⟨a, b⟩ := h1
 by_cases c : 0 ≤ n
 ·rw [saysI_of c, oNext_says] at b
  by_cases d : oValid t = true ∧ n.toNat = t.node.toNat
  ·rw [if_pos d] at b
   have h3 := (oValid_iff.1 d.1).1.1;have h4 : n = t.node := by omega
   subst h4;refine ⟨rfl, ?_⟩;have h5 := (oReady_iff.1 h).2.1;have h6 : ¬ s ≤ saysI v t.node := fun e => h0 ⟨a, e⟩
   omega
  ·rw [if_neg d] at b
   exact absurd ⟨a, by rw [saysI_of c]; exact b⟩ h0
 ·rw [saysI_neg c] at b; omega
theorem oHas_up {u v : Ints} (h : Within u v) {n s : Int} (h1 : oHas u n s) : oHas v n s := ⟨h1.1, Int.le_trans h1.2 (saysI_up h n)⟩
def otx (l : List PTxn) (j : Nat) : PTxn := l.getD j default
theorem otx_lt {l : List PTxn} {j : Nat} (h : j < l.length) : otx l j = l[j] := by unfold otx; simp [List.getD, h]
def gone (g : List Bool) (j : Nat) : Bool := g.getD j false
structure OWait (l : List PTxn) (v : Ints) (g : List Bool) (H : List Nat) (B : Int → Int → List Nat) (Q : List Nat) : Prop where
 len : g.length = l.length
 hH : ∀ j ∈ H, j < l.length ∧ gone g j = false ∧ OClear v (otx l j)
 nd : (H ++ Q).Nodup
 hB : ∀ n s, ¬ oHas v n s → ∀ j ∈ B n s, j < l.length ∧ gone g j = false ∧ OBlocks n s (otx l j) ∧ j ∉ H ∧ j ∉ Q
 ndB : ∀ n s, ¬ oHas v n s → (B n s).Nodup
 apart : ∀ n s m r, ¬ oHas v n s → ¬ oHas v m r → ∀ j, j ∈ B n s → j ∈ B m r → n = m ∧ s = r
 hQ : ∀ j ∈ Q, j < l.length ∧ gone g j = false
 all : ∀ j, j < l.length → gone g j = false → j ∈ H ∨ j ∈ Q ∨ (∃ n s, ¬ oHas v n s ∧ j ∈ B n s) ∨ ODead v (otx l j)
theorem OWait.drop {l : List PTxn} {v : Ints} {g : List Bool} {H : List Nat} {B : Int → Int → List Nat} {p : Nat} {Q : List Nat} (h : OWait l v g (p :: H) B Q) (ht : TSmall (otx l p)) (hr : ¬ oReady v (otx l p) = true) :
  OWait l v g H B Q := by
 have hp := h.hH p (by simp)
 constructor
 ·exact h.len
 ·exact fun j hj => h.hH j (by simp [hj])
 ·exact (List.nodup_cons.1 h.nd).2
 ·intro m r hm j hj
  obtain ⟨a, b, c, d, e⟩ := h.hB m r hm j hj;exact ⟨a, b, c, fun x => d (by simp [x]), e⟩
 ·exact h.ndB
 ·exact h.apart
 ·exact h.hQ
 ·intro j hj hg
  rcases h.all j hj hg with a | a
  ·rcases List.mem_cons.1 a with e | e
   ·subst e; exact Or.inr (Or.inr (Or.inr (hp.2.2.dead ht hr)))
   ·exact Or.inl e
  ·exact Or.inr a
theorem gone_set {g : List Bool} {p : Nat} (hp : p < g.length) (j : Nat) : gone (g.set p true) j = if j = p then true else gone g j := by
 unfold gone;simp only [List.getD, List.getElem?_set]
 by_cases c : p = j
 ·subst c; simp [hp]
 ·rw [if_neg c, if_neg (fun e : j = p => c e.symm)]
theorem OWait.take {l : List PTxn} {v : Ints} {g : List Bool} {H : List Nat} {B : Int → Int → List Nat} {p : Nat} (h : OWait l v g (p :: H) B []) (hr : oReady v (otx l p) = true)
  {Q : List Nat} (hQ : (oHas (oNext v (otx l p)) (otx l p).node (otx l p).seq ∧ Q = B (otx l p).node (otx l p).seq) ∨ (¬ oHas (oNext v (otx l p)) (otx l p).node (otx l p).seq ∧ Q = [])) :
  OWait l (oNext v (otx l p)) (g.set p true) H B Q := by
 have hp := h.hH p (by simp);have hw := oNext_within hr;have hnd := List.nodup_cons.1 (List.nodup_append.1 h.nd).1;have hpg : p < g.length := by rw [h.len]; exact hp.1
 have hg := gone_set hpg;have hne : ∀ n s, ¬ oHas v n s → p ∉ B n s := fun n s hn x => (h.hB n s hn p x).2.2.2.1 (by simp)
 have h0 : ¬ oHas v (otx l p).node (otx l p).seq := fun e => by
  have := (oReady_iff.1 hr).2.1;have := e.2;omega
 have hdown : ∀ n s, ¬ oHas (oNext v (otx l p)) n s → ¬ oHas v n s := fun n s e x => e (oHas_up hw x)
 have hQB : ∀ j ∈ Q, j ∈ B (otx l p).node (otx l p).seq ∧ oHas (oNext v (otx l p)) (otx l p).node (otx l p).seq := by
  intro j hj
  rcases hQ with ⟨a, rfl⟩ | ⟨a, rfl⟩
  ·exact ⟨hj, a⟩
  ·cases hj
 constructor
 ·simp [h.len]
 ·intro j hj
  obtain ⟨a, b, c⟩ := h.hH j (by simp [hj]);refine ⟨a, ?_, c.up hw⟩;rw [hg, if_neg (fun e => hnd.1 (by rw [← e]; exact hj))];exact b
 ·refine List.nodup_append.2 ⟨hnd.2, ?_, fun a ha b hb e => ?_⟩
  ·rcases hQ with ⟨a, rfl⟩ | ⟨a, rfl⟩
   ·exact h.ndB _ _ h0
   ·exact List.nodup_nil
  ·subst e
   exact (h.hB _ _ h0 a (hQB a hb).1).2.2.2.1 (by simp [ha])
 ·intro m r hm j hj
  obtain ⟨a, b, c, d, e⟩ := h.hB m r (hdown m r hm) j hj;refine ⟨a, ?_, c, fun x => d (by simp [x]), fun x => ?_⟩
  ·rw [hg, if_neg (fun e => hne m r (hdown m r hm) (by rw [← e]; exact hj))]
   exact b
  ·obtain ⟨y, z⟩ := hQB j x
   obtain ⟨rfl, rfl⟩ := h.apart _ _ m r h0 (hdown m r hm) j y hj;exact hm z
 ·exact fun m r hm => h.ndB m r (hdown m r hm)
 ·exact fun n s m r hn hm => h.apart n s m r (hdown n s hn) (hdown m r hm)
 ·intro j hj
  obtain ⟨a, b, c, d, e⟩ := h.hB _ _ h0 j (hQB j hj).1;refine ⟨a, ?_⟩;rw [hg, if_neg (fun e => d (by simp [e]))];exact b
 ·intro j hj hgj
  rw [hg] at hgj
  by_cases c : j = p
  ·rw [if_pos c] at hgj; cases hgj
  ·rw [if_neg c] at hgj
   rcases h.all j hj hgj with a | a | ⟨m, r, hm, a⟩ | a
   ·rcases List.mem_cons.1 a with e | e
    ·exact absurd e c
    ·exact Or.inl e
   ·cases a
   ·by_cases d : oHas (oNext v (otx l p)) m r
    ·obtain ⟨rfl, rfl⟩ := oHas_next hr hm d
     rcases hQ with ⟨x, rfl⟩ | ⟨x, rfl⟩
     ·exact Or.inr (Or.inl a)
     ·exact absurd d x
    ·exact Or.inr (Or.inr (Or.inl ⟨m, r, d, a⟩))
   ·exact Or.inr (Or.inr (Or.inr (a.up hw)))
theorem OWait.waits {l : List PTxn} {v : Ints} {g : List Bool} {H : List Nat} {B : Int → Int → List Nat} (h : OWait l v g H B []) {j : Nat} (hj : j < l.length) (hg : gone g j = false) (hH : j ∉ H) : ¬ oReady v (otx l j) = true := by
 rcases h.all j hj hg with a | a | ⟨m, r, hm, a⟩ | a
 ·exact absurd a hH
 ·cases a
 ·exact (h.hB m r hm j a).2.2.1 v hm
 ·exact a v fun i => Int.le_refl _
theorem gone_at {g : List Bool} {j : Nat} (h : j < g.length) : gone g j = g[j] := by unfold gone; simp [List.getD, h]
theorem OWait.first {l : List PTxn} {v : Ints} {g : List Bool} {H : List Nat} {B : Int → Int → List Nat} {p : Nat} (h : OWait l v g (p :: H) B []) (hm : ∀ j ∈ H, p ≤ j) (hr : oReady v (otx l p) = true) :
  oFirst v (oLeft g l) = some (otx l p, oLeft (g.set p true) l) := by
 have hp := h.hH p (by simp);have hpg : p < g.length := by rw [h.len]; exact hp.1
 rw [otx_lt hp.1];refine oLeft_first hpg hp.1 ?_ ?_ fun j h1 h2 hlt => ?_
 ·rw [← gone_at hpg]; exact hp.2.1
 ·rw [← otx_lt hp.1]; exact hr
 ·rw [← gone_at h1, ← otx_lt h2]
  by_cases c : gone g j = true
  ·exact Or.inl c
  ·refine Or.inr (h.waits h2 (by simpa using c) fun x => ?_)
   rcases List.mem_cons.1 x with e | e
   ·omega
   ·have := hm j e; omega
end Go.Proofs.YtfapkepfngddlaaGreat.Plain
