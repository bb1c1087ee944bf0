/- Transactions as plain mathematics: when one is formed, what is left of it under a zone, its bytes, how they are read; the laws that follow. -/
import Derived.Test.YtkanklppgioacaaGreatMaths
import Derived.Test.YtkanklppgioacaaGreatVwMaths
import Derived.Test.YtkanklppgioacaaGreatVMath
import Derived.Test.YtkanklppgioacaaGreatBCodes
namespace Go.Proofs.YtkanklppgioacaaGreat.Plain
open Nm.Plain (fits)
set_option linter.unusedVariables false

structure PTxn where
 node : Int
 seq : Int
 deps : List Int
 effs : List PEff
theorem ptxn_ext {a b : PTxn} (h1 : a.node = b.node) (h2 : a.seq = b.seq) (h3 : a.deps = b.deps) (h4 : a.effs = b.effs) : a = b := by
 cases a; cases b; simp_all
instance : DecidableEq PTxn := fun a b => decidable_of_iff (a.node = b.node ∧ a.seq = b.seq ∧ a.deps = b.deps ∧ a.effs = b.effs) ⟨fun ⟨h1, h2, h3, h4⟩ => ptxn_ext h1 h2 h3 h4, fun e => by subst e; exact ⟨rfl, rfl, rfl, rfl⟩⟩
instance : Inhabited PTxn := ⟨⟨0, 0, [], []⟩⟩
/-- is each of the drops heard, or of this very transaction? -/
def heard1 (node seq : Int) (v : List Int) (d : PDot) : Bool := (decide (d.node = node) && decide (d.seq = seq)) || (decide (1 ≤ d.seq) && decide (d.seq ≤ saysI v d.node))
def heardB (l : List PEff) (node seq : Int) (v : List Int) : Bool := l.all fun e => e.drops.all (heard1 node seq v)
def depsB (t : PTxn) : Bool := decide (t.deps.length ≤ 8) && (decide (trim t.deps = t.deps) && (t.deps.all (fun n => decide (n ≤ 1073741824)) && decide (saysI t.deps t.node + 1 = t.seq)))
def tformedB (t : PTxn) : Bool := inRange t.node t.seq && (depsB t && (decide (t.effs.length ≤ 8) && (rightB t.node t.seq t.effs && heardB t.effs t.node t.seq t.deps)))
def tonly (t : PTxn) (z : List Txt) : PTxn := ⟨t.node, t.seq, t.deps, eonly t.effs z⟩
theorem tformed_parts {t : PTxn} : tformedB t = true ↔ inRange t.node t.seq = true ∧ depsB t = true ∧ t.effs.length ≤ 8 ∧ rightB t.node t.seq t.effs = true ∧ heardB t.effs t.node t.seq t.deps = true := by
 unfold tformedB
 simp only [Bool.and_eq_true, decide_eq_true_iff]
theorem trim_pos {v : List Int} (h : trim v = v) : ∀ n ∈ v, 0 ≤ n := by
 intro n hn
 obtain ⟨j, hj, rfl⟩ := List.getElem_of_mem hn
 have e : (trim v).getD j 0 = v.getD j 0 := by rw [h]
 have e2 : v.getD j 0 = v[j] := by simp [List.getD, List.getElem?_eq_getElem hj]
 rw [e2] at e
 rw [← e]
 unfold trim
 rw [laid_getD, if_pos hj]
 exact says_pos v j
theorem deps_parts {t : PTxn} (h : depsB t = true) : t.deps.length ≤ 8 ∧ ∀ n ∈ t.deps, 0 ≤ n ∧ n ≤ 1073741824 := by
 unfold depsB at h
 simp only [Bool.and_eq_true, decide_eq_true_iff, List.all_eq_true] at h
 exact ⟨h.1, fun n hn => ⟨trim_pos h.2.1 n hn, h.2.2.1 n hn⟩⟩

/-! ### under a zone -/
theorem right_only {node seq : Int} {l : List PEff} (h : rightB node seq l = true) (z : List Txt) : rightB node seq (eonly l z) = true := by
 have hr := right_rises h
 unfold rightB at h ⊢
 rw [Bool.and_eq_true, Bool.and_eq_true, List.all_eq_true, List.all_eq_true] at h ⊢
 refine ⟨fun e he => h.1 e (mem_eonly.1 he).1, rises_of ?_, fun e he => h.2.2 e (mem_eonly.1 he).1⟩
 exact List.Pairwise.filter _ hr
theorem tonly_formed {t : PTxn} (h : tformedB t = true) (z : List Txt) : tformedB (tonly t z) = true := by
 obtain ⟨h1, h2, h3, h4, h5⟩ := tformed_parts.1 h
 refine tformed_parts.2 ⟨h1, h2, ?_, right_only h4 z, ?_⟩
 ·have : (eonly t.effs z).length ≤ t.effs.length := List.length_filter_le _ _
  show (eonly t.effs z).length ≤ 8
  omega
 ·unfold heardB at h5 ⊢
  rw [List.all_eq_true] at h5 ⊢
  exact fun e he => h5 e (mem_eonly.1 he).1
theorem tonly_two (t : PTxn) (y z : List Txt) : tonly (tonly t y) z = tonly (tonly t z) y := by
 unfold tonly eonly
 simp only [List.filter_filter]
 congr 2
 funext e
 exact Bool.and_comm _ _
theorem tonly_all (t : PTxn) : tonly t [[]] = t := by
 have : eonly t.effs [[]] = t.effs := List.filter_eq_self.2 fun e _ => covers_iff.2 ⟨[], List.mem_singleton.2 rfl, by rfl⟩
 unfold tonly
 rw [this]

/-! ### bytes -/
def dotC : Codec PDot := (numI.seq (numI.seq numI)).emb (fun p => ⟨p.1, p.2.1, p.2.2⟩) (fun d => (d.node, d.seq, d.pos)) fun _ _ => rfl
def effC : Codec PEff := (numI.seq (textC.seq (textC.seq (numI.seq (textC.seq (intC.seq (dotC.list 64 2 (by decide) (by decide)))))))).emb (fun p => ⟨p.1, p.2.1, p.2.2.1, p.2.2.2.1, p.2.2.2.2.1, p.2.2.2.2.2.1, p.2.2.2.2.2.2⟩) (fun e => (e.pos, e.key, e.field, e.kind, e.elem, e.n, e.drops)) fun _ _ => rfl
def txnC0 : Codec PTxn := (numI.seq (numI.seq ((numI.list 8 2 (by decide) (by decide)).seq (effC.list 8 2 (by decide) (by decide))))).emb (fun p => ⟨p.1, p.2.1, p.2.2.1, p.2.2.2⟩) (fun t => (t.node, t.seq, t.deps, t.effs)) fun _ _ => rfl
def txnC : Codec PTxn := txnC0.test tformedB 2 (by decide)
theorem dotC_ok {d : PDot} (h : dotB d = true) : dotC.ok d := by
 unfold dotB at h
 rw [decide_eq_true_iff] at h
 exact ⟨⟨numI_ok.2 (by show 0 ≤ d.node ∧ d.node < _; omega), numI_ok.2 (by show 0 ≤ d.seq ∧ d.seq < _; omega), numI_ok.2 (by show 0 ≤ d.pos ∧ d.pos < _; omega)⟩, rfl⟩
theorem key_len {s : Txt} (h : prefixB s = true) : s.length ≤ 16 := by
 unfold prefixB at h
 rw [Bool.and_eq_true, decide_eq_true_iff] at h
 exact h.2
theorem key_pre {s : Txt} (h : keyB s = true) : prefixB s = true := by
 unfold keyB at h
 rw [Bool.and_eq_true] at h
 exact h.2
/-- the parts of an effect that is formed -/
theorem eff_parts {node seq : Int} {e : PEff} (h : eformedB node seq e = true) : e.key.length ≤ 16 ∧ e.field.length ≤ 16 ∧ e.elem.length ≤ 32 ∧ 0 ≤ e.kind ∧ e.kind ≤ 3 ∧ 0 ≤ e.pos ∧ e.pos ≤ 7 ∧ e.drops.length ≤ 64 ∧ ∀ d ∈ e.drops, dotB d = true := by
 unfold eformedB at h
 rw [Bool.and_eq_true, Bool.and_eq_true, decide_eq_true_iff] at h
 obtain ⟨h1, h2, h3⟩ := h
 have hp : ∀ {p : Int}, dotB ⟨node, seq, p⟩ = true → 0 ≤ p ∧ p ≤ 7 := fun {p} g => by
  unfold dotB at g
  rw [decide_eq_true_iff] at g
  exact g.2.2.2.2
 unfold makesB at h3
 split at h3
 ·rename_i k
  simp only [Bool.and_eq_true, decide_eq_true_iff] at h3
  obtain ⟨-, g2, -, g4, g5, g6⟩ := h3
  exact ⟨key_len (key_pre g4), key_len g5, by omega, by omega, by omega, (hp g6).1, (hp g6).2, h1, drops_dot h2⟩
 ·obtain ⟨g1, g2, g3, g4, g5⟩ := formed_parts.1 h3
  have hk : 0 ≤ e.kind ∧ e.kind ≤ 3 := by
   change valueB (madeI node seq e) = true at g5
   unfold valueB madeI at g5
   simp only [Bool.or_eq_true, Bool.and_eq_true, decide_eq_true_iff] at g5
   omega
  exact ⟨key_len (key_pre g2), key_len g3, g4, hk.1, hk.2, (hp g1).1, (hp g1).2, h1, drops_dot h2⟩
theorem effC_ok {node seq : Int} {e : PEff} (h : eformedB node seq e = true) (hn : fits e.n) : effC.ok e := by
 obtain ⟨h1, h2, h3, h4, h5, h6, h7, h8, h9⟩ := eff_parts h
 refine ⟨⟨numI_ok.2 (by show 0 ≤ e.pos ∧ e.pos < _; omega), ?_, ?_, numI_ok.2 (by show 0 ≤ e.kind ∧ e.kind < _; omega), ?_, hn, h8, fun d hd => dotC_ok (h9 d hd)⟩, rfl⟩
 ·show e.key.length ≤ 65536; omega
 ·show e.field.length ≤ 65536; omega
 ·show e.elem.length ≤ 65536; omega
theorem txnC_ok {t : PTxn} (h : tformedB t = true) (hn : ∀ e ∈ t.effs, fits e.n) : txnC.ok t := by
 obtain ⟨h1, h2, h3, h4, h5⟩ := tformed_parts.1 h
 have hr : 0 ≤ t.node ∧ t.node ≤ 7 ∧ 1 ≤ t.seq ∧ t.seq ≤ 1073741824 := by
  unfold inRange at h1
  exact of_decide_eq_true h1
 obtain ⟨d1, d2⟩ := deps_parts h2
 have hf : ∀ e ∈ t.effs, eformedB t.node t.seq e = true := by
  unfold rightB at h4
  rw [Bool.and_eq_true, List.all_eq_true] at h4
  exact h4.1
 exact ⟨⟨⟨numI_ok.2 (by show 0 ≤ t.node ∧ t.node < _; omega), numI_ok.2 (by show 0 ≤ t.seq ∧ t.seq < _; omega), ⟨d1, fun n hn2 => numI_ok.2 (by have := d2 n hn2; omega)⟩, h3, fun e he => effC_ok (hf e he) (hn e he)⟩, rfl⟩, h⟩
/-! ### how long the bytes are -/
theorem putAll_len {α : Type} (c : Codec α) (k : Nat) : ∀ l : List α, (∀ a ∈ l, (c.put a).length ≤ k) → (putAll c l).length ≤ l.length * k
 | [], _ => by simp [putAll]
 | a :: l, h => by
  rw [putAll_cons, List.length_append, List.length_cons, Nat.add_mul, Nat.one_mul]
  have h1 := h a List.mem_cons_self
  have h2 := putAll_len c k l fun x hx => h x (List.mem_cons_of_mem _ hx)
  omega
theorem numI_len {m : Int} (h : 0 ≤ m ∧ m < 72057594037927936) : (numI.put m).length ≤ 8 := by
 rw [numI_put]
 exact form_len8 _ (by omega)
theorem dotC_len {d : PDot} (h : dotB d = true) : (dotC.put d).length ≤ 24 := by
 unfold dotB at h
 rw [decide_eq_true_iff] at h
 show (numI.put d.node ++ (numI.put d.seq ++ numI.put d.pos)).length ≤ 24
 rw [List.length_append, List.length_append]
 have h1 := numI_len (m := d.node) (by omega)
 have h2 := numI_len (m := d.seq) (by omega)
 have h3 := numI_len (m := d.pos) (by omega)
 omega
theorem text_len {s : Txt} {k : Nat} (h : s.length ≤ k) (hk : k ≤ 65536) : (textC.put s).length ≤ 8 + k := by
 show (form s.length ++ tbs s).length ≤ _
 rw [List.length_append, tbs_len]
 have := form_len8 s.length (by omega)
 omega
theorem effC_len {node seq : Int} {e : PEff} (h : eformedB node seq e = true) : (effC.put e).length ≤ 1656 := by
 obtain ⟨h1, h2, h3, h4, h5, h6, h7, h8, h9⟩ := eff_parts h
 show (numI.put e.pos ++ (textC.put e.key ++ (textC.put e.field ++ (numI.put e.kind ++ (textC.put e.elem ++ (iform e.n ++ (form e.drops.length ++ putAll dotC e.drops))))))).length ≤ _
 simp only [List.length_append]
 have a1 := numI_len (m := e.pos) (by omega)
 have a2 := text_len h1 (by omega)
 have a3 := text_len h2 (by omega)
 have a4 := numI_len (m := e.kind) (by omega)
 have a5 := text_len h3 (by omega)
 have a6 := iform_len e.n
 have a7 := form_len8 e.drops.length (by omega)
 have a8 := putAll_len dotC 24 e.drops fun d hd => dotC_len (h9 d hd)
 omega
theorem txnC_len {t : PTxn} (h : tformedB t = true) : (txnC.put t).length ≤ 14000 := by
 obtain ⟨h1, h2, h3, h4, h5⟩ := tformed_parts.1 h
 have hr : 0 ≤ t.node ∧ t.node ≤ 7 ∧ 1 ≤ t.seq ∧ t.seq ≤ 1073741824 := by
  unfold inRange at h1
  exact of_decide_eq_true h1
 obtain ⟨d1, d2⟩ := deps_parts h2
 have hf : ∀ e ∈ t.effs, eformedB t.node t.seq e = true := by
  unfold rightB at h4
  rw [Bool.and_eq_true, List.all_eq_true] at h4
  exact h4.1
 show (numI.put t.node ++ (numI.put t.seq ++ ((form t.deps.length ++ putAll numI t.deps) ++ (form t.effs.length ++ putAll effC t.effs)))).length ≤ _
 simp only [List.length_append]
 have a1 := numI_len (m := t.node) (by omega)
 have a2 := numI_len (m := t.seq) (by omega)
 have a3 := form_len8 t.deps.length (by omega)
 have a4 := form_len8 t.effs.length (by omega)
 have a5 := putAll_len numI 8 t.deps fun n hn => numI_len (by have := d2 n hn; omega)
 have a6 := putAll_len effC 1656 t.effs fun e he => effC_len (hf e he)
 have a7 : t.effs.length * 1656 ≤ 8 * 1656 := Nat.mul_le_mul_right _ h3
 omega
/-- the awake ones' transaction -/
def txOne : PTxn := ⟨1, 1, [], []⟩
theorem txOne_formed : tformedB txOne = true := by decide +kernel
theorem txOne_put : txnC.put txOne = [1#8, 1#8, 0#8, 0#8] := by
 show form 1 ++ (form 1 ++ ((form 0 ++ []) ++ (form 0 ++ []))) = _
 rw [form_low (by decide : 1 < 128), form_low (by decide : 0 < 128)]
 rfl
theorem txOne_get : txnC.get [1#8, 1#8, 0#8, 0#8, 9#8] = .ok txOne [9#8] := by
 have := txnC.fwd txOne [9#8] (txnC_ok txOne_formed fun e he => absurd he (by simp [txOne]))
 rw [txOne_put] at this
 exact this
end Go.Proofs.YtkanklppgioacaaGreat.Plain
