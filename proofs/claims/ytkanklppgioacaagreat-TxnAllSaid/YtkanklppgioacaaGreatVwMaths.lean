/- Fields as plain mathematics: what a field is of items, the fields of a key; the laws that follow. Requests as plain mathematics: when one is formed, what it takes away, the effect that it becomes, what a list of them becomes; the laws that follow. The program's own way with requests as plain mathematics: what it asks of a request, the dots that it sorts, the state of its loop. -/
import Derived.Test.YtkanklppgioacaaGreatMaths
import Derived.Test.YtkanklppgioacaaGreatNms
namespace Go.Proofs.YtkanklppgioacaaGreat.Plain
open Nm.Plain (fits sumV sumE tot)
set_option linter.unusedVariables false

structure PVal where
 elems : List Txt
 regs : List Txt
 total : Int
 over : Bool
theorem pval_ext {a b : PVal} (h1 : a.elems = b.elems) (h2 : a.regs = b.regs) (h3 : a.total = b.total) (h4 : a.over = b.over) : a = b := by
 cases a; cases b; simp_all
instance : DecidableEq PVal := fun a b => decidable_of_iff (a.elems = b.elems ∧ a.regs = b.regs ∧ a.total = b.total ∧ a.over = b.over) ⟨fun ⟨h1, h2, h3, h4⟩ => pval_ext h1 h2 h3 h4, fun e => by subst e; exact ⟨rfl, rfl, rfl, rfl⟩⟩
instance : Inhabited PVal := ⟨⟨[], [], 0, false⟩⟩
def inField (key field : Txt) (x : PItem) : Bool := decide (x.key = key) && decide (x.field = field)
def ofKind (key field : Txt) (kind : Int) (x : PItem) : Bool := inField key field x && decide (x.kind = kind)
def rawTexts (l : List PItem) (key field : Txt) (kind : Int) : List Txt := (l.filter (ofKind key field kind)).map (·.elem)
def vtexts (l : List PItem) (key field : Txt) (kind : Int) : List Txt := once (rawTexts l key field kind)
def vcounts (l : List PItem) (key field : Txt) : List Int := (l.filter (ofKind key field 3)).map (·.n)
def vfield (l : List PItem) (key field : Txt) : PVal := ⟨vtexts l key field 1, vtexts l key field 2, sumV (tot (vcounts l key field)), decide (¬ fits (tot (vcounts l key field)))⟩
/-! ### in whatever order -/
/-! ### one item more -/
/-! ### the fields of a key -/
end Go.Proofs.YtkanklppgioacaaGreat.Plain
namespace Go.Proofs.YtkanklppgioacaaGreat.Plain
open Nm.Plain (fits sumV sumE tot)
set_option linter.unusedVariables false

structure PReq where
 op : Int
 key : Txt
 field : Txt
 elem : Txt
 n : Int
instance : Inhabited PReq := ⟨⟨0, [], [], [], 0⟩⟩
/-- is it one that a request takes away? -/
def takesB (node : Int) (q : PReq) (x : PItem) : Bool :=
 inField q.key q.field x && (if q.op = 1 ∨ q.op = 2 then decide (x.kind = 1) && decide (x.elem = q.elem) else if q.op = 3 then decide (x.kind = 2) else if q.op = 4 then decide (x.kind = 3) && decide (x.dot.node = node) else true)
def taken (node : Int) (q : PReq) (s : List PItem) : List PItem := s.filter (takesB node q)
/-! ### dots, rising -/
def dlt (a b : PDot) : Prop := a.node < b.node ∨ (a.node = b.node ∧ (a.seq < b.seq ∨ (a.seq = b.seq ∧ a.pos < b.pos)))
instance : DecidableRel dlt := fun a b => by unfold dlt; infer_instance
def rdots (l : List PItem) : List PDot := onceR dlt (l.map (·.dot))
def mdrops (node : Int) (q : PReq) (s : List PItem) : List PDot := rdots (taken node q s)
def msum (node : Int) (q : PReq) (s : List PItem) : Int := tot ((taken node q s).map (·.n) ++ [q.n])
def mkind (q : PReq) : Int := if q.op = 1 then 1 else if q.op = 3 then 2 else if q.op = 4 then 3 else 0
def melem (q : PReq) : Txt := if q.op = 1 ∨ q.op = 3 then q.elem else []
def meff (node i : Int) (q : PReq) (s : List PItem) : PEff := ⟨i, q.key, q.field, mkind q, melem q, if q.op = 4 then sumV (msum node q s) else 0, mdrops node q s⟩
/-- one request: its error, its effect -/
def mone (node seq i : Int) (s : List PItem) (q : PReq) : Int × List PEff :=
 if 64 < (mdrops node q s).length then (4, [])
 else if q.op = 4 ∧ ¬ fits (msum node q s) then (5, [])
 else if mkind q = 0 ∧ mdrops node q s = [] then (0, [])
 else if q.op = 4 ∧ (vfield (doStep node seq s (meff node i q s)) q.key q.field).over = true then (5, [])
 else (0, [meff node i q s])
def mrun (node seq : Int) : Int → List PItem → List PReq → Int × List PEff
 | _, _, [] => (0, [])
 | i, s, q :: l =>
  if (mone node seq i s q).1 = 0 then
   if (mrun node seq (i + 1) (edo node seq s (mone node seq i s q).2) l).1 = 0 then (0, (mone node seq i s q).2 ++ (mrun node seq (i + 1) (edo node seq s (mone node seq i s q).2) l).2)
   else ((mrun node seq (i + 1) (edo node seq s (mone node seq i s q).2) l).1, [])
  else ((mone node seq i s q).1, [])
def inRange (node seq : Int) : Bool := decide (0 ≤ node ∧ node ≤ 7 ∧ 1 ≤ seq ∧ seq ≤ 1073741824)
/-! ### usual items -/
/-- formed items in their one form; of the transaction's node none of a later transaction, of the transaction itself none from At i on -/
structure Usual (node seq i : Int) (s : List PItem) : Prop where
 form : inorm s = s
 fine : ∀ x ∈ s, formedB x = true
 past : ∀ x ∈ s, x.dot.node = node → x.dot.seq < seq ∨ (x.dot.seq = seq ∧ x.dot.pos < i)
theorem Usual.mono {node seq i j : Int} {s : List PItem} (h : Usual node seq i s) (hij : i ≤ j) : Usual node seq j s := ⟨h.form, h.fine, fun x hx hn => by have := h.past x hx hn; omega⟩
theorem formed_parts {x : PItem} : formedB x = true ↔ dotB x.dot = true ∧ keyB x.key = true ∧ prefixB x.field = true ∧ x.elem.length ≤ 32 ∧ valueB x = true := by
 unfold formedB
 simp only [Bool.and_eq_true, decide_eq_true_iff]
/-! ### the effects are right -/
theorem rises_of : ∀ {l : List PEff}, l.Pairwise (fun a b => a.pos < b.pos) → risesB l = true
 | [], _ => rfl
 | [_], _ => rfl
 | a :: b :: l, h => by
  obtain ⟨h1, h2⟩ := List.pairwise_cons.1 h
  unfold risesB
  rw [decide_eq_true (h1 b List.mem_cons_self), rises_of h2]
  rfl
/-! ### what was asked is done -/
/-! ### counting -/
/-! ### numbers -/
/-- of effects that are right: how many drops, and that all dots may be -/
theorem drops_dot : ∀ {l : List PDot}, dropsB l = true → ∀ d ∈ l, dotB d = true
 | [], _, d, hd => absurd hd (by simp)
 | [x], h, d, hd => by rw [List.mem_singleton.1 hd]; exact h
 | x :: y :: l, h, d, hd => by
  rw [dropsB, Bool.and_eq_true, Bool.and_eq_true] at h
  rcases List.mem_cons.1 hd with rfl | hd
  ·exact h.1
  ·exact drops_dot h.2.2 d hd
end Go.Proofs.YtkanklppgioacaaGreat.Plain
namespace Go.Proofs.YtkanklppgioacaaGreat.Plain
open Nm.Plain (fits sumV sumE tot)
set_option linter.unusedVariables false

/-! ### Formed -/
/-! ### dots -/
theorem nodup_dots : ∀ {l : List PItem}, l.Nodup → DotsApart l → (l.map (·.dot)).Nodup
 | [], _, _ => List.nodup_nil
 | x :: l, hn, ha => by
  rw [List.map_cons, List.nodup_cons]
  rw [List.nodup_cons] at hn
  refine ⟨fun h => ?_, nodup_dots hn.2 fun a h b g e => ha a (List.mem_cons_of_mem _ h) b (List.mem_cons_of_mem _ g) e⟩
  obtain ⟨y, hy, e⟩ := List.mem_map.1 h
  exact hn.1 (by rw [← ha y (List.mem_cons_of_mem _ hy) x List.mem_cons_self e]; exact hy)

/-! ### one request -/
def merr (node : Int) (q : PReq) (s : List PItem) : Int := if 64 < (mdrops node q s).length then 4 else if q.op = 4 ∧ ¬ fits (msum node q s) then 5 else 0
theorem mone_merr {node seq i : Int} {s : List PItem} {q : PReq} (h : merr node q s ≠ 0) : mone node seq i s q = (merr node q s, []) := by
 unfold merr at h ⊢
 unfold mone
 split
 ·rfl
 ·split
  ·rfl
  ·rename_i h1 h2
   rw [if_neg h1, if_neg h2] at h
   exact absurd rfl h
theorem mone_none {node seq i : Int} {s : List PItem} {q : PReq} (h : merr node q s = 0) (hk : mkind q = 0) (hd : mdrops node q s = []) : mone node seq i s q = (0, []) := by
 unfold merr at h
 unfold mone
 split at h
 ·cases h
 ·split at h
  ·cases h
  ·rename_i h1 h2
   rw [if_neg h1, if_neg h2, if_pos ⟨hk, hd⟩]
theorem mone_over {node seq i : Int} {s : List PItem} {q : PReq} (h : merr node q s = 0) (hk : ¬ (mkind q = 0 ∧ mdrops node q s = [])) (ho : q.op = 4) (hv : (vfield (doStep node seq s (meff node i q s)) q.key q.field).over = true) : mone node seq i s q = (5, []) := by
 unfold merr at h
 unfold mone
 split at h
 ·cases h
 ·split at h
  ·cases h
  ·rename_i h1 h2
   rw [if_neg h1, if_neg h2, if_neg hk, if_pos ⟨ho, hv⟩]
/-! ### the loop -/
def mback (e : List PEff) (r : Int × List PEff) : Int × List PEff := if r.1 = 0 then (0, e ++ r.2) else (r.1, [])
theorem mback_end (node seq i : Int) (s : List PItem) (e : List PEff) : mback e (mrun node seq i s []) = (0, e) := by
 show (if (0 : Int) = 0 then (0, e ++ []) else _) = _
 rw [if_pos rfl, List.append_nil]
theorem mback_ok {node seq i : Int} {s : List PItem} {q : PReq} {l : List PReq} {e f : List PEff} (h : mone node seq i s q = (0, f)) : mback e (mrun node seq i s (q :: l)) = mback (e ++ f) (mrun node seq (i + 1) (edo node seq s f) l) := by
 rw [mrun, h]
 show mback e (if (0 : Int) = 0 then _ else _) = _
 rw [if_pos rfl]
 unfold mback
 by_cases g : (mrun node seq (i + 1) (edo node seq s f) l).1 = 0
 ·rw [if_pos g, if_pos g, if_pos rfl, List.append_assoc]
 ·rw [if_neg g, if_neg g, if_neg g]
theorem mback_bad {node seq i c : Int} {s : List PItem} {q : PReq} {l : List PReq} {e : List PEff} (hc : c ≠ 0) (h : mone node seq i s q = (c, [])) : mback e (mrun node seq i s (q :: l)) = (c, []) := by
 rw [mrun, h]
 show mback e (if c = 0 then _ else _) = _
 rw [if_neg hc]
 unfold mback
 rw [if_neg hc]
/-- the items in the loop: no two of one dot, or nothing is taken away any more -/
def DotsOnce (s : List PItem) : Prop := (s.map (·.dot)).Nodup
theorem DotsOnce.of {s : List PItem} (hr : Ris iless s) (ha : DotsApart s) : DotsOnce s := nodup_dots (Ris.nodup sto_item hr) ha
def LoopOk (node : Int) (s : List PItem) (l : List PReq) : Prop := DotsOnce s ∨ ∀ q ∈ l, taken node q s = []
theorem LoopOk.tail {node : Int} {s : List PItem} {q : PReq} {l : List PReq} (h : LoopOk node s (q :: l)) : LoopOk node s l := h.elim .inl fun h => .inr fun x hx => h x (List.mem_cons_of_mem _ hx)
theorem LoopOk.once {node : Int} {s : List PItem} {q : PReq} {l : List PReq} (h : LoopOk node s (q :: l)) : DotsOnce (taken node q s) := h.elim (fun h => by
  unfold DotsOnce at h ⊢
  unfold taken
  exact h.sublist ((List.filter_sublist).map _)) fun h => by rw [h q List.mem_cons_self]; exact List.nodup_nil
end Go.Proofs.YtkanklppgioacaaGreat.Plain
