/- The program's way of reading and of putting messages, as plain mathematics: a state (what is left, whether it is bad) that goes from part to part; it answers what the codec answers. The program's own reader of messages as it lies in memory. (Written by gen-msread.py.) -/
import Derived.Test.YtfapkepfngddlaaGreatTxRds
import Derived.Test.YtfapkepfngddlaaGreatMsPutR
namespace Go.Proofs.YtfapkepfngddlaaGreat.Plain
open Nm.Plain (fits)
set_option linter.unusedVariables false
abbrev Rb := Bytes × Bool
def mdo {α : Type} (c : Codec α) (z : α) (s : Rb) : α × Rb := if s.2 = true then (z, s) else (match c.get s.1 with | .ok a r => (a, (r, false)) | .err _ => (z, (s.1, true)))
theorem mdo_ok {α : Type} {c : Codec α} {z : α} {b r : Bytes} {a : α} (h : c.get b = .ok a r) : mdo c z (b, false) = (a, (r, false)) := by
 unfold mdo
 rw [if_neg (by simp)]
 show (match c.get b with | .ok a r => (a, ((r, false) : Rb)) | .err _ => (z, (b, true))) = _
 rw [h]
theorem mdo_err {α : Type} {c : Codec α} {z : α} {b : Bytes} {e : Int} (h : c.get b = .err e) : mdo c z (b, false) = (z, (b, true)) := by
 unfold mdo
 rw [if_neg (by simp)]
 show (match c.get b with | .ok a r => (a, ((r, false) : Rb)) | .err _ => (z, (b, true))) = _
 rw [h]
theorem mdo_past {α : Type} {c : Codec α} {z : α} {b : Bytes} : mdo c z (b, true) = (z, (b, true)) := by
 unfold mdo
 rw [if_pos rfl]
structure SimB {α : Type} (get : Bytes → Res α) (f : Rb → α × Rb) : Prop where
 ok : ∀ {b a r}, get b = .ok a r → f (b, false) = (a, (r, false))
 err : ∀ {b e}, get b = .err e → (f (b, false)).2.2 = true
 past : ∀ b, (f (b, true)).2.2 = true
theorem SimB.of {α : Type} {get : Bytes → Res α} {f : Rb → α × Rb} (h : SimB get f) {b : Bytes} (hf : (f (b, false)).2.2 = false) : get b = .ok (f (b, false)).1 (f (b, false)).2.1 := by
 cases e : get b with
 | ok a r => rw [h.ok e]
 | err k => rw [h.err e] at hf; cases hf
theorem simb_step {α : Type} (c : Codec α) (z : α) : SimB c.get (mdo c z) :=
 ⟨fun h => mdo_ok h, fun h => by rw [mdo_err h], fun b => by rw [mdo_past]⟩
def mret {α : Type} (a : α) : Rb → α × Rb := fun s => (a, s)
def mbind {α β : Type} (f : Rb → α × Rb) (g : α → Rb → β × Rb) : Rb → β × Rb := fun s => g (f s).1 (f s).2
theorem simb_ret {α : Type} (a : α) : SimB (fun b => .ok a b) (mret a) := ⟨fun h => (by cases h; rfl), fun h => (by cases h), fun b => rfl⟩
theorem simb_bind {α β : Type} {g1 : Bytes → Res α} {f1 : Rb → α × Rb} {g2 : α → Bytes → Res β} {f2 : α → Rb → β × Rb} (h1 : SimB g1 f1) (h2 : ∀ a, SimB (g2 a) (f2 a)) : SimB (fun b => (g1 b).bind (g2 · ·)) (mbind f1 f2) := by
 refine ⟨fun {b x r} h => ?_, fun {b e} h => ?_, fun b => ?_⟩
 ·obtain ⟨a, m, e1, e2⟩ := Res.bind_ok h
  show f2 (f1 (b, false)).1 (f1 (b, false)).2 = _
  rw [h1.ok e1];exact (h2 a).ok e2
 ·show (f2 (f1 (b, false)).1 (f1 (b, false)).2).2.2 = _
  rcases Res.bind_err h with h | ⟨a, m, e1, e2⟩
  ·have e3 := h1.err h
   generalize f1 (b, false) = p at *;obtain ⟨a, m, k⟩ := p;change k = true at e3;subst e3;exact (h2 a).past m
  ·rw [h1.ok e1]
   exact (h2 a).err e2
 ·show (f2 (f1 (b, true)).1 (f1 (b, true)).2).2.2 = _
  have e3 := h1.past b;generalize f1 (b, true) = p at *;obtain ⟨a, m, k2⟩ := p;change k2 = true at e3;subst e3;exact (h2 a).past m
theorem simb_seq {α β : Type} {c : Codec α} {d : Codec β} {f : Rb → α × Rb} {g : Rb → β × Rb} (h1 : SimB c.get f) (h2 : SimB d.get g) : SimB (c.seq d).get (mbind f fun a => mbind g fun x => mret (a, x)) :=
 simb_bind h1 fun a => simb_bind h2 fun x => simb_ret (a, x)
theorem simb_emb {α β : Type} {c : Codec α} {F : α → β} {G : β → α} {hh : ∀ a, c.ok a → G (F a) = a} {f : Rb → α × Rb} (h1 : SimB c.get f) : SimB (c.emb F G hh).get (mbind f fun a => mret (F a)) :=
 simb_bind h1 fun a => simb_ret (F a)
def mN {α : Type} (f : Rb → α × Rb) : Nat → Rb → List α × Rb
 | 0, s => ([], s)
 | k + 1, s => if s.2 = true then ([], s) else ((f s).1 :: (mN f k (f s).2).1, (mN f k (f s).2).2)
theorem mN_zero {α : Type} (f : Rb → α × Rb) (s : Rb) : mN f 0 s = ([], s) := rfl
theorem mN_bad {α : Type} (f : Rb → α × Rb) (k : Nat) (b : Bytes) : mN f k (b, true) = ([], (b, true)) := by cases k <;> rfl
theorem mN_more {α : Type} (f : Rb → α × Rb) (k : Nat) (b : Bytes) : mN f (k + 1) (b, false) = ((f (b, false)).1 :: (mN f k (f (b, false)).2).1, (mN f k (f (b, false)).2).2) := rfl
theorem simb_N {α : Type} {c : Codec α} {f : Rb → α × Rb} (h : SimB c.get f) : ∀ k, SimB (getN c k) (mN f k)
 | 0 => simb_ret []
 | k + 1 => by
  have H := simb_bind h fun a => simb_bind (simb_N h k) fun l => simb_ret (a :: l)
  exact ⟨fun e => (mN_more f k _).trans (H.ok e), fun e => H.err e, fun b => by rw [mN_bad]⟩
def mcount (k : Nat) (s : Rb) : Nat × Rb := if k < (mdo numC 0 s).1 then (0, ((mdo numC 0 s).2.1, true)) else mdo numC 0 s
theorem mcount_le (k : Nat) (s : Rb) : (mcount k s).1 ≤ k := by
 unfold mcount
 split
 ·exact Nat.zero_le _
 ·omega
theorem simb_count (k : Nat) : SimB (fun b => (getNum b).bind fun n r => if k < n then .err 2 else .ok n r) (mcount k) := by
 refine ⟨fun {b a r} h => ?_, fun {b e} h => ?_, fun b => ?_⟩
 ·obtain ⟨n, m, h1, h2⟩ := Res.bind_ok h
  split at h2
  ·cases h2
  ·rename_i hn
   cases h2
   unfold mcount;rw [mdo_ok (show numC.get b = _ from h1), if_neg hn]
 ·rcases Res.bind_err h with h | ⟨n, m, h1, h2⟩
  ·unfold mcount
   rw [mdo_err (show numC.get b = _ from h), if_neg (by show ¬ k < 0; omega)]
  ·split at h2
   ·rename_i hn
    cases h2
    unfold mcount;rw [mdo_ok (show numC.get b = _ from h1), if_pos hn]
   ·cases h2
 ·unfold mcount
  rw [mdo_past, if_neg (by show ¬ k < 0; omega)]
theorem simb_list {α : Type} {c : Codec α} {f : Rb → α × Rb} (h : SimB c.get f) (k : Nat) (hk : k < 72057594037927936) (he : (2 : Int) ≠ 0) : SimB (c.list k 2 hk he).get (mbind (mcount k) fun n => mN f n) := by
 have H := simb_bind (g2 := fun n r => getN c n r) (simb_count k) fun n => simb_N h n
 have e : (c.list k 2 hk he).get = fun b => ((getNum b).bind fun n r => if k < n then Res.err 2 else .ok n r).bind fun n r => getN c n r := by
  funext b
  rw [res_bind_bind]
  show (getNum b).bind _ = (getNum b).bind _
  congr 1
  funext n r
  split <;> rfl
 rw [e];exact H
def mnum (s : Rb) : Int × Rb := (((mdo numC 0 s).1 : Int), (mdo numC 0 s).2)
theorem simb_num : SimB numI.get mnum := simb_emb (simb_step numC 0)
def mlist {α : Type} (f : Rb → α × Rb) (k : Nat) (s : Rb) : List α × Rb := mN f (mcount k s).1 (mcount k s).2
def mtext : Rb → Txt × Rb := mdo textC []
def mint : Rb → Int × Rb := mdo intC 0
def mtxn : Rb → PTxn × Rb := mdo txnC default
def mwhole (s : Rb) : Bool × Rb := (decide ((mcount 1 s).1 = 1), (mcount 1 s).2)
theorem simb_whole : SimB wholeC.get mwhole := by
 have E : ∀ b, wholeC.get b = ((getNum b).bind fun n r => if 1 < n then Res.err 2 else .ok n r).bind fun n r => .ok (decide (n = 1)) r := by
  intro b
  show ((((getNum b).bind fun a r => Res.ok ((a : Nat) : Int) r).bind fun a r => if (decide (a = 0) || decide (a = 1)) = true then Res.ok a r else .err 2).bind fun a r => Res.ok (decide (a = 1)) r) = _
  rw [res_bind_bind, res_bind_bind, res_bind_bind]
  congr 1
  funext n r
  show ((if (decide ((n : Int) = 0) || decide ((n : Int) = 1)) = true then Res.ok (n : Int) r else .err 2).bind fun a r => Res.ok (decide (a = 1)) r) = _
  by_cases h : 1 < n
  ·rw [if_pos h, if_neg (by simp; omega)]; rfl
  ·rw [if_neg h, if_pos (by simp; omega)]
   show Res.ok (decide ((n : Int) = 1)) r = Res.ok (decide (n = 1)) r
   congr 1
   exact decide_eq_decide.2 (by omega)
 have H := simb_bind (g2 := fun n r => Res.ok (decide (n = 1)) r) (simb_count 1) fun n => simb_ret (decide (n = 1))
 exact ⟨fun h => H.ok ((E _).symm.trans h), fun h => H.err ((E _).symm.trans h), fun b => H.past b⟩
def mdot (s : Rb) : PDot × Rb := (⟨(mnum s).1, (mnum (mnum s).2).1, (mnum (mnum (mnum s).2).2).1⟩, (mnum (mnum (mnum s).2).2).2)
theorem simb_dot : SimB dotC.get mdot := simb_emb (simb_seq simb_num (simb_seq simb_num simb_num))
def mi1 (s : Rb) : Rb := (mtext s).2
def mi2 (s : Rb) : Rb := (mtext (mi1 s)).2
def mi3 (s : Rb) : Rb := (mnum (mi2 s)).2
def mi4 (s : Rb) : Rb := (mtext (mi3 s)).2
def mi5 (s : Rb) : Rb := (mint (mi4 s)).2
def mitem (s : Rb) : PItem × Rb := (⟨(mtext s).1, (mtext (mi1 s)).1, (mnum (mi2 s)).1, (mtext (mi3 s)).1, (mint (mi4 s)).1, (mdot (mi5 s)).1⟩, (mdot (mi5 s)).2)
theorem simb_item : SimB itemC.get mitem := simb_emb (simb_seq (simb_step textC []) (simb_seq (simb_step textC []) (simb_seq simb_num (simb_seq (simb_step textC []) (simb_seq (simb_step intC 0) simb_dot)))))
def mm1 (s : Rb) : Rb := (mnum s).2
def mm2 (s : Rb) : Rb := (mnum (mm1 s)).2
def mm3 (s : Rb) : Rb := (mwhole (mm2 s)).2
def mm4 (s : Rb) : Rb := (mlist mnum 8 (mm3 s)).2
def mm5 (s : Rb) : Rb := (mlist mnum 8 (mm4 s)).2
def mm6 (s : Rb) : Rb := (mlist mtext 8 (mm5 s)).2
def mm7 (s : Rb) : Rb := (mlist mtext 8 (mm6 s)).2
def mm8 (s : Rb) : Rb := (mlist mitem 32768 (mm7 s)).2
def mmsg (s : Rb) : PMsg × Rb := (⟨(mnum s).1, (mnum (mm1 s)).1, (mwhole (mm2 s)).1, (mlist mnum 8 (mm3 s)).1, (mlist mnum 8 (mm4 s)).1, (mlist mtext 8 (mm5 s)).1, (mlist mtext 8 (mm6 s)).1, (mlist mitem 32768 (mm7 s)).1, (mlist mtxn 4096 (mm8 s)).1⟩, (mlist mtxn 4096 (mm8 s)).2)
theorem simb_nine {A1 A2 A3 A4 A5 A6 A7 A8 A9 B : Type} {c1 : Codec A1} {c2 : Codec A2} {c3 : Codec A3} {c4 : Codec A4} {c5 : Codec A5} {c6 : Codec A6} {c7 : Codec A7} {c8 : Codec A8} {c9 : Codec A9}
  {f1 : Rb → A1 × Rb} {f2 : Rb → A2 × Rb} {f3 : Rb → A3 × Rb} {f4 : Rb → A4 × Rb} {f5 : Rb → A5 × Rb} {f6 : Rb → A6 × Rb} {f7 : Rb → A7 × Rb} {f8 : Rb → A8 × Rb} {f9 : Rb → A9 × Rb}
  (h1 : SimB c1.get f1) (h2 : SimB c2.get f2) (h3 : SimB c3.get f3) (h4 : SimB c4.get f4) (h5 : SimB c5.get f5) (h6 : SimB c6.get f6) (h7 : SimB c7.get f7) (h8 : SimB c8.get f8) (h9 : SimB c9.get f9)
  {F : A1 × A2 × A3 × A4 × A5 × A6 × A7 × A8 × A9 → B} {G : B → A1 × A2 × A3 × A4 × A5 × A6 × A7 × A8 × A9} {hh} :
  SimB ((c1.seq (c2.seq (c3.seq (c4.seq (c5.seq (c6.seq (c7.seq (c8.seq c9)))))))).emb F G hh).get fun s =>
   let s1 := (f1 s).2; let s2 := (f2 s1).2; let s3 := (f3 s2).2; let s4 := (f4 s3).2; let s5 := (f5 s4).2; let s6 := (f6 s5).2; let s7 := (f7 s6).2; let s8 := (f8 s7).2
   (F ((f1 s).1, (f2 s1).1, (f3 s2).1, (f4 s3).1, (f5 s4).1, (f6 s5).1, (f7 s6).1, (f8 s7).1, (f9 s8).1), (f9 s8).2) :=
 simb_emb (simb_seq h1 (simb_seq h2 (simb_seq h3 (simb_seq h4 (simb_seq h5 (simb_seq h6 (simb_seq h7 (simb_seq h8 h9))))))))
theorem simb_listM {α : Type} {c : Codec α} {f : Rb → α × Rb} (h : SimB c.get f) (k : Nat) (hk : k < 72057594037927936) (he : (2 : Int) ≠ 0) : SimB (c.list k 2 hk he).get (mlist f k) := simb_list h k hk he
theorem simb_text : SimB textC.get mtext := simb_step textC []
theorem simb_txn : SimB txnC.get mtxn := simb_step txnC default
theorem simb_msg : SimB msgC0.get mmsg := by
 have h := (show SimB msgC0.get _ from simb_nine simb_num simb_num simb_whole (simb_listM simb_num 8 _ _) (simb_listM simb_num 8 _ _) (simb_listM simb_text 8 _ _) (simb_listM simb_text 8 _ _) (simb_listM simb_item 32768 _ _) (simb_listM simb_txn 4096 _ _));refine cast (congrArg (SimB msgC0.get) (funext fun s => ?_)) h;unfold mmsg mm8 mm7 mm6 mm5 mm4 mm3 mm2 mm1
 with_reducible rfl
theorem mread_bad {b : Bytes} (h : (mmsg (b, false)).2.2 = true) : mread b = none := by
 unfold mread;have e : ∀ m r, msgC.get b ≠ .ok m r := by
  intro m r e;obtain ⟨a, q, h1, -⟩ := Res.bind_ok (show (msgC0.get b).bind _ = _ from e);rw [simb_msg.ok h1] at h
  cases h
 split
 ·rename_i m h1; exact absurd h1 (e _ _)
 ·rfl
theorem mread_done {b : Bytes} (h : (mmsg (b, false)).2.2 = false) : msgC0.ok (mmsg (b, false)).1 ∧ mread b = if (mmsg (b, false)).2.1 = [] ∧ mformedM (mmsg (b, false)).1 = true then some (mmsg (b, false)).1 else none := by
 have e := simb_msg.of h;refine ⟨(msgC0.bwd e).1, ?_⟩;generalize mmsg (b, false) = p at *;obtain ⟨m, r, k⟩ := p;have e2 : msgC.get b = if mformedM m = true then .ok m r else .err 2 := by
  show (msgC0.get b).bind _ = _
  rw [e]
  rfl
 unfold mread;rw [e2]
 by_cases hm : mformedM m = true
 ·rw [if_pos hm]
  cases r with
  | nil => rw [if_pos ⟨rfl, hm⟩]
  | cons c r => rw [if_neg (by rintro ⟨h, -⟩; cases h)]
 ·rw [if_neg hm, if_neg (fun h => hm h.2)]
def LocB {α : Type} (c : Codec α) (M : Nat) (b : Bytes) : Prop := (∀ a q, c.get (b.take M) = .ok a q → c.get b = .ok a (b.drop (min M b.length - q.length)) ∧ q.length < min M b.length) ∧ ∀ e, c.get (b.take M) = .err e → ∃ k, c.get b = .err k
theorem locB_of {α : Type} {c : Codec α} {M : Nat} {b : Bytes} (h : c.get b = rdLeft M b (c.get (b.take M))) (hs : ∀ {b r : Bytes} {a : α}, c.get b = .ok a r → r.length < b.length) : LocB c M b := by
 refine ⟨fun a q e => ?_, fun e k => ?_⟩
 ·have := hs e
  rw [List.length_take] at this;rw [h, e];exact ⟨rfl, this⟩
 ·rw [h, k]
  exact ⟨_, rfl⟩
theorem locB_num (b : Bytes) : LocB numC 8 b := locB_of (num_local b 8 (Nat.le_refl _)) num_short
theorem locB_int (b : Bytes) : LocB intC 8 b := locB_of (int_local b) int_short
theorem locB_text (b : Bytes) : LocB textC (tmost b) b := locB_of (text_local b) text_short
theorem form_low1 {n : Nat} (h : n < 128) : (form n).length = 1 := by rw [form_low h]; rfl
theorem dot_small {d : PDot} (h : dotB d = true) : (dotC.put d).length ≤ 10 := by
 unfold dotB at h;rw [decide_eq_true_iff] at h
 show (form d.node.toNat ++ (form d.seq.toNat ++ form d.pos.toNat)).length ≤ 10
 rw [List.length_append, List.length_append];have h1 := form_low1 (n := d.node.toNat) (by omega);have h2 := form_len8 d.seq.toNat (by omega);have h3 := form_low1 (n := d.pos.toNat) (by omega);omega
theorem eff_small {node seq : Int} {e : PEff} (h : eformedB node seq e = true) : (effC.put e).length ≤ 760 := by
 obtain ⟨h1, h2, h3, h4, h5, h6, h7, h8, h9⟩ := eff_parts h
 show (numI.put e.pos ++ (textC.put e.key ++ (textC.put e.field ++ (numI.put e.kind ++ (textC.put e.elem ++ (iform e.n ++ (form e.drops.length ++ putAll dotC e.drops))))))).length ≤ _
 simp only [List.length_append]
 have a1 := numI_len (m := e.pos) (by omega);have a2 := text_len h1 (by omega);have a3 := text_len h2 (by omega);have a4 := numI_len (m := e.kind) (by omega);have a5 := text_len h3 (by omega);have a6 := iform_len e.n;have a7 := form_len8 e.drops.length (by omega);have a8 := putAll_len dotC 10 e.drops fun d hd => dot_small (h9 d hd)
 omega
theorem txn_small {t : PTxn} (h : tformedB t = true) : (txnC.put t).length ≤ 6300 := by
 obtain ⟨h1, h2, h3, h4, h5⟩ := tformed_parts.1 h;have hr : 0 ≤ t.node ∧ t.node ≤ 7 ∧ 1 ≤ t.seq ∧ t.seq ≤ 1073741824 := by
  unfold inRange at h1;exact of_decide_eq_true h1
 obtain ⟨d1, d2⟩ := deps_parts h2;have hf : ∀ e ∈ t.effs, eformedB t.node t.seq e = true := by
  unfold rightB at h4;rw [Bool.and_eq_true, List.all_eq_true] at h4;exact h4.1
 show (numI.put t.node ++ (numI.put t.seq ++ ((form t.deps.length ++ putAll numI t.deps) ++ (form t.effs.length ++ putAll effC t.effs)))).length ≤ _
 simp only [List.length_append]
 have a1 := numI_len (m := t.node) (by omega);have a2 := numI_len (m := t.seq) (by omega);have a3 := form_len8 t.deps.length (by omega);have a4 := form_len8 t.effs.length (by omega);have a5 := putAll_len numI 8 t.deps fun n hn => numI_len (by have := d2 n hn; omega)
 have a6 := putAll_len effC 760 t.effs fun e he => eff_small (hf e he)
 have a7 : t.effs.length * 760 ≤ 8 * 760 := Nat.mul_le_mul_right _ h3;omega
theorem txn_short {b r : Bytes} {t : PTxn} (h : txnC.get b = .ok t r) : r.length < b.length := by
 obtain ⟨o, e⟩ := txnC.bwd h;rw [← e, List.length_append];have : 0 < (txnC.put t).length := by
  show 0 < (form t.node.toNat ++ _).length
  rw [List.length_append];have := form_pos t.node.toNat;omega
 omega
theorem locB_txn (b : Bytes) : LocB txnC 8192 b := by
 refine ⟨fun a q e => ?_, fun e h => ?_⟩
 ·have hs := txn_short e
  rw [List.length_take] at hs;obtain ⟨o, h⟩ := txnC.bwd e;refine ⟨?_, hs⟩;have hb : b = txnC.put a ++ (q ++ b.drop 8192) := by
   rw [← List.append_assoc, h, List.take_append_drop]
  have hl : (txnC.put a).length = min 8192 b.length - q.length := by
   have := congrArg List.length h;rw [List.length_append, List.length_take] at this;omega
  have g := txnC.fwd a (q ++ b.drop 8192) o;rw [← hb] at g;rw [g]
  congr 1
  rw [← hl]
  conv => rhs; rw [hb]
  rw [List.drop_left]
 ·cases e2 : txnC.get b with
  | err k => exact ⟨k, rfl⟩
  | ok a r =>
   obtain ⟨o, hb⟩ := txnC.bwd e2;have hl := txn_small o.2;have : b.take 8192 = txnC.put a ++ r.take (8192 - (txnC.put a).length) := by
    rw [← hb, List.take_append, List.take_of_length_le (by omega)]
   rw [this, txnC.fwd a _ o] at h
   cases h
def ShrB {α : Type} (f : Rb → α × Rb) : Prop := ∀ s, (f s).2.1.length ≤ s.1.length
theorem shrb_step {α : Type} {c : Codec α} (z : α) (h : ∀ {b r : Bytes} {a : α}, c.get b = .ok a r → r.length < b.length) : ShrB (mdo c z) := by
 intro s;unfold mdo
 split
 ·exact Nat.le_refl _
 ·cases e : c.get s.1 with
  | ok a r => exact Nat.le_of_lt (h e)
  | err k => exact Nat.le_refl _
theorem shrb_N {α : Type} {f : Rb → α × Rb} (h : ShrB f) : ∀ k, ShrB (mN f k)
 | 0, s => Nat.le_refl _
 | k + 1, s => by
  unfold mN
  split
  ·exact Nat.le_refl _
  ·exact Nat.le_trans (shrb_N h k (f s).2) (h s)
theorem shrb_num0 : ShrB (mdo numC 0) := shrb_step 0 num_short
theorem shrb_num : ShrB mnum := fun s => shrb_num0 s
theorem shrb_count (k : Nat) : ShrB (mcount k) := by
 intro s;unfold mcount
 split
 ·exact shrb_num0 s
 ·exact shrb_num0 s
theorem shrb_list {α : Type} {f : Rb → α × Rb} (h : ShrB f) (k : Nat) : ShrB (mlist f k) := fun s => Nat.le_trans (shrb_N h _ _) (shrb_count k s)
theorem shrb_text : ShrB mtext := shrb_step [] text_short
theorem shrb_int : ShrB mint := shrb_step 0 int_short
theorem shrb_txn : ShrB mtxn := shrb_step default txn_short
theorem shrb_whole : ShrB mwhole := fun s => shrb_count 1 s
theorem shrb_dot : ShrB mdot := fun s => Nat.le_trans (shrb_num _) (Nat.le_trans (shrb_num _) (shrb_num _))
theorem shrb_item : ShrB mitem := fun s => Nat.le_trans (shrb_dot _) (Nat.le_trans (shrb_int _) (Nat.le_trans (shrb_text _) (Nat.le_trans (shrb_num _) (Nat.le_trans (shrb_text _) (shrb_text _)))))
theorem le_m1 (s : Rb) : (mm1 s).1.length ≤ s.1.length := shrb_num s
theorem le_m2 (s : Rb) : (mm2 s).1.length ≤ s.1.length := by unfold mm2; exact Nat.le_trans (shrb_num (mm1 s)) (le_m1 s)
theorem le_m3 (s : Rb) : (mm3 s).1.length ≤ s.1.length := by unfold mm3; exact Nat.le_trans (shrb_whole (mm2 s)) (le_m2 s)
theorem le_m4 (s : Rb) : (mm4 s).1.length ≤ s.1.length := by unfold mm4; exact Nat.le_trans (shrb_list shrb_num 8 (mm3 s)) (le_m3 s)
theorem le_m5 (s : Rb) : (mm5 s).1.length ≤ s.1.length := by unfold mm5; exact Nat.le_trans (shrb_list shrb_num 8 (mm4 s)) (le_m4 s)
theorem le_m6 (s : Rb) : (mm6 s).1.length ≤ s.1.length := by unfold mm6; exact Nat.le_trans (shrb_list shrb_text 8 (mm5 s)) (le_m5 s)
theorem le_m7 (s : Rb) : (mm7 s).1.length ≤ s.1.length := by unfold mm7; exact Nat.le_trans (shrb_list shrb_text 8 (mm6 s)) (le_m6 s)
theorem le_m8 (s : Rb) : (mm8 s).1.length ≤ s.1.length := by unfold mm8; exact Nat.le_trans (shrb_list shrb_item 32768 (mm7 s)) (le_m7 s)
theorem shrb_msg : ShrB mmsg := fun s => by unfold mmsg; have h1 := shrb_list shrb_txn 4096 (mm8 s); have h2 := le_m8 s; with_reducible exact Nat.le_trans h1 h2
def pvec (v : Ints) : Bytes := pnums [(v.length : Int)] ++ pnums v
def pzone (z : List Txt) : Bytes := pnums [(z.length : Int)] ++ ptexts z
def pitem (x : PItem) : Bytes := ptexts [x.key, x.field] ++ pnums [x.kind] ++ ptexts [x.elem] ++ iform x.n ++ pnums [x.dot.node, x.dot.seq, x.dot.pos]
def flagN (b : Bool) : Int := if b then 1 else 0
def pmsg (m : PMsg) : Bytes := pnums [m.kind, m.ticket, flagN m.whole] ++ pvec m.vec ++ pvec m.from_ ++ pzone m.zone ++ pzone m.want ++ pnums [(m.items.length : Int)] ++ m.items.flatMap pitem ++ pnums [(m.txns.length : Int)] ++ m.txns.flatMap txnC.put
theorem pitem_put (x : PItem) : pitem x = itemC.put x := by
 unfold pitem;rw [pdot_put]
 show _ = (form x.key.length ++ tbs x.key) ++ ((form x.field.length ++ tbs x.field) ++ (form x.kind.toNat ++ ((form x.elem.length ++ tbs x.elem) ++ (iform x.n ++ dotC.put x.dot))))
 simp [pnums, ptexts, List.append_assoc]
theorem pvec_put (v : Ints) : pvec v = vecC.put v := by
 show _ = form v.length ++ putAll numI v
 have h2 : pnums v = putAll numI v := rfl;unfold pvec;rw [h2];simp [pnums]
theorem pzone_put (z : List Txt) : pzone z = zoneC.put z := by
 show _ = form z.length ++ putAll textC z
 have h2 : ptexts z = putAll textC z := rfl;unfold pzone;rw [h2];simp [pnums]
theorem pmsg_put (m : PMsg) : pmsg m = msgC.put m := by
 have h : m.items.flatMap pitem = putAll itemC m.items := by
  unfold putAll
  congr 1
  funext e
  exact pitem_put e
 have hw : pnums [flagN m.whole] = wholeC.put m.whole := by
  cases m.whole
  ·show form 0 ++ [] = form 0
   rw [List.append_nil]
  ·show form 1 ++ [] = form 1
   rw [List.append_nil]
 unfold pmsg;rw [h, pvec_put, pvec_put, pzone_put, pzone_put]
 show _ = numI.put m.kind ++ (numI.put m.ticket ++ (wholeC.put m.whole ++ (vecC.put m.vec ++ (vecC.put m.from_ ++ (zoneC.put m.zone ++ (zoneC.put m.want ++ ((form m.items.length ++ putAll itemC m.items) ++ (form m.txns.length ++ putAll txnC m.txns))))))))
 rw [← hw];simp [pnums, putAll, numI_put, List.append_assoc]
end Go.Proofs.YtfapkepfngddlaaGreat.Plain
namespace Go.Proofs.YtfapkepfngddlaaGreat
open Go.RowKit Plain
set_option linter.unusedVariables false
def mrb (a : Option Addr) (n c : Nat) (e : Bool) : Obj := .cells #[.slice a n c, .bool e] 77 (0, 0)
theorem mrb_cell {w : World} {g : Nat} {a : Option Addr} {n c : Nat} {e : Bool} (h : w.heap[g]? = some (mrb a n c e)) :
  w.cell? ⟨g, 0, none⟩ = some (.slice a n c) ∧ w.cell? ⟨g, 1, none⟩ = some (.bool e) ∧ w.frozen? ⟨g, 0, none⟩ = false ∧ w.frozen? ⟨g, 1, none⟩ = false := by
 unfold mrb at h;refine ⟨?_, ?_, ?_, ?_⟩
 ·simp [World.cell?, h]
 ·simp [World.cell?, h]
 ·unfold World.frozen?; rw [h]; simp
 ·unfold World.frozen?; rw [h]; simp
def MrBox (w : World) (g : Nat) (s : Rb) : Prop := ∃ a c, w.heap[g]? = some (mrb a s.1.length c s.2) ∧ By.Seq w (.slice a s.1.length c) s.1 ∧ (0 < s.1.length → LowA g a)
theorem MrBox.lt {w : World} {g : Nat} {s : Rb} (h : MrBox w g s) : g < w.heap.size := by
 obtain ⟨a, c, h, -⟩ := h;exact (Array.getElem?_eq_some_iff.1 h).1
theorem MrBox.keep {w w' : World} {g : Nat} {s : Rb} (h : MrBox w g s) (hb : Below g w w') (he : w'.heap[g]? = w.heap[g]?) : MrBox w' g s := by
 obtain ⟨a, c, h, hs, hl⟩ := h;exact ⟨a, c, he.trans h, bySeq_low hs hl hb, hl⟩
theorem MrBox.below {w w' : World} {g : Nat} {s : Rb} (h : MrBox w g s) (hb : Below w.heap.size w w') : MrBox w' g s := h.keep (hb.mono (Nat.le_of_lt h.lt)) (hb.block g h.lt)
theorem MrBox.grown {w w' : World} {g : Nat} {s : Rb} {row : Option Nat} (h : MrBox w g s) (hg : w.grownBy w' row) (hr : ∀ k, row = some k → g < k) : MrBox w' g s :=
 h.keep ((Below.refl g w).grown hg (Nat.le_of_lt h.lt) fun k hk => Nat.le_of_lt (hr k hk)) (hg.block g h.lt fun e => by have := hr g e.symm; omega)
theorem MrBox.store {w : World} {g R i : Nat} {s : Rb} {v : Value} (h : MrBox w g s) (hR : g < R) : MrBox (w.setCell ⟨R, i, none⟩ v) g s :=
 h.keep ((Below.refl g w).setCell (Nat.le_of_lt hR) v) (Below.heap_setCell _ _ _ _ (Nat.ne_of_lt hR))
theorem MrBox.parts {w : World} {g : Nat} {s : Rb} (h : MrBox w g s) : ∃ a n c, n = s.1.length ∧ n ≤ c ∧ c ≤ 9223372036854775807 ∧ (a = none → c = 0) ∧ w.heap[g]? = some (mrb a n c s.2) ∧ By.Seq w (.slice a n c) s.1 ∧ (0 < s.1.length → LowA g a) := by
 obtain ⟨a, c, h, hs, hl⟩ := h;have hs' := hs;obtain ⟨a', c', hv, h1, h2, h0, -⟩ := hs';simp only [Value.slice.injEq] at hv
 obtain ⟨rfl, -, rfl⟩ := hv;exact ⟨a, _, c, rfl, h1, h2, h0, h, hs, hl⟩
theorem mrb_set0 {w : World} {g : Nat} {a a' : Option Addr} {n c n' c' : Nat} {e : Bool} (h : w.heap[g]? = some (mrb a n c e)) : (w.setCell ⟨g, 0, none⟩ (.slice a' n' c')).heap[g]? = some (mrb a' n' c' e) :=
 heap_setCell_same _ g 0 _ _ _ h
theorem mrb_set1 {w : World} {g : Nat} {a : Option Addr} {n c : Nat} {e e' : Bool} (h : w.heap[g]? = some (mrb a n c e)) : (w.setCell ⟨g, 1, none⟩ (.bool e')).heap[g]? = some (mrb a n c e') :=
 heap_setCell_same _ g 1 _ _ _ h
theorem mrBox_rest {w : World} {g : Nat} {a a' : Option Addr} {n c c' : Nat} {e : Bool} {r : Bytes} (h : w.heap[g]? = some (mrb a n c e)) (hs : By.Seq w (.slice a' r.length c') r) (hl : 0 < r.length → LowA g a') : MrBox (w.setCell ⟨g, 0, none⟩ (.slice a' r.length c')) g (r, e) :=
 ⟨a', c', mrb_set0 h, bySeq_low hs hl (But.set g w 0 _).below, hl⟩
theorem mrBox_err {w : World} {g : Nat} {a : Option Addr} {c : Nat} {e e' : Bool} {r : Bytes} (h : w.heap[g]? = some (mrb a r.length c e)) (hs : By.Seq w (.slice a r.length c) r) (hl : 0 < r.length → LowA g a) : MrBox (w.setCell ⟨g, 1, none⟩ (.bool e')) g (r, e') :=
 ⟨a, c, mrb_set1 h, bySeq_low hs hl (But.set g w 1 _).below, hl⟩
def GivesM {α : Type} (val : World → Value → α → Prop) (w : World) (g : Nat) (p : α × Rb) (e : Ending) (w' : World) : Prop := ∃ v, e = .returned v ∧ val w' v p.1 ∧ MrBox w' g p.2 ∧ But g w w'
end Go.Proofs.YtfapkepfngddlaaGreat
