/- The program's way of reading transactions, as plain mathematics: a state (what is left, the first error) that goes from part to part; it answers what the codec answers. The program's own reader of transactions as it lies in memory; what changes nothing but its block. The program's own reader of transactions: first, take, num, whole, text, count. (Written by gen-read.py.) The program's own reader of transactions: deps, drops, eff, effs, txn. (Written by gen-read2.py.) -/
import Derived.Test.YtfapkepfngddlaaGreatOrWait
import Derived.Test.YtfapkepfngddlaaGreatEqI
import Derived.Test.YtfapkepfngddlaaGreatEMades
import Derived.Test.YtfapkepfngddlaaGreatISets
import Derived.Lib.MinMax
import Derived.Shelf.Abstract
import Derived.Deep.Cut
import Derived.Test.YtfapkepfngddlaaGreatTxIns
set_option maxRecDepth 100000
set_option maxHeartbeats 64000000
namespace Go.Proofs.YtfapkepfngddlaaGreat.Plain
set_option linter.unusedVariables false
abbrev Rd := Bytes × Int
def rdo {α : Type} (c : Codec α) (z : α) (s : Rd) : α × Rd := if s.2 = 0 then (match c.get s.1 with | .ok a r => (a, (r, 0)) | .err e => (z, (s.1, e))) else (z, s)
theorem rdo_ok {α : Type} {c : Codec α} {z : α} {b r : Bytes} {a : α} (h : c.get b = .ok a r) : rdo c z (b, 0) = (a, (r, 0)) := by
 unfold rdo
 rw [if_pos rfl]
 show (match c.get b with | .ok a r => (a, ((r, 0) : Rd)) | .err e => (z, (b, e))) = _
 rw [h]
theorem rdo_err {α : Type} {c : Codec α} {z : α} {b : Bytes} {e : Int} (h : c.get b = .err e) : rdo c z (b, 0) = (z, (b, e)) := by
 unfold rdo
 rw [if_pos rfl]
 show (match c.get b with | .ok a r => (a, ((r, 0) : Rd)) | .err e => (z, (b, e))) = _
 rw [h]
theorem rdo_past {α : Type} {c : Codec α} {z : α} {b : Bytes} {k : Int} (h : k ≠ 0) : rdo c z (b, k) = (z, (b, k)) := by
 unfold rdo
 rw [if_neg h]
structure Sim {α : Type} (get : Bytes → Res α) (f : Rd → α × Rd) : Prop where
 ok : ∀ {b a r}, get b = .ok a r → f (b, 0) = (a, (r, 0))
 err : ∀ {b e}, get b = .err e → (f (b, 0)).2.2 = e
 past : ∀ b k, k ≠ 0 → (f (b, k)).2.2 = k
theorem sim_step {α : Type} (c : Codec α) (z : α) : Sim c.get (rdo c z) :=
 ⟨fun h => rdo_ok h, fun h => by rw [rdo_err h], fun b k h => by rw [rdo_past h]⟩
def rret {α : Type} (a : α) : Rd → α × Rd := fun s => (a, s)
def rbind {α β : Type} (f : Rd → α × Rd) (g : α → Rd → β × Rd) : Rd → β × Rd := fun s => g (f s).1 (f s).2
theorem sim_ret {α : Type} (a : α) : Sim (fun b => .ok a b) (rret a) := ⟨fun h => (by cases h; rfl), fun h => (by cases h), fun b k _ => rfl⟩
theorem sim_bind {α β : Type} {g1 : Bytes → Res α} {f1 : Rd → α × Rd} {g2 : α → Bytes → Res β} {f2 : α → Rd → β × Rd} (h1 : Sim g1 f1) (hb : ∀ {b e}, g1 b = .err e → e ≠ 0) (h2 : ∀ a, Sim (g2 a) (f2 a)) : Sim (fun b => (g1 b).bind (g2 · ·)) (rbind f1 f2) := by
 refine ⟨fun {b x r} h => ?_, fun {b e} h => ?_, fun b k hk => ?_⟩
 ·obtain ⟨a, m, e1, e2⟩ := Res.bind_ok h
  show f2 (f1 (b, 0)).1 (f1 (b, 0)).2 = _
  rw [h1.ok e1];exact (h2 a).ok e2
 ·show (f2 (f1 (b, 0)).1 (f1 (b, 0)).2).2.2 = _
  rcases Res.bind_err h with h | ⟨a, m, e1, e2⟩
  ·have e3 := h1.err h
   have hne := hb h;generalize f1 (b, 0) = p at *;obtain ⟨a, m, k⟩ := p;change k = e at e3;subst e3;exact (h2 a).past m k hne
  ·rw [h1.ok e1]
   exact (h2 a).err e2
 ·show (f2 (f1 (b, k)).1 (f1 (b, k)).2).2.2 = _
  have e3 := h1.past b k hk;generalize f1 (b, k) = p at *;obtain ⟨a, m, k2⟩ := p;change k2 = k at e3;subst e3;exact (h2 a).past m k2 hk
theorem sim_seq {α β : Type} {c : Codec α} {d : Codec β} {f : Rd → α × Rd} {g : Rd → β × Rd} (h1 : Sim c.get f) (h2 : Sim d.get g) : Sim (c.seq d).get (rbind f fun a => rbind g fun x => rret (a, x)) :=
 sim_bind h1 c.bad fun a => sim_bind h2 d.bad fun x => sim_ret (a, x)
theorem sim_emb {α β : Type} {c : Codec α} {F : α → β} {G : β → α} {hh : ∀ a, c.ok a → G (F a) = a} {f : Rd → α × Rd} (h1 : Sim c.get f) : Sim (c.emb F G hh).get (rbind f fun a => rret (F a)) :=
 sim_bind h1 c.bad fun a => sim_ret (F a)
def rN {α : Type} (f : Rd → α × Rd) : Nat → Rd → List α × Rd
 | 0, s => ([], s)
 | k + 1, s => ((f s).1 :: (rN f k (f s).2).1, (rN f k (f s).2).2)
theorem rN_succ {α : Type} (f : Rd → α × Rd) : ∀ (k : Nat) (s : Rd), rN f (k + 1) s = ((rN f k s).1 ++ [(f (rN f k s).2).1], (f (rN f k s).2).2)
 | 0, s => rfl
 | k + 1, s => by
  show ((f s).1 :: (rN f (k + 1) (f s).2).1, (rN f (k + 1) (f s).2).2) = _
  rw [rN_succ f k (f s).2]
  rfl
theorem rN_len {α : Type} (f : Rd → α × Rd) : ∀ (k : Nat) (s : Rd), (rN f k s).1.length = k
 | 0, s => rfl
 | k + 1, s => by show (rN f k (f s).2).1.length + 1 = _; rw [rN_len f k]
theorem sim_N {α : Type} {c : Codec α} {f : Rd → α × Rd} (h : Sim c.get f) : ∀ k, Sim (getN c k) (rN f k)
 | 0 => sim_ret []
 | k + 1 => sim_bind h c.bad fun a => sim_bind (sim_N h k) (getN_bad c k) fun l => sim_ret (a :: l)
def rcount (k : Nat) (s : Rd) : Nat × Rd := if k < (rdo numC 0 s).1 then (0, ((rdo numC 0 s).2.1, 2)) else rdo numC 0 s
theorem rcount_le (k : Nat) (s : Rd) : (rcount k s).1 ≤ k := by
 unfold rcount
 split
 ·exact Nat.zero_le _
 ·omega
theorem getNum_bad {b : Bytes} {e : Int} (h : getNum b = .err e) : e ≠ 0 := numC.bad h
theorem sim_count (k : Nat) : Sim (fun b => (getNum b).bind fun n r => if k < n then .err 2 else .ok n r) (rcount k) := by
 have S := sim_step numC 0;refine ⟨fun {b a r} h => ?_, fun {b e} h => ?_, fun b j hj => ?_⟩
 ·obtain ⟨n, m, h1, h2⟩ := Res.bind_ok h
  split at h2
  ·cases h2
  ·rename_i hn
   cases h2
   unfold rcount;rw [S.ok (show numC.get b = _ from h1), if_neg hn]
 ·rcases Res.bind_err h with h | ⟨n, m, h1, h2⟩
  ·unfold rcount
   rw [rdo_err (show numC.get b = _ from h), if_neg (by show ¬ k < 0; omega)]
  ·split at h2
   ·rename_i hn
    cases h2
    unfold rcount;rw [S.ok (show numC.get b = _ from h1), if_pos hn]
   ·cases h2
 ·unfold rcount
  rw [rdo_past hj, if_neg (by show ¬ k < 0; omega)]
theorem res_bind_bind {α β γ : Type} (r : Res α) (f : α → Bytes → Res β) (g : β → Bytes → Res γ) : (r.bind f).bind g = r.bind fun a m => (f a m).bind g := by cases r <;> rfl
theorem sim_list {α : Type} {c : Codec α} {f : Rd → α × Rd} (h : Sim c.get f) (k : Nat) (hk : k < 72057594037927936) (he : (2 : Int) ≠ 0) : Sim (c.list k 2 hk he).get (rbind (rcount k) fun n => rN f n) := by
 have H := sim_bind (g2 := fun n r => getN c n r) (sim_count k) (fun {b e} h => by
  rcases Res.bind_err h with h | ⟨n, m, -, h⟩
  ·exact getNum_bad h
  ·split at h
   ·cases h; decide
   ·cases h) fun n => sim_N h n
 have e : (c.list k 2 hk he).get = fun b => ((getNum b).bind fun n r => if k < n then Res.err 2 else .ok n r).bind fun n r => getN c n r := by
  funext b
  rw [res_bind_bind]
  show (getNum b).bind _ = (getNum b).bind _
  congr 1
  funext n r
  split <;> rfl
 rw [e];exact H
def rnum (s : Rd) : Int × Rd := (((rdo numC 0 s).1 : Int), (rdo numC 0 s).2)
theorem sim_num : Sim numI.get rnum := sim_emb (sim_step numC 0)
def rdot (s : Rd) : PDot × Rd := (⟨(rnum s).1, (rnum (rnum s).2).1, (rnum (rnum (rnum s).2).2).1⟩, (rnum (rnum (rnum s).2).2).2)
theorem sim_dot : Sim dotC.get rdot := sim_emb (sim_seq sim_num (sim_seq sim_num sim_num))
def rlist {α : Type} (f : Rd → α × Rd) (k : Nat) (s : Rd) : List α × Rd := rN f (rcount k s).1 (rcount k s).2
def rtext : Rd → Txt × Rd := rdo textC []
def rint : Rd → Int × Rd := rdo intC 0
def re1 (s : Rd) : Rd := (rnum s).2
def re2 (s : Rd) : Rd := (rtext (re1 s)).2
def re3 (s : Rd) : Rd := (rtext (re2 s)).2
def re4 (s : Rd) : Rd := (rnum (re3 s)).2
def re5 (s : Rd) : Rd := (rtext (re4 s)).2
def re6 (s : Rd) : Rd := (rint (re5 s)).2
def reff (s : Rd) : PEff × Rd := (⟨(rnum s).1, (rtext (re1 s)).1, (rtext (re2 s)).1, (rnum (re3 s)).1, (rtext (re4 s)).1, (rint (re5 s)).1, (rlist rdot 64 (re6 s)).1⟩, (rlist rdot 64 (re6 s)).2)
theorem sim_eff : Sim effC.get reff := sim_emb (sim_seq sim_num (sim_seq (sim_step textC []) (sim_seq (sim_step textC []) (sim_seq sim_num (sim_seq (sim_step textC []) (sim_seq (sim_step intC 0) (sim_list sim_dot 64 _ _)))))))
def rt1 (s : Rd) : Rd := (rnum s).2
def rt2 (s : Rd) : Rd := (rnum (rt1 s)).2
def rt3 (s : Rd) : Rd := (rlist rnum 8 (rt2 s)).2
def rtxn (s : Rd) : PTxn × Rd := (⟨(rnum s).1, (rnum (rt1 s)).1, (rlist rnum 8 (rt2 s)).1, (rlist reff 8 (rt3 s)).1⟩, (rlist reff 8 (rt3 s)).2)
theorem sim_txn : Sim txnC0.get rtxn := sim_emb (sim_seq sim_num (sim_seq sim_num (sim_seq (sim_list sim_num 8 _ _) (sim_list sim_eff 8 _ _))))
theorem read_err {b : Bytes} {k : Int} (h : (rtxn (b, 0)).2.2 = k) (hk : k ≠ 0) : txnC.get b = .err k := by
 show (txnC0.get b).bind _ = _
 cases e : txnC0.get b with
 | ok a r => rw [sim_txn.ok e] at h; exact absurd h.symm hk
 | err j => rw [sim_txn.err e] at h; subst h; rfl
theorem read_done {b : Bytes} (h : (rtxn (b, 0)).2.2 = 0) : txnC0.ok (rtxn (b, 0)).1 ∧ txnC.get b = if tformedB (rtxn (b, 0)).1 = true then .ok (rtxn (b, 0)).1 (rtxn (b, 0)).2.1 else .err 2 := by
 show _ ∧ (txnC0.get b).bind _ = _
 cases e : txnC0.get b with
 | ok a r => rw [sim_txn.ok e]; exact ⟨(txnC0.bwd e).1, rfl⟩
 | err j => rw [sim_txn.err e] at h; exact absurd h (txnC0.bad e)
theorem rd_take : ∀ (k i a : Nat) (xs : Bytes), i + k = 8 → rd i a (xs.take k) = rd i a xs
 | 0, i, a, xs, h => by
  rw [List.take_zero, rd_nil, if_neg (by omega)]
  cases xs with
  | nil => rw [rd_nil, if_neg (by omega)]
  | cons c r => rw [rd_end _ _ _ _ (by omega)]
 | k + 1, i, a, [], h => by rw [List.take_nil]
 | k + 1, i, a, c :: r, h => by
  rw [List.take_succ_cons]
  by_cases g : 128 ≤ c.toNat
  ·rw [rd_more _ _ _ _ (by omega) g, rd_more _ _ _ _ (by omega) g]
   exact rd_take k (i + 1) _ r (by omega)
  ·by_cases z : c.toNat = 0 ∧ 0 < i
   ·rw [rd_null _ _ _ _ (by omega) z.1 z.2, rd_null _ _ _ _ (by omega) z.1 z.2]
   ·rw [rd_last _ _ _ _ (by omega) (by omega) (by omega), rd_last _ _ _ _ (by omega) (by omega) (by omega)]
theorem read_take (xs : Bytes) (k : Nat) (hk : 8 ≤ k) : read (xs.take k) = read xs := by
 have h1 : rd 0 0 (xs.take 8) = rd 0 0 xs := rd_take 8 0 0 xs rfl;have h2 : rd 0 0 ((xs.take k).take 8) = rd 0 0 (xs.take k) := rd_take 8 0 0 _ rfl;rw [List.take_take, Nat.min_eq_left hk] at h2;exact h2.symm.trans h1
def rdLeft {α : Type} (m : Nat) (b : Bytes) : Res α → Res α
 | .ok a r => .ok a (b.drop (min m b.length - r.length))
 | .err e => .err e
theorem num_local (b : Bytes) (m : Nat) (hm : 8 ≤ m) : numC.get b = rdLeft m b (numC.get (b.take m)) := by
 show getNum b = rdLeft m b (getNum (b.take m))
 have e := read_take b m hm
 rcases read_cases b with ⟨n, s, h⟩ | h | h
 ·rw [getNum_ok h, getNum_ok (e.trans h)]
  obtain ⟨-, -, -, h3, h4⟩ := read_back h
  show _ = Res.ok n (b.drop _)
  congr 2
  rw [List.length_drop, List.length_take];omega
 ·rw [getNum_err h (by decide), getNum_err (e.trans h) (by decide)]; rfl
 ·rw [getNum_err h (by decide), getNum_err (e.trans h) (by decide)]; rfl
theorem int_local (b : Bytes) : intC.get b = rdLeft 8 b (intC.get (b.take 8)) := by
 show getInt64 b = rdLeft 8 b (getInt64 (b.take 8))
 unfold getInt64;rw [List.length_take, List.take_take, Nat.min_self]
 by_cases h : b.length < 8
 ·rw [if_pos h, if_pos (by omega)]; rfl
 ·rw [if_neg h, if_neg (by omega)]
  show _ = Res.ok _ (b.drop _)
  congr 2
  rw [List.length_drop, List.length_take];omega
def tmost (b : Bytes) : Nat := 8 + (match getNum (b.take 8) with | .ok n _ => n | .err _ => 0)
theorem text_local (b : Bytes) : textC.get b = rdLeft (tmost b) b (textC.get (b.take (tmost b))) := by
 show getText b = rdLeft _ b (getText (b.take _))
 have e8 := read_take b 8 (Nat.le_refl _);have hm : 8 ≤ tmost b := by unfold tmost; omega
 have em := read_take b (tmost b) hm;unfold getText
 rcases read_cases b with ⟨n, s, h⟩ | h | h
 ·obtain ⟨-, -, -, h3, h4⟩ := read_back h
  have ht : tmost b = 8 + n := by
   unfold tmost;rw [getNum_ok (e8.trans h)]
  rw [getNum_ok h, getNum_ok (em.trans h), ht]
  show (if 65536 < n then Res.err 4 else if (b.drop s).length < n then .err 3 else .ok (tsb ((b.drop s).take n)) ((b.drop s).drop n)) = rdLeft (8 + n) b (if 65536 < n then Res.err 4 else if ((b.take (8 + n)).drop s).length < n then .err 3 else .ok (tsb (((b.take (8 + n)).drop s).take n)) (((b.take (8 + n)).drop s).drop n))
  by_cases g : 65536 < n
  ·rw [if_pos g, if_pos g]; rfl
  ·rw [if_neg g, if_neg g]
   rw [List.length_drop, List.length_drop, List.length_take]
   by_cases g2 : b.length - s < n
   ·rw [if_pos g2, if_pos (by omega)]; rfl
   ·rw [if_neg g2, if_neg (by omega)]
    have e1 : ((b.take (8 + n)).drop s).take n = (b.drop s).take n := by
     rw [List.drop_take, List.take_take, Nat.min_eq_left (by omega)]
    rw [e1]
    show _ = Res.ok _ (b.drop _)
    congr 1
    rw [List.drop_drop]
    congr 1
    rw [List.length_drop, List.length_drop, List.length_take];omega
 ·rw [getNum_err h (by decide), getNum_err (em.trans h) (by decide)]; rfl
 ·rw [getNum_err h (by decide), getNum_err (em.trans h) (by decide)]; rfl
theorem num_short {b r : Bytes} {n : Nat} (h : numC.get b = .ok n r) : r.length < b.length := by
 change getNum b = _ at h
 rcases read_cases b with ⟨m, s, g⟩ | g | g
 ·rw [getNum_ok g] at h
  cases h
  obtain ⟨-, -, h1, -, h2⟩ := read_back g;rw [List.length_drop];omega
 ·rw [getNum_err g (by decide)] at h; cases h
 ·rw [getNum_err g (by decide)] at h; cases h
theorem int_short {b r : Bytes} {n : Int} (h : intC.get b = .ok n r) : r.length < b.length := by
 change getInt64 b = _ at h;unfold getInt64 at h
 split at h
 ·cases h
 ·cases h
  rw [List.length_drop];omega
theorem text_short {b r : Bytes} {n : Txt} (h : textC.get b = .ok n r) : r.length < b.length := by
 obtain ⟨n, m, h1, h2⟩ := Res.bind_ok h;have h3 := num_short (show numC.get b = _ from h1)
 split at h2
 ·cases h2
 ·split at h2
  ·cases h2
  ·cases h2
   rw [List.length_drop];omega
def Shr {α : Type} (f : Rd → α × Rd) : Prop := ∀ s, (f s).2.1.length ≤ s.1.length
theorem shr_step {α : Type} {c : Codec α} (z : α) (h : ∀ {b r : Bytes} {a : α}, c.get b = .ok a r → r.length < b.length) : Shr (rdo c z) := by
 intro s;unfold rdo
 split
 ·cases e : c.get s.1 with
  | ok a r => exact Nat.le_of_lt (h e)
  | err k => exact Nat.le_refl _
 ·exact Nat.le_refl _
theorem shr_N {α : Type} {f : Rd → α × Rd} (h : Shr f) : ∀ k, Shr (rN f k)
 | 0, s => Nat.le_refl _
 | k + 1, s => Nat.le_trans (shr_N h k (f s).2) (h s)
theorem shr_num0 : Shr (rdo numC 0) := shr_step 0 num_short
theorem shr_num : Shr rnum := fun s => shr_num0 s
theorem shr_count (k : Nat) : Shr (rcount k) := by
 intro s;unfold rcount
 split
 ·exact shr_num0 s
 ·exact shr_num0 s
theorem shr_list {α : Type} {f : Rd → α × Rd} (h : Shr f) (k : Nat) : Shr (rlist f k) := fun s => Nat.le_trans (shr_N h _ _) (shr_count k s)
theorem shr_dot : Shr rdot := fun s => Nat.le_trans (shr_num _) (Nat.le_trans (shr_num _) (shr_num _))
theorem shr_text : Shr rtext := shr_step [] text_short
theorem shr_int : Shr rint := shr_step 0 int_short
theorem le_e1 (s : Rd) : (re1 s).1.length ≤ s.1.length := shr_num s
theorem le_e2 (s : Rd) : (re2 s).1.length ≤ s.1.length := Nat.le_trans (shr_text _) (le_e1 s)
theorem le_e3 (s : Rd) : (re3 s).1.length ≤ s.1.length := Nat.le_trans (shr_text _) (le_e2 s)
theorem le_e4 (s : Rd) : (re4 s).1.length ≤ s.1.length := Nat.le_trans (shr_num _) (le_e3 s)
theorem le_e5 (s : Rd) : (re5 s).1.length ≤ s.1.length := Nat.le_trans (shr_text _) (le_e4 s)
theorem le_e6 (s : Rd) : (re6 s).1.length ≤ s.1.length := Nat.le_trans (shr_int _) (le_e5 s)
theorem shr_eff : Shr reff := fun s => Nat.le_trans (shr_list shr_dot 64 _) (le_e6 s)
theorem le_t1 (s : Rd) : (rt1 s).1.length ≤ s.1.length := shr_num s
theorem le_t2 (s : Rd) : (rt2 s).1.length ≤ s.1.length := Nat.le_trans (shr_num _) (le_t1 s)
theorem le_t3 (s : Rd) : (rt3 s).1.length ≤ s.1.length := Nat.le_trans (shr_list shr_num 8 _) (le_t2 s)
def pnums (l : List Int) : Bytes := l.flatMap fun n => form n.toNat
def ptexts (l : List Txt) : Bytes := l.flatMap fun s => form s.length ++ tbs s
def pdrops (l : List PDot) : Bytes := l.flatMap fun d => pnums [d.node, d.seq, d.pos]
def peff (e : PEff) : Bytes := pnums [e.pos] ++ ptexts [e.key, e.field] ++ pnums [e.kind] ++ ptexts [e.elem] ++ iform e.n ++ pnums [(e.drops.length : Int)] ++ pdrops e.drops
def ptxn (t : PTxn) : Bytes := pnums [t.node, t.seq, (t.deps.length : Int)] ++ pnums t.deps ++ pnums [(t.effs.length : Int)] ++ t.effs.flatMap peff
theorem pdot_put (d : PDot) : pnums [d.node, d.seq, d.pos] = dotC.put d := by
 show form d.node.toNat ++ (form d.seq.toNat ++ (form d.pos.toNat ++ [])) = form d.node.toNat ++ (form d.seq.toNat ++ form d.pos.toNat)
 rw [List.append_nil]
theorem peff_put (e : PEff) : peff e = effC.put e := by
 have h : pdrops e.drops = putAll dotC e.drops := by
  unfold pdrops putAll
  congr 1
  funext d
  exact pdot_put d
 unfold peff;rw [h]
 show _ = form e.pos.toNat ++ ((form e.key.length ++ tbs e.key) ++ ((form e.field.length ++ tbs e.field) ++ (form e.kind.toNat ++ ((form e.elem.length ++ tbs e.elem) ++ (iform e.n ++ (form e.drops.length ++ putAll dotC e.drops))))))
 simp [pnums, ptexts, List.append_assoc]
theorem ptxn_put (t : PTxn) : ptxn t = txnC.put t := by
 have h : t.effs.flatMap peff = putAll effC t.effs := by
  unfold putAll
  congr 1
  funext e
  exact peff_put e
 unfold ptxn;rw [h]
 show _ = form t.node.toNat ++ (form t.seq.toNat ++ ((form t.deps.length ++ putAll numI t.deps) ++ (form t.effs.length ++ putAll effC t.effs)))
 have h2 : pnums t.deps = putAll numI t.deps := rfl;rw [h2];simp [pnums, List.append_assoc]
end Go.Proofs.YtfapkepfngddlaaGreat.Plain
namespace Go.Proofs.YtfapkepfngddlaaGreat
open Go.RowKit Plain
set_option linter.unusedVariables false
structure But (g : Nat) (w w' : World) : Prop where
 below : Below g w w'
 block : ∀ k, k < w.heap.size → k ≠ g → w'.heap[k]? = w.heap[k]?
theorem But.refl (g : Nat) (w : World) : But g w w := ⟨Below.refl _ _, fun _ _ _ => rfl⟩
theorem But.trans {g : Nat} {a b c : World} (h : But g a b) (k : But g b c) : But g a c :=
 ⟨h.below.trans k.below, fun j hj hne => (k.block j (Nat.lt_of_lt_of_le hj h.below.size) hne).trans (h.block j hj hne)⟩
theorem But.of {g : Nat} {w w' : World} (h : Below w.heap.size w w') (hg : g ≤ w.heap.size) : But g w w' := ⟨h.mono hg, fun k hk _ => h.block k hk⟩
theorem But.set (g : Nat) (w : World) (i : Nat) (v : Value) : But g w (w.setCell ⟨g, i, none⟩ v) :=
 ⟨(Below.refl g w).setCell (Nat.le_refl _) v, fun k _ hne => Below.heap_setCell _ _ _ _ hne⟩
theorem But.then {g : Nat} {a b c : World} (h : But g a b) (k : Below b.heap.size b c) (hg : g ≤ b.heap.size) : But g a c := h.trans (But.of k hg)
theorem But.size {g : Nat} {w w' : World} (h : But g w w') : w.heap.size ≤ w'.heap.size := h.below.size
def rdb (a : Option Addr) (n c : Nat) (e : Int) : Obj := .cells #[.slice a n c, .int .i64 e] 181 (0, 0)
theorem rdb_cell {w : World} {g : Nat} {a : Option Addr} {n c : Nat} {e : Int} (h : w.heap[g]? = some (rdb a n c e)) :
  w.cell? ⟨g, 0, none⟩ = some (.slice a n c) ∧ w.cell? ⟨g, 1, none⟩ = some (.int .i64 e) ∧ w.frozen? ⟨g, 0, none⟩ = false ∧ w.frozen? ⟨g, 1, none⟩ = false := by
 unfold rdb at h;refine ⟨?_, ?_, ?_, ?_⟩
 ·simp [World.cell?, h]
 ·simp [World.cell?, h]
 ·unfold World.frozen?; rw [h]; simp
 ·unfold World.frozen?; rw [h]; simp
def LowA (g : Nat) (a : Option Addr) : Prop := ∀ ad, a = some ad → ad.block < g
theorem bySeq_low {w w' : World} {g : Nat} {a : Option Addr} {n c : Nat} {xs : Bytes} (hs : By.Seq w (.slice a n c) xs) (hl : 0 < xs.length → LowA g a) (hb : Below g w w') : By.Seq w' (.slice a n c) xs := by
 obtain ⟨a', cap, hv, h1, h2, h0, h3⟩ := hs;refine ⟨a', cap, hv, h1, h2, h0, fun hp => ?_⟩;obtain ⟨b, off, rfl, hc⟩ := h3 hp;simp only [Value.slice.injEq] at hv
 have hlt : b < g := hl hp ⟨b, off, none⟩ hv.1;exact ⟨b, off, rfl, fun j hj => (hb.cell (p := ⟨b, off + j, none⟩) hlt).trans (hc j hj)⟩
def RdBox (w : World) (g : Nat) (s : Rd) : Prop := ∃ a c, w.heap[g]? = some (rdb a s.1.length c s.2) ∧ By.Seq w (.slice a s.1.length c) s.1 ∧ (0 < s.1.length → LowA g a)
theorem RdBox.lt {w : World} {g : Nat} {s : Rd} (h : RdBox w g s) : g < w.heap.size := by
 obtain ⟨a, c, h, -⟩ := h;exact (Array.getElem?_eq_some_iff.1 h).1
theorem RdBox.keep {w w' : World} {g : Nat} {s : Rd} (h : RdBox w g s) (hb : Below g w w') (he : w'.heap[g]? = w.heap[g]?) : RdBox w' g s := by
 obtain ⟨a, c, h, hs, hl⟩ := h;exact ⟨a, c, he.trans h, bySeq_low hs hl hb, hl⟩
theorem RdBox.below {w w' : World} {g : Nat} {s : Rd} (h : RdBox w g s) (hb : Below w.heap.size w w') : RdBox w' g s := h.keep (hb.mono (Nat.le_of_lt h.lt)) (hb.block g h.lt)
theorem RdBox.grown {w w' : World} {g : Nat} {s : Rd} {row : Option Nat} (h : RdBox w g s) (hg : w.grownBy w' row) (hr : ∀ k, row = some k → g < k) : RdBox w' g s :=
 h.keep ((Below.refl g w).grown hg (Nat.le_of_lt h.lt) fun k hk => Nat.le_of_lt (hr k hk)) (hg.block g h.lt fun e => by have := hr g e.symm; omega)
theorem RdBox.store {w : World} {g R i : Nat} {s : Rd} {v : Value} (h : RdBox w g s) (hR : g < R) : RdBox (w.setCell ⟨R, i, none⟩ v) g s :=
 h.keep ((Below.refl g w).setCell (Nat.le_of_lt hR) v) (Below.heap_setCell _ _ _ _ (Nat.ne_of_lt hR))
theorem RdBox.parts {w : World} {g : Nat} {s : Rd} (h : RdBox w g s) : ∃ a n c, n = s.1.length ∧ n ≤ c ∧ c ≤ 9223372036854775807 ∧ (a = none → c = 0) ∧ w.heap[g]? = some (rdb a n c s.2) ∧ By.Seq w (.slice a n c) s.1 ∧ (0 < s.1.length → LowA g a) := by
 obtain ⟨a, c, h, hs, hl⟩ := h;have hs' := hs;obtain ⟨a', c', hv, h1, h2, h0, -⟩ := hs';simp only [Value.slice.injEq] at hv
 obtain ⟨rfl, -, rfl⟩ := hv;exact ⟨a, _, c, rfl, h1, h2, h0, h, hs, hl⟩
theorem But.grown {g : Nat} {w u w' : World} {row : Option Nat} (h : But g w u) (hg : u.grownBy w' row) (hw : g < w.heap.size) (hr : ∀ k, row = some k → w.heap.size ≤ k) : But g w w' := by
 have hs := h.below.size;exact ⟨h.below.grown hg (by omega) fun k hk => by have := hr k hk; omega, fun k hk hne => (hg.block k (by omega) fun e => by have := hr k e.symm; omega).trans (h.block k hk hne)⟩
theorem But.alloc {g : Nat} {w u : World} (h : But g w u) (hw : g < w.heap.size) (o : Obj) : But g w (u.alloc o) := by
 have hs := h.below.size;exact ⟨h.below.alloc (by omega) o, fun k hk hne => (Below.heap_alloc _ _ _ (by omega)).trans (h.block k hk hne)⟩
theorem But.store {g R i : Nat} {w u : World} {v : Value} (h : But g w u) (hw : g < w.heap.size) (hR : w.heap.size ≤ R) : But g w (u.setCell ⟨R, i, none⟩ v) :=
 ⟨h.below.setCell (Nat.le_trans (Nat.le_of_lt hw) hR) v, fun k hk hne => (Below.heap_setCell _ _ _ _ (by show k ≠ R; omega)).trans (h.block k hk hne)⟩
theorem rdb_set0 {w : World} {g : Nat} {a a' : Option Addr} {n c n' c' : Nat} {e : Int} (h : w.heap[g]? = some (rdb a n c e)) : (w.setCell ⟨g, 0, none⟩ (.slice a' n' c')).heap[g]? = some (rdb a' n' c' e) :=
 heap_setCell_same _ g 0 _ _ _ h
theorem rdb_set1 {w : World} {g : Nat} {a : Option Addr} {n c : Nat} {e e' : Int} (h : w.heap[g]? = some (rdb a n c e)) : (w.setCell ⟨g, 1, none⟩ (.int .i64 e')).heap[g]? = some (rdb a n c e') :=
 heap_setCell_same _ g 1 _ _ _ h
theorem rdBox_rest {w : World} {g : Nat} {a a' : Option Addr} {n c c' : Nat} {e : Int} {r : Bytes} (h : w.heap[g]? = some (rdb a n c e)) (hs : By.Seq w (.slice a' r.length c') r) (hl : 0 < r.length → LowA g a') : RdBox (w.setCell ⟨g, 0, none⟩ (.slice a' r.length c')) g (r, e) :=
 ⟨a', c', rdb_set0 h, bySeq_low hs hl (But.set g w 0 _).below, hl⟩
theorem rdBox_err {w : World} {g : Nat} {a : Option Addr} {c : Nat} {e e' : Int} {r : Bytes} (h : w.heap[g]? = some (rdb a r.length c e)) (hs : By.Seq w (.slice a r.length c) r) (hl : 0 < r.length → LowA g a) : RdBox (w.setCell ⟨g, 1, none⟩ (.int .i64 e')) g (r, e') :=
 ⟨a, c, rdb_set1 h, bySeq_low hs hl (But.set g w 1 _).below, hl⟩
def GivesR {α : Type} (val : World → Value → α → Prop) (w : World) (g : Nat) (p : α × Rd) (e : Ending) (w' : World) : Prop := ∃ v, e = .returned v ∧ val w' v p.1 ∧ RdBox w' g p.2 ∧ But g w w'
theorem OwnE.but {α : Type} {L : El α} (hf : Flat L) {B g : Nat} {w w' : World} {v : Value} {xs : List α} (h : OwnE L B w v xs) (hb : But g w w') (hg : g < B) : OwnE L B w' v xs := by
 obtain ⟨vals, ho, hr⟩ := h;refine ⟨vals, ⟨ho.1, ?_⟩, ⟨hr.1, fun j x hj => hf (hr.2 j x hj)⟩⟩
 rcases ho.2 with hn | ⟨g', cap, cur, hv, hb', hg', hr'⟩
 ·exact .inl hn
 ·have hlt : g' < w.heap.size := (Array.getElem?_eq_some_iff.1 hg').1
  exact .inr ⟨g', cap, cur, hv, hb', (hb.block g' hlt (by omega)).trans hg', hr'⟩
theorem OwnJ.but {α : Type} {L : El α} {J : Nat → Prop} {B g : Nat} {w w' : World} {v : Value} {xs : List α} (h : OwnJ J L B w v xs) (hb : But g w w') (hg : g < B) (hj : ∀ b, J b → b ≠ g) : OwnJ J L B w' v xs :=
 h.kept hb.size fun b hl hq => hb.block b hl (hq.elim (hj b) fun k => by omega)
theorem one_effN {W : World} {x : PEff} {dv : Value} {C N : Nat} {ov : Value} (hs : Sq LDot (fun b => C ≤ b ∧ b < W.heap.size) W dv x.drops) (hg : ∀ k, ov.ownBlock = some k → k < C) (hz : C ≤ W.heap.size) (hN : N ≤ C) :
  Sq LEff (fun b => N ≤ b ∧ b < (W.alloc (.cells #[.int .i64 x.pos, .string (bt x.key), .string (bt x.field), .int .i64 x.kind, .string (bt x.elem), .int .i64 x.n, dv] 54)).heap.size ∧ ov.ownBlock ≠ some b) (W.alloc (.cells #[.int .i64 x.pos, .string (bt x.key), .string (bt x.field), .int .i64 x.kind, .string (bt x.elem), .int .i64 x.n, dv] 54)) (.slice (some ⟨W.heap.size, 0, none⟩) 1 1) [x] := by
 have hS : (W.alloc (.cells #[.int .i64 x.pos, .string (bt x.key), .string (bt x.field), .int .i64 x.kind, .string (bt x.elem), .int .i64 x.n, dv] 54)).heap.size = W.heap.size + 1 := by simp
 rw [hS];have hB : Below W.heap.size W (W.alloc (.cells #[.int .i64 x.pos, .string (bt x.key), .string (bt x.field), .int .i64 x.kind, .string (bt x.elem), .int .i64 x.n, dv] 54)) := (Below.refl _ _).alloc (Nat.le_refl _) _;have hin : Sq LDot (fun b => N ≤ b ∧ b < W.heap.size + 1 ∧ ov.ownBlock ≠ some b) (W.alloc (.cells #[.int .i64 x.pos, .string (bt x.key), .string (bt x.field), .int .i64 x.kind, .string (bt x.elem), .int .i64 x.n, dv] 54)) dv x.drops :=
  (Sq.agree hs fun b hb => hB.block b hb.2).mono fun b hb => ⟨by omega, by omega, fun e => by have := hg b e; omega⟩
 refine ⟨_, 1, cellsEf x dv, rfl, Nat.le_refl _, by unfold maxLen; simp, (by simp), Rows.of_one ⟨_, rfl, hin⟩, fun _ => ⟨_, 0, rfl, ⟨by omega, by omega, fun e => by have := hg _ e; omega⟩, fun i u' hu => ?_⟩⟩;rw [Nat.zero_add];have := World.cell?_alloc_new W #[.int .i64 x.pos, .string (bt x.key), .string (bt x.field), .int .i64 x.kind, .string (bt x.elem), .int .i64 x.n, dv] 54 i;rw [this, ← Array.getElem?_toList];exact hu
theorem one_int (W : World) (x : Int) : SeqE LInt (W.alloc (.cells #[.int .i64 x] 3)) (.slice (some ⟨W.heap.size, 0, none⟩) 1 1) [x] := SeqE.one (L := LInt) (w := W) (vs := [.int .i64 x]) (x := x) rfl #[.int .i64 x] rfl
theorem one_dotR (W : World) (d : PDot) : SeqE LDot (W.alloc (.cells #[.int .i64 d.node, .int .i64 d.seq, .int .i64 d.pos] 45)) (.slice (some ⟨W.heap.size, 0, none⟩) 1 1) [d] := SeqE.one (L := LDot) (w := W) (vs := cellsDt d) (x := d) rfl #[.int .i64 d.node, .int .i64 d.seq, .int .i64 d.pos] rfl
theorem rfirst_any {w : World} {g : Nat} {s : Rd} (hx : RdBox w g s) (m : Nat) (hm : m ≤ 100000000000000000) : Calls Tryz.prog 209 #[.pointer (some ⟨g, 0, none⟩), .int .i64 m] w fun e w' => ∃ a k c, k = min m s.1.length ∧ e = .returned (.slice a k c) ∧ By.Seq w' (.slice a k c) (s.1.take m) ∧ Below w.heap.size w w' := by
 obtain ⟨a, n, c, hn, h1, h2, h0, hh, hs, -⟩ := hx.parts;obtain ⟨c0, -, -, -⟩ := rdb_cell hh;obtain ⟨k, hk⟩ : ∃ k, k = min m s.1.length := ⟨_, rfl⟩;have hf := hs.first k (by omega);have e : s.1.take k = s.1.take m := by rw [hk, ← List.take_eq_take_min]
 rw [e] at hf;have HF := zH hf;have M1 : min (m : Int) (n : Int) = (k : Int) := by omega
 have m1 : (k : Int) ≤ n := by omega
 have m2 : (k : Int) ≤ c := by omega
 have m3 : (0 : Int) ≤ k := by omega
 have m4 : (n : Int) ≤ c := by omega
 have HK := zH hk;have HN := zH hn;clear hx hs hh hf e hn hk h0;go_enter Tryz.func209, Tryz.ntmps209
 go_wp2_with fail
 go_quiet (fail)
 go_wp2_with fail
 go_ret
 exact ⟨_, _, _, HK.out, rfl, HF.out.below (below_drewN (Below.refl _ _) _), below_drewN (Below.refl _ _) _⟩
def vN (_ : World) (v : Value) (n : Nat) : Prop := v = .int .i64 n
def vI (_ : World) (v : Value) (n : Int) : Prop := v = .int .i64 n
def vT (_ : World) (v : Value) (t : Txt) : Prop := v = .string (bt t)
theorem rtake_num {w : World} {g : Nat} {s : Rd} (hx : RdBox w g s) (hl : s.1.length ≤ 100000) : Calls Tryz.prog 205 #[.pointer (some ⟨g, 0, none⟩), .int .i64 8, .func (.func 140) #[] #[]] w (GivesR vN w g (rdo numC 0 s)) := by
 obtain ⟨r, k⟩ := s;obtain ⟨a0, n0, cc, hn0, h1, h2, h0, hh, hs, -⟩ := hx.parts;obtain ⟨c0, c1, f0, f1⟩ := rdb_cell hh;have HX := zH hx
 by_cases hk : k = 0
 ·subst hk
  have KF := rfirst_any hx 8 (by decide);have HL : numC.get r = rdLeft 8 r (numC.get (r.take 8)) := num_local r 8 (Nat.le_refl _);have eg : ∀ args w, (callFunc 140 args).run Tryz.prog w = .ok (.enter 140 args) w := enters_of Tryz.func140 (by kernel_rfl) rfl;have HG := zH hx.lt;have e0 : ((0 : Int) != 0) = false := by decide
  have hlr : (r.take 8).length ≤ 1000000 := by
   have := List.length_take_le 8 r;have h3 : r.length ≤ 100000 := hl;have h4 := List.length_take_le' 8 r;omega
  cases hres : numC.get (r.take 8) with
  | err j =>
   have hj : j ≠ 0 := numC.bad hres;rw [hres] at HL;have HE := zH (rdo_err (z := 0) HL);have e1 : (j != 0) = true := bne_iff_ne.2 hj;clear hx hs hh HL;go_enter Tryz.func205, Tryz.ntmps205
   go_wp2_with fail
   refine KF.mono ?_;rintro e w1 ⟨a1, k1, c1x, -, rfl, hs1, hb⟩;have KR := By.num_get hs1 hlr;rw [hres] at KR;have HB := zH hb;have HX1 := zH (HX.out.below hb);clear hs1 hb KF hres c0 c1 f0 f1;go_upto_region 6 with (go_at_fn 140; refine KR.mono ?_; rintro e w2 ⟨rfl, rfl⟩)
   obtain ⟨a2, n2, c2, hn2, -, -, -, hh2, hs2, hl2⟩ := HX1.out.parts;have HL2 := zH hl2;obtain ⟨d0, d1, f0, f1⟩ := rdb_cell hh2;have hh2' := zH hh2;have hs2' := zH hs2;have HN := zH hn2;clear hh2 hs2 hn2 KR;go_wp2_with fail
   go_ret
   rw [HE.out];have hn3 : n2 = r.length := HN.out;subst hn3;exact ⟨_, rfl, rfl, rdBox_err hh2'.out hs2'.out HL2.out, (But.of HB.out (Nat.le_of_lt HG.out)).trans (But.set _ _ _ _)⟩
  | ok x q =>
   rw [hres] at HL;have hq : q.length < (r.take 8).length := num_short hres;rw [List.length_take] at hq;have HE := zH (rdo_ok (z := 0) (show numC.get r = .ok x (r.drop (min 8 r.length - q.length)) from HL));obtain ⟨p, hp⟩ : ∃ p, p = min 8 r.length - q.length := ⟨_, rfl⟩;rw [← hp] at HE;have hp0 : 0 < p := by omega
   have hpr : p ≤ r.length := by omega
   have HQ := zH hq;have HP := zH hp;clear hx hs hh HL hq hp;go_enter Tryz.func205, Tryz.ntmps205
   go_wp2_with fail
   refine KF.mono ?_;rintro e w1 ⟨a1, k1, c1x, hk1, rfl, hs1, hb⟩;have KR := By.num_get hs1 hlr;rw [hres] at KR;have HB := zH hb;have HX1 := zH (HX.out.below hb);have HK1 := zH hk1;clear hs1 hb KF hres c0 c1 f0 f1 hk1;go_upto_region 6 with (go_at_fn 140; refine KR.mono ?_; rintro e w2 ⟨v2, rfl, ho2, hb2⟩)
   have HB2 := zH (HB.out.trans (hb2.mono HB.out.size));have HX2 := zH (HX1.out.below hb2);obtain ⟨a3, c3, rfl, -, -, -, -⟩ := ho2.parts;clear ho2 hb2 KR;obtain ⟨a2, n2, c2, hn2, g1, g2, g0, hh2, hs2, hl2⟩ := HX2.out.parts;have HL2 := zH hl2;obtain ⟨d0, d1, f0, f1⟩ := rdb_cell hh2;have hn3 : n2 = r.length := hn2;subst hn3;have hs3 := hs2;obtain ⟨b2, o2, c2', hv, -, -, -, -⟩ := hs3.spot (by omega);simp only [Value.slice.injEq] at hv
   obtain ⟨rfl, -, rfl⟩ := hv;have hd := hs2.from p hpr;have hh2' := zH hh2;have HD := zH hd;have HG2 := zH (But.of HB2.out (Nat.le_of_lt HG.out));have e2 : (k1 : Int) - (q.length : Int) = (p : Int) := by have := HK1.out; have := HP.out; have := HQ.out; have h5 : k1 = min 8 r.length := HK1.out; omega
   have e3 : IntKind.i64.wrap ((k1 : Int) - (q.length : Int)) = (p : Int) := by rw [e2]; simp [IntKind.wrap, IntKind.bits, IntKind.signed]; omega
   have HLD : Hid ((r.drop p).length = r.length - p) := zH List.length_drop;clear hh2 hs2 hs3 hd hn2 g0 e2;generalize q.length = ql at *;have p1 : (p : Int) ≤ (r.length : Int) := by omega
   have p2 : (r.length : Int) ≤ (c2 : Int) := by omega
   have p3 : (p : Int) ≤ (c2 : Int) := by omega
   have p4 : (0 : Int) ≤ (p : Int) := by omega
   by_cases hcp : c2 = p
   ·rw [if_pos hcp] at HD
    subst hcp;have hpl : r.length = c2 := by omega
    rw [hpl, Nat.sub_self] at HD;rw [hpl, Nat.sub_self] at HLD;have HPL := zH hpl;generalize r.length = n at *;subst hpl;go_wp2_with fail
    go_ret
    rw [HE.out];refine ⟨_, rfl, rfl, ?_, HG2.out.trans (But.set _ _ _ _)⟩;have HR := rdBox_rest (r := r.drop n) (c' := 0) hh2'.out (by rw [HLD.out]; exact HD.out) (fun _ ad he => by cases he; exact HL2.out (by first | omega | (show 0 < r.length; omega)) ⟨b2, o2, none⟩ rfl);rw [HLD.out] at HR;exact HR
   ·rw [if_neg hcp] at HD
    go_wp2_with fail
    go_ret
    rw [HE.out];refine ⟨_, rfl, rfl, ?_, HG2.out.trans (But.set _ _ _ _)⟩;have HR := rdBox_rest (r := r.drop p) (c' := c2 - p) hh2'.out (by rw [HLD.out]; exact HD.out) (fun _ ad he => by cases he; exact HL2.out (by first | omega | (show 0 < r.length; omega)) ⟨b2, o2, none⟩ rfl);rw [HLD.out] at HR;exact HR
 ·have e1 : (k != 0) = true := bne_iff_ne.2 hk
  have HE := zH (rdo_past (c := numC) (z := 0) (b := r) hk);clear hx hs hh;go_enter Tryz.func205, Tryz.ntmps205
  go_wp2_with fail
  go_ret
  rw [HE.out];exact ⟨_, rfl, rfl, HX.out, But.refl _ _⟩
theorem rtake_int {w : World} {g : Nat} {s : Rd} (hx : RdBox w g s) (hl : s.1.length ≤ 100000) : Calls Tryz.prog 214 #[.pointer (some ⟨g, 0, none⟩), .int .i64 8, .func (.func 174) #[] #[]] w (GivesR vI w g (rdo intC 0 s)) := by
 obtain ⟨r, k⟩ := s;obtain ⟨a0, n0, cc, hn0, h1, h2, h0, hh, hs, -⟩ := hx.parts;obtain ⟨c0, c1, f0, f1⟩ := rdb_cell hh;have HX := zH hx
 by_cases hk : k = 0
 ·subst hk
  have KF := rfirst_any hx 8 (by decide);have HL : intC.get r = rdLeft 8 r (intC.get (r.take 8)) := int_local r;have eg : ∀ args w, (callFunc 174 args).run Tryz.prog w = .ok (.enter 174 args) w := enters_of Tryz.func174 (by kernel_rfl) rfl;have HG := zH hx.lt;have e0 : ((0 : Int) != 0) = false := by decide
  have hlr : (r.take 8).length ≤ 1000000 := by
   have := List.length_take_le 8 r;have h3 : r.length ≤ 100000 := hl;have h4 := List.length_take_le' 8 r;omega
  cases hres : intC.get (r.take 8) with
  | err j =>
   have hj : j ≠ 0 := intC.bad hres;rw [hres] at HL;have HE := zH (rdo_err (z := 0) HL);have e1 : (j != 0) = true := bne_iff_ne.2 hj;clear hx hs hh HL;go_enter Tryz.func214, Tryz.ntmps214
   go_wp2_with fail
   refine KF.mono ?_;rintro e w1 ⟨a1, k1, c1x, -, rfl, hs1, hb⟩;have KR := By.int_get hs1 hlr;rw [hres] at KR;have HB := zH hb;have HX1 := zH (HX.out.below hb);clear hs1 hb KF hres c0 c1 f0 f1;go_upto_region 6 with (go_at_fn 174; refine KR.mono ?_; rintro e w2 ⟨rfl, rfl⟩)
   obtain ⟨a2, n2, c2, hn2, -, -, -, hh2, hs2, hl2⟩ := HX1.out.parts;have HL2 := zH hl2;obtain ⟨d0, d1, f0, f1⟩ := rdb_cell hh2;have hh2' := zH hh2;have hs2' := zH hs2;have HN := zH hn2;clear hh2 hs2 hn2 KR;go_wp2_with fail
   go_ret
   rw [HE.out];have hn3 : n2 = r.length := HN.out;subst hn3;exact ⟨_, rfl, rfl, rdBox_err hh2'.out hs2'.out HL2.out, (But.of HB.out (Nat.le_of_lt HG.out)).trans (But.set _ _ _ _)⟩
  | ok x q =>
   rw [hres] at HL;have hq : q.length < (r.take 8).length := int_short hres;rw [List.length_take] at hq;have HE := zH (rdo_ok (z := 0) (show intC.get r = .ok x (r.drop (min 8 r.length - q.length)) from HL));obtain ⟨p, hp⟩ : ∃ p, p = min 8 r.length - q.length := ⟨_, rfl⟩;rw [← hp] at HE;have hp0 : 0 < p := by omega
   have hpr : p ≤ r.length := by omega
   have HQ := zH hq;have HP := zH hp;clear hx hs hh HL hq hp;go_enter Tryz.func214, Tryz.ntmps214
   go_wp2_with fail
   refine KF.mono ?_;rintro e w1 ⟨a1, k1, c1x, hk1, rfl, hs1, hb⟩;have KR := By.int_get hs1 hlr;rw [hres] at KR;have HB := zH hb;have HX1 := zH (HX.out.below hb);have HK1 := zH hk1;clear hs1 hb KF hres c0 c1 f0 f1 hk1;go_upto_region 6 with (go_at_fn 174; refine KR.mono ?_; rintro e w2 ⟨v2, rfl, ho2, hb2⟩)
   have HB2 := zH (HB.out.trans (hb2.mono HB.out.size));have HX2 := zH (HX1.out.below hb2);obtain ⟨a3, c3, rfl, -, -, -, -⟩ := ho2.parts;clear ho2 hb2 KR;obtain ⟨a2, n2, c2, hn2, g1, g2, g0, hh2, hs2, hl2⟩ := HX2.out.parts;have HL2 := zH hl2;obtain ⟨d0, d1, f0, f1⟩ := rdb_cell hh2;have hn3 : n2 = r.length := hn2;subst hn3;have hs3 := hs2;obtain ⟨b2, o2, c2', hv, -, -, -, -⟩ := hs3.spot (by omega);simp only [Value.slice.injEq] at hv
   obtain ⟨rfl, -, rfl⟩ := hv;have hd := hs2.from p hpr;have hh2' := zH hh2;have HD := zH hd;have HG2 := zH (But.of HB2.out (Nat.le_of_lt HG.out));have e2 : (k1 : Int) - (q.length : Int) = (p : Int) := by have := HK1.out; have := HP.out; have := HQ.out; have h5 : k1 = min 8 r.length := HK1.out; omega
   have e3 : IntKind.i64.wrap ((k1 : Int) - (q.length : Int)) = (p : Int) := by rw [e2]; simp [IntKind.wrap, IntKind.bits, IntKind.signed]; omega
   have HLD : Hid ((r.drop p).length = r.length - p) := zH List.length_drop;clear hh2 hs2 hs3 hd hn2 g0 e2;generalize q.length = ql at *;have p1 : (p : Int) ≤ (r.length : Int) := by omega
   have p2 : (r.length : Int) ≤ (c2 : Int) := by omega
   have p3 : (p : Int) ≤ (c2 : Int) := by omega
   have p4 : (0 : Int) ≤ (p : Int) := by omega
   by_cases hcp : c2 = p
   ·rw [if_pos hcp] at HD
    subst hcp;have hpl : r.length = c2 := by omega
    rw [hpl, Nat.sub_self] at HD;rw [hpl, Nat.sub_self] at HLD;have HPL := zH hpl;generalize r.length = n at *;subst hpl;go_wp2_with fail
    go_ret
    rw [HE.out];refine ⟨_, rfl, rfl, ?_, HG2.out.trans (But.set _ _ _ _)⟩;have HR := rdBox_rest (r := r.drop n) (c' := 0) hh2'.out (by rw [HLD.out]; exact HD.out) (fun _ ad he => by cases he; exact HL2.out (by first | omega | (show 0 < r.length; omega)) ⟨b2, o2, none⟩ rfl);rw [HLD.out] at HR;exact HR
   ·rw [if_neg hcp] at HD
    go_wp2_with fail
    go_ret
    rw [HE.out];refine ⟨_, rfl, rfl, ?_, HG2.out.trans (But.set _ _ _ _)⟩;have HR := rdBox_rest (r := r.drop p) (c' := c2 - p) hh2'.out (by rw [HLD.out]; exact HD.out) (fun _ ad he => by cases he; exact HL2.out (by first | omega | (show 0 < r.length; omega)) ⟨b2, o2, none⟩ rfl);rw [HLD.out] at HR;exact HR
 ·have e1 : (k != 0) = true := bne_iff_ne.2 hk
  have HE := zH (rdo_past (c := intC) (z := 0) (b := r) hk);clear hx hs hh;go_enter Tryz.func214, Tryz.ntmps214
  go_wp2_with fail
  go_ret
  rw [HE.out];exact ⟨_, rfl, rfl, HX.out, But.refl _ _⟩
theorem rtake_text {w : World} {g : Nat} {s : Rd} (hx : RdBox w g s) (hl : s.1.length ≤ 100000) (M : Nat) (hM : M = tmost s.1) (hm : M ≤ 100000000000000000) : Calls Tryz.prog 213 #[.pointer (some ⟨g, 0, none⟩), .int .i64 M, .func (.func 172) #[] #[]] w (GivesR vT w g (rdo textC [] s)) := by
 obtain ⟨r, k⟩ := s;obtain ⟨a0, n0, cc, hn0, h1, h2, h0, hh, hs, -⟩ := hx.parts;obtain ⟨c0, c1, f0, f1⟩ := rdb_cell hh;have HX := zH hx
 by_cases hk : k = 0
 ·subst hk
  have KF := rfirst_any hx M hm;have HL : textC.get r = rdLeft M r (textC.get (r.take M)) := hM ▸ text_local r;have eg : ∀ args w, (callFunc 172 args).run Tryz.prog w = .ok (.enter 172 args) w := enters_of Tryz.func172 (by kernel_rfl) rfl;have HG := zH hx.lt;have e0 : ((0 : Int) != 0) = false := by decide
  have hlr : (r.take M).length ≤ 1000000 := by
   have := List.length_take_le M r;have h3 : r.length ≤ 100000 := hl;have h4 := List.length_take_le' M r;omega
  cases hres : textC.get (r.take M) with
  | err j =>
   have hj : j ≠ 0 := textC.bad hres;rw [hres] at HL;have HE := zH (rdo_err (z := []) HL);have e1 : (j != 0) = true := bne_iff_ne.2 hj;clear hx hs hh HL hM hm;go_enter Tryz.func213, Tryz.ntmps213
   go_wp2_with fail
   refine KF.mono ?_;rintro e w1 ⟨a1, k1, c1x, -, rfl, hs1, hb⟩;have KR := By.text_get hs1 hlr;rw [hres] at KR;have HB := zH hb;have HX1 := zH (HX.out.below hb);clear hs1 hb KF hres c0 c1 f0 f1;go_upto_region 6 with (go_at_fn 172; refine KR.mono ?_; rintro e w2 ⟨rfl, rfl⟩)
   obtain ⟨a2, n2, c2, hn2, -, -, -, hh2, hs2, hl2⟩ := HX1.out.parts;have HL2 := zH hl2;obtain ⟨d0, d1, f0, f1⟩ := rdb_cell hh2;have hh2' := zH hh2;have hs2' := zH hs2;have HN := zH hn2;clear hh2 hs2 hn2 KR;go_wp2_with fail
   go_ret
   rw [HE.out];have hn3 : n2 = r.length := HN.out;subst hn3;exact ⟨_, rfl, rfl, rdBox_err hh2'.out hs2'.out HL2.out, (But.of HB.out (Nat.le_of_lt HG.out)).trans (But.set _ _ _ _)⟩
  | ok x q =>
   rw [hres] at HL;have hq : q.length < (r.take M).length := text_short hres;rw [List.length_take] at hq;have HE := zH (rdo_ok (z := []) (show textC.get r = .ok x (r.drop (min M r.length - q.length)) from HL));obtain ⟨p, hp⟩ : ∃ p, p = min M r.length - q.length := ⟨_, rfl⟩;rw [← hp] at HE;have hp0 : 0 < p := by omega
   have hpr : p ≤ r.length := by omega
   have HQ := zH hq;have HP := zH hp;clear hx hs hh HL hq hp hM hm;go_enter Tryz.func213, Tryz.ntmps213
   go_wp2_with fail
   refine KF.mono ?_;rintro e w1 ⟨a1, k1, c1x, hk1, rfl, hs1, hb⟩;have KR := By.text_get hs1 hlr;rw [hres] at KR;have HB := zH hb;have HX1 := zH (HX.out.below hb);have HK1 := zH hk1;clear hs1 hb KF hres c0 c1 f0 f1 hk1;go_upto_region 6 with (go_at_fn 172; refine KR.mono ?_; rintro e w2 ⟨v2, rfl, ho2, hb2⟩)
   have HB2 := zH (HB.out.trans (hb2.mono HB.out.size));have HX2 := zH (HX1.out.below hb2);obtain ⟨a3, c3, rfl, -, -, -, -⟩ := ho2.parts;clear ho2 hb2 KR;obtain ⟨a2, n2, c2, hn2, g1, g2, g0, hh2, hs2, hl2⟩ := HX2.out.parts;have HL2 := zH hl2;obtain ⟨d0, d1, f0, f1⟩ := rdb_cell hh2;have hn3 : n2 = r.length := hn2;subst hn3;have hs3 := hs2;obtain ⟨b2, o2, c2', hv, -, -, -, -⟩ := hs3.spot (by omega);simp only [Value.slice.injEq] at hv
   obtain ⟨rfl, -, rfl⟩ := hv;have hd := hs2.from p hpr;have hh2' := zH hh2;have HD := zH hd;have HG2 := zH (But.of HB2.out (Nat.le_of_lt HG.out));have e2 : (k1 : Int) - (q.length : Int) = (p : Int) := by have := HK1.out; have := HP.out; have := HQ.out; have h5 : k1 = min M r.length := HK1.out; omega
   have e3 : IntKind.i64.wrap ((k1 : Int) - (q.length : Int)) = (p : Int) := by rw [e2]; simp [IntKind.wrap, IntKind.bits, IntKind.signed]; omega
   have HLD : Hid ((r.drop p).length = r.length - p) := zH List.length_drop;clear hh2 hs2 hs3 hd hn2 g0 e2;generalize q.length = ql at *;have p1 : (p : Int) ≤ (r.length : Int) := by omega
   have p2 : (r.length : Int) ≤ (c2 : Int) := by omega
   have p3 : (p : Int) ≤ (c2 : Int) := by omega
   have p4 : (0 : Int) ≤ (p : Int) := by omega
   by_cases hcp : c2 = p
   ·rw [if_pos hcp] at HD
    subst hcp;have hpl : r.length = c2 := by omega
    rw [hpl, Nat.sub_self] at HD;rw [hpl, Nat.sub_self] at HLD;have HPL := zH hpl;generalize r.length = n at *;subst hpl;go_wp2_with fail
    go_ret
    rw [HE.out];refine ⟨_, rfl, rfl, ?_, HG2.out.trans (But.set _ _ _ _)⟩;have HR := rdBox_rest (r := r.drop n) (c' := 0) hh2'.out (by rw [HLD.out]; exact HD.out) (fun _ ad he => by cases he; exact HL2.out (by first | omega | (show 0 < r.length; omega)) ⟨b2, o2, none⟩ rfl);rw [HLD.out] at HR;exact HR
   ·rw [if_neg hcp] at HD
    go_wp2_with fail
    go_ret
    rw [HE.out];refine ⟨_, rfl, rfl, ?_, HG2.out.trans (But.set _ _ _ _)⟩;have HR := rdBox_rest (r := r.drop p) (c' := c2 - p) hh2'.out (by rw [HLD.out]; exact HD.out) (fun _ ad he => by cases he; exact HL2.out (by first | omega | (show 0 < r.length; omega)) ⟨b2, o2, none⟩ rfl);rw [HLD.out] at HR;exact HR
 ·have e1 : (k != 0) = true := bne_iff_ne.2 hk
  have HE := zH (rdo_past (c := textC) (z := []) (b := r) hk);clear hx hs hh hM hm;go_enter Tryz.func213, Tryz.ntmps213
  go_wp2_with fail
  go_ret
  rw [HE.out];exact ⟨_, rfl, rfl, HX.out, But.refl _ _⟩
theorem rnum_any {w : World} {g : Nat} {s : Rd} (hx : RdBox w g s) (hl : s.1.length ≤ 100000) : Calls Tryz.prog 194 #[.pointer (some ⟨g, 0, none⟩)] w (GivesR vI w g (rnum s)) := by
 have K := zH (rtake_num hx hl);have HR : Hid (rnum s = (((rdo numC 0 s).1 : Int), (rdo numC 0 s).2)) := zH rfl;clear hx hl;generalize rnum s = p at *;generalize rdo numC 0 s = q at *;go_enter Tryz.func194, Tryz.ntmps194
 go_wp2_with fail
 refine K.out.mono ?_;rintro e w1 ⟨v, rfl, hv, hx, hb⟩;obtain rfl : v = .int .i64 q.1 := hv;have HX := zH hx;have HB := zH hb;clear hx hb K;go_wp2_with fail
 go_ret
 rw [HR.out];exact ⟨_, rfl, rfl, HX.out, HB.out⟩
theorem rint_any {w : World} {g : Nat} {s : Rd} (hx : RdBox w g s) (hl : s.1.length ≤ 100000) : Calls Tryz.prog 211 #[.pointer (some ⟨g, 0, none⟩)] w (GivesR vI w g (rint s)) := by
 have K := zH (rtake_int hx hl);have HR : Hid (rint s = rdo intC 0 s) := zH rfl;clear hx hl;generalize rint s = p at *;generalize rdo intC 0 s = q at *;go_enter Tryz.func211, Tryz.ntmps211
 go_wp2_with fail
 refine K.out.mono ?_;rintro e w1 ⟨v, rfl, hv, hx, hb⟩;obtain rfl : v = .int .i64 q.1 := hv;have HX := zH hx;have HB := zH hb;clear hx hb K;go_wp2_with fail
 go_ret
 rw [HR.out];exact ⟨_, rfl, rfl, HX.out, HB.out⟩
theorem tmost_le (b : Bytes) : tmost b ≤ 100000000000000000 := by
 unfold tmost
 cases e : getNum (b.take 8) with
 | ok n r =>
  have := (numC.bwd (show numC.get _ = _ from e)).1;change n < 72057594037927936 at this
  show 8 + n ≤ _
  omega
 | err j => show 8 + 0 ≤ _; omega
theorem rtext_any {w : World} {g : Nat} {s : Rd} (hx : RdBox w g s) (hl : s.1.length ≤ 100000) : Calls Tryz.prog 210 #[.pointer (some ⟨g, 0, none⟩)] w (GivesR vT w g (rtext s)) := by
 have HG := zH hx.lt;have KF := rfirst_any hx 8 (by decide);have HT : Hid (tmost s.1 = 8 + (match getNum (s.1.take 8) with | .ok n _ => n | .err _ => 0)) := zH rfl;have HM := zH (tmost_le s.1);have HR : Hid (rtext s = rdo textC [] s) := zH rfl;have HX := zH hx;have hlr : (s.1.take 8).length ≤ 1000000 := by rw [List.length_take]; omega
 have KT : Hid (∀ W, RdBox W g s → ∀ M : Nat, M = tmost s.1 → M ≤ 100000000000000000 → Calls Tryz.prog 213 #[.pointer (some ⟨g, 0, none⟩), .int .i64 M, .func (.func 172) #[] #[]] W (GivesR vT W g (rdo textC [] s))) := zH (fun W h M h1 h2 => rtake_text h hl M h1 h2);clear hx hl;generalize rtext s = p at *;generalize rdo textC [] s = q at *;go_enter Tryz.func210, Tryz.ntmps210
 go_wp2_with fail
 refine KF.mono ?_;rintro e w1 ⟨a1, k1, c1x, -, rfl, hs1, hb⟩;have KN := By.num_get hs1 hlr;change Calls _ _ _ _ (By.GetT (fun n : Nat => .int .i64 n) (.int .i64 0) w1 (getNum (s.1.take 8))) at KN;have HB := zH hb;have HX1 := zH (HX.out.below hb);clear hs1 hb KF HX
 cases hres : getNum (s.1.take 8) with
 | err j =>
  rw [hres] at KN HT;obtain ⟨M, hM⟩ : ∃ M, M = 8 := ⟨_, rfl⟩;have KK := KT.out w1 HX1.out 8 (by rw [HT.out]; rfl) (by decide);clear HX1 HT hM hres;go_wp2_with fail
  refine KN.mono ?_;rintro e w2 ⟨rfl, rfl⟩;go_wp2_with fail
  refine KK.mono ?_;rintro e w2 ⟨v, rfl, hv, hx, hb⟩;obtain rfl : v = .string (bt q.1) := hv;have HX2 := zH hx;have HB2 := zH ((But.of HB.out (Nat.le_of_lt HG.out)).trans hb);clear hx hb KK;go_wp2_with fail
  go_ret
  rw [HR.out];exact ⟨_, rfl, rfl, HX2.out, HB2.out⟩
 | ok n r =>
  rw [hres] at KN HT;obtain ⟨M, hM⟩ : ∃ M, M = 8 + n := ⟨_, rfl⟩;have hM2 : M ≤ 100000000000000000 := by have := HM.out; rw [HT.out] at this; change 8 + n ≤ _ at this; omega
  have HKK : Hid (∀ W, RdBox W g s → Calls Tryz.prog 213 #[.pointer (some ⟨g, 0, none⟩), .int .i64 M, .func (.func 172) #[] #[]] W (GivesR vT W g q)) := zH (fun W h => KT.out W h M (by rw [HT.out]; exact hM) hM2);have e2 : (8 : Int) + (n : Int) = (M : Int) := by omega
  have e3 : IntKind.i64.wrap ((8 : Int) + (n : Int)) = (M : Int) := by rw [e2]; simp [IntKind.wrap, IntKind.bits, IntKind.signed]; omega
  clear HT hM hres hM2 e2;go_wp2_with fail
  refine KN.mono ?_;rintro e w2 ⟨v2, rfl, ho2, hb2⟩;have HX2 := zH (HX1.out.below hb2);have HB2 := zH (HB.out.trans (hb2.mono HB.out.size));have KK := HKK.out w2 HX2.out;clear ho2 hb2 KN;go_wp2_with fail
  refine KK.mono ?_;rintro e w3 ⟨v, rfl, hv, hx, hb⟩;obtain rfl : v = .string (bt q.1) := hv;have HX3 := zH hx;have HB3 := zH ((But.of HB2.out (Nat.le_of_lt HG.out)).trans hb);clear hx hb KK;go_wp2_with fail
  go_ret
  rw [HR.out];exact ⟨_, rfl, rfl, HX3.out, HB3.out⟩
theorem rcount_any {w : World} {g : Nat} {s : Rd} (hx : RdBox w g s) (hl : s.1.length ≤ 100000) (k : Nat) : Calls Tryz.prog 206 #[.pointer (some ⟨g, 0, none⟩), .int .i64 k] w (GivesR vN w g (rcount k s)) := by
 have K := zH (rnum_any hx hl);have H1 : Hid (k < (rdo numC 0 s).1 → rcount k s = (0, ((rdo numC 0 s).2.1, 2))) := zH (fun h => by unfold rcount; rw [if_pos h]);have H2 : Hid (¬ k < (rdo numC 0 s).1 → rcount k s = rdo numC 0 s) := zH (fun h => by unfold rcount; rw [if_neg h]);change Hid (Calls _ _ _ _ (GivesR vI w g (((rdo numC 0 s).1 : Int), (rdo numC 0 s).2))) at K;clear hx hl;generalize rcount k s = p at *;generalize rdo numC 0 s = q at *;obtain ⟨n, b, j⟩ := q;go_enter Tryz.func206, Tryz.ntmps206
 go_wp2_with fail
 refine K.out.mono ?_;rintro e w1 ⟨v, rfl, hv, hx, hb⟩;obtain rfl : v = .int .i64 n := hv;have HX := zH hx;have HB := zH hb;clear hb K
 by_cases hk : k < n
 ·obtain rfl := H1.out hk
  obtain ⟨a2, n2, c2, hn2, -, -, -, hh2, hs2, hl2⟩ := hx.parts;have HL2 := zH hl2;obtain ⟨d0, d1, f0, f1⟩ := rdb_cell hh2;have hk' : (k : Int) < (n : Int) := by omega
  have hh2' := zH hh2;have hs2' := zH hs2;have HN := zH hn2;clear hx hh2 hs2 hn2 H1 H2;go_wp2_with fail
  go_ret
  have hn3 : n2 = b.length := HN.out;subst hn3;exact ⟨_, rfl, rfl, rdBox_err hh2'.out hs2'.out HL2.out, HB.out.trans (But.set _ _ _ _)⟩
 ·obtain rfl := H2.out hk
  have hk' : ¬ (k : Int) < (n : Int) := by omega
  clear hx H1 H2;go_wp2_with fail
  go_ret
  exact ⟨_, rfl, rfl, HX.out, HB.out⟩
def vO {α : Type} (L : El α) (B : Nat) (W : World) (v : Value) (l : List α) : Prop := OwnE L B W v l
def vJ {α : Type} (L : El α) (B : Nat) (W : World) (v : Value) (l : List α) : Prop := OwnJ (fun b => B ≤ b) L B W v l
theorem rdeps_any {w : World} {g : Nat} {s : Rd} (hx : RdBox w g s) (hl : s.1.length ≤ 100000) : Calls Tryz.prog 195 #[.pointer (some ⟨g, 0, none⟩)] w (GivesR (vO LInt w.heap.size) w g (rlist rnum 8 s)) := by
 have HG := zH hx.lt;have K0 := zH (rcount_any hx hl 8);have HC := zH (rcount_le 8 s);have HT0 := zH (Nat.le_trans (shr_count 8 s) hl);have HR : Hid (rlist rnum 8 s = rN rnum (rcount 8 s).1 (rcount 8 s).2) := zH rfl;clear hx hl;generalize rlist rnum 8 s = res at *;generalize rcount 8 s = q0 at *;obtain ⟨n, s0⟩ := q0;obtain ⟨F, hF⟩ : ∃ F : Nat → List Int × Rd, F = fun k => rN rnum k s0 := ⟨_, rfl⟩
 have P0 : Hid (F 0 = ([], s0)) := zH (by rw [hF]; rfl);have PS : Hid (∀ k, F (k + 1) = ((F k).1 ++ [(rnum (F k).2).1], (rnum (F k).2).2)) := zH (fun k => by rw [hF]; exact rN_succ rnum k s0);have PL : Hid (∀ k, (F k).1.length = k) := zH (fun k => by rw [hF]; exact rN_len rnum k s0);have PT : Hid (∀ k, (F k).2.1.length ≤ 100000) := zH (fun k => by rw [hF]; exact Nat.le_trans (shr_N shr_num k s0) HT0.out);have HF : Hid (res = F n) := zH (by rw [hF]; exact HR.out);clear hF HR;go_enter Tryz.func195, Tryz.ntmps195
 go_wp2_with fail
 refine K0.out.mono ?_;rintro e w1 ⟨v, rfl, hv, hx1, hb1⟩;obtain rfl : v = .int .i64 n := hv;have HX1 := zH hx1;have HB1 := zH hb1;clear hx1 hb1 K0;go_wp2_with fail
 go_loopw [3, 6] (fun z i wr => ∃ k : Nat, k ≤ n ∧ i = .int .i64 k ∧ OwnE LInt w.heap.size wr z (F k).1 ∧ RdBox wr g (F k).2 ∧ But g w wr) (fun _ i _ => n - (intOf i).toNat)
 case atStart => exact ⟨0, Nat.zero_le _, rfl, by rw [P0.out]; exact OwnE.nil _ _, by rw [P0.out]; exact HX1.out, HB1.out⟩
 case round =>
  obtain ⟨k, hk, rfl, ho, hx, hb⟩ := hrel;have HO := zH ho;have HX := zH hx;have HB := zH hb;clear ho hx hb
  by_cases hlt : k < n
  ·have PK := zH (PS.out k)
   have LK := zH (PL.out k);have TK := zH (PT.out k);have hn64 : n ≤ 64 := Nat.le_trans HC.out (by decide);have KN := zH (rnum_any HX.out TK.out);generalize rnum (F k).2 = q at *;go_wp2_with fail
   refine KN.out.mono ?_;rintro e w2 ⟨v, rfl, hv, hx2, hb2⟩;obtain rfl : v = .int .i64 q.1 := hv;have O2 := zH (HO.out.but flat_int hb2 HG.out);have G2 := zH (HB.out.trans hb2);have X2 := zH hx2;have S1 := zH (one_int w2 q.1);clear hx2 hb2 KN;go_wp2_with (at_builtin; refine wpList_append_el LInt rfl (.tmp 8) (.tmp 11) rfl w.heap.size rfl (O2.out.alloc _) rfl S1.out (fun _ _ h => h) (by rw [LK.out]; simp; omega) (by have := G2.out.size; simp; omega) ?_)
   intro v' w5 ho' hgr _;have O5 := zH ho';have G5 := zH ((G2.out.alloc HG.out _).grown hgr HG.out (fun j hj => (O2.out.lt j hj).1));have X5 := zH ((X2.out.below ((Below.refl _ _).alloc (Nat.le_refl _) _)).grown hgr (fun j hj => Nat.lt_of_lt_of_le HG.out (O2.out.lt j hj).1));clear ho' hgr;go_wp2_with fail
   go_roundw
   case rel => exact ⟨k + 1, by omega, by go_num, by rw [PK.out]; exact O5.out, by rw [PK.out]; exact X5.out, G5.out⟩
   case measure => simp [intOf] <;> omega
  ·obtain rfl : k = n := by omega
   go_wp2_with fail
   go_ret
   rw [HF.out];exact ⟨_, rfl, HO.out, HX.out, HB.out⟩
theorem rdrops_any {w : World} {g : Nat} {s : Rd} (hx : RdBox w g s) (hl : s.1.length ≤ 100000) : Calls Tryz.prog 212 #[.pointer (some ⟨g, 0, none⟩)] w (GivesR (vO LDot w.heap.size) w g (rlist rdot 64 s)) := by
 have HG := zH hx.lt;have K0 := zH (rcount_any hx hl 64);have HC := zH (rcount_le 64 s);have HT0 := zH (Nat.le_trans (shr_count 64 s) hl);have HR : Hid (rlist rdot 64 s = rN rdot (rcount 64 s).1 (rcount 64 s).2) := zH rfl;clear hx hl;generalize rlist rdot 64 s = res at *;generalize rcount 64 s = q0 at *;obtain ⟨n, s0⟩ := q0;obtain ⟨F, hF⟩ : ∃ F : Nat → List PDot × Rd, F = fun k => rN rdot k s0 := ⟨_, rfl⟩
 have P0 : Hid (F 0 = ([], s0)) := zH (by rw [hF]; rfl);have PS : Hid (∀ k, F (k + 1) = ((F k).1 ++ [(rdot (F k).2).1], (rdot (F k).2).2)) := zH (fun k => by rw [hF]; exact rN_succ rdot k s0);have PL : Hid (∀ k, (F k).1.length = k) := zH (fun k => by rw [hF]; exact rN_len rdot k s0);have PT : Hid (∀ k, (F k).2.1.length ≤ 100000) := zH (fun k => by rw [hF]; exact Nat.le_trans (shr_N shr_dot k s0) HT0.out);have HF : Hid (res = F n) := zH (by rw [hF]; exact HR.out);clear hF HR;go_enter Tryz.func212, Tryz.ntmps212
 go_wp2_with fail
 refine K0.out.mono ?_;rintro e w1 ⟨v, rfl, hv, hx1, hb1⟩;obtain rfl : v = .int .i64 n := hv;have HX1 := zH hx1;have HB1 := zH hb1;clear hx1 hb1 K0;go_wp2_with fail
 go_loopw [3, 6] (fun z i wr => ∃ k : Nat, k ≤ n ∧ i = .int .i64 k ∧ OwnE LDot w.heap.size wr z (F k).1 ∧ RdBox wr g (F k).2 ∧ But g w wr) (fun _ i _ => n - (intOf i).toNat)
 case atStart => exact ⟨0, Nat.zero_le _, rfl, by rw [P0.out]; exact OwnE.nil _ _, by rw [P0.out]; exact HX1.out, HB1.out⟩
 case round =>
  obtain ⟨k, hk, rfl, ho, hx, hb⟩ := hrel;have HO := zH ho;have HX := zH hx;have HB := zH hb;clear ho hx hb
  by_cases hlt : k < n
  ·have PK := zH (PS.out k)
   have LK := zH (PL.out k);have TK := zH (PT.out k);have hn64 : n ≤ 64 := Nat.le_trans HC.out (by decide);have PK2 : Hid (F (k + 1) = ((F k).1 ++ [⟨(rnum (F k).2).1, (rnum (rnum (F k).2).2).1, (rnum (rnum (rnum (F k).2).2).2).1⟩], (rnum (rnum (rnum (F k).2).2).2).2)) := zH PK.out;replace PK := PK2;clear PK2;have KN := zH (rnum_any HX.out TK.out);have TK1 := zH (Nat.le_trans (shr_num (F k).2) TK.out);have TK2 := zH (Nat.le_trans (shr_num (rnum (F k).2).2) TK1.out);generalize rnum (F k).2 = q1 at *;go_wp2_with fail
   refine KN.out.mono ?_;rintro e wa ⟨v, rfl, hv, hx2, hb2⟩;obtain rfl : v = .int .i64 q1.1 := hv;have Oa := zH (HO.out.but flat_dot hb2 HG.out);have Ga := zH (HB.out.trans hb2);have Ka := zH (rnum_any hx2 TK1.out);clear hx2 hb2 KN;generalize rnum q1.2 = q2 at *;go_wp2_with fail
   refine Ka.out.mono ?_;rintro e wb ⟨v, rfl, hv, hx2, hb2⟩;obtain rfl : v = .int .i64 q2.1 := hv;have Ob := zH (Oa.out.but flat_dot hb2 HG.out);have Gb := zH (Ga.out.trans hb2);have Kb := zH (rnum_any hx2 TK2.out);clear hx2 hb2 Ka;generalize rnum q2.2 = q3 at *;go_wp2_with fail
   refine Kb.out.mono ?_;rintro e w2 ⟨v, rfl, hv, hx2, hb2⟩;obtain rfl : v = .int .i64 q3.1 := hv;have O2 := zH (Ob.out.but flat_dot hb2 HG.out);have G2 := zH (Gb.out.trans hb2);have X2 := zH hx2;have S1 := zH (one_dotR w2 ⟨q1.1, q2.1, q3.1⟩);clear hx2 hb2 Kb;go_wp2_with (at_builtin; refine wpList_append_el LDot rfl (.tmp 8) (.tmp 16) rfl w.heap.size rfl (O2.out.alloc _) rfl S1.out (fun _ _ h => h) (by rw [LK.out]; simp; omega) (by have := G2.out.size; simp; omega) ?_)
   intro v' w5 ho' hgr _;have O5 := zH ho';have G5 := zH ((G2.out.alloc HG.out _).grown hgr HG.out (fun j hj => (O2.out.lt j hj).1));have X5 := zH ((X2.out.below ((Below.refl _ _).alloc (Nat.le_refl _) _)).grown hgr (fun j hj => Nat.lt_of_lt_of_le HG.out (O2.out.lt j hj).1));clear ho' hgr;go_wp2_with fail
   go_roundw
   case rel => exact ⟨k + 1, by omega, by go_num, by rw [PK.out]; exact O5.out, by rw [PK.out]; exact X5.out, G5.out⟩
   case measure => simp [intOf] <;> omega
  ·obtain rfl : k = n := by omega
   go_wp2_with fail
   go_ret
   rw [HF.out];exact ⟨_, rfl, HO.out, HX.out, HB.out⟩
def ts7 (w : World) (g : Nat) (v0 v1 v2 v3 v4 v5 v6 : Value) : World := ((((((w.setCell ⟨g, 0, none⟩ v0).setCell ⟨g, 1, none⟩ v1).setCell ⟨g, 2, none⟩ v2).setCell ⟨g, 3, none⟩ v3).setCell ⟨g, 4, none⟩ v4).setCell ⟨g, 5, none⟩ v5).setCell ⟨g, 6, none⟩ v6
theorem tcells7 {u : World} {g : Nat} {v0 v1 v2 v3 v4 v5 v6 : Value} {t : TypeId} (h : u.heap[g]? = some (.cells #[v0, v1, v2, v3, v4, v5, v6] t (0, 0))) :
  (u.cell? ⟨g, 0, none⟩ = some v0 ∧ u.cell? ⟨g, 1, none⟩ = some v1 ∧ u.cell? ⟨g, 2, none⟩ = some v2 ∧ u.cell? ⟨g, 3, none⟩ = some v3 ∧ u.cell? ⟨g, 4, none⟩ = some v4 ∧ u.cell? ⟨g, 5, none⟩ = some v5 ∧ u.cell? ⟨g, 6, none⟩ = some v6) ∧
  u.frozen? ⟨g, 0, none⟩ = false ∧ u.frozen? ⟨g, 1, none⟩ = false ∧ u.frozen? ⟨g, 2, none⟩ = false ∧ u.frozen? ⟨g, 3, none⟩ = false ∧ u.frozen? ⟨g, 4, none⟩ = false ∧ u.frozen? ⟨g, 5, none⟩ = false ∧ u.frozen? ⟨g, 6, none⟩ = false := by
 refine ⟨⟨?_, ?_, ?_, ?_, ?_, ?_, ?_⟩, ?_, ?_, ?_, ?_, ?_, ?_, ?_⟩
 iterate 7 (· simp [World.cell?, h])
 iterate 7 (· unfold World.frozen?; rw [h]; simp)
theorem ts7_block {w : World} {g : Nat} {z0 z1 z2 z3 z4 z5 z6 v0 v1 v2 v3 v4 v5 v6 : Value} {t : TypeId} (h : w.heap[g]? = some (.cells #[z0, z1, z2, z3, z4, z5, z6] t (0, 0))) : (ts7 w g v0 v1 v2 v3 v4 v5 v6).heap[g]? = some (.cells #[v0, v1, v2, v3, v4, v5, v6] t (0, 0)) := by
 unfold ts7;rw [heap_setCell_same _ g 6 _ _ _ (heap_setCell_same _ g 5 _ _ _ (heap_setCell_same _ g 4 _ _ _ (heap_setCell_same _ g 3 _ _ _ (heap_setCell_same _ g 2 _ _ _ (heap_setCell_same _ g 1 _ _ _ (heap_setCell_same _ g 0 _ _ _ h))))))]
 rfl
theorem ts7_but {w u : World} {g R : Nat} {v0 v1 v2 v3 v4 v5 v6 : Value} (h : But g w u) (hw : g < w.heap.size) (hR : w.heap.size ≤ R) : But g w (ts7 u R v0 v1 v2 v3 v4 v5 v6) := ((((((h.store hw hR).store hw hR).store hw hR).store hw hR).store hw hR).store hw hR).store hw hR
theorem ts7_box {w : World} {g R : Nat} {s : Rd} {v0 v1 v2 v3 v4 v5 v6 : Value} (h : RdBox w g s) (hR : g < R) : RdBox (ts7 w R v0 v1 v2 v3 v4 v5 v6) g s := ((((((h.store hR).store hR).store hR).store hR).store hR).store hR).store hR
theorem ts7_bare (w : World) (R : Nat) (v0 v1 v2 v3 v4 v5 v6 : Value) : But R w (ts7 w R v0 v1 v2 v3 v4 v5 v6) := ((((((But.set R w 0 v0).trans (But.set R _ 1 v1)).trans (But.set R _ 2 v2)).trans (But.set R _ 3 v3)).trans (But.set R _ 4 v4)).trans (But.set R _ 5 v5)).trans (But.set R _ 6 v6)
def vE (B : Nat) (W : World) (v : Value) (x : PEff) : Prop := ∃ a n c, v = .agg #[.int .i64 x.pos, .string (bt x.key), .string (bt x.field), .int .i64 x.kind, .string (bt x.elem), .int .i64 x.n, .slice a n c] ∧ OwnE LDot B W (.slice a n c) x.drops
theorem reff_any {w : World} {g : Nat} {s : Rd} (hx : RdBox w g s) (hl : s.1.length ≤ 100000) : Calls Tryz.prog 207 #[.pointer (some ⟨g, 0, none⟩)] w (GivesR (vE w.heap.size) w g (reff s)) := by
 have HG := zH hx.lt;have HNE : Hid (w.heap.size ≠ g) := zH (by have := hx.lt; omega);have HR : Hid (reff s = (⟨(rnum s).1, (rtext (rnum s).2).1, (rtext (rtext (rnum s).2).2).1, (rnum (rtext (rtext (rnum s).2).2).2).1, (rtext (rnum (rtext (rtext (rnum s).2).2).2).2).1, (rint (rtext (rnum (rtext (rtext (rnum s).2).2).2).2).2).1, (rlist rdot 64 (rint (rtext (rnum (rtext (rtext (rnum s).2).2).2).2).2).2).1⟩, (rlist rdot 64 (rint (rtext (rnum (rtext (rtext (rnum s).2).2).2).2).2).2).2)) := zH rfl;have L1 := zH (Nat.le_trans (shr_num s) hl);have L2 := zH (Nat.le_trans (shr_text (rnum s).2) L1.out);have L3 := zH (Nat.le_trans (shr_text (rtext (rnum s).2).2) L2.out);have L4 := zH (Nat.le_trans (shr_num (rtext (rtext (rnum s).2).2).2) L3.out);have L5 := zH (Nat.le_trans (shr_text (rnum (rtext (rtext (rnum s).2).2).2).2) L4.out);have L6 := zH (Nat.le_trans (shr_int (rtext (rnum (rtext (rtext (rnum s).2).2).2).2).2) L5.out);generalize reff s = res at *;have hba := zB w (.cells #[.int .i64 0, .string ⟨#[]⟩, .string ⟨#[]⟩, .int .i64 0, .string ⟨#[]⟩, .int .i64 0, .slice none 0 0] 54);have K0 := zH (rnum_any (hx.below hba) hl);have R0 : Hid ((w.alloc (.cells #[.int .i64 0, .string ⟨#[]⟩, .string ⟨#[]⟩, .int .i64 0, .string ⟨#[]⟩, .int .i64 0, .slice none 0 0] 54)).heap[w.heap.size]? = some (.cells #[.int .i64 0, .string ⟨#[]⟩, .string ⟨#[]⟩, .int .i64 0, .string ⟨#[]⟩, .int .i64 0, .slice none 0 0] 54 (0, 0))) := zH (heap_alloc_new _ _);have Z0 : Hid (w.heap.size < (w.alloc (.cells #[.int .i64 0, .string ⟨#[]⟩, .string ⟨#[]⟩, .int .i64 0, .string ⟨#[]⟩, .int .i64 0, .slice none 0 0] 54)).heap.size) := zH (by simp);have G0 : Hid (But g w (w.alloc (.cells #[.int .i64 0, .string ⟨#[]⟩, .string ⟨#[]⟩, .int .i64 0, .string ⟨#[]⟩, .int .i64 0, .slice none 0 0] 54))) := zH (But.of hba (Nat.le_of_lt hx.lt));clear hx hl hba;go_enter Tryz.func207, Tryz.ntmps207
 go_upto_region 1 with fail
 generalize (w.alloc (.cells #[.int .i64 0, .string ⟨#[]⟩, .string ⟨#[]⟩, .int .i64 0, .string ⟨#[]⟩, .int .i64 0, .slice none 0 0] 54)) = w0 at *;generalize rnum s = q1 at *;go_wp2_with fail
 refine K0.out.mono ?_;rintro e w1 ⟨v, rfl, hv, hx, hb⟩;obtain rfl : v = .int .i64 q1.1 := hv;have R1 := zH ((hb.block _ Z0.out HNE.out).trans R0.out);have Z1 := zH (Nat.lt_of_lt_of_le Z0.out hb.size);have G1 := zH (G0.out.trans hb);have K1 := zH (rtext_any hx L1.out);generalize rtext q1.2 = q2 at *;clear hx hb K0;go_wp2_with fail
 refine K1.out.mono ?_;rintro e w2 ⟨v, rfl, hv, hx, hb⟩;obtain rfl : v = .string (bt q2.1) := hv;have R2 := zH ((hb.block _ Z1.out HNE.out).trans R1.out);have Z2 := zH (Nat.lt_of_lt_of_le Z1.out hb.size);have G2 := zH (G1.out.trans hb);have K2 := zH (rtext_any hx L2.out);generalize rtext q2.2 = q3 at *;clear hx hb K1;go_wp2_with fail
 refine K2.out.mono ?_;rintro e w3 ⟨v, rfl, hv, hx, hb⟩;obtain rfl : v = .string (bt q3.1) := hv;have R3 := zH ((hb.block _ Z2.out HNE.out).trans R2.out);have Z3 := zH (Nat.lt_of_lt_of_le Z2.out hb.size);have G3 := zH (G2.out.trans hb);have K3 := zH (rnum_any hx L3.out);generalize rnum q3.2 = q4 at *;clear hx hb K2;go_wp2_with fail
 refine K3.out.mono ?_;rintro e w4 ⟨v, rfl, hv, hx, hb⟩;obtain rfl : v = .int .i64 q4.1 := hv;have R4 := zH ((hb.block _ Z3.out HNE.out).trans R3.out);have Z4 := zH (Nat.lt_of_lt_of_le Z3.out hb.size);have G4 := zH (G3.out.trans hb);have K4 := zH (rtext_any hx L4.out);generalize rtext q4.2 = q5 at *;clear hx hb K3;go_wp2_with fail
 refine K4.out.mono ?_;rintro e w5 ⟨v, rfl, hv, hx, hb⟩;obtain rfl : v = .string (bt q5.1) := hv;have R5 := zH ((hb.block _ Z4.out HNE.out).trans R4.out);have Z5 := zH (Nat.lt_of_lt_of_le Z4.out hb.size);have G5 := zH (G4.out.trans hb);have K5 := zH (rint_any hx L5.out);generalize rint q5.2 = q6 at *;clear hx hb K4;go_wp2_with fail
 refine K5.out.mono ?_;rintro e w6 ⟨v, rfl, hv, hx, hb⟩;obtain rfl : v = .int .i64 q6.1 := hv;have R6 := zH ((hb.block _ Z5.out HNE.out).trans R5.out);have Z6 := zH (Nat.lt_of_lt_of_le Z5.out hb.size);have G6 := zH (G5.out.trans hb);have K6 := zH (rdrops_any hx L6.out);generalize rlist rdot 64 q6.2 = q7 at *;clear hx hb K5;go_wp2_with fail
 refine K6.out.mono ?_;rintro e w7 ⟨v, rfl, hd, hx, hb⟩;have R7 := zH ((hb.block _ Z6.out HNE.out).trans R6.out);have G7 := zH (G6.out.trans hb);have X7 := zH hx;change OwnE LDot w6.heap.size w7 v q7.1 at hd;obtain ⟨da, dc, rfl, -, -, hd', -⟩ := hd.parts;have D7 := zH hd';clear hx hb hd hd' K6;generalize q7.1.length = dn at *;obtain ⟨⟨y0, y1, y2, y3, y4, y5, y6⟩, f0, f1, f2, f3, f4, f5, f6⟩ := tcells7 R7.out;have FC := zH (tcells7 (ts7_block (v0 := .int .i64 q1.1) (v1 := .string (bt q2.1)) (v2 := .string (bt q3.1)) (v3 := .int .i64 q4.1) (v4 := .string (bt q5.1)) (v5 := .int .i64 q6.1) (v6 := .slice da dn dc) R7.out)).1;have FG := zH (ts7_but (v0 := .int .i64 q1.1) (v1 := .string (bt q2.1)) (v2 := .string (bt q3.1)) (v3 := .int .i64 q4.1) (v4 := .string (bt q5.1)) (v5 := .int .i64 q6.1) (v6 := .slice da dn dc) G7.out HG.out (Nat.le_refl _));have FX := zH (ts7_box (v0 := .int .i64 q1.1) (v1 := .string (bt q2.1)) (v2 := .string (bt q3.1)) (v3 := .int .i64 q4.1) (v4 := .string (bt q5.1)) (v5 := .int .i64 q6.1) (v6 := .slice da dn dc) X7.out HG.out);have FD := zH ((D7.out.but flat_dot (ts7_bare w7 w.heap.size (.int .i64 q1.1) (.string (bt q2.1)) (.string (bt q3.1)) (.int .i64 q4.1) (.string (bt q5.1)) (.int .i64 q6.1) (.slice da dn dc)) Z6.out).mono (Nat.le_of_lt Z6.out));unfold ts7 at FC FG FX FD;go_wp2_with fail
 obtain ⟨g0, g1, g2, g3, g4, g5, g6⟩ := FC.out;refine bodyPost_ret (v := .agg #[.int .i64 q1.1, .string (bt q2.1), .string (bt q3.1), .int .i64 q4.1, .string (bt q5.1), .int .i64 q6.1, .slice da dn dc]) (by simp [results, Tryz.results207, go_sem, g0, g1, g2, g3, g4, g5, g6]) rfl ?_;rw [HR.out];exact ⟨_, rfl, ⟨da, dn, dc, rfl, FD.out⟩, FX.out, FG.out⟩
theorem reffs_any {w : World} {g : Nat} {s : Rd} (hx : RdBox w g s) (hl : s.1.length ≤ 100000) : Calls Tryz.prog 196 #[.pointer (some ⟨g, 0, none⟩)] w (GivesR (vJ LEff w.heap.size) w g (rlist reff 8 s)) := by
 have HG := zH hx.lt;have K0 := zH (rcount_any hx hl 8);have HC := zH (rcount_le 8 s);have HT0 := zH (Nat.le_trans (shr_count 8 s) hl);have HR : Hid (rlist reff 8 s = rN reff (rcount 8 s).1 (rcount 8 s).2) := zH rfl;clear hx hl;generalize rlist reff 8 s = res at *;generalize rcount 8 s = q0 at *;obtain ⟨n, s0⟩ := q0;obtain ⟨F, hF⟩ : ∃ F : Nat → List PEff × Rd, F = fun k => rN reff k s0 := ⟨_, rfl⟩
 have P0 : Hid (F 0 = ([], s0)) := zH (by rw [hF]; rfl);have PS : Hid (∀ k, F (k + 1) = ((F k).1 ++ [(reff (F k).2).1], (reff (F k).2).2)) := zH (fun k => by rw [hF]; exact rN_succ reff k s0);have PL : Hid (∀ k, (F k).1.length = k) := zH (fun k => by rw [hF]; exact rN_len reff k s0);have PT : Hid (∀ k, (F k).2.1.length ≤ 100000) := zH (fun k => by rw [hF]; exact Nat.le_trans (shr_N shr_eff k s0) HT0.out);have HF : Hid (res = F n) := zH (by rw [hF]; exact HR.out);clear hF HR;go_enter Tryz.func196, Tryz.ntmps196
 go_wp2_with fail
 refine K0.out.mono ?_;rintro e w1 ⟨v, rfl, hv, hx1, hb1⟩;obtain rfl : v = .int .i64 n := hv;have HX1 := zH hx1;have HB1 := zH hb1;clear hx1 hb1 K0;go_wp2_with fail
 go_loopw [3, 6] (fun z i wr => ∃ k : Nat, k ≤ n ∧ i = .int .i64 k ∧ OwnJ (fun b => w.heap.size ≤ b) LEff w.heap.size wr z (F k).1 ∧ RdBox wr g (F k).2 ∧ But g w wr) (fun _ i _ => n - (intOf i).toNat)
 case atStart => exact ⟨0, Nat.zero_le _, rfl, by rw [P0.out]; exact OwnJ.nil _ _ _, by rw [P0.out]; exact HX1.out, HB1.out⟩
 case round =>
  obtain ⟨k, hk, rfl, ho, hx, hb⟩ := hrel;have HO := zH ho;have HX := zH hx;have HB := zH hb;clear ho hx hb
  by_cases hlt : k < n
  ·have PK := zH (PS.out k)
   have LK := zH (PL.out k);have TK := zH (PT.out k);have hn64 : n ≤ 64 := Nat.le_trans HC.out (by decide);have KN := zH (reff_any HX.out TK.out);generalize reff (F k).2 = q at *;obtain ⟨x, t⟩ := q;go_wp2_with fail
   refine KN.out.mono ?_;rintro e w2 ⟨v, rfl, ⟨da, dn, dc, rfl, hd⟩, hx2, hb2⟩;have O2 : Hid (OwnJ (fun b => w.heap.size ≤ b) LEff w.heap.size w2 _ (F k).1) := zH (HO.out.but hb2 HG.out fun b hb e => by have := HG.out; omega);have N2 := zH (hd.new flat_dot);have Zr := zH HB.out.size;have Z2 := zH hb2.size;have OL := zH HO.out.lt;have G2 := zH (HB.out.trans hb2);have X2 := zH hx2;clear hx2 hb2 KN hd;go_wp2_with (at_builtin; refine wpList_append_elJ (fun b => w.heap.size ≤ b) LEff rfl (.tmp 8) (.tmp 11) rfl w.heap.size rfl (O2.out.alloc _) rfl (one_effN (x := x) (N := w.heap.size) N2.out (fun k hk => (OL.out k hk).2) Z2.out Zr.out) (fun _ _ h => h) (by rw [LK.out]; simp; omega) (by have := G2.out.size; simp; omega) ?_)
   intro v' w5 ho' hgr _;have O5 := zH ho';have G5 := zH ((G2.out.alloc HG.out _).grown hgr HG.out (fun j hj => (O2.out.lt j hj).1));have X5 := zH ((X2.out.below ((Below.refl _ _).alloc (Nat.le_refl _) _)).grown hgr (fun j hj => Nat.lt_of_lt_of_le HG.out (O2.out.lt j hj).1));clear ho' hgr;go_wp2_with fail
   go_roundw
   case rel => exact ⟨k + 1, by omega, by go_num, by rw [PK.out]; exact O5.out, by rw [PK.out]; exact X5.out, G5.out⟩
   case measure => simp [intOf] <;> omega
  ·obtain rfl : k = n := by omega
   go_wp2_with fail
   go_ret
   rw [HF.out];exact ⟨_, rfl, HO.out, HX.out, HB.out⟩
theorem st4_but {w u : World} {g R : Nat} {v0 v1 v2 v3 : Value} (h : But g w u) (hw : g < w.heap.size) (hR : w.heap.size ≤ R) : But g w (st4 u R v0 v1 v2 v3) := (((h.store hw hR).store hw hR).store hw hR).store hw hR
theorem st4_box {w : World} {g R : Nat} {s : Rd} {v0 v1 v2 v3 : Value} (h : RdBox w g s) (hR : g < R) : RdBox (st4 w R v0 v1 v2 v3) g s := (((h.store hR).store hR).store hR).store hR
theorem st4_bare (w : World) (R : Nat) (v0 v1 v2 v3 : Value) : But R w (st4 w R v0 v1 v2 v3) := (((But.set R w 0 v0).trans (But.set R _ 1 v1)).trans (But.set R _ 2 v2)).trans (But.set R _ 3 v3)
def vX (B : Nat) (W : World) (v : Value) (x : PTxn) : Prop := ∃ da dn dc ea en ec, v = .agg #[.int .i64 x.node, .int .i64 x.seq, .slice da dn dc, .slice ea en ec] ∧ OwnE LInt B W (.slice da dn dc) x.deps ∧ OwnJ (fun b => B ≤ b) LEff B W (.slice ea en ec) x.effs
theorem rtxn_any {w : World} {g : Nat} {s : Rd} (hx : RdBox w g s) (hl : s.1.length ≤ 100000) : Calls Tryz.prog 175 #[.pointer (some ⟨g, 0, none⟩)] w (GivesR (vX w.heap.size) w g (rtxn s)) := by
 have HG := zH hx.lt;have HNE : Hid (w.heap.size ≠ g) := zH (by have := hx.lt; omega);have HR : Hid (rtxn s = (⟨(rnum s).1, (rnum (rnum s).2).1, (rlist rnum 8 (rnum (rnum s).2).2).1, (rlist reff 8 (rlist rnum 8 (rnum (rnum s).2).2).2).1⟩, (rlist reff 8 (rlist rnum 8 (rnum (rnum s).2).2).2).2)) := zH rfl;have L1 := zH (Nat.le_trans (shr_num s) hl);have L2 := zH (Nat.le_trans (shr_num (rnum s).2) L1.out);have L3 := zH (Nat.le_trans (shr_list shr_num 8 (rnum (rnum s).2).2) L2.out);generalize rtxn s = res at *;have hba := zB w (.cells #[.int .i64 0, .int .i64 0, .slice none 0 0, .slice none 0 0] 51);have K0 := zH (rnum_any (hx.below hba) hl);have R0 : Hid ((w.alloc (.cells #[.int .i64 0, .int .i64 0, .slice none 0 0, .slice none 0 0] 51)).heap[w.heap.size]? = some (.cells #[.int .i64 0, .int .i64 0, .slice none 0 0, .slice none 0 0] 51 (0, 0))) := zH (heap_alloc_new _ _);have Z0 : Hid (w.heap.size < (w.alloc (.cells #[.int .i64 0, .int .i64 0, .slice none 0 0, .slice none 0 0] 51)).heap.size) := zH (by simp);have G0 : Hid (But g w (w.alloc (.cells #[.int .i64 0, .int .i64 0, .slice none 0 0, .slice none 0 0] 51))) := zH (But.of hba (Nat.le_of_lt hx.lt));clear hx hl hba;go_enter Tryz.func175, Tryz.ntmps175
 go_upto_region 1 with fail
 generalize (w.alloc (.cells #[.int .i64 0, .int .i64 0, .slice none 0 0, .slice none 0 0] 51)) = w0 at *;generalize rnum s = q1 at *;go_wp2_with fail
 refine K0.out.mono ?_;rintro e w1 ⟨v, rfl, hv, hx, hb⟩;obtain rfl : v = .int .i64 q1.1 := hv;have R1 := zH ((hb.block _ Z0.out HNE.out).trans R0.out);have Z1 := zH (Nat.lt_of_lt_of_le Z0.out hb.size);have G1 := zH (G0.out.trans hb);have K1 := zH (rnum_any hx L1.out);generalize rnum q1.2 = q2 at *;clear hx hb K0;go_wp2_with fail
 refine K1.out.mono ?_;rintro e w2 ⟨v, rfl, hv, hx, hb⟩;obtain rfl : v = .int .i64 q2.1 := hv;have R2 := zH ((hb.block _ Z1.out HNE.out).trans R1.out);have Z2 := zH (Nat.lt_of_lt_of_le Z1.out hb.size);have G2 := zH (G1.out.trans hb);have K2 := zH (rdeps_any hx L2.out);generalize rlist rnum 8 q2.2 = q3 at *;clear hx hb K1;go_wp2_with fail
 refine K2.out.mono ?_;rintro e w3 ⟨v, rfl, hd, hx, hb⟩;have R3 := zH ((hb.block _ Z2.out HNE.out).trans R2.out);have Z3 := zH (Nat.lt_of_lt_of_le Z2.out hb.size);have G3 := zH (G2.out.trans hb);change OwnE LInt w2.heap.size w3 v q3.1 at hd;obtain ⟨da, dc, rfl, -, -, hd', -⟩ := hd.parts;have D3 := zH hd';have K3 := zH (reffs_any hx L3.out);clear hx hb hd hd' K2;have HG2 : Hid (g < w2.heap.size) := zH (Nat.lt_trans HG.out Z2.out);generalize q3.1.length = dn at *;generalize rlist reff 8 q3.2 = q4 at *;go_wp2_with fail
 refine K3.out.mono ?_;rintro e w4 ⟨v, rfl, he, hx, hb⟩;have R4 := zH ((hb.block _ Z3.out HNE.out).trans R3.out);have G4 := zH (G3.out.trans hb);have X4 := zH hx;have D4 := zH (D3.out.but flat_int hb HG2.out);change OwnJ (fun b => w3.heap.size ≤ b) LEff w3.heap.size w4 v q4.1 at he;obtain ⟨ea, ec, rfl, -, -, -, -⟩ := he.own.parts;have E4 := zH he;clear hx hb he K3;generalize q4.1.length = en at *;obtain ⟨⟨y0, y1, y2, y3⟩, f0, f1, f2, f3⟩ := st4_cells R4.out;have FC := zH (st4_cells (st4_block (v0 := .int .i64 q1.1) (v1 := .int .i64 q2.1) (v2 := .slice da dn dc) (v3 := .slice ea en ec) R4.out)).1;have FG := zH (st4_but (v0 := .int .i64 q1.1) (v1 := .int .i64 q2.1) (v2 := .slice da dn dc) (v3 := .slice ea en ec) G4.out HG.out (Nat.le_refl _));have FX := zH (st4_box (v0 := .int .i64 q1.1) (v1 := .int .i64 q2.1) (v2 := .slice da dn dc) (v3 := .slice ea en ec) X4.out HG.out);have FB := zH (st4_bare w4 w.heap.size (.int .i64 q1.1) (.int .i64 q2.1) (.slice da dn dc) (.slice ea en ec));have FD := zH ((D4.out.but flat_int FB.out Z2.out).mono (Nat.le_of_lt Z2.out));have FE : Hid (OwnJ (fun b => w.heap.size ≤ b) LEff w.heap.size _ _ q4.1) := zH (((E4.out.but FB.out Z3.out (fun b hb e => by have := Z3.out; omega)).mono (Nat.le_of_lt Z3.out)).imp fun b hb => Nat.le_trans (Nat.le_of_lt Z3.out) hb);clear FB;unfold st4 at FC FG FX FD FE;go_wp2_with fail
 obtain ⟨g0, g1, g2, g3⟩ := FC.out;refine bodyPost_ret (v := .agg #[.int .i64 q1.1, .int .i64 q2.1, .slice da dn dc, .slice ea en ec]) (by simp [results, Tryz.results175, go_sem, g0, g1, g2, g3]) rfl ?_;rw [HR.out];exact ⟨_, rfl, ⟨da, dn, dc, ea, en, ec, rfl, FD.out, FE.out⟩, FX.out, FG.out⟩
end Go.Proofs.YtfapkepfngddlaaGreat
