/- The store of items as plain mathematics: what it does, what it takes of a list, when it is sound, and the laws of P15.3. Sound stores as plain mathematics: what comes leaves them sound (P15.3), and what stands under a zone hangs on the effects under it alone. The program's own way through transactions that were taken, as plain mathematics: all that was made and all that is taken away at once, at the end. What the laws' own function own asks, as plain mathematics; sizes behind transactions. -/
import Derived.Test.YtpnpomocjkmncaaGreatTxMaths
import Derived.Test.YtpnpomocjkmncaaGreatMaths
namespace Go.Proofs.YtpnpomocjkmncaaGreat.Plain
set_option linter.unusedVariables false

structure PStore where
 heard : Ints
 items : List PItem
theorem pstore_ext {a b : PStore} (h1 : a.heard = b.heard) (h2 : a.items = b.items) : a = b := by
 cases a; cases b; simp_all
instance : DecidableEq PStore := fun a b => decidable_of_iff (a.heard = b.heard ∧ a.items = b.items) ⟨fun ⟨h1, h2⟩ => pstore_ext h1 h2, fun e => by subst e; exact ⟨rfl, rfl⟩⟩
def sStep (i : List PItem) (t : PTxn) : List PItem := edo t.node t.seq i t.effs
def sDo (s : PStore) (t : PTxn) : PStore := ⟨oNext s.heard t, sStep s.items t⟩
def sEnd (s : PStore) (a : List PTxn) : PStore := a.foldl sDo s
def sForm (l : List PTxn) : List PTxn := l.filter tformedB
def sTake (v : Ints) (l : List PTxn) : List PTxn := oTake v (sForm l)
def sAll (s : PStore) (l : List PTxn) : PStore := sEnd s (sTake s.heard l)
theorem oReady_new {v : Ints} {t : PTxn} (h : oReady v t = true) : ¬ t.seq ≤ saysI v t.node := by
 have := (oReady_iff.1 h).2.1
 omega
theorem sEnd_heard : ∀ (a : List PTxn) (s : PStore), (sEnd s a).heard = oEnd s.heard a
 | [], s => rfl
 | t :: a, s => by
  show (sEnd (sDo s t) a).heard = oEnd (oNext s.heard t) a
  rw [sEnd_heard a (sDo s t)]
  rfl
theorem sEnd_items : ∀ (a : List PTxn) (s : PStore), (sEnd s a).items = a.foldl sStep s.items
 | [], s => rfl
 | t :: a, s => sEnd_items a (sDo s t)
theorem sEnd_append (s : PStore) (a b : List PTxn) : sEnd s (a ++ b) = sEnd (sEnd s a) b := by unfold sEnd; rw [List.foldl_append]
theorem sForm_mem {l : List PTxn} {t : PTxn} : t ∈ sForm l ↔ t ∈ l ∧ tformedB t = true := List.mem_filter
theorem sTake_formed {v : Ints} {l : List PTxn} {t : PTxn} (h : t ∈ sTake v l) : tformedB t = true := (sForm_mem.1 (oTake_sub h)).2
theorem sTake_in {v : Ints} {l : List PTxn} {t : PTxn} (h : t ∈ sTake v l) : t ∈ l := (sForm_mem.1 (oTake_sub h)).1
theorem sTake_len (v : Ints) (l : List PTxn) : (sTake v l).length ≤ l.length := Nat.le_trans (oTake_len _ _) (List.length_filter_le _ _)

theorem foldl_move {σ τ : Type} (f : σ → τ → σ) {t : τ} : ∀ (b1 : List τ) (s : σ) (b2 : List τ), (∀ x ∈ b1, ∀ s, f (f s x) t = f (f s t) x) → (b1 ++ t :: b2).foldl f s = (t :: (b1 ++ b2)).foldl f s
 | [], _, _, _ => rfl
 | x :: b1, s, b2, h => by
  show (b1 ++ t :: b2).foldl f (f s x) = (b1 ++ b2).foldl f (f (f s t) x)
  rw [foldl_move f b1 (f s x) b2 fun y hy => h y (by simp [hy])]
  show (b1 ++ b2).foldl f (f (f s x) t) = _
  rw [h x (by simp)]
theorem foldl_order {σ τ : Type} (f : σ → τ → σ) : ∀ {a b : List τ} (s : σ), a.Nodup → b.Nodup → (∀ x, x ∈ a ↔ x ∈ b) →
  (∀ x y, List.Sublist [x, y] a → List.Sublist [y, x] b → ∀ s, f (f s y) x = f (f s x) y) → a.foldl f s = b.foldl f s
 | [], b, s, _, _, hm, _ => by
  cases b with
  | nil => rfl
  | cons t b => exact absurd ((hm t).2 (by simp)) (by simp)
 | t :: a, b, s, ha, hb, hm, hi => by
  obtain ⟨b1, b2, rfl⟩ := List.append_of_mem ((hm t).1 (by simp))
  have ha' := List.nodup_cons.1 ha
  have hb1 := List.nodup_append.1 hb
  have hb2 := List.nodup_cons.1 hb1.2.1
  have ht1 : t ∉ b1 := fun h => hb1.2.2 t h t (by simp) rfl
  have hsub : (b1 ++ b2).Sublist (b1 ++ t :: b2) := List.Sublist.append (List.Sublist.refl _) (List.sublist_cons_self _ _)
  rw [foldl_move f b1 s b2 fun x hx s => hi t x (List.Sublist.cons_cons _ (List.singleton_sublist.2 (by
   rcases List.mem_cons.1 ((hm x).2 (by simp [hx])) with e | e
   ·subst e; exact absurd hx ht1
   ·exact e))) (by
   have h1 : List.Sublist ([x] ++ [t]) (b1 ++ t :: b2) := List.Sublist.append (List.singleton_sublist.2 hx) (List.singleton_sublist.2 (by simp))
   exact h1) s]
  show a.foldl f (f s t) = (b1 ++ b2).foldl f (f s t)
  refine foldl_order f (f s t) ha'.2 (hsub.nodup hb) (fun x => ?_) fun x y h1 h2 => hi x y (List.Sublist.cons _ h1) (h2.trans hsub)
  constructor
  ·intro hx
   have h := (hm x).1 (by simp [hx])
   simp only [List.mem_append, List.mem_cons] at h ⊢
   rcases h with h | h | h
   ·exact .inl h
   ·exact absurd (by rw [← h]; exact hx) ha'.1
   ·exact .inr h
  ·intro hx
   have h := (hm x).2 (hsub.subset hx)
   rcases List.mem_cons.1 h with e | e
   ·subst e
    rcases List.mem_append.1 hx with h | h
    ·exact absurd h ht1
    ·exact absurd h hb2.1
   ·exact e
theorem oChain_names : ∀ {a : List PTxn} {v : Ints} {x y : PTxn}, oChain v a = true → (∀ t ∈ a, tformedB t = true) → ¬ (x.node = y.node ∧ x.seq = y.seq) → List.Sublist [x, y] a → namesB x.effs y.node y.seq = false
 | t :: a, v, x, y, hc, hf, hne, h => by
  have hc' := oChain_cons.1 hc
  cases h with
  | cons _ h' => exact oChain_names hc'.2 (fun u hu => hf u (by simp [hu])) hne h'
  | cons_cons _ h' =>
   have hy := List.singleton_sublist.1 h'
   have hv := oFormed_valid (hf y (by simp [hy]))
   have hn := (oValid_iff.1 hv).1.1
   have h1 := oChain_above hc'.2 hy hn
   have h2 := oNext_up hc'.1 y.node.toNat
   have h3 := (oReady_iff.1 hc'.1).2.2 y.node.toNat
   rw [Bool.eq_false_iff]
   intro hnm
   unfold namesB at hnm
   obtain ⟨e, he, hd⟩ := List.any_eq_true.1 hnm
   obtain ⟨d, hd, hq⟩ := List.any_eq_true.1 hd
   rw [Bool.and_eq_true, decide_eq_true_iff, decide_eq_true_iff] at hq
   have hh := (tformed_parts.1 (hf t (by simp))).2.2.2.2
   unfold heardB at hh
   have := List.all_eq_true.1 (List.all_eq_true.1 hh e he) d hd
   unfold heard1 at this
   simp only [Bool.or_eq_true, Bool.and_eq_true, decide_eq_true_iff] at this
   rcases this with h | h
   ·exact hne ⟨by omega, by omega⟩
   ·rw [hq.1, hq.2, saysI_of hn] at h
    omega
theorem sStep_either {i : List PItem} {x y : PTxn} (h1 : namesB x.effs y.node y.seq = false) (h2 : namesB y.effs x.node x.seq = false) : sStep (sStep i y) x = sStep (sStep i x) y := edo_either h2 h1
theorem sItems_eq {v : Ints} {a b : List PTxn} {i : List PItem} (ha : oChain v a = true) (hb : oChain v b = true) (fa : ∀ t ∈ a, tformedB t = true) (hm : ∀ t, t ∈ a ↔ t ∈ b) (hu : ∀ t ∈ a, ∀ t' ∈ a, t'.node = t.node → t'.seq = t.seq → t' = t) : a.foldl sStep i = b.foldl sStep i := by
 have fb : ∀ t ∈ b, tformedB t = true := fun t ht => fa t ((hm t).2 ht)
 have na := oChain_nodup ha fun t ht => oFormed_valid (fa t ht)
 have nb := oChain_nodup hb fun t ht => oFormed_valid (fb t ht)
 refine foldl_order sStep i na nb hm fun x y h1 h2 s => ?_
 have hx : x ∈ a := h1.subset (by simp)
 have hy : y ∈ a := h1.subset (by simp)
 have hxy : x ≠ y := by
  have := h1.nodup na
  simp at this
  exact this
 have hne : ¬ (x.node = y.node ∧ x.seq = y.seq) := fun e => hxy (hu y hy x hx e.1 e.2)
 exact sStep_either (oChain_names ha fa hne h1) (oChain_names hb fb (fun e => hne ⟨e.1.symm, e.2.symm⟩) h2)
theorem oApart_form {l : List PTxn} (h : oApart l) : oApart (sForm l) := List.Pairwise.sublist (List.filter_sublist) h
theorem sAll_any {s : PStore} {l m : List PTxn} (h : oApart l) (hp : l.Perm m) : (sTake s.heard l).length = (sTake s.heard m).length ∧ sAll s l = sAll s m := by
 have hp' : (sForm l).Perm (sForm m) := hp.filter _
 obtain ⟨h1, h2, h3⟩ := oTake_any (v := s.heard) (oApart_form h) hp'
 refine ⟨h2, pstore_ext ?_ ?_⟩
 ·unfold sAll; rw [sEnd_heard, sEnd_heard]; exact h3
 ·unfold sAll; rw [sEnd_items, sEnd_items]
  exact sItems_eq (oTake_chain _ _) (oTake_chain _ _) (fun t ht => sTake_formed ht) h1 fun t ht t' ht' => oApart_eq (oApart_form h) t (oTake_sub ht) t' (oTake_sub ht')
theorem sTake_again (v : Ints) (l : List PTxn) : sTake (oEnd v (sTake v l)) l = [] := oTake_twice fun t ht => oFormed_valid (sForm_mem.1 ht).2
theorem sAll_again (s : PStore) (l : List PTxn) : sTake (sAll s l).heard l = [] ∧ sAll (sAll s l) l = sAll s l := by
 have h : sTake (sAll s l).heard l = [] := by
  show sTake (sEnd s (sTake s.heard l)).heard l = []
  rw [sEnd_heard]
  exact sTake_again _ _
 refine ⟨h, ?_⟩
 show sEnd (sAll s l) (sTake (sAll s l).heard l) = _
 rw [h]
 rfl
theorem sAll_parts {s : PStore} {l p : List PTxn} (h : oApart l) (hp : ∀ t ∈ p, t ∈ l) : sAll (sAll s p) l = sAll s l := by
 have hu : ∀ t ∈ l, ∀ t' ∈ l, t'.node = t.node → t'.seq = t.seq → t' = t := oApart_eq h
 have ca : oChain s.heard (sTake s.heard p ++ sTake (oEnd s.heard (sTake s.heard p)) l) = true := by
  rw [oChain_append, Bool.and_eq_true]
  exact ⟨oTake_chain _ _, oTake_chain _ _⟩
 have cb : oChain s.heard (sTake s.heard l) = true := oTake_chain _ _
 have ia : ∀ t ∈ sTake s.heard p ++ sTake (oEnd s.heard (sTake s.heard p)) l, t ∈ sForm l := fun t ht => by
  rcases List.mem_append.1 ht with e | e
  ·exact sForm_mem.2 ⟨hp t (sTake_in e), sTake_formed e⟩
  ·exact oTake_sub e
 have ib : ∀ t ∈ sTake s.heard l, t ∈ sForm l := fun t ht => oTake_sub ht
 have da : ∀ t ∈ sForm l, t ∈ sTake s.heard p ++ sTake (oEnd s.heard (sTake s.heard p)) l ∨ ¬ oReady (oEnd s.heard (sTake s.heard p ++ sTake (oEnd s.heard (sTake s.heard p)) l)) t = true := fun t ht => by
  rw [oEnd_append]
  exact (oTake_done (v := oEnd s.heard (sTake s.heard p)) ht).imp (fun e => List.mem_append.2 (.inr e)) id
 have db : ∀ t ∈ sForm l, t ∈ sTake s.heard l ∨ ¬ oReady (oEnd s.heard (sTake s.heard l)) t = true := fun t ht => oTake_done ht
 have hul : ∀ t ∈ sForm l, ∀ t' ∈ sForm l, t'.node = t.node → t'.seq = t.seq → t' = t := fun t ht t' ht' => hu t (sForm_mem.1 ht).1 t' (sForm_mem.1 ht').1
 generalize hA : sTake s.heard p ++ sTake (oEnd s.heard (sTake s.heard p)) l = A at *
 have m1 : ∀ t ∈ A, t ∈ sTake s.heard l := oConf cb rfl ca (fun i => Int.le_refl _) (oEnd_up cb) (fun t ht => db t (ia t ht)) fun t ht t' ht' => hul t (ia t ht) t' (ib t' ht')
 have m2 : ∀ t ∈ sTake s.heard l, t ∈ A := oConf ca rfl cb (fun i => Int.le_refl _) (oEnd_up ca) (fun t ht => da t (ib t ht)) fun t ht t' ht' => hul t (ib t ht) t' (ia t' ht')
 have e : sAll (sAll s p) l = sEnd s A := by
  show sEnd (sEnd s (sTake s.heard p)) (sTake (sEnd s (sTake s.heard p)).heard l) = _
  rw [sEnd_heard, ← sEnd_append, hA]
 rw [e]
 refine pstore_ext ?_ ?_
 ·show (sEnd s A).heard = (sEnd s _).heard
  rw [sEnd_heard, sEnd_heard]
  exact oEnd_eq ca cb m1 m2
 ·show (sEnd s A).items = (sEnd s _).items
  rw [sEnd_items, sEnd_items]
  exact sItems_eq ca cb (fun t ht => (sForm_mem.1 (ia t ht)).2) (fun t => ⟨m1 t, m2 t⟩) fun t ht t' ht' => hul t (ia t ht) t' (ia t' ht')
end Go.Proofs.YtpnpomocjkmncaaGreat.Plain
namespace Go.Proofs.YtpnpomocjkmncaaGreat.Plain
set_option linter.unusedVariables false

def sItemB (v : Ints) (x : PItem) : Bool := formedB x && decide (x.dot.seq ≤ saysI v x.dot.node)
def soundB (s : PStore) : Bool := decide (s.heard.length ≤ 8) && (decide (trim s.heard = s.heard) && (s.heard.all (fun n => decide (n ≤ 1073741824)) && (s.items.all (sItemB s.heard) && decide (inorm s.items = s.items))))
structure SSound (s : PStore) : Prop where
 len : s.heard.length ≤ 8
 cut : trim s.heard = s.heard
 top : ∀ n ∈ s.heard, n ≤ 1073741824
 form : ∀ x ∈ s.items, formedB x = true ∧ x.dot.seq ≤ saysI s.heard x.dot.node
 norm : inorm s.items = s.items
theorem sound_iff {s : PStore} : soundB s = true ↔ SSound s := by
 unfold soundB sItemB
 simp only [Bool.and_eq_true, decide_eq_true_iff, List.all_eq_true]
 exact ⟨fun ⟨h1, h2, h3, h4, h5⟩ => ⟨h1, h2, h3, h4, h5⟩, fun h => ⟨h.len, h.cut, h.top, h.form, h.norm⟩⟩
theorem sSaysI_up {u v : Ints} (h : ∀ i, says u i ≤ says v i) (n : Int) : saysI u n ≤ saysI v n := by
 unfold saysI
 split
 ·exact h _
 ·exact Int.le_refl _
theorem sOwn_made {node seq : Int} : ∀ {l : List PEff} {t : PItem}, t ∈ own node seq l → ∃ e ∈ l, e.kind ≠ 0 ∧ t = madeI node seq e
 | [], t, h => absurd h (by simp [own, eraw])
 | e :: l, t, h => by
  rw [own_cons, List.mem_append] at h
  rcases h with h | h
  ·have := mem_makes.1 (mem_iwithout.1 h).1
   exact ⟨e, List.mem_cons_self, this.1, this.2⟩
  ·obtain ⟨e2, h2, h3⟩ := sOwn_made h
   exact ⟨e2, List.mem_cons_of_mem _ h2, h3⟩
theorem sMem_step {i : List PItem} {t : PTxn} {x : PItem} (h : x ∈ sStep i t) : x ∈ i ∨ ∃ e ∈ t.effs, e.kind ≠ 0 ∧ x = madeI t.node t.seq e := by
 unfold sStep at h
 by_cases h0 : t.effs = []
 ·rw [h0, edo_nil] at h; exact .inl h
 ·rw [edo_at _ _ _ _ h0] at h
  have := (mem_inorm.1 h).1
  rw [eraw_at, List.mem_append] at this
  exact this.imp (fun k => (mem_iwithout.1 k).1) sOwn_made
theorem sStep_len {t : PTxn} (h : tformedB t = true) (i : List PItem) : (sStep i t).length ≤ i.length + 8 := by
 have h1 := edo_len t.node t.seq t.effs i
 have h2 := (tformed_parts.1 h).2.2.1
 show (edo _ _ _ _).length ≤ _
 omega
theorem sStep_norm {t : PTxn} {i : List PItem} (h : inorm i = i) : inorm (sStep i t) = sStep i t := by
 unfold sStep
 by_cases h0 : t.effs = []
 ·rw [h0, edo_nil]; exact h
 ·exact edo_form _ _ _ _ h0
theorem sNext_len {v : Ints} {t : PTxn} (hv : v.length ≤ 8) (h : oValid t = true) : (oNext v t).length ≤ 8 := by
 unfold oNext
 rw [if_pos h]
 have := laid_len (withF v t.node.toNat t.seq) (max v.length (t.node.toNat + 1))
 have := (oValid_iff.1 h).1
 unfold withN
 omega
theorem sNext_top {v : Ints} {t : PTxn} (hv : ∀ n ∈ v, n ≤ 1073741824) (h : oValid t = true) : ∀ n ∈ oNext v t, n ≤ 1073741824 := by
 intro n hn
 obtain ⟨j, hj, rfl⟩ := List.mem_iff_getElem.1 hn
 have e : (oNext v t)[j] = (oNext v t).getD j 0 := by simp [List.getD, List.getElem?_eq_getElem hj]
 have h1 : (oNext v t).getD j 0 ≤ says (oNext v t) j := by unfold says; omega
 rw [e]
 refine Int.le_trans h1 ?_
 rw [oNext_says]
 split
 ·exact (oValid_iff.1 h).2.2
 ·unfold says
  by_cases hl : j < v.length
  ·have := hv v[j] (List.getElem_mem hl)
   have e2 : v.getD j 0 = v[j] := by simp [List.getD, List.getElem?_eq_getElem hl]
   omega
  ·have : v.getD j 0 = 0 := by simp [List.getD, List.getElem?_eq_none (show v.length ≤ j by omega)]
   omega
theorem sSound_step {s : PStore} {t : PTxn} (h : SSound s) (hf : tformedB t = true) (hr : oReady s.heard t = true) : SSound (sDo s t) := by
 have hv := oFormed_valid hf
 refine ⟨sNext_len h.len hv, short_ext (trim_short _) (oNext_short _ _) (fun i => trim_says _ i), sNext_top h.top hv, fun x hx => ?_, sStep_norm h.norm⟩
 rcases sMem_step hx with k | ⟨e, he, hk, rfl⟩
 ·obtain ⟨h1, h2⟩ := h.form x k
  exact ⟨h1, Int.le_trans h2 (sSaysI_up (oNext_up hr) _)⟩
 ·refine ⟨?_, ?_⟩
  ·have h4 := (tformed_parts.1 hf).2.2.2.1
   unfold rightB at h4
   rw [Bool.and_eq_true] at h4
   have h5 := List.all_eq_true.1 h4.1 e he
   unfold eformedB makesB at h5
   rw [if_neg hk, Bool.and_eq_true, Bool.and_eq_true] at h5
   exact h5.2.2
  ·show t.seq ≤ saysI (oNext s.heard t) t.node
   rw [saysI_of (oValid_iff.1 hv).1.1, oNext_says, if_pos ⟨hv, rfl⟩]
   exact Int.le_refl _
theorem sSound_end : ∀ {a : List PTxn} {s : PStore}, SSound s → oChain s.heard a = true → (∀ t ∈ a, tformedB t = true) → SSound (sEnd s a) ∧ (sEnd s a).items.length ≤ s.items.length + 8 * a.length
 | [], s, h, _, _ => ⟨h, Nat.le_refl _⟩
 | t :: a, s, h, hc, hf => by
  have hc' := oChain_cons.1 hc
  have hft := hf t (by simp)
  obtain ⟨h1, h2⟩ := sSound_end (a := a) (sSound_step h hft hc'.1) hc'.2 fun u hu => hf u (by simp [hu])
  refine ⟨h1, ?_⟩
  have h3 := sStep_len hft s.items
  show (sEnd (sDo s t) a).items.length ≤ s.items.length + 8 * (a.length + 1)
  have h4 : (sDo s t).items.length ≤ s.items.length + 8 := h3
  omega
theorem sAll_sound {s : PStore} (l : List PTxn) (h : SSound s) : SSound (sAll s l) ∧ (sAll s l).items.length ≤ s.items.length + 8 * (sTake s.heard l).length :=
 sSound_end h (oTake_chain _ _) fun t ht => sTake_formed ht

theorem tonly_ready (v : Ints) (t : PTxn) (z : List Txt) : oReady v (tonly t z) = oReady v t := rfl
theorem tonly_next (v : Ints) (t : PTxn) (z : List Txt) : oNext v (tonly t z) = oNext v t := rfl
theorem oFirst_map (z : List Txt) (v : Ints) : ∀ l : List PTxn, oFirst v (l.map (tonly · z)) = (oFirst v l).map fun x => (tonly x.1 z, x.2.map (tonly · z))
 | [] => rfl
 | t :: l => by
  show oFirst v (tonly t z :: l.map (tonly · z)) = (oFirst v (t :: l)).map _
  unfold oFirst
  rw [tonly_ready]
  split
  ·rfl
  ·rw [oFirst_map z v l]
   cases oFirst v l <;> rfl
theorem oTakeN_map (z : List Txt) : ∀ (n : Nat) (v : Ints) (l : List PTxn), oTakeN n v (l.map (tonly · z)) = (oTakeN n v l).map (tonly · z)
 | 0, _, _ => rfl
 | n + 1, v, l => by
  unfold oTakeN
  rw [oFirst_map]
  cases h : oFirst v l with
  | none => rfl
  | some x =>
   obtain ⟨t, r⟩ := x
   show tonly t z :: oTakeN n (oNext v (tonly t z)) (r.map (tonly · z)) = _
   rw [tonly_next, oTakeN_map z n]
   rfl
theorem oTake_map (z : List Txt) (v : Ints) (l : List PTxn) : oTake v (l.map (tonly · z)) = (oTake v l).map (tonly · z) := by
 unfold oTake
 rw [List.length_map]
 exact oTakeN_map z _ _ _
theorem oEnd_map (z : List Txt) : ∀ (l : List PTxn) (v : Ints), oEnd v (l.map (tonly · z)) = oEnd v l
 | [], _ => rfl
 | t :: l, v => by
  show oEnd (oNext v (tonly t z)) (l.map (tonly · z)) = oEnd (oNext v t) l
  rw [tonly_next]
  exact oEnd_map z l _
def sPart (l : List PTxn) (z : List Txt) : List PTxn := (sForm l).map (tonly · z)
theorem sForm_part (l : List PTxn) (z : List Txt) : sForm (sPart l z) = sPart l z := by
 unfold sPart
 refine List.filter_eq_self.2 fun t ht => ?_
 obtain ⟨u, hu, rfl⟩ := List.mem_map.1 ht
 exact tonly_formed (sForm_mem.1 hu).2 z
def SOwn (i : List PItem) (l : List PTxn) : Prop := ∀ t ∈ l, ∀ e ∈ t.effs,
 (∀ x ∈ i, x.dot ∈ e.drops → x.key = e.key) ∧ ∀ u ∈ l, ∀ f ∈ u.effs, (madeI u.node u.seq f).dot ∈ e.drops → f.key = e.key
theorem ownKeys_of {node seq : Int} : ∀ {l : List PEff}, (∀ e ∈ l, ∀ f ∈ l, (madeI node seq f).dot ∈ e.drops → f.key = e.key) → OwnKeys node seq l
 | [], _ => trivial
 | e :: l, h => ⟨fun f hf hd => h f (by simp [hf]) e (by simp) hd, ownKeys_of fun a ha b hb => h a (by simp [ha]) b (by simp [hb])⟩
theorem sItems_under (z : List Txt) {l : List PTxn} {i0 : List PItem} (hown : SOwn i0 l) : ∀ {a : List PTxn} {v : Ints} {i : List PItem}, oChain v a = true → (∀ t ∈ a, t ∈ l ∧ tformedB t = true) →
  inorm i = i → (∀ x ∈ i, x.dot.seq ≤ saysI v x.dot.node) → (∀ x ∈ i, x ∈ i0 ∨ ∃ u ∈ l, ∃ f ∈ u.effs, x = madeI u.node u.seq f) →
  iunder (a.foldl sStep i) z = (a.map (tonly · z)).foldl sStep (iunder i z)
 | [], _, _, _, _, _, _, _ => rfl
 | t :: a, v, i, hc, hf, hn, hd, hk => by
  have hc' := oChain_cons.1 hc
  obtain ⟨htl, hft⟩ := hf t (by simp)
  have hv := oFormed_valid hft
  have hkey : ∀ e ∈ t.effs, ∀ x ∈ i, x.dot ∈ e.drops → x.key = e.key := fun e he x hx hxd => by
   rcases hk x hx with k | ⟨u, hu, f, hf', rfl⟩
   ·exact (hown t htl e he).1 x k hxd
   ·exact (hown t htl e he).2 u hu f hf' hxd
  have hstep : iunder (sStep i t) z = sStep (iunder i z) (tonly t z) := by
   by_cases h0 : t.effs = []
   ·unfold sStep tonly
    simp only [h0, edo_nil]
    rfl
   ·have hh : hasB i t.node t.seq = false := by
     rw [Bool.eq_false_iff]
     intro hb
     unfold hasB at hb
     obtain ⟨x, hx, hq⟩ := List.any_eq_true.1 hb
     rw [Bool.and_eq_true, decide_eq_true_iff, decide_eq_true_iff] at hq
     have h1 := hd x hx
     have h2 := (oReady_iff.1 hc'.1).2.1
     rw [hq.1, hq.2] at h1
     omega
    exact edo_only h0 hn hh (right_rises (tformed_parts.1 hft).2.2.2.1) hkey (ownKeys_of fun e he f hf' hd' => (hown t htl e he).2 t htl f hf' hd')
  show iunder (a.foldl sStep (sStep i t)) z = (a.map (tonly · z)).foldl sStep (sStep (iunder i z) (tonly t z))
  rw [← hstep]
  refine sItems_under z hown hc'.2 (fun u hu => hf u (by simp [hu])) (sStep_norm hn) (fun x hx => ?_) fun x hx => ?_
  ·rcases sMem_step hx with k | ⟨e, he, hk', rfl⟩
   ·exact Int.le_trans (hd x k) (sSaysI_up (oNext_up hc'.1) _)
   ·show t.seq ≤ saysI (oNext v t) t.node
    rw [saysI_of (oValid_iff.1 hv).1.1, oNext_says, if_pos ⟨hv, rfl⟩]
    exact Int.le_refl _
  ·rcases sMem_step hx with k | ⟨e, he, hk', rfl⟩
   ·exact hk x k
   ·exact .inr ⟨t, htl, e, he, rfl⟩
theorem sAll_under {s : PStore} {l : List PTxn} (z : List Txt) (hs : SSound s) (hown : SOwn s.items l) :
  (sAll s l).heard = (sAll ⟨s.heard, iunder s.items z⟩ (sPart l z)).heard ∧ iunder (sAll s l).items z = (sAll ⟨s.heard, iunder s.items z⟩ (sPart l z)).items := by
 have hT : sTake s.heard (sPart l z) = (sTake s.heard l).map (tonly · z) := by
  unfold sTake
  rw [sForm_part]
  exact oTake_map z _ _
 constructor
 ·show (sEnd s (sTake s.heard l)).heard = (sEnd ⟨s.heard, iunder s.items z⟩ (sTake s.heard (sPart l z))).heard
  rw [sEnd_heard, sEnd_heard, hT]
  exact (oEnd_map z _ _).symm
 ·show iunder (sEnd s (sTake s.heard l)).items z = (sEnd ⟨s.heard, iunder s.items z⟩ (sTake s.heard (sPart l z))).items
  rw [sEnd_items, sEnd_items, hT]
  exact sItems_under z hown (oTake_chain _ _) (fun t ht => ⟨sTake_in ht, sTake_formed ht⟩) hs.norm (fun x hx => (hs.form x hx).2) fun x hx => .inl hx
end Go.Proofs.YtpnpomocjkmncaaGreat.Plain
namespace Go.Proofs.YtpnpomocjkmncaaGreat.Plain
set_option linter.unusedVariables false

def sMade (a : List PTxn) : List PItem := a.flatMap fun t => edo t.node t.seq [] t.effs
def sDrops (a : List PTxn) : List PDot := a.flatMap fun t => dropsOf t.effs
def sBehind (i : List PItem) (a : List PTxn) : List PItem := if sMade a = [] ∧ sDrops a = [] then i else inorm (iwithout (i ++ sMade a) (sDrops a))
theorem sMade_cons (t : PTxn) (a : List PTxn) : sMade (t :: a) = edo t.node t.seq [] t.effs ++ sMade a := List.flatMap_cons
theorem sDrops_cons (t : PTxn) (a : List PTxn) : sDrops (t :: a) = dropsOf t.effs ++ sDrops a := List.flatMap_cons
theorem sMade_append (a b : List PTxn) : sMade (a ++ b) = sMade a ++ sMade b := List.flatMap_append
theorem sDrops_append (a b : List PTxn) : sDrops (a ++ b) = sDrops a ++ sDrops b := List.flatMap_append
theorem sMade_snoc (a : List PTxn) (t : PTxn) : sMade (a ++ [t]) = sMade a ++ edo t.node t.seq [] t.effs := by rw [sMade_append]; unfold sMade; simp
theorem sDrops_snoc (a : List PTxn) (t : PTxn) : sDrops (a ++ [t]) = sDrops a ++ dropsOf t.effs := by rw [sDrops_append]; unfold sDrops; simp
theorem own_free {node seq : Int} : ∀ {l : List PEff}, l.Pairwise (fun a b => a.pos < b.pos) → (∀ e ∈ l, pastB node seq e = true) → ∀ x ∈ own node seq l, x.dot ∉ dropsOf l
 | [], _, _, x, hx => absurd hx (by simp [own, eraw])
 | e :: l, hp, hq, x, hx => by
  obtain ⟨h1, h2⟩ := List.pairwise_cons.1 hp
  have past : ∀ f : PEff, e.pos ≤ f.pos → (madeI node seq f).dot ∉ e.drops := fun f hf hd => by
   have := hq e (by simp)
   unfold pastB at this
   have := List.all_eq_true.1 this _ hd
   simp [madeI, hf] at this
  rw [own_cons, List.mem_append, mem_iwithout, mem_makes] at hx
  intro hd
  have hd : x.dot ∈ e.drops ∨ x.dot ∈ dropsOf l := by
   unfold dropsOf at hd ⊢
   rwa [List.flatMap_cons, List.mem_append] at hd
  rcases hx with ⟨⟨-, rfl⟩, h⟩ | h
  ·exact hd.elim (past e (Int.le_refl _)) h
  ·rcases hd with hd | hd
   ·obtain ⟨f, hf, rfl⟩ := own_dot h
    exact past f (Int.le_of_lt (h1 f hf)) hd
   ·exact own_free h2 (fun e he => hq e (by simp [he])) x h hd
theorem formed_free {t : PTxn} (h : tformedB t = true) : ∀ x ∈ own t.node t.seq t.effs, x.dot ∉ dropsOf t.effs := by
 have hr := (tformed_parts.1 h).2.2.2.1
 refine own_free (right_rises hr) fun e he => ?_
 unfold rightB at hr
 rw [Bool.and_eq_true, Bool.and_eq_true] at hr
 exact List.all_eq_true.1 hr.2.2 e he
theorem made_mem {t : PTxn} {x : PItem} (h : x ∈ edo t.node t.seq [] t.effs) : x ∈ own t.node t.seq t.effs := by
 by_cases h0 : t.effs = []
 ·rw [h0] at h; exact absurd h (by simp [edo])
 ·rw [edo_at _ _ _ _ h0, eraw_at] at h
  have := (mem_inorm.1 h).1
  rw [List.mem_append] at this
  exact this.elim (fun k => absurd (mem_iwithout.1 k).1 (by simp)) id
theorem sMade_mem {a : List PTxn} {x : PItem} (h : x ∈ sMade a) : ∃ u ∈ a, x ∈ own u.node u.seq u.effs := by
 obtain ⟨u, hu, hx⟩ := List.mem_flatMap.1 h
 exact ⟨u, hu, made_mem hx⟩
theorem made_some {t : PTxn} (h : tformedB t = true) (h0 : t.effs ≠ []) : ¬ (edo t.node t.seq [] t.effs = [] ∧ dropsOf t.effs = []) := by
 rintro ⟨h1, h2⟩
 obtain ⟨e, he⟩ := List.exists_mem_of_ne_nil _ h0
 have hd : ∀ e ∈ t.effs, e.drops = [] := fun e he => List.eq_nil_iff_forall_not_mem.2 fun d hd => by
  have : d ∈ dropsOf t.effs := mem_dropsOf.2 ⟨e, he, hd⟩
  rw [h2] at this
  exact absurd this (by simp)
 have hr := (tformed_parts.1 h).2.2.2.1
 unfold rightB at hr
 rw [Bool.and_eq_true] at hr
 have hk : ∀ e ∈ t.effs, e.kind ≠ 0 := fun e he hz => by
  have h5 := List.all_eq_true.1 hr.1 e he
  unfold eformedB makesB at h5
  rw [if_pos hz, hd e he] at h5
  simp at h5
 have hown : ∀ l : List PEff, (∀ e ∈ l, e.drops = []) → ∀ e ∈ l, e.kind ≠ 0 → madeI t.node t.seq e ∈ own t.node t.seq l := by
  intro l
  induction l with
  | nil => intro _ e he; exact absurd he (by simp)
  | cons f l ih =>
   intro hl e he hke
   rw [own_cons, List.mem_append]
   have hn : dropsOf l = [] := List.eq_nil_iff_forall_not_mem.2 fun d hd => by
    obtain ⟨g, hg, hgd⟩ := mem_dropsOf.1 hd
    rw [hl g (by simp [hg])] at hgd
    exact absurd hgd (by simp)
   rcases List.mem_cons.1 he with rfl | he
   ·exact .inl (by rw [hn, iwithout_none]; exact mem_makes.2 ⟨hke, rfl⟩)
   ·exact .inr (ih (fun g hg => hl g (by simp [hg])) e he hke)
 have hm := hown t.effs hd e he (hk e he)
 rw [edo_at _ _ _ _ h0, eraw_at] at h1
 obtain ⟨m, hm2, -⟩ := least_of (iwithout [] (dropsOf t.effs) ++ own t.node t.seq t.effs) _ (List.mem_append.2 (.inr hm))
 rw [h1] at hm2
 exact absurd hm2 (by simp)
theorem oChain_other {v : Ints} {t u : PTxn} {a : List PTxn} (hc : oChain v (t :: a) = true) (ht : tformedB t = true) (hu : u ∈ a) (hf : tformedB u = true) : ¬ (t.node = u.node ∧ t.seq = u.seq) := by
 rintro ⟨e1, e2⟩
 have hc' := oChain_cons.1 hc
 have hv := oFormed_valid ht
 have hn := (oValid_iff.1 (oFormed_valid hf)).1.1
 have h1 := oChain_above hc'.2 hu hn
 rw [oNext_says, if_pos ⟨hv, by rw [e1]⟩] at h1
 omega
theorem sBehind_eq : ∀ {a : List PTxn} {v : Ints} (i : List PItem), oChain v a = true → (∀ t ∈ a, tformedB t = true) → a.foldl sStep i = sBehind i a
 | [], _, i, _, _ => by unfold sBehind; rw [if_pos ⟨rfl, rfl⟩]; rfl
 | t :: a, v, i, hc, hf => by
  have hc' := oChain_cons.1 hc
  have hft := hf t (by simp)
  have hfa : ∀ u ∈ a, tformedB u = true := fun u hu => hf u (by simp [hu])
  show a.foldl sStep (sStep i t) = sBehind i (t :: a)
  rw [sBehind_eq (sStep i t) hc'.2 hfa]
  unfold sBehind
  rw [sMade_cons, sDrops_cons]
  by_cases h0 : t.effs = []
  ·have e1 : sStep i t = i := by unfold sStep; rw [h0]; rfl
   have e2 : edo t.node t.seq [] t.effs = [] := by rw [h0]; rfl
   have e3 : dropsOf t.effs = [] := by rw [h0]; rfl
   rw [e1, e2, e3, List.nil_append, List.nil_append]
  ·have hno := made_some hft h0
   rw [if_neg (c := _ ∧ _) (fun h => hno ⟨(List.append_eq_nil_iff.1 h.1).1, (List.append_eq_nil_iff.1 h.2).1⟩)]
   have eS : sStep i t = inorm (iwithout i (dropsOf t.effs) ++ own t.node t.seq t.effs) := by
    unfold sStep
    rw [edo_at _ _ _ _ h0, eraw_at]
   have eM : edo t.node t.seq [] t.effs = inorm (own t.node t.seq t.effs) := by
    rw [edo_at _ _ _ _ h0, eraw_at]
    rfl
   have hown := formed_free hft
   have hM : ∀ x ∈ sMade a, x.dot ∉ dropsOf t.effs := fun x hx hd => by
    obtain ⟨u, hu, hxu⟩ := sMade_mem hx
    have hne := oChain_other hc hft hu (hfa u hu)
    have hnm := oChain_names (x := t) (y := u) hc hf hne (List.Sublist.cons_cons _ (List.singleton_sublist.2 hu))
    obtain ⟨e, -, rfl⟩ := own_dot hxu
    exact names_no hnm hd ⟨rfl, rfl⟩
   have main : inorm (iwithout (sStep i t ++ sMade a) (sDrops a)) = inorm (iwithout (i ++ (edo t.node t.seq [] t.effs ++ sMade a)) (dropsOf t.effs ++ sDrops a)) := by
    have eR : inorm (iwithout (i ++ (edo t.node t.seq [] t.effs ++ sMade a)) (dropsOf t.effs ++ sDrops a)) = inorm (inorm (iwithout (own t.node t.seq t.effs) (dropsOf t.effs ++ sDrops a)) ++ (iwithout i (dropsOf t.effs ++ sDrops a) ++ iwithout (sMade a) (dropsOf t.effs ++ sDrops a))) := by
     rw [eM, ← iwithout_inorm (own t.node t.seq t.effs) (dropsOf t.effs ++ sDrops a)]
     refine inorm_ext fun x => ?_
     simp only [List.mem_append, mem_iwithout]
     constructor
     ·rintro ⟨p | p | p, q⟩
      ·exact .inr (.inl ⟨p, q⟩)
      ·exact .inl ⟨p, q⟩
      ·exact .inr (.inr ⟨p, q⟩)
     ·rintro (⟨p, q⟩ | ⟨p, q⟩ | ⟨p, q⟩)
      ·exact ⟨.inr (.inl p), q⟩
      ·exact ⟨.inl p, q⟩
      ·exact ⟨.inr (.inr p), q⟩
    rw [eR, inorm_in, iwithout_append, eS, iwithout_inorm, inorm_in]
    refine inorm_ext fun x => ?_
    simp only [List.mem_append, mem_iwithout]
    constructor
    ·rintro (⟨⟨p, q⟩ | p, r⟩ | ⟨p, r⟩)
     ·exact .inr (.inl ⟨p, fun k => k.elim q r⟩)
     ·exact .inl ⟨p, fun k => k.elim (hown x p) r⟩
     ·exact .inr (.inr ⟨p, fun k => k.elim (hM x p) r⟩)
    ·rintro (⟨p, q⟩ | ⟨p, q⟩ | ⟨p, q⟩)
     ·exact .inl ⟨.inr p, fun k => q (.inr k)⟩
     ·exact .inl ⟨.inl ⟨p, fun k => q (.inl k)⟩, fun k => q (.inr k)⟩
     ·exact .inr ⟨p, fun k => q (.inr k)⟩
   rw [← main]
   split
   ·rename_i hz
    rw [hz.1, hz.2, iwithout_none, List.append_nil, eS, inorm_inorm]
   ·rfl
theorem sAll_items (s : PStore) (l : List PTxn) : (sAll s l).items = sBehind s.items (sTake s.heard l) := by
 unfold sAll
 rw [sEnd_items]
 exact sBehind_eq _ (oTake_chain _ _) fun t ht => sTake_formed ht
theorem sAll_heard (s : PStore) (l : List PTxn) : (sAll s l).heard = oEnd s.heard (sTake s.heard l) := sEnd_heard _ _
theorem sBehind_zero {i : List PItem} {a : List PTxn} (h1 : (sMade a).length = 0) (h2 : (sDrops a).length = 0) : sBehind i a = i := by
 unfold sBehind
 rw [if_pos ⟨List.eq_nil_of_length_eq_zero h1, List.eq_nil_of_length_eq_zero h2⟩]
theorem sBehind_some {i : List PItem} {a : List PTxn} (h : (sMade a).length ≠ 0 ∨ (sDrops a).length ≠ 0) : sBehind i a = inorm (iwithout (i ++ sMade a) (sDrops a)) := by
 unfold sBehind
 rw [if_neg]
 rintro ⟨h1, h2⟩
 rw [h1, h2] at h
 simp at h
end Go.Proofs.YtpnpomocjkmncaaGreat.Plain
namespace Go.Proofs.YtpnpomocjkmncaaGreat.Plain
set_option linter.unusedVariables false

def bareI (k : Txt) (node seq pos : Int) : PItem := ⟨k, [], 0, [], 0, ⟨node, seq, pos⟩⟩
def bareE (t : PTxn) (l : List PEff) : List PItem := l.map fun e => bareI e.key t.node t.seq e.pos
def bareT (l : List PTxn) : List PItem := l.flatMap fun t => bareE t t.effs
theorem bareE_take {t : PTxn} {l : List PEff} {k : Nat} (hk : k < l.length) : bareE t (l.take k) ++ [bareI (l.getD k default).key t.node t.seq (l.getD k default).pos] = bareE t (l.take (k + 1)) := by
 unfold bareE
 rw [List.take_succ_eq_append_getElem hk, List.map_append]
 simp [List.getD, List.getElem?_eq_getElem hk]
theorem bareT_take {l : List PTxn} {k : Nat} {t : PTxn} (hk : k < l.length) (ht : l[k] = t) : bareT (l.take k) ++ bareE t t.effs = bareT (l.take (k + 1)) := by
 unfold bareT
 rw [List.take_succ_eq_append_getElem hk, List.flatMap_append, ht]
 simp
theorem bareT_len : ∀ {l : List PTxn}, (∀ t ∈ l, t.effs.length ≤ 20) → (bareT l).length ≤ 20 * l.length
 | [], _ => Nat.le_refl _
 | t :: l, h => by
  have h1 := bareT_len (l := l) fun u hu => h u (by simp [hu])
  have h2 := h t (by simp)
  show (List.flatMap _ (t :: l)).length ≤ _
  rw [List.flatMap_cons, List.length_append, List.length_cons]
  have h3 : (bareE t t.effs).length = t.effs.length := by unfold bareE; rw [List.length_map]
  unfold bareT at h1
  omega
def ownOk (all : List PItem) (e : PEff) : Prop := ∀ x ∈ all, ¬ x.key = e.key → hasDot e.drops x.dot = false
theorem sOwn_of {i : List PItem} {l : List PTxn} (h : ∀ t ∈ l, ∀ e ∈ t.effs, ownOk (i ++ bareT l) e) : SOwn i l := by
 have key : ∀ {e : PEff} {x : PItem}, ownOk (i ++ bareT l) e → x ∈ i ++ bareT l → x.dot ∈ e.drops → x.key = e.key := fun {e x} ho hx hd => by
  refine Classical.byContradiction fun hne => ?_
  have := ho x hx hne
  rw [hasDot_iff.2 hd] at this
  exact absurd this (by decide)
 intro t ht e he
 refine ⟨fun x hx hd => key (h t ht e he) (by simp [hx]) hd, fun u hu f hf hd => ?_⟩
 have hm : bareI f.key u.node u.seq f.pos ∈ i ++ bareT l := List.mem_append.2 (.inr (List.mem_flatMap.2 ⟨u, hu, List.mem_map.2 ⟨f, hf, rfl⟩⟩))
 exact key (h t ht e he) hm hd
theorem sEnd_len {s : PStore} : ∀ {a : List PTxn}, (∀ t ∈ a, tformedB t = true) → (sEnd s a).items.length ≤ s.items.length + 8 * a.length := by
 intro a
 induction a generalizing s with
 | nil => intro _; exact Nat.le_refl _
 | cons t a ih =>
  intro h
  have h1 := ih (s := sDo s t) fun u hu => h u (by simp [hu])
  have h2 := sStep_len (h t (by simp)) s.items
  have h3 : (sDo s t).items.length ≤ s.items.length + 8 := h2
  show (sEnd (sDo s t) a).items.length ≤ s.items.length + 8 * (a.length + 1)
  omega
theorem sAll_len (s : PStore) (l : List PTxn) : (sAll s l).items.length ≤ s.items.length + 8 * l.length := by
 have h1 := sEnd_len (s := s) (a := sTake s.heard l) fun t ht => sTake_formed ht
 have h2 := sTake_len s.heard l
 unfold sAll
 omega
theorem sStep_mem {i : List PItem} {t : PTxn} {x : PItem} (h : x ∈ sStep i t) : x ∈ i ∨ ∃ e ∈ t.effs, x = madeI t.node t.seq e := (sMem_step h).imp id fun ⟨e, he, _, hx⟩ => ⟨e, he, hx⟩
theorem sEnd_mem {s : PStore} {x : PItem} : ∀ {a : List PTxn}, x ∈ (sEnd s a).items → x ∈ s.items ∨ ∃ t ∈ a, ∃ e ∈ t.effs, x = madeI t.node t.seq e := by
 intro a
 induction a generalizing s with
 | nil => exact .inl
 | cons t a ih =>
  intro h
  rcases ih (s := sDo s t) h with k | ⟨u, hu, k⟩
  ·exact (sStep_mem k).imp id fun k => ⟨t, by simp, k⟩
  ·exact .inr ⟨u, by simp [hu], k⟩
theorem sAll_mem {s : PStore} {l : List PTxn} {x : PItem} (h : x ∈ (sAll s l).items) : x ∈ s.items ∨ ∃ t ∈ l, ∃ e ∈ t.effs, x = madeI t.node t.seq e :=
 (sEnd_mem h).imp id fun ⟨t, ht, k⟩ => ⟨t, sTake_in ht, k⟩
end Go.Proofs.YtpnpomocjkmncaaGreat.Plain
