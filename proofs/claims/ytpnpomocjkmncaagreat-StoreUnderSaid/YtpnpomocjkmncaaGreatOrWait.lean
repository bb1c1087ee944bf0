/- Who waits behind whom, as plain mathematics: transactions that lie behind one that they lack, those that may be ready, and that the least ready one is always found among these. -/
import Derived.Test.YtpnpomocjkmncaaGreatTxMaths
namespace Go.Proofs.YtpnpomocjkmncaaGreat.Plain
set_option linter.unusedVariables false

def oHas (v : Ints) (n s : Int) : Prop := 1 ≤ s ∧ s ≤ saysI v n
def oPrev (s : Int) : Int := Go.IntKind.i64.wrap (s - 1)
theorem oPrev_of {s : Int} (h : 0 < s) (h2 : s ≤ 9223372036854775807) : oPrev s = s - 1 := by
 unfold oPrev
 simp [Go.IntKind.wrap, Go.IntKind.bits, Go.IntKind.signed]
 omega
def LackOk (v : Ints) (t : PTxn) (n s : Int) : Prop :=
 (n = t.node ∧ s = oPrev t.seq ∧ saysI v t.node < s) ∨ (∃ k : Nat, n = (k : Int) ∧ s = says t.deps k ∧ says v k < s)
def OClear (v : Ints) (t : PTxn) : Prop := oPrev t.seq ≤ saysI v t.node ∧ Within t.deps v
def OBlocks (n s : Int) (t : PTxn) : Prop := ∀ u, ¬ oHas u n s → ¬ oReady u t = true
def ODead (v : Ints) (t : PTxn) : Prop := ∀ u, Within v u → ¬ oReady u t = true
def TSmall (t : PTxn) : Prop := t.seq ≤ 9223372036854775807
theorem LackOk.lacks {v : Ints} {t : PTxn} {n s : Int} (h : LackOk v t n s) : ¬ oHas v n s := by
 rintro ⟨_, h2⟩
 rcases h with ⟨rfl, rfl, h3⟩ | ⟨k, rfl, rfl, h3⟩
 ·omega
 ·rw [saysI_nat] at h2; omega
theorem LackOk.blocks {v : Ints} {t : PTxn} {n s : Int} (ht : TSmall t) (h : LackOk v t n s) : OBlocks n s t := by
 intro u hu hr
 obtain ⟨r1, r2, r3⟩ := oReady_iff.1 hr
 apply hu
 rcases h with ⟨rfl, rfl, h3⟩ | ⟨k, rfl, rfl, h3⟩
 ·have := saysI_pos v t.node
  rw [oPrev_of r1 ht] at h3 ⊢
  exact ⟨by omega, by omega⟩
 ·have := says_pos v k
  refine ⟨by omega, ?_⟩
  rw [saysI_nat]; exact r3 k
theorem saysI_up {u v : Ints} (h : Within u v) (n : Int) : saysI u n ≤ saysI v n := by
 unfold saysI
 split
 ·exact h _
 ·exact Int.le_refl _
theorem OClear.up {u v : Ints} {t : PTxn} (h : OClear u t) (hu : Within u v) : OClear v t :=
 ⟨Int.le_trans h.1 (saysI_up hu _), fun i => Int.le_trans (h.2 i) (hu i)⟩
theorem OClear.dead {v : Ints} {t : PTxn} (ht : TSmall t) (h : OClear v t) (hr : ¬ oReady v t = true) : ODead v t := by
 intro u hu r
 obtain ⟨r1, r2, r3⟩ := oReady_iff.1 r
 apply hr
 have h1 := h.1
 rw [oPrev_of r1 ht] at h1
 have := saysI_up hu t.node
 exact oReady_iff.2 ⟨r1, by omega, h.2⟩
theorem ODead.up {u v : Ints} {t : PTxn} (h : ODead u t) (hu : Within u v) : ODead v t := fun w hw => h w fun i => Int.le_trans (hu i) (hw i)
theorem oNext_within {v : Ints} {t : PTxn} (h : oReady v t = true) : Within v (oNext v t) := fun i => oNext_up h i
theorem oHas_next {v : Ints} {t : PTxn} (h : oReady v t = true) {n s : Int} (h0 : ¬ oHas v n s) (h1 : oHas (oNext v t) n s) : n = t.node ∧ s = t.seq := by
 obtain ⟨a, b⟩ := h1
 by_cases c : 0 ≤ n
 ·rw [saysI_of c, oNext_says] at b
  by_cases d : oValid t = true ∧ n.toNat = t.node.toNat
  ·rw [if_pos d] at b
   have h3 := (oValid_iff.1 d.1).1.1
   have h4 : n = t.node := by omega
   subst h4
   refine ⟨rfl, ?_⟩
   have h5 := (oReady_iff.1 h).2.1
   have h6 : ¬ s ≤ saysI v t.node := fun e => h0 ⟨a, e⟩
   omega
  ·rw [if_neg d] at b
   exact absurd ⟨a, by rw [saysI_of c]; exact b⟩ h0
 ·rw [saysI_neg c] at b; omega
theorem oHas_up {u v : Ints} (h : Within u v) {n s : Int} (h1 : oHas u n s) : oHas v n s := ⟨h1.1, Int.le_trans h1.2 (saysI_up h n)⟩

def otx (l : List PTxn) (j : Nat) : PTxn := l.getD j default
theorem otx_lt {l : List PTxn} {j : Nat} (h : j < l.length) : otx l j = l[j] := by unfold otx; simp [List.getD, h]
def gone (g : List Bool) (j : Nat) : Bool := g.getD j false
structure OWait (l : List PTxn) (v : Ints) (g : List Bool) (H : List Nat) (B : Int → Int → List Nat) (Q : List Nat) : Prop where
 len : g.length = l.length
 hH : ∀ j ∈ H, j < l.length ∧ gone g j = false ∧ OClear v (otx l j)
 nd : (H ++ Q).Nodup
 hB : ∀ n s, ¬ oHas v n s → ∀ j ∈ B n s, j < l.length ∧ gone g j = false ∧ OBlocks n s (otx l j) ∧ j ∉ H ∧ j ∉ Q
 ndB : ∀ n s, ¬ oHas v n s → (B n s).Nodup
 apart : ∀ n s m r, ¬ oHas v n s → ¬ oHas v m r → ∀ j, j ∈ B n s → j ∈ B m r → n = m ∧ s = r
 hQ : ∀ j ∈ Q, j < l.length ∧ gone g j = false
 all : ∀ j, j < l.length → gone g j = false → j ∈ H ∨ j ∈ Q ∨ (∃ n s, ¬ oHas v n s ∧ j ∈ B n s) ∨ ODead v (otx l j)
theorem OWait.start (l : List PTxn) (v : Ints) : OWait l v (List.replicate l.length false) [] (fun _ _ => []) (List.range l.length) where
 len := by simp
 hH := by simp
 nd := by simp [List.nodup_range]
 hB := by simp
 ndB := by simp
 apart := by simp
 hQ := fun j hj => ⟨by simpa using hj, by have := List.mem_range.1 hj; unfold gone; simp [List.getD, this]⟩
 all := fun j hj _ => Or.inr (Or.inl (by simpa using hj))
theorem OWait.perm {l : List PTxn} {v : Ints} {g : List Bool} {H H' : List Nat} {B : Int → Int → List Nat} {Q : List Nat} (h : OWait l v g H B Q) (hp : H'.Perm H) : OWait l v g H' B Q where
 len := h.len
 hH := fun j hj => h.hH j (hp.mem_iff.1 hj)
 nd := (hp.append_right Q).nodup_iff.2 h.nd
 hB := fun n s hn j hj => by
  obtain ⟨a, b, c, d, e⟩ := h.hB n s hn j hj
  exact ⟨a, b, c, fun x => d (hp.mem_iff.1 x), e⟩
 ndB := h.ndB
 apart := h.apart
 hQ := h.hQ
 all := fun j hj hg => by
  rcases h.all j hj hg with a | a
  ·exact Or.inl (hp.mem_iff.2 a)
  ·exact Or.inr a
def oLay (B : Int → Int → List Nat) (n s : Int) (p : Nat) : Int → Int → List Nat := fun m r => if m = n ∧ r = s then B m r ++ [p] else B m r
theorem oLay_at (B : Int → Int → List Nat) (n s : Int) (p : Nat) : oLay B n s p n s = B n s ++ [p] := by unfold oLay; rw [if_pos ⟨rfl, rfl⟩]
theorem oLay_off {B : Int → Int → List Nat} {n s : Int} {p : Nat} {m r : Int} (h : ¬ (m = n ∧ r = s)) : oLay B n s p m r = B m r := by unfold oLay; rw [if_neg h]
theorem OWait.lay {l : List PTxn} {v : Ints} {g : List Bool} {H : List Nat} {B : Int → Int → List Nat} {p : Nat} {Q : List Nat} (h : OWait l v g H B (p :: Q)) {n s : Int} (ht : TSmall (otx l p)) (hl : LackOk v (otx l p) n s) :
  OWait l v g H (oLay B n s p) Q := by
 have hp := h.hQ p (by simp)
 have hnd := List.nodup_append.1 h.nd
 have hpQ := (List.nodup_cons.1 hnd.2.1).1
 have hpH : p ∉ H := fun x => hnd.2.2 p x p (by simp) rfl
 constructor
 ·exact h.len
 ·exact h.hH
 ·refine List.nodup_append.2 ⟨hnd.1, (List.nodup_cons.1 hnd.2.1).2, fun a ha b hb => hnd.2.2 a ha b (by simp [hb])⟩
 ·intro m r hm j hj
  by_cases c : m = n ∧ r = s
  ·obtain ⟨rfl, rfl⟩ := c
   rw [oLay_at] at hj
   rcases List.mem_append.1 hj with e | e
   ·obtain ⟨a, b, c, d, e⟩ := h.hB m r hm j e
    exact ⟨a, b, c, d, fun x => e (by simp [x])⟩
   ·have := List.mem_singleton.1 e
    subst this
    exact ⟨hp.1, hp.2, hl.blocks ht, hpH, hpQ⟩
  ·rw [oLay_off c] at hj
   obtain ⟨a, b, c, d, e⟩ := h.hB m r hm j hj
   exact ⟨a, b, c, d, fun x => e (by simp [x])⟩
 ·intro m r hm
  by_cases c : m = n ∧ r = s
  ·obtain ⟨rfl, rfl⟩ := c
   rw [oLay_at]
   refine List.nodup_append.2 ⟨h.ndB m r hm, by simp, fun a ha b hb => ?_⟩
   have := List.mem_singleton.1 hb
   subst this
   rintro rfl
   exact (h.hB m r hm a ha).2.2.2.2 (by simp)
  ·rw [oLay_off c]; exact h.ndB m r hm
 ·have key : ∀ m r, ¬ oHas v m r → p ∉ B m r := fun m r hm x => (h.hB m r hm p x).2.2.2.2 (by simp)
  intro m r m' r' hm hm' j hj hj'
  by_cases c : m = n ∧ r = s
  ·obtain ⟨rfl, rfl⟩ := c
   by_cases c' : m' = m ∧ r' = r
   ·exact ⟨c'.1.symm, c'.2.symm⟩
   ·rw [oLay_at] at hj
    rw [oLay_off c'] at hj'
    rcases List.mem_append.1 hj with e | e
    ·exact h.apart m r m' r' hm hm' j e hj'
    ·have := List.mem_singleton.1 e
     subst this
     exact absurd hj' (key _ _ hm')
  ·rw [oLay_off c] at hj
   by_cases c' : m' = n ∧ r' = s
   ·obtain ⟨rfl, rfl⟩ := c'
    rw [oLay_at] at hj'
    rcases List.mem_append.1 hj' with e | e
    ·exact h.apart m r m' r' hm hm' j hj e
    ·have := List.mem_singleton.1 e
     subst this
     exact absurd hj (key _ _ hm)
   ·rw [oLay_off c'] at hj'
    exact h.apart m r m' r' hm hm' j hj hj'
 ·exact fun j hj => h.hQ j (by simp [hj])
 ·intro j hj hg
  rcases h.all j hj hg with a | a | ⟨m, r, hm, a⟩ | a
  ·exact Or.inl a
  ·rcases List.mem_cons.1 a with e | e
   ·subst e
    exact Or.inr (Or.inr (Or.inl ⟨n, s, hl.lacks, by rw [oLay_at]; simp⟩))
   ·exact Or.inr (Or.inl e)
  ·refine Or.inr (Or.inr (Or.inl ⟨m, r, hm, ?_⟩))
   by_cases c : m = n ∧ r = s
   ·obtain ⟨rfl, rfl⟩ := c; rw [oLay_at]; simp [a]
   ·rw [oLay_off c]; exact a
  ·exact Or.inr (Or.inr (Or.inr a))
theorem OWait.push {l : List PTxn} {v : Ints} {g : List Bool} {H : List Nat} {B : Int → Int → List Nat} {p : Nat} {Q : List Nat} (h : OWait l v g H B (p :: Q)) (hc : OClear v (otx l p)) :
  OWait l v g (p :: H) B Q := by
 have hp := h.hQ p (by simp)
 constructor
 ·exact h.len
 ·intro j hj
  rcases List.mem_cons.1 hj with e | e
  ·subst e; exact ⟨hp.1, hp.2, hc⟩
  ·exact h.hH j e
 ·exact (List.perm_middle (a := p) (l₁ := H) (l₂ := Q)).nodup_iff.1 h.nd
 ·intro m r hm j hj
  obtain ⟨a, b, c, d, e⟩ := h.hB m r hm j hj
  refine ⟨a, b, c, fun x => ?_, fun x => e (by simp [x])⟩
  rcases List.mem_cons.1 x with f | f
  ·subst f; exact e (by simp)
  ·exact d f
 ·exact h.ndB
 ·exact h.apart
 ·exact fun j hj => h.hQ j (by simp [hj])
 ·intro j hj hg
  rcases h.all j hj hg with a | a | a
  ·exact Or.inl (by simp [a])
  ·rcases List.mem_cons.1 a with e | e
   ·exact Or.inl (by simp [e])
   ·exact Or.inr (Or.inl e)
  ·exact Or.inr (Or.inr a)
theorem OWait.drop {l : List PTxn} {v : Ints} {g : List Bool} {H : List Nat} {B : Int → Int → List Nat} {p : Nat} {Q : List Nat} (h : OWait l v g (p :: H) B Q) (ht : TSmall (otx l p)) (hr : ¬ oReady v (otx l p) = true) :
  OWait l v g H B Q := by
 have hp := h.hH p (by simp)
 constructor
 ·exact h.len
 ·exact fun j hj => h.hH j (by simp [hj])
 ·exact (List.nodup_cons.1 h.nd).2
 ·intro m r hm j hj
  obtain ⟨a, b, c, d, e⟩ := h.hB m r hm j hj
  exact ⟨a, b, c, fun x => d (by simp [x]), e⟩
 ·exact h.ndB
 ·exact h.apart
 ·exact h.hQ
 ·intro j hj hg
  rcases h.all j hj hg with a | a
  ·rcases List.mem_cons.1 a with e | e
   ·subst e; exact Or.inr (Or.inr (Or.inr (hp.2.2.dead ht hr)))
   ·exact Or.inl e
  ·exact Or.inr a
theorem gone_set {g : List Bool} {p : Nat} (hp : p < g.length) (j : Nat) : gone (g.set p true) j = if j = p then true else gone g j := by
 unfold gone
 simp only [List.getD, List.getElem?_set]
 by_cases c : p = j
 ·subst c; simp [hp]
 ·rw [if_neg c, if_neg (fun e : j = p => c e.symm)]
theorem OWait.take {l : List PTxn} {v : Ints} {g : List Bool} {H : List Nat} {B : Int → Int → List Nat} {p : Nat} (h : OWait l v g (p :: H) B []) (hr : oReady v (otx l p) = true)
  {Q : List Nat} (hQ : (oHas (oNext v (otx l p)) (otx l p).node (otx l p).seq ∧ Q = B (otx l p).node (otx l p).seq) ∨ (¬ oHas (oNext v (otx l p)) (otx l p).node (otx l p).seq ∧ Q = [])) :
  OWait l (oNext v (otx l p)) (g.set p true) H B Q := by
 have hp := h.hH p (by simp)
 have hw := oNext_within hr
 have hnd := List.nodup_cons.1 (List.nodup_append.1 h.nd).1
 have hpg : p < g.length := by rw [h.len]; exact hp.1
 have hg := gone_set hpg
 have hne : ∀ n s, ¬ oHas v n s → p ∉ B n s := fun n s hn x => (h.hB n s hn p x).2.2.2.1 (by simp)
 have h0 : ¬ oHas v (otx l p).node (otx l p).seq := fun e => by
  have := (oReady_iff.1 hr).2.1
  have := e.2
  omega
 have hdown : ∀ n s, ¬ oHas (oNext v (otx l p)) n s → ¬ oHas v n s := fun n s e x => e (oHas_up hw x)
 have hQB : ∀ j ∈ Q, j ∈ B (otx l p).node (otx l p).seq ∧ oHas (oNext v (otx l p)) (otx l p).node (otx l p).seq := by
  intro j hj
  rcases hQ with ⟨a, rfl⟩ | ⟨a, rfl⟩
  ·exact ⟨hj, a⟩
  ·cases hj
 constructor
 ·simp [h.len]
 ·intro j hj
  obtain ⟨a, b, c⟩ := h.hH j (by simp [hj])
  refine ⟨a, ?_, c.up hw⟩
  rw [hg, if_neg (fun e => hnd.1 (by rw [← e]; exact hj))]
  exact b
 ·refine List.nodup_append.2 ⟨hnd.2, ?_, fun a ha b hb e => ?_⟩
  ·rcases hQ with ⟨a, rfl⟩ | ⟨a, rfl⟩
   ·exact h.ndB _ _ h0
   ·exact List.nodup_nil
  ·subst e
   exact (h.hB _ _ h0 a (hQB a hb).1).2.2.2.1 (by simp [ha])
 ·intro m r hm j hj
  obtain ⟨a, b, c, d, e⟩ := h.hB m r (hdown m r hm) j hj
  refine ⟨a, ?_, c, fun x => d (by simp [x]), fun x => ?_⟩
  ·rw [hg, if_neg (fun e => hne m r (hdown m r hm) (by rw [← e]; exact hj))]
   exact b
  ·obtain ⟨y, z⟩ := hQB j x
   obtain ⟨rfl, rfl⟩ := h.apart _ _ m r h0 (hdown m r hm) j y hj
   exact hm z
 ·exact fun m r hm => h.ndB m r (hdown m r hm)
 ·exact fun n s m r hn hm => h.apart n s m r (hdown n s hn) (hdown m r hm)
 ·intro j hj
  obtain ⟨a, b, c, d, e⟩ := h.hB _ _ h0 j (hQB j hj).1
  refine ⟨a, ?_⟩
  rw [hg, if_neg (fun e => d (by simp [e]))]
  exact b
 ·intro j hj hgj
  rw [hg] at hgj
  by_cases c : j = p
  ·rw [if_pos c] at hgj; cases hgj
  ·rw [if_neg c] at hgj
   rcases h.all j hj hgj with a | a | ⟨m, r, hm, a⟩ | a
   ·rcases List.mem_cons.1 a with e | e
    ·exact absurd e c
    ·exact Or.inl e
   ·cases a
   ·by_cases d : oHas (oNext v (otx l p)) m r
    ·obtain ⟨rfl, rfl⟩ := oHas_next hr hm d
     rcases hQ with ⟨x, rfl⟩ | ⟨x, rfl⟩
     ·exact Or.inr (Or.inl a)
     ·exact absurd d x
    ·exact Or.inr (Or.inr (Or.inl ⟨m, r, d, a⟩))
   ·exact Or.inr (Or.inr (Or.inr (a.up hw)))
theorem OWait.waits {l : List PTxn} {v : Ints} {g : List Bool} {H : List Nat} {B : Int → Int → List Nat} (h : OWait l v g H B []) {j : Nat} (hj : j < l.length) (hg : gone g j = false) (hH : j ∉ H) : ¬ oReady v (otx l j) = true := by
 rcases h.all j hj hg with a | a | ⟨m, r, hm, a⟩ | a
 ·exact absurd a hH
 ·cases a
 ·exact (h.hB m r hm j a).2.2.1 v hm
 ·exact a v fun i => Int.le_refl _
theorem gone_at {g : List Bool} {j : Nat} (h : j < g.length) : gone g j = g[j] := by unfold gone; simp [List.getD, h]
theorem OWait.first {l : List PTxn} {v : Ints} {g : List Bool} {H : List Nat} {B : Int → Int → List Nat} {p : Nat} (h : OWait l v g (p :: H) B []) (hm : ∀ j ∈ H, p ≤ j) (hr : oReady v (otx l p) = true) :
  oFirst v (oLeft g l) = some (otx l p, oLeft (g.set p true) l) := by
 have hp := h.hH p (by simp)
 have hpg : p < g.length := by rw [h.len]; exact hp.1
 rw [otx_lt hp.1]
 refine oLeft_first hpg hp.1 ?_ ?_ fun j h1 h2 hlt => ?_
 ·rw [← gone_at hpg]; exact hp.2.1
 ·rw [← otx_lt hp.1]; exact hr
 ·rw [← gone_at h1, ← otx_lt h2]
  by_cases c : gone g j = true
  ·exact Or.inl c
  ·refine Or.inr (h.waits h2 (by simpa using c) fun x => ?_)
   rcases List.mem_cons.1 x with e | e
   ·omega
   ·have := hm j e; omega
theorem OWait.done {l : List PTxn} {v : Ints} {g : List Bool} {B : Int → Int → List Nat} (h : OWait l v g [] B []) : oFirst v (oLeft g l) = none := by
 refine oLeft_none fun j h1 h2 => ?_
 rw [← gone_at h1, ← otx_lt h2]
 by_cases c : gone g j = true
 ·exact Or.inl c
 ·exact Or.inr (h.waits h2 (by simpa using c) (by simp))
theorem oFirst_len {v : Ints} {l : List PTxn} {t : PTxn} {r : List PTxn} (h : oFirst v l = some (t, r)) : r.length + 1 = l.length := by
 have := (oFirst_some h).2.length_eq
 simp at this
 omega
end Go.Proofs.YtpnpomocjkmncaaGreat.Plain
