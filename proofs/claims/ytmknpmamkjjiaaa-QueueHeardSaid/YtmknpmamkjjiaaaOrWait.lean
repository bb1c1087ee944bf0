/- Who waits behind whom, as plain mathematics: transactions that lie behind one that they lack, those that may be ready, and that the least ready one is always found among these. -/
import Derived.Test.YtmknpmamkjjiaaaTxMaths
namespace Go.Proofs.Ytmknpmamkjjiaaa.Plain
set_option linter.unusedVariables false

def oHas (v : Ints) (n s : Int) : Prop := 1 ≤ s ∧ s ≤ saysI v n
def oPrev (s : Int) : Int := Go.IntKind.i64.wrap (s - 1)
def OClear (v : Ints) (t : PTxn) : Prop := oPrev t.seq ≤ saysI v t.node ∧ Within t.deps v
def OBlocks (n s : Int) (t : PTxn) : Prop := ∀ u, ¬ oHas u n s → ¬ oReady u t = true
def ODead (v : Ints) (t : PTxn) : Prop := ∀ u, Within v u → ¬ oReady u t = true
theorem saysI_up {u v : Ints} (h : Within u v) (n : Int) : saysI u n ≤ saysI v n := by
 unfold saysI
 split
 ·exact h _
 ·exact Int.le_refl _
theorem OClear.up {u v : Ints} {t : PTxn} (h : OClear u t) (hu : Within u v) : OClear v t :=
 ⟨Int.le_trans h.1 (saysI_up hu _), fun i => Int.le_trans (h.2 i) (hu i)⟩
theorem ODead.up {u v : Ints} {t : PTxn} (h : ODead u t) (hu : Within u v) : ODead v t := fun w hw => h w fun i => Int.le_trans (hu i) (hw i)
theorem oNext_within {v : Ints} {t : PTxn} (h : oReady v t = true) : Within v (oNext v t) := fun i => oNext_up h i
theorem oHas_next {v : Ints} {t : PTxn} (h : oReady v t = true) {n s : Int} (h0 : ¬ oHas v n s) (h1 : oHas (oNext v t) n s) : n = t.node ∧ s = t.seq := by
 obtain ⟨a, b⟩ := h1
 by_cases c : 0 ≤ n
 ·rw [saysI_of c, oNext_says] at b
  by_cases d : oValid t = true ∧ n.toNat = t.node.toNat
  ·rw [if_pos d] at b
   have h3 := (oValid_iff.1 d.1).1.1
   have h4 : n = t.node := by omega
   subst h4
   refine ⟨rfl, ?_⟩
   have h5 := (oReady_iff.1 h).2.1
   have h6 : ¬ s ≤ saysI v t.node := fun e => h0 ⟨a, e⟩
   omega
  ·rw [if_neg d] at b
   exact absurd ⟨a, by rw [saysI_of c]; exact b⟩ h0
 ·rw [saysI_neg c] at b; omega
theorem oHas_up {u v : Ints} (h : Within u v) {n s : Int} (h1 : oHas u n s) : oHas v n s := ⟨h1.1, Int.le_trans h1.2 (saysI_up h n)⟩

def otx (l : List PTxn) (j : Nat) : PTxn := l.getD j default
theorem otx_lt {l : List PTxn} {j : Nat} (h : j < l.length) : otx l j = l[j] := by unfold otx; simp [List.getD, h]
def gone (g : List Bool) (j : Nat) : Bool := g.getD j false
structure OWait (l : List PTxn) (v : Ints) (g : List Bool) (H : List Nat) (B : Int → Int → List Nat) (Q : List Nat) : Prop where
 len : g.length = l.length
 hH : ∀ j ∈ H, j < l.length ∧ gone g j = false ∧ OClear v (otx l j)
 nd : (H ++ Q).Nodup
 hB : ∀ n s, ¬ oHas v n s → ∀ j ∈ B n s, j < l.length ∧ gone g j = false ∧ OBlocks n s (otx l j) ∧ j ∉ H ∧ j ∉ Q
 ndB : ∀ n s, ¬ oHas v n s → (B n s).Nodup
 apart : ∀ n s m r, ¬ oHas v n s → ¬ oHas v m r → ∀ j, j ∈ B n s → j ∈ B m r → n = m ∧ s = r
 hQ : ∀ j ∈ Q, j < l.length ∧ gone g j = false
 all : ∀ j, j < l.length → gone g j = false → j ∈ H ∨ j ∈ Q ∨ (∃ n s, ¬ oHas v n s ∧ j ∈ B n s) ∨ ODead v (otx l j)
theorem gone_set {g : List Bool} {p : Nat} (hp : p < g.length) (j : Nat) : gone (g.set p true) j = if j = p then true else gone g j := by
 unfold gone
 simp only [List.getD, List.getElem?_set]
 by_cases c : p = j
 ·subst c; simp [hp]
 ·rw [if_neg c, if_neg (fun e : j = p => c e.symm)]
theorem OWait.take {l : List PTxn} {v : Ints} {g : List Bool} {H : List Nat} {B : Int → Int → List Nat} {p : Nat} (h : OWait l v g (p :: H) B []) (hr : oReady v (otx l p) = true)
  {Q : List Nat} (hQ : (oHas (oNext v (otx l p)) (otx l p).node (otx l p).seq ∧ Q = B (otx l p).node (otx l p).seq) ∨ (¬ oHas (oNext v (otx l p)) (otx l p).node (otx l p).seq ∧ Q = [])) :
  OWait l (oNext v (otx l p)) (g.set p true) H B Q := by
 have hp := h.hH p (by simp)
 have hw := oNext_within hr
 have hnd := List.nodup_cons.1 (List.nodup_append.1 h.nd).1
 have hpg : p < g.length := by rw [h.len]; exact hp.1
 have hg := gone_set hpg
 have hne : ∀ n s, ¬ oHas v n s → p ∉ B n s := fun n s hn x => (h.hB n s hn p x).2.2.2.1 (by simp)
 have h0 : ¬ oHas v (otx l p).node (otx l p).seq := fun e => by
  have := (oReady_iff.1 hr).2.1
  have := e.2
  omega
 have hdown : ∀ n s, ¬ oHas (oNext v (otx l p)) n s → ¬ oHas v n s := fun n s e x => e (oHas_up hw x)
 have hQB : ∀ j ∈ Q, j ∈ B (otx l p).node (otx l p).seq ∧ oHas (oNext v (otx l p)) (otx l p).node (otx l p).seq := by
  intro j hj
  rcases hQ with ⟨a, rfl⟩ | ⟨a, rfl⟩
  ·exact ⟨hj, a⟩
  ·cases hj
 constructor
 ·simp [h.len]
 ·intro j hj
  obtain ⟨a, b, c⟩ := h.hH j (by simp [hj])
  refine ⟨a, ?_, c.up hw⟩
  rw [hg, if_neg (fun e => hnd.1 (by rw [← e]; exact hj))]
  exact b
 ·refine List.nodup_append.2 ⟨hnd.2, ?_, fun a ha b hb e => ?_⟩
  ·rcases hQ with ⟨a, rfl⟩ | ⟨a, rfl⟩
   ·exact h.ndB _ _ h0
   ·exact List.nodup_nil
  ·subst e
   exact (h.hB _ _ h0 a (hQB a hb).1).2.2.2.1 (by simp [ha])
 ·intro m r hm j hj
  obtain ⟨a, b, c, d, e⟩ := h.hB m r (hdown m r hm) j hj
  refine ⟨a, ?_, c, fun x => d (by simp [x]), fun x => ?_⟩
  ·rw [hg, if_neg (fun e => hne m r (hdown m r hm) (by rw [← e]; exact hj))]
   exact b
  ·obtain ⟨y, z⟩ := hQB j x
   obtain ⟨rfl, rfl⟩ := h.apart _ _ m r h0 (hdown m r hm) j y hj
   exact hm z
 ·exact fun m r hm => h.ndB m r (hdown m r hm)
 ·exact fun n s m r hn hm => h.apart n s m r (hdown n s hn) (hdown m r hm)
 ·intro j hj
  obtain ⟨a, b, c, d, e⟩ := h.hB _ _ h0 j (hQB j hj).1
  refine ⟨a, ?_⟩
  rw [hg, if_neg (fun e => d (by simp [e]))]
  exact b
 ·intro j hj hgj
  rw [hg] at hgj
  by_cases c : j = p
  ·rw [if_pos c] at hgj; cases hgj
  ·rw [if_neg c] at hgj
   rcases h.all j hj hgj with a | a | ⟨m, r, hm, a⟩ | a
   ·rcases List.mem_cons.1 a with e | e
    ·exact absurd e c
    ·exact Or.inl e
   ·cases a
   ·by_cases d : oHas (oNext v (otx l p)) m r
    ·obtain ⟨rfl, rfl⟩ := oHas_next hr hm d
     rcases hQ with ⟨x, rfl⟩ | ⟨x, rfl⟩
     ·exact Or.inr (Or.inl a)
     ·exact absurd d x
    ·exact Or.inr (Or.inr (Or.inl ⟨m, r, d, a⟩))
   ·exact Or.inr (Or.inr (Or.inr (a.up hw)))
end Go.Proofs.Ytmknpmamkjjiaaa.Plain
