/- The contracts of effects as the walks of stage 10's laws call them; what a small list of effects is; an argument that is one. -/
import Derived.Test.YthcpglbeiibniaaGreatEAwake
import Derived.Test.YthcpglbeiibniaaGreatELaw
import Derived.Test.YthcpglbeiibniaaGreatRefS
namespace Go.Proofs.YthcpglbeiibniaaGreat
open Go.RowKit Plain
set_option linter.unusedVariables false

def SmallE (l : List PEff) : Prop := l.length ≤ 20 ∧ ∀ e ∈ l, e.drops.length ≤ 70
theorem smallE_of {l : List PEff} (h : shortE l = true) : SmallE l := ⟨(shortE_iff.1 h).1, fun e he => (shortE1_iff.1 ((shortE_iff.1 h).2 e he)).2.2.2⟩
theorem SmallE.fit {l : List PEff} (h : SmallE l) : ∀ e ∈ l, e.drops.length ≤ 1000 := fun e he => by have := h.2 e he; omega
theorem SmallE.fit2 {l : List PEff} (h : SmallE l) : ∀ e ∈ l, e.drops.length ≤ 1000000 := fun e he => by have := h.2 e he; omega
theorem rshortER {u : Value} {l : List PEff} {w : World} {r : Bool} (hu : SeqE LEff w u l) (e : shortE l = r) : Calls Tryz.prog 5 #[u] w (GivesB w r) := by
  rw [← e]
  exact (rshortE_any hu).mono fun _ _ ⟨h, hw⟩ => ⟨h, below_of_same hw⟩
theorem erightR {node seq : Int} {v : Value} {l : List PEff} {w : World} {r : Bool} (hv : SeqE LEff w v l) (hs : SmallE l) (e : rightB node seq l = r) : Calls Tryz.prog 8 #[.int .i64 node, .int .i64 seq, v] w (GivesB w r) := by
  rw [← e]
  exact eright_any node seq hv (by have := hs.1; omega) hs.fit2
theorem hasR {node seq : Int} {v : Value} {l : List PItem} {w : World} {r : Bool} (hv : SeqE LItem w v l) (hs : l.length ≤ 1000) (e : hasB l node seq = r) : Calls Tryz.prog 9 #[v, .int .i64 node, .int .i64 seq] w (GivesB w r) := by
  rw [← e]
  exact has_any node seq hv (by omega)
/-- items whose dots are of the model's numbers -/
def FitI (xs : List PItem) : Prop := xs.length ≤ 1000 ∧ ∀ x ∈ xs, dotOk x.dot
theorem fitI_of {xs : List PItem} (h : shortI xs = true) (q : ∀ x ∈ xs, itemOk x) : FitI xs := ⟨by have := (shortI_iff.1 h).1; omega, fun x hx => (q x hx).2.2.1⟩
theorem edo_mem {node seq : Int} {xs : List PItem} {l : List PEff} {x : PItem} (h : x ∈ edo node seq xs l) : x ∈ xs ∨ x ∈ own node seq l := by
  by_cases hl : l = []
  · subst hl
    exact .inl h
  · rw [edo_at node seq l xs hl] at h
    have := (mem_inorm.1 h).1
    rw [eraw_at, List.mem_append] at this
    exact this.imp (fun k => (mem_iwithout.1 k).1) id
theorem fitI_do {node seq : Int} {xs : List PItem} {l : List PEff} (h : xs.length ≤ 900 ∧ ∀ x ∈ xs, dotOk x.dot) (hs : SmallE l) (hok : effsOk node seq l) : FitI (edo node seq xs l) := by
  refine ⟨?_, fun x hx => ?_⟩
  · have := edo_len node seq l xs
    have := hs.1
    have := h.1
    omega
  · rcases edo_mem hx with k | k
    · exact h.2 x k
    · obtain ⟨e, he, rfl⟩ := own_dot k
      exact (hok e he).1
theorem edoS {node seq : Int} {u v : Value} {xs : List PItem} {l : List PEff} {w : World} (hu : SeqE LItem w u xs) (hv : SeqE LEff w v l) (hx : FitI xs) (hs : SmallE l) (hok : effsOk node seq l) : Calls Tryz.prog 12 #[u, .int .i64 node, .int .i64 seq, v] w (GivesS LItem w (edo node seq xs l)) :=
  (edo_any node seq hu hv (by have := hx.1; omega) (by have := hs.1; omega) hs.fit hx.2 hok).mono fun _ _ h => h.gives
end Go.Proofs.YthcpglbeiibniaaGreat
