/- The contracts of the document's own functions of items as the walks of stage 9's laws call them; what a small list is. -/
import Derived.Test.YtkmiodpaanohoaaGreatRefNm
import Derived.Test.YtkmiodpaanohoaaGreatRefF
import Derived.Test.YtkmiodpaanohoaaGreatRefSame
import Derived.Test.YtkmiodpaanohoaaGreatGives
namespace Go.Proofs.YtkmiodpaanohoaaGreat
open Go.RowKit Plain
set_option linter.unusedVariables false

/-- a list of items that is looked at -/
def SmallI (xs : List PItem) : Prop := xs.length ≤ 200 ∧ ∀ x ∈ xs, shortB1 x = true ∧ dotOk x.dot
theorem smallI_of {xs : List PItem} (h : shortI xs = true) (q : ∀ x ∈ xs, itemOk x) : SmallI xs := ⟨by have := (shortI_iff.1 h).1; omega, fun x hx => ⟨(shortI_iff.1 h).2 x hx, (q x hx).2.2.1⟩⟩
theorem smallI_sub {xs ys : List PItem} (h : SmallI xs) (hl : ys.length ≤ xs.length) (hm : ∀ t ∈ ys, t ∈ xs) : SmallI ys := ⟨by have := h.1; omega, fun t ht => h.2 t (hm t ht)⟩
theorem smallI_norm {xs : List PItem} (h : SmallI xs) : SmallI (inorm xs) := smallI_sub h (inorm_len xs) fun t ht => (mem_inorm.1 ht).1
theorem smallI_filter {xs : List PItem} (h : SmallI xs) (p : PItem → Bool) : SmallI (xs.filter p) := smallI_sub h (List.length_filter_le p xs) fun t ht => (List.mem_filter.1 ht).1
theorem smallI_back {xs : List PItem} (h : SmallI xs) : SmallI xs.reverse := smallI_sub h (by simp) fun t ht => List.mem_reverse.1 ht
theorem SmallI.key {xs : List PItem} (h : SmallI xs) : ∀ x ∈ xs, x.key.length ≤ 1000000 := fun x hx => by have := (short1_iff.1 (h.2 x hx).1).1; omega
/-- a list of texts that is looked at -/
def SmallT (xs : List Txt) : Prop := xs.length ≤ 200 ∧ ∀ t ∈ xs, t.length ≤ 300
theorem SmallT.fit {xs : List Txt} (h : SmallT xs) : FitT xs := fun t ht => by have := h.2 t ht; omega
theorem smallT_of {xs : List Txt} (h : shortB xs = true) : SmallT xs := ⟨by have := (short_iff.1 h).1; omega, fun t ht => by have := (short_iff.1 h).2 t ht; omega⟩

theorem rshortR {u : Value} {xs : List PItem} {w : World} {r : Bool} (hu : SeqE LItem w u xs) (e : shortI xs = r) : Calls Tryz.prog 14 #[u] w (GivesB w r) := by
  rw [← e]
  exact (rshortI_any hu).mono fun _ _ ⟨h, hw⟩ => ⟨h, below_of_same hw⟩
theorem rsameR {u v : Value} {xs ys : List PItem} {w : World} {r : Bool} (hu : SeqE LItem w u xs) (hv : SeqE LItem w v ys) (e : decide (xs = ys) = r) : Calls Tryz.prog 9 #[u, v] w (GivesB w r) := rsameIR hu hv e
theorem rsame_eq {u v : Value} {xs ys : List PItem} {w : World} (hu : SeqE LItem w u xs) (hv : SeqE LItem w v ys) (e : xs = ys) : Calls Tryz.prog 9 #[u, v] w (GivesB w true) := rsameR hu hv (decide_eq_true e)
theorem smallI_without {xs : List PItem} (h : SmallI xs) (d : List PDot) : SmallI (iwithout xs d) := smallI_filter h _
theorem smallI_under {xs : List PItem} (h : SmallI xs) (z : List Txt) : SmallI (iunder xs z) := smallI_filter h _
theorem smallI_of_key {xs : List PItem} (h : SmallI xs) (k : Txt) : SmallI (iof xs k) := smallI_filter h _
theorem smallI_size {xs : List PItem} (h : SmallI xs) : isize xs ≤ 184800 := by
  have := isize_le (l := xs) fun x hx => short1_iff.1 (h.2 x hx).1
  have := h.1
  omega
end Go.Proofs.YtkmiodpaanohoaaGreat
