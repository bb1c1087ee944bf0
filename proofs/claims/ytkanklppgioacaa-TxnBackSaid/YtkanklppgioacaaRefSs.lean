/- What the document's own Formed of an item leaves: a walk for each way through its tests. (Written by gen-formed.py.) What the document's own Same and Short of texts leave (zone/XRefK, without Inter and Without). The contracts of the document's own functions of items as the walks of stage 9's laws call them; what a small list is. -/
import Derived.Test.YtkanklppgioacaaISets
import Derived.Test.YtkanklppgioacaaRefZs
import Derived.Deep.QuietTactic
import Derived.BigQuiet
import Derived.Test.YtkanklppgioacaaRefNm
import Derived.Test.YtkanklppgioacaaGives
namespace Go.Proofs.Ytkanklppgioacaa
open Go.RowKit Plain
set_option linter.unusedVariables false

theorem itv_eq (x : PItem) : itv x = .agg #[.string (bt x.key), .string (bt x.field), .int .i64 x.kind, .string (bt x.elem), .int .i64 x.n, .int .i64 x.dot.node, .int .i64 x.dot.seq, .int .i64 x.dot.pos] := rfl
theorem formed_dot {x : PItem} (h : dotB x.dot = false) : formedB x = false := by unfold formedB; rw [h, Bool.false_and]
theorem formed_key {x : PItem} (h : keyB x.key = false) : formedB x = false := by unfold formedB; rw [h, Bool.false_and, Bool.and_false]
theorem formed_field {x : PItem} (h : prefixB x.field = false) : formedB x = false := by unfold formedB; rw [h, Bool.false_and, Bool.and_false, Bool.and_false]
theorem formed_elem {x : PItem} (h : ¬ x.elem.length ≤ 32) : formedB x = false := by unfold formedB; rw [decide_eq_false h, Bool.false_and, Bool.and_false, Bool.and_false, Bool.and_false]
theorem formed_value {x : PItem} (h1 : dotB x.dot = true) (h2 : keyB x.key = true) (h3 : prefixB x.field = true) (h4 : x.elem.length ≤ 32) : formedB x = valueB x := by
  unfold formedB
  rw [h1, h2, h3, decide_eq_true h4]
  rfl


theorem kind_eq {a b : Int} (h : a = b) : (a == b) = true := by subst h; simp
theorem kind_ne {a b : Int} (h : ¬ a = b) : (a == b) = false := by simp [h]
end Go.Proofs.Ytkanklppgioacaa
namespace Go.Proofs.Ytkanklppgioacaa
open Go.RowKit Plain
set_option linter.unusedVariables false

/-- a list that isn't too long for a look -/
def shortB (xs : List Txt) : Bool := decide (xs.length ≤ 60) && xs.all fun t => decide (t.length ≤ 200)
theorem short_iff {xs : List Txt} : shortB xs = true ↔ xs.length ≤ 60 ∧ ∀ t ∈ xs, t.length ≤ 200 := by
  unfold shortB
  simp

end Go.Proofs.Ytkanklppgioacaa
namespace Go.Proofs.Ytkanklppgioacaa
open Go.RowKit Plain
set_option linter.unusedVariables false

/-- a list of items that is looked at -/
def SmallI (xs : List PItem) : Prop := xs.length ≤ 200 ∧ ∀ x ∈ xs, shortB1 x = true ∧ dotOk x.dot
theorem smallI_of {xs : List PItem} (h : shortI xs = true) (q : ∀ x ∈ xs, itemOk x) : SmallI xs := ⟨by have := (shortI_iff.1 h).1; omega, fun x hx => ⟨(shortI_iff.1 h).2 x hx, (q x hx).2.2.1⟩⟩
theorem smallI_sub {xs ys : List PItem} (h : SmallI xs) (hl : ys.length ≤ xs.length) (hm : ∀ t ∈ ys, t ∈ xs) : SmallI ys := ⟨by have := h.1; omega, fun t ht => h.2 t (hm t ht)⟩
theorem smallI_norm {xs : List PItem} (h : SmallI xs) : SmallI (inorm xs) := smallI_sub h (inorm_len xs) fun t ht => (mem_inorm.1 ht).1
theorem smallI_filter {xs : List PItem} (h : SmallI xs) (p : PItem → Bool) : SmallI (xs.filter p) := smallI_sub h (List.length_filter_le p xs) fun t ht => (List.mem_filter.1 ht).1
theorem smallI_back {xs : List PItem} (h : SmallI xs) : SmallI xs.reverse := smallI_sub h (by simp) fun t ht => List.mem_reverse.1 ht
theorem SmallI.key {xs : List PItem} (h : SmallI xs) : ∀ x ∈ xs, x.key.length ≤ 1000000 := fun x hx => by have := (short1_iff.1 (h.2 x hx).1).1; omega
/-- a list of texts that is looked at -/
def SmallT (xs : List Txt) : Prop := xs.length ≤ 200 ∧ ∀ t ∈ xs, t.length ≤ 300
theorem SmallT.fit {xs : List Txt} (h : SmallT xs) : FitT xs := fun t ht => by have := h.2 t ht; omega
theorem smallT_of {xs : List Txt} (h : shortB xs = true) : SmallT xs := ⟨by have := (short_iff.1 h).1; omega, fun t ht => by have := (short_iff.1 h).2 t ht; omega⟩

theorem smallI_without {xs : List PItem} (h : SmallI xs) (d : List PDot) : SmallI (iwithout xs d) := smallI_filter h _
theorem smallI_under {xs : List PItem} (h : SmallI xs) (z : List Txt) : SmallI (iunder xs z) := smallI_filter h _
theorem smallI_of_key {xs : List PItem} (h : SmallI xs) (k : Txt) : SmallI (iof xs k) := smallI_filter h _
theorem smallI_size {xs : List PItem} (h : SmallI xs) : isize xs ≤ 184800 := by
  have := isize_le (l := xs) fun x hx => short1_iff.1 (h.2 x hx).1
  have := h.1
  omega
end Go.Proofs.Ytkanklppgioacaa
