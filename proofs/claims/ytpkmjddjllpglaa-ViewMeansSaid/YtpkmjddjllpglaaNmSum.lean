/- Sums of lists of integers, by their upper and lower halves; for all lists. -/
import Derived.Test.YtpkmjddjllpglaaNmBits
namespace Go.Proofs.Ytpkmjddjllpglaa.Nm.Plain

/-- an integer of 64 bits -/
def fits (n : Int) : Prop := -9223372036854775808 ≤ n ∧ n ≤ 9223372036854775807
instance (n : Int) : Decidable (fits n) := by unfold fits; infer_instance
/-- what a sum answers: itself and 0, or 0 and 5 -/
def sumV (n : Int) : Int := if fits n then n else 0
def sumE (n : Int) : Int := if fits n then 0 else 5

def tot (l : List Int) : Int := l.foldr (· + ·) 0
def ups (l : List Int) : Int := tot (l.map (· / 4294967296))
def los (l : List Int) : Int := tot (l.map (· % 4294967296))

theorem tot_nil : tot [] = 0 := rfl
theorem tot_cons (a : Int) (l : List Int) : tot (a :: l) = a + tot l := rfl
theorem tot_append (l m : List Int) : tot (l ++ m) = tot l + tot m := by
  induction l with
  | nil => simp [tot_nil]
  | cons a l ih => simp only [List.cons_append, tot_cons, ih]; omega
theorem take_snoc (zs : List Int) (k : Nat) (h : k < zs.length) : zs.take (k + 1) = zs.take k ++ [zs.getD k 0] := by
  rw [List.take_add_one]; simp [List.getD, List.getElem?_eq_getElem h]
theorem tot_snoc (zs : List Int) (k : Nat) (h : k < zs.length) : tot (zs.take (k + 1)) = tot (zs.take k) + zs.getD k 0 := by
  rw [take_snoc zs k h, tot_append]; simp [tot_cons, tot_nil]
theorem ups_snoc (zs : List Int) (k : Nat) (h : k < zs.length) : ups (zs.take (k + 1)) = ups (zs.take k) + zs.getD k 0 / 4294967296 := by
  rw [take_snoc zs k h]; unfold ups; rw [List.map_append, tot_append]; simp [tot_cons, tot_nil]
theorem los_snoc (zs : List Int) (k : Nat) (h : k < zs.length) : los (zs.take (k + 1)) = los (zs.take k) + zs.getD k 0 % 4294967296 := by
  rw [take_snoc zs k h]; unfold los; rw [List.map_append, tot_append]; simp [tot_cons, tot_nil]

theorem tot_halves (l : List Int) : tot l = ups l * 4294967296 + los l := by
  induction l with
  | nil => rfl
  | cons a l ih =>
    unfold ups los at *
    simp only [List.map_cons, tot_cons, ih]
    omega
theorem los_bd (l : List Int) : 0 ≤ los l ∧ los l ≤ l.length * 4294967296 := by
  induction l with
  | nil => simp [los, tot_nil]
  | cons a l ih =>
    unfold los at *
    simp only [List.map_cons, tot_cons, List.length_cons]
    omega
theorem ups_bd (l : List Int) (h : ∀ n ∈ l, fits n) : -(l.length * 2147483648) ≤ ups l ∧ ups l ≤ l.length * 2147483648 := by
  induction l with
  | nil => simp [ups, tot_nil]
  | cons a l ih =>
    have ih := ih (fun n hn => h n (List.mem_cons_of_mem _ hn))
    have ha := h a List.mem_cons_self
    unfold ups fits at *
    simp only [List.map_cons, tot_cons, List.length_cons]
    omega
/-- the sum fits just where its upper half does -/
theorem fits_halves (u l : Int) : fits (u * 4294967296 + l) ↔ -2147483648 ≤ u + l / 4294967296 ∧ u + l / 4294967296 ≤ 2147483647 := by
  unfold fits; omega
theorem join_halves (u l : Int) : (u + l / 4294967296) * 4294967296 + l % 4294967296 = u * 4294967296 + l := by omega

theorem add_no (a b : Int) (h : ¬ fits (a + b)) : sumV (a + b) = 0 ∧ sumE (a + b) = 5 := by simp [sumV, sumE, h]
theorem add_yes (a b : Int) (h : fits (a + b)) : sumV (a + b) = a + b ∧ sumE (a + b) = 0 := by simp [sumV, sumE, h]
end Go.Proofs.Ytpkmjddjllpglaa.Nm.Plain
