/- Signs and halves of 64-bit integers under xor, and, or, as the model reckons them; for all integers within 64 bits. Sums of lists of integers, by their upper and lower halves; for all lists. -/
import Derived.Laws.BitsLemmas
import Derived.Laws.BitsAllLaws
namespace Go.Proofs.YtkanklppgioacaaGreat.Nm.Plain

end Go.Proofs.YtkanklppgioacaaGreat.Nm.Plain
namespace Go.Proofs.YtkanklppgioacaaGreat.Nm.Plain

/-- an integer of 64 bits -/
def fits (n : Int) : Prop := -9223372036854775808 ≤ n ∧ n ≤ 9223372036854775807
instance (n : Int) : Decidable (fits n) := by unfold fits; infer_instance
/-- what a sum answers: itself and 0, or 0 and 5 -/
def sumV (n : Int) : Int := if fits n then n else 0
def sumE (n : Int) : Int := if fits n then 0 else 5

def tot (l : List Int) : Int := l.foldr (· + ·) 0
theorem tot_cons (a : Int) (l : List Int) : tot (a :: l) = a + tot l := rfl
end Go.Proofs.YtkanklppgioacaaGreat.Nm.Plain
