/- The contracts of the program's own functions of texts as the walks of stage 8's laws call them. -/
import Derived.Test.YtklgnmhbfdjoeaaZIn
namespace Go.Proofs.Ytklgnmhbfdjoeaa
open Go.RowKit Plain
set_option linter.unusedVariables false

/-- of at most 36 texts Norm is the document's own -/
theorem few {w : World} {xs : List Txt} {e : Ending} {w' : World} (hl : xs.length ≤ 36) (h : GivesE w (nV xs) (nE xs) e w') : GivesE w (normV xs) (normE xs) e w' := by
  have e1 : normV xs = nV xs := (nV_few hl).symm
  rw [e1, ← nE_few hl]
  exact h
theorem znormS {v : Value} {xs : List Txt} {w : World} (hv : SeqT w v xs) (hx : Small xs) (hl : xs.length ≤ 36) : Calls Try.prog 10 #[v] w (GivesE w (normV xs) (normE xs)) :=
  (znorm_any hv (by omega)).mono fun _ _ h => few hl h
theorem zunionS {u v : Value} {xs ys : List Txt} {w : World} (hu : SeqT w u xs) (hv : SeqT w v ys) (hx : Small xs) (hy : Small ys) (hl : (xs ++ ys).length ≤ 36) : Calls Try.prog 14 #[u, v] w (GivesE w (normV (xs ++ ys)) (normE (xs ++ ys))) :=
  (zunion_any hu hv (by have := hx.1; omega) (by have := hy.1; omega)).mono fun _ _ h => few hl h
theorem zinterS {u v : Value} {xs ys : List Txt} {w : World} (hu : SeqT w u xs) (hv : SeqT w v ys) (hx : Small xs) (hy : Small ys) : Calls Try.prog 15 #[u, v] w (GivesT w (inter xs ys)) :=
  zinter_any hu hv (by have := hx.1; omega) (by have := hy.1; omega)
theorem zwithoutS {u v : Value} {xs ys : List Txt} {w : World} (hu : SeqT w u xs) (hv : SeqT w v ys) (hx : Small xs) (hy : Small ys) : Calls Try.prog 17 #[u, v] w (GivesT w (without xs ys)) :=
  zwithout_any hu hv (by have := hx.1; omega) (by have := hy.1; omega)
theorem zwithinR {u v : Value} {xs ys : List Txt} {w : World} {r : Bool} (hu : SeqT w u xs) (hv : SeqT w v ys) (hx : Small xs) (hy : Small ys) (e : withinZ xs ys = r) : Calls Try.prog 19 #[u, v] w (GivesB w r) := by
  rw [← e]
  exact zwithin_any hu hv (by have := hx.1; omega) (by have := hy.1; omega)
theorem zcoversR {v : Value} {xs : List Txt} {w : World} {s : Txt} {r : Bool} (hv : SeqT w v xs) (hx : Small xs) (hs : s.length ≤ 200) (e : covers xs s = r) : Calls Try.prog 21 #[v, .string (bt s)] w (GivesB w r) := by
  rw [← e]
  exact zcovers_any hv (by have := hx.1; omega) s
theorem zkeyR {w : World} {s : Txt} {r : Bool} (hs : s.length ≤ 200) (e : keyB s = r) : Calls Try.prog 23 #[.string (bt s)] w (GivesB w r) := by
  rw [← e]
  exact (zkey_any s w).mono fun _ _ ⟨h, hw⟩ => ⟨h, by rw [hw]; exact Below.refl _ _⟩
theorem zrightR {v : Value} {xs : List Txt} {w : World} {r : Bool} (hv : SeqT w v xs) (hx : Small xs) (e : rightB xs = r) : Calls Try.prog 13 #[v] w (GivesB w r) := by
  rw [← e]
  exact (zright_any hv (by have := hx.1; omega)).mono fun _ _ ⟨h, hw⟩ => ⟨h, below_of_drawn hw⟩
end Go.Proofs.Ytklgnmhbfdjoeaa
