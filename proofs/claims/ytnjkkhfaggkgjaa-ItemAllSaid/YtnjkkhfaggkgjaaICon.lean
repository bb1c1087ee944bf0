/- The contracts of the program's own functions of items as the walks of stage 9's laws call them. -/
import Derived.Test.YtnjkkhfaggkgjaaIUnder
import Derived.Test.YtnjkkhfaggkgjaaIForm
namespace Go.Proofs.Ytnjkkhfaggkgjaa
open Go.RowKit Plain
set_option linter.unusedVariables false
theorem SmallI.dots {xs : List PItem} (h : SmallI xs) : ∀ x ∈ xs, dotOk x.dot := fun x hx => (h.2 x hx).2
theorem SmallI.short {xs : List PItem} (h : SmallI xs) : ∀ x ∈ xs, shortB1 x = true := fun x hx => (h.2 x hx).1
theorem iformedR {x : PItem} {w : World} {r : Bool} (hx : itemOk x) (e : formedB x = r) : Calls Try.prog 11 #[itv x] w (GivesB w r) := by
  rw [← e]
  exact iformed_any x w
theorem ilessR {x y : PItem} {w : World} {r : Bool} (e : lessB x y = r) : Calls Try.prog 27 #[itv x, itv y] w (GivesB w r) := by
  rw [← e]
  exact iless_any x y w
theorem inormS {u : Value} {xs : List PItem} {w : World} (hu : SeqE LItem w u xs) (hx : SmallI xs) : Calls Try.prog 14 #[u] w (GivesS LItem w (inorm xs)) :=
  (inorm_any hu (by have := hx.1; omega) hx.dots).mono fun _ _ h => h.gives
theorem iwithoutS {u v : Value} {xs : List PItem} {ds : List PDot} {w : World} (hu : SeqE LItem w u xs) (hv : SeqE LDot w v ds) (hx : SmallI xs) (hd : ds.length ≤ 60) (hq : ∀ d ∈ ds, dotOk d) : Calls Try.prog 16 #[u, v] w (GivesS LItem w (iwithout xs ds)) :=
  (iwithout_any hu hv (by have := hx.1; omega) (by omega) hx.dots hq).mono fun _ _ h => h.gives
theorem iunderS {u v : Value} {xs : List PItem} {zs : List Txt} {w : World} (hu : SeqE LItem w u xs) (hv : SeqT w v zs) (hx : SmallI xs) (hz : SmallT zs) : Calls Try.prog 18 #[u, v] w (GivesS LItem w (iunder xs zs)) :=
  (iunder_any hu hv (by have := hx.1; omega) (by have := hz.1; omega)).mono fun _ _ h => h.gives
theorem iofS {u : Value} {xs : List PItem} {s : Txt} {w : World} (hu : SeqE LItem w u xs) (hx : SmallI xs) : Calls Try.prog 20 #[u, .string (bt s)] w (GivesN LItem w (iof xs s)) :=
  (iof_any hu (by have := hx.1; omega) s).mono fun _ _ h => h.new flat_item
theorem ikeysS {u : Value} {xs : List PItem} {w : World} (hu : SeqE LItem w u xs) (hx : SmallI xs) : Calls Try.prog 23 #[u] w (GivesT w (ikeys xs)) :=
  ikeys_any hu (by have := hx.1; omega)
theorem isizeS {u : Value} {xs : List PItem} {w : World} (hu : SeqE LItem w u xs) (hx : SmallI xs) : Calls Try.prog 25 #[u] w (GivesI w (isize xs : Int)) :=
  isize_any hu (by have := hx.1; omega) hx.short
end Go.Proofs.Ytnjkkhfaggkgjaa
