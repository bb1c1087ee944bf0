/- The contracts of the document's own functions of texts as the walks of stage 8's laws call them; what a small list is. -/
import Derived.Test.YtklgnmhbfdjoeaaRefJ
import Derived.Test.YtklgnmhbfdjoeaaRefM
import Derived.Test.YtklgnmhbfdjoeaaOpenZ
namespace Go.Proofs.Ytklgnmhbfdjoeaa
open Go.RowKit Plain
set_option linter.unusedVariables false

/-- a list that is looked at -/
def Small (xs : List Txt) : Prop := xs.length ≤ 200 ∧ ∀ t ∈ xs, t.length ≤ 200
theorem Small.fit {xs : List Txt} (h : Small xs) : FitT xs := fun t ht => by have := h.2 t ht; omega
theorem small_of {xs : List Txt} (h : shortB xs = true) : Small xs := ⟨by have := (short_iff.1 h).1; omega, (short_iff.1 h).2⟩
theorem small_nil : Small [] := ⟨by simp, fun _ h => absurd h (by simp)⟩
theorem small_sub {xs ys : List Txt} (h : Small xs) (hl : ys.length ≤ xs.length) (hm : ∀ t ∈ ys, t ∈ xs) : Small ys := ⟨by have := h.1; omega, fun t ht => h.2 t (hm t ht)⟩
theorem small_least {xs : List Txt} (h : Small xs) : Small (least xs) := small_sub h (least_len xs) fun t ht => (mem_least.1 ht).1
theorem small_norm {xs : List Txt} (h : Small xs) : Small (normV xs) := by unfold normV; split; exact small_least h; exact small_nil
theorem small_without {xs : List Txt} (h : Small xs) (ys : List Txt) : Small (without xs ys) := small_sub h (without_len xs ys) fun t ht => (mem_without.1 ht).1
/-- a list for a look: at most 60 texts -/
theorem short_both {xs ys : List Txt} (h : shortB xs = true) (g : shortB ys = true) : Small (xs ++ ys) := by
  obtain ⟨h1, h2⟩ := short_iff.1 h
  obtain ⟨g1, g2⟩ := short_iff.1 g
  refine ⟨by rw [List.length_append]; omega, fun t ht => ?_⟩
  rcases List.mem_append.1 ht with ht | ht
  · exact h2 t ht
  · exact g2 t ht
theorem short_inter {xs ys : List Txt} (h : shortB xs = true) (g : shortB ys = true) : Small (inter xs ys) :=
  small_sub (short_both h g) (by have := inter_len xs ys; rw [List.length_append]; exact this) fun t ht => by
    rw [List.mem_append]
    exact (mem_inter.1 ht).elim (fun h => .inl h.1) (fun h => .inr h.1)

/-! ### what a call answers: a list, a bool, a list and an error -/
def GivesT (w : World) (xs : List Txt) (e : Ending) (w' : World) : Prop := ∃ v, e = .returned v ∧ SeqT w' v xs ∧ Below w.heap.size w w'
def GivesB (w : World) (r : Bool) (e : Ending) (w' : World) : Prop := e = .returned (.bool r) ∧ Below w.heap.size w w'
def GivesE (w : World) (xs : List Txt) (n : Nat) (e : Ending) (w' : World) : Prop := ∃ v, e = .returned (.tuple #[v, .int .i64 (n : Int)]) ∧ SeqT w' v xs ∧ Below w.heap.size w w'
theorem MadeT.gives {w : World} {xs : List Txt} {e : Ending} {w' : World} (h : MadeT w xs e w') : GivesT w xs e w' := by
  obtain ⟨v, he, ho, hb⟩ := h
  exact ⟨v, he, ho.seq, hb⟩
theorem below_of_drawn {w w' : World} (h : ∃ n, w' = w.drewN n) : Below w.heap.size w w' := by
  obtain ⟨n, rfl⟩ := h
  exact below_drewN (Below.refl _ _) n

theorem rcoversR {v : Value} {xs : List Txt} {w : World} {s : Txt} {r : Bool} (hv : SeqT w v xs) (hx : Small xs) (hs : s.length ≤ 200) (e : covers xs s = r) : Calls Try.prog 22 #[v, .string (bt s)] w (GivesB w r) := by
  rw [← e]
  exact (rcovers_any hv hx.fit (by have := hx.1; omega) s (by omega)).mono fun _ _ ⟨h, hw⟩ => ⟨h, below_of_drawn hw⟩
theorem rkeyR {w : World} {s : Txt} {r : Bool} (hs : s.length ≤ 200) (e : keyB s = r) : Calls Try.prog 24 #[.string (bt s)] w (GivesB w r) := by
  rw [← e]
  exact (rkey_any s (by omega) w).mono fun _ _ ⟨h, hw⟩ => ⟨h, by rw [hw]; exact Below.refl _ _⟩
theorem rnormS {v : Value} {xs : List Txt} {w : World} (hv : SeqT w v xs) (hx : Small xs) : Calls Try.prog 11 #[v] w (GivesE w (normV xs) (normE xs)) :=
  (rnorm_any hv hx.fit (by have := hx.1; omega)).mono fun _ _ ⟨u, h, ho, hb⟩ => ⟨u, h, ho.seq, hb⟩
theorem rinterS {u v : Value} {xs ys : List Txt} {w : World} (hu : SeqT w u xs) (hv : SeqT w v ys) (hx : Small xs) (hy : Small ys) : Calls Try.prog 16 #[u, v] w (GivesT w (inter xs ys)) :=
  (rinter_any hu hv hx.fit hy.fit (by have := hx.1; omega) (by have := hy.1; omega)).mono fun _ _ h => h.gives
theorem rwithoutS {u v : Value} {xs ys : List Txt} {w : World} (hu : SeqT w u xs) (hv : SeqT w v ys) (hx : Small xs) (hy : Small ys) : Calls Try.prog 18 #[u, v] w (GivesT w (without xs ys)) :=
  (rwithout_any hu hv hx.fit hy.fit (by have := hx.1; omega) (by have := hy.1; omega)).mono fun _ _ h => h.gives
theorem rwithinR {u v : Value} {xs ys : List Txt} {w : World} {r : Bool} (hu : SeqT w u xs) (hv : SeqT w v ys) (hx : Small xs) (hy : Small ys) (e : withinZ xs ys = r) : Calls Try.prog 20 #[u, v] w (GivesB w r) := by
  rw [← e]
  exact rwithinZ_any hu hv hx.fit hy.fit (by have := hx.1; omega) (by have := hy.1; omega)
theorem rsameR {u v : Value} {xs ys : List Txt} {w : World} {r : Bool} (hu : SeqT w u xs) (hv : SeqT w v ys) (e : decide (xs = ys) = r) : Calls Try.prog 12 #[u, v] w (GivesB w r) := by
  rw [← e]
  exact (rsameT_any hu hv).mono fun _ _ ⟨h, hw⟩ => ⟨h, below_of_drawn hw⟩
theorem rsame_eq {u v : Value} {xs ys : List Txt} {w : World} (hu : SeqT w u xs) (hv : SeqT w v ys) (e : xs = ys) : Calls Try.prog 12 #[u, v] w (GivesB w true) := rsameR hu hv (decide_eq_true e)

/-- is it a zone in its one form? -/
def rightB (xs : List Txt) : Bool := decide (normE xs = 0) && decide (normV xs = xs)
theorem right_iff {xs : List Txt} : rightB xs = true ↔ Zone xs := by
  unfold rightB
  rw [Bool.and_eq_true, decide_eq_true_iff, decide_eq_true_iff, zone_iff]
  constructor
  · rintro ⟨h, g⟩
    unfold normV at g
    rw [if_pos h] at g
    exact ⟨h, g⟩
  · rintro ⟨h, g⟩
    unfold normV
    rw [if_pos h]
    exact ⟨h, g⟩
theorem normV_ok {xs : List Txt} (h : normE xs = 0) : normV xs = least xs := by unfold normV; rw [if_pos h]
theorem normV_err {xs : List Txt} (h : ¬ normE xs = 0) : normV xs = [] := by unfold normV; rw [if_neg h]
theorem normE_small (xs : List Txt) : normE xs ≤ 4 := by unfold normE; split; split <;> omega; omega

/-- append([]string{}, a...): the same in memory of its own -/
theorem seqT_copy {w w1 : World} {v' : Value} {xs : List Txt} {o : Obj} (ho : OwnsT w.heap.size w1 v' ([] ++ xs)) : SeqT w1 v' xs := ho.seq
end Go.Proofs.Ytklgnmhbfdjoeaa
