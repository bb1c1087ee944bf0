/- The contracts as the walks of the laws call them. -/
import Derived.Test.YtogmafopgglelaaAwakeV
namespace Go.Proofs.Ytogmafopgglelaa
open Go.RowKit Plain
set_option linter.unusedVariables false

theorem equalB {u v : Value} {xs ys : Ints} {w : World} (hs : SeqI w u xs) (ht : SeqI w v ys) (e : xs = ys) :
    Calls Try.prog 12 #[u, v] w fun e w' => e = .returned (.bool true) ∧ Below w.heap.size w w' :=
  (requal_yes hs (e ▸ ht)).mono fun _ _ ⟨h, n, hw⟩ => ⟨h, by rw [hw]; exact below_drewN (Below.refl _ _) n⟩
theorem equalR {u v : Value} {xs ys : Ints} {w : World} {r : Bool} (hs : SeqI w u xs) (ht : SeqI w v ys) (e : decide (xs = ys) = r) :
    Calls Try.prog 12 #[u, v] w fun e w' => e = .returned (.bool r) ∧ Below w.heap.size w w' :=
  (requal_any hs ht).mono fun _ _ ⟨h, n, hw⟩ => ⟨by rw [h, e], by rw [hw]; exact below_drewN (Below.refl _ _) n⟩
theorem withinR {u v : Value} {xs ys : Ints} {w : World} {r : Bool} (hs : SeqI w u xs) (ht : SeqI w v ys) (hl : xs.length ≤ 100) (e : Plain.within xs ys = r) :
    Calls Try.prog 20 #[u, v] w fun e w' => e = .returned (.bool r) ∧ w = w' :=
  (within_any hs ht (by omega)).mono fun _ _ ⟨h, hw⟩ => ⟨by rw [h, e], hw⟩
theorem rwithinR {u v : Value} {xs ys : Ints} {w : World} {r : Bool} (hs : SeqI w u xs) (ht : SeqI w v ys) (hl : xs.length ≤ 100) (hm : ys.length ≤ 100) (e : Plain.within xs ys = r) :
    Calls Try.prog 21 #[u, v] w fun e w' => e = .returned (.bool r) ∧ Below w.heap.size w w' :=
  (rwithin_any hs ht (by omega) (by omega)).mono fun _ _ ⟨h, hw⟩ => ⟨by rw [h, e], hw⟩
theorem joinS {u v : Value} {xs ys : Ints} {w : World} (hs : SeqI w u xs) (ht : SeqI w v ys) (hl : xs.length ≤ 100) (hm : ys.length ≤ 100) : Calls Try.prog 17 #[u, v] w (MadeI w (join xs ys)) := join_any hs ht (by omega) (by omega)
theorem meetS {u v : Value} {xs ys : Ints} {w : World} (hs : SeqI w u xs) (ht : SeqI w v ys) (hl : xs.length ≤ 100) (hm : ys.length ≤ 100) : Calls Try.prog 19 #[u, v] w (MadeI w (meet xs ys)) := meet_any hs ht (by omega) (by omega)
theorem trimS {u : Value} {xs : Ints} {w : World} (hs : SeqI w u xs) (hl : xs.length ≤ 100) : Calls Try.prog 15 #[u] w (MadeI w (trim xs)) := trim_any hs (by omega)
theorem rjoinS {u v : Value} {xs ys : Ints} {w : World} (hs : SeqI w u xs) (ht : SeqI w v ys) (hl : xs.length ≤ 100) (hm : ys.length ≤ 100) : Calls Try.prog 18 #[u, v, .bool true] w (MadeI w (join xs ys)) := rjoin_any hs ht (by omega) (by omega)
theorem rmeetS {u v : Value} {xs ys : Ints} {w : World} (hs : SeqI w u xs) (ht : SeqI w v ys) (hl : xs.length ≤ 100) (hm : ys.length ≤ 100) : Calls Try.prog 18 #[u, v, .bool false] w (MadeI w (meet xs ys)) := rmeet_any hs ht (by omega) (by omega)
theorem rtrimS {u : Value} {xs : Ints} {w : World} (hs : SeqI w u xs) (hl : xs.length ≤ 100) : Calls Try.prog 16 #[u] w (MadeI w (trim xs)) := rtrim_any hs (by omega)
theorem join100 {xs ys : Ints} (h : xs.length ≤ 100) (g : ys.length ≤ 100) : (join xs ys).length ≤ 100 := by have := join_len xs ys; omega
theorem meet100 {xs ys : Ints} (h : xs.length ≤ 100) (g : ys.length ≤ 100) : (meet xs ys).length ≤ 100 := by have := meet_len xs ys; omega
theorem trim100 {xs : Ints} (h : xs.length ≤ 100) : (trim xs).length ≤ 100 := by have := trim_len xs; omega
theorem within_and {xs ys zs ts : Ints} {p q : Ints} (h : Within xs ys ↔ Within zs ts ∧ Within p q) : Plain.within xs ys = (Plain.within zs ts && Plain.within p q) := by
  rw [Bool.eq_iff_iff, Bool.and_eq_true, Plain.within_iff, Plain.within_iff, Plain.within_iff]
  exact h
theorem within_eq {xs ys p q : Ints} (h : Within xs ys ↔ p = q) : decide (p = q) = Plain.within xs ys := by
  rw [Bool.eq_iff_iff, Plain.within_iff, decide_eq_true_iff]
  exact h.symm

/-- a vector that came in, cut: what few makes of it -/
theorem few_of {w : World} {a : Option Addr} {n c : Nat} {z : List Int} (h : IsRow .i64 w a n c z) :
    ∃ (xs : Ints) (m : Nat), xs.length ≤ 100 ∧ SeqI w (.slice a m c) xs ∧ ∀ u, Calls Try.prog 8 #[.slice a n c] u fun e w' => e = .returned (.slice a m c) ∧ u = w' := by
  obtain ⟨xs, m, hm, hl, s, hlt, hc⟩ := row_cutI h 100
  refine ⟨xs, m, by omega, s, fun u => few_any a n c m u (by omega) ?_ (by omega)⟩
  have := s.dims
  omega

/-! ### With, refused or not, in one contract -/
def badW (a n : Int) : Prop := a < 0 ∨ 8 ≤ a ∨ n < 0 ∨ 1073741824 < n
instance (a n : Int) : Decidable (badW a n) := by unfold badW; exact inferInstance
def errW (a n : Int) : Int := if badW a n then 1 else 0
def vecW (xs : Ints) (a n : Int) : Ints := if badW a n then [] else withN xs a.toNat n
theorem withS {v : Value} {xs : Ints} {w : World} (hs : SeqI w v xs) (hl : xs.length ≤ 100) (a n : Int) :
    Calls Try.prog 10 #[v, .int .i64 a, .int .i64 n] w fun e w' => ∃ u, e = .returned (.tuple #[u, .int .i64 (errW a n)]) ∧ SeqI w' u (vecW xs a n) ∧ Below w.heap.size w w' := by
  unfold errW vecW
  by_cases h : badW a n
  · rw [if_pos h, if_pos h]
    exact (with_err hs a n h).mono fun _ w' ⟨he, hb⟩ => ⟨_, he, SeqI.nil w', hb⟩
  · rw [if_neg h, if_neg h]
    unfold badW at h
    obtain ⟨k, rfl⟩ : ∃ k : Nat, a = (k : Int) := ⟨a.toNat, by omega⟩
    exact (with_ok hs (by omega) (by omega) (by omega) (by omega)).mono fun _ _ ⟨u, he, ho, hb⟩ => ⟨u, he, ho.seq, hb⟩
theorem rwithS {v : Value} {xs : Ints} {w : World} (hs : SeqI w v xs) (hl : xs.length ≤ 100) (a n : Int) :
    Calls Try.prog 11 #[v, .int .i64 a, .int .i64 n] w fun e w' => ∃ u, e = .returned (.tuple #[u, .int .i64 (errW a n)]) ∧ SeqI w' u (vecW xs a n) ∧ Below w.heap.size w w' := by
  unfold errW vecW
  by_cases h : badW a n
  · rw [if_pos h, if_pos h]
    exact (rwith_err v a n w (by unfold badW at h; omega)).mono fun _ w' ⟨he, m, hw⟩ => ⟨_, he, SeqI.nil w', by rw [hw]; exact below_drewN (Below.refl _ _) m⟩
  · rw [if_neg h, if_neg h]
    unfold badW at h
    obtain ⟨k, rfl⟩ : ∃ k : Nat, a = (k : Int) := ⟨a.toNat, by omega⟩
    exact (rwith_ok hs (by omega) (by omega) (by omega) (by omega)).mono fun _ _ ⟨u, he, ho, hb⟩ => ⟨u, he, ho.seq, hb⟩
theorem saysI_with (xs : Ints) (k : Nat) (n : Int) (hn : 0 ≤ n) (o : Int) : saysI (withN xs k n) o = if o = (k : Int) then n else saysI xs o := by
  unfold saysI
  by_cases h : 0 ≤ o
  · rw [if_pos h, if_pos h, with_says xs k n hn]
    unfold withF
    by_cases g : o = (k : Int)
    · rw [if_pos g, if_pos (by omega)]
    · rw [if_neg g, if_neg (by omega)]
  · rw [if_neg h, if_neg h, if_neg (by omega)]
theorem with100 {xs : Ints} {k : Nat} {n : Int} (h : xs.length ≤ 100) (hk : k ≤ 7) : (withN xs k n).length ≤ 100 := by have := with_len xs k n; omega
theorem atS {v : Value} {xs : Ints} {w : World} {n r : Int} (hs : SeqI w v xs) (e : saysI xs n = r) : Calls Try.prog 13 #[v, .int .i64 n] w fun e w' => e = .returned (.int .i64 r) ∧ w = w' := by rw [← e]; exact at_any hs n
theorem ratS {v : Value} {xs : Ints} {w : World} {n r : Int} (hs : SeqI w v xs) (e : saysI xs n = r) : Calls Try.prog 14 #[v, .int .i64 n] w fun e w' => e = .returned (.int .i64 r) ∧ w = w' := by rw [← e]; exact rat_any hs n
theorem hasS {v : Value} {xs : Ints} {w : World} {p q r : Int} {b : Bool} (hs : SeqI w v xs) (e : (decide (1 ≤ q) && decide (q ≤ saysI xs p)) = b) :
    Calls Try.prog 22 #[v, .agg #[.int .i64 p, .int .i64 q, .int .i64 r]] w fun e w' => e = .returned (.bool b) ∧ Below w.heap.size w w' := by rw [← e]; exact has_any hs p q r
theorem rcopyS {u : Value} {xs : Ints} {w : World} (hs : SeqI w u xs) (hl : xs.length ≤ 100) : Calls Try.prog 9 #[u] w (MadeI w xs) := rcopy_any hs (by omega)

/-- a variable that is a dot -/
def IsDotB (w : World) (g : Nat) (p q r : Int) : Prop := w.cell? ⟨g, 0, none⟩ = some (.int .i64 p) ∧ w.cell? ⟨g, 1, none⟩ = some (.int .i64 q) ∧ w.cell? ⟨g, 2, none⟩ = some (.int .i64 r)
theorem IsDotB.below {w w' : World} {g : Nat} {p q r : Int} (h : IsDotB w g p q r) (hb : Below w.heap.size w w') : IsDotB w' g p q r :=
  ⟨cell_below h.1 hb (Nat.le_refl _), cell_below h.2.1 hb (Nat.le_refl _), cell_below h.2.2 hb (Nat.le_refl _)⟩
theorem IsDotB.new (w : World) (p q r : Int) (t : TypeId) : IsDotB (w.alloc (.cells #[.int .i64 p, .int .i64 q, .int .i64 r] t)) w.heap.size p q r :=
  ⟨cell_of_row _ _ 0 _ _ _ (heap_alloc_new w _), cell_of_row _ _ 1 _ _ _ (heap_alloc_new w _), cell_of_row _ _ 2 _ _ _ (heap_alloc_new w _)⟩
theorem holdV {w u u' : World} {R : Prop} (h : Below w.heap.size w u ∧ R) (hb : Below u.heap.size u u') : Below w.heap.size w u' := h.1.trans (hb.mono h.1.size)
end Go.Proofs.Ytogmafopgglelaa
