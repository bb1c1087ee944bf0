/- What strings.HasPrefix, slices.ContainsFunc, BinarySearch, Clone, DeleteFunc leave of texts: off the contracts that YtmknpmamkjjiaaaGreatShelf lays. -/
import Derived.Test.YtmknpmamkjjiaaaGreatShelfS
import Derived.Test.YtmknpmamkjjiaaaGreatGives
import Derived.Test.YtmknpmamkjjiaaaGreatMaths
import Derived.Test.YtmknpmamkjjiaaaGreatShelf
namespace Go.Proofs.YtmknpmamkjjiaaaGreat
open Go.RowKit Plain
set_option linter.unusedVariables false

/-- strings.HasPrefix -/
theorem hasPrefix_any (s p : Txt) (w : World) : Calls Tryz.prog 103 #[.string (bt s), .string (bt p)] w fun e w' => e = .returned (.bool (beg s p)) ∧ w' = w :=
 Tryz.strings_HasPrefix (bt s) (bt p) w
theorem hasPrefixL (s p : Txt) (w : World) : Calls Tryz.prog 103 #[.string (bt s), .string (bt p)] w fun e w' => e = .returned (.bool (beg s p)) ∧ w = w' :=
 (hasPrefix_any s p w).mono fun _ _ ⟨h, e⟩ => ⟨h, e.symm⟩
/-- slices.BinarySearch of rising texts: where s stands, and whether it is there -/
theorem search_texts {v : Value} {zs : List Txt} {w : World} (hv : SeqT w v zs) (hr : Rising zs) (hn : zs.length ≤ 1000000) (s : Txt) :
  ∃ k, k ≤ zs.length ∧ (∀ j, j < k → zs.getD j [] < s) ∧ (∀ j, k ≤ j → j < zs.length → ¬ zs.getD j [] < s) ∧
  Calls Tryz.prog 59 #[v, .string (bt s)] w fun e w' => e = .returned (.tuple #[.int .i64 (k : Int), .bool (decide (k < zs.length ∧ zs.getD k [] = s))]) ∧ ∃ q, w' = w.drewN q := by
 obtain ⟨k, hk, h1, h2⟩ := parted hr s
 refine ⟨k, hk, h1, h2, ?_⟩
 by_cases h0 : 0 < zs.length
 ·obtain ⟨b, o, c, rfl, -, -, -, hc⟩ := hv.spot h0
  have K := Tryz.slices_BinarySearch_string b o zs.length c (fun j => if j < zs.length then bt (zs.getD j []) else bt s) (bt s) w (by omega) (fun j hj => by rw [hc j hj, if_pos hj]; rfl)
  have e : Lib.bsGo (fun t => Op.bytesLess ((fun j => if j < zs.length then bt (zs.getD j []) else bt s) t).toList (bt s).toList) zs.length 0 zs.length = k := by
   refine Lib.bsGo_spec _ k (fun t ht => ?_) (fun t ht => ?_) zs.length 0 zs.length (by omega) (Nat.zero_le _) hk
   ·show Op.bytesLess (if t < zs.length then bt (zs.getD t []) else bt s).toList (bt s).toList = true
    rw [if_pos (by omega), text_lt, decide_eq_true (h1 t ht)]
   ·show Op.bytesLess (if t < zs.length then bt (zs.getD t []) else bt s).toList (bt s).toList = false
    split
    ·rename_i h
     rw [text_lt, decide_eq_false (h2 t ht h)]
    ·rw [text_lt, decide_eq_false (lt_irrefl s)]
  rw [e] at K
  refine K.mono fun _ _ ⟨h, hw⟩ => ⟨?_, hw⟩
  rw [h]
  have ed : decide (k < zs.length ∧ (if k < zs.length then bt (zs.getD k []) else bt s) = bt s) = decide (k < zs.length ∧ zs.getD k [] = s) := decide_eq_decide.2 ⟨fun ⟨g1, g2⟩ => by
   refine ⟨g1, ?_⟩
   rw [if_pos g1] at g2
   exact bt_inj g2, fun ⟨g1, g2⟩ => by
   refine ⟨g1, ?_⟩
   rw [if_pos g1, g2]⟩
  rw [← ed]
 ·obtain rfl : zs = [] := List.eq_nil_of_length_eq_zero (by omega)
  obtain ⟨a, cap, rfl, -⟩ := hv.parts
  obtain rfl : k = 0 := by simpa using hk
  exact (Tryz.slices_BinarySearch_string_empty a cap (bt s) w).mono fun _ _ ⟨h, e⟩ => ⟨h, 0, e⟩

/-- slices.Clone of texts -/
theorem clone_texts {v : Value} {xs : List Txt} {w : World} (hv : SeqT w v xs) (hx : xs.length ≤ 1000000) : Calls Tryz.prog 105 #[v] w (MadeT w xs) := by
 obtain ⟨a, cap, rfl, g1, g2, g0, h⟩ := hv.parts
 cases a with
 | none =>
  obtain rfl := g0 rfl
  obtain rfl : xs = [] := List.eq_nil_of_length_eq_zero (by omega)
  exact (Tryz.slices_Clone_string_nil _ _ w).mono fun _ _ ⟨he, hw⟩ => ⟨_, he, OwnsT.nil _ _, by rw [hw]; exact Below.refl _ _⟩
 | some ad =>
  by_cases hp : 0 < xs.length
  ·obtain ⟨b, o, c, hv, -, -, -, hc⟩ := h.spot hp
   simp only [Value.slice.injEq, Option.some.injEq] at hv
   obtain ⟨rfl, -, rfl⟩ := hv
   refine (Tryz.slices_Clone_string b o xs.length cap (xs.map bt) w (by simp) (by omega) (fun j hj => ?_)).mono fun _ _ ⟨v', he, ho, _, hb⟩ => ⟨v', he, ?_, hb⟩
   ·rw [List.length_map] at hj
    rw [hc j hj]
    simp [List.getD, hj, tv]
   ·unfold OwnsT
    have e : ((xs.map bt).take xs.length).map Value.string = xs.map tv := by
     rw [List.take_of_length_le (by simp), List.map_map]
     rfl
    rw [e] at ho
    exact ho
  ·obtain rfl : xs = [] := List.eq_nil_of_length_eq_zero (by omega)
   exact (Tryz.slices_Clone_string_zero ad cap w).mono fun _ _ ⟨v', he, ho, _, hb⟩ => ⟨v', he, ho, hb⟩

set_option maxHeartbeats 1000000 in
/-- slices.DeleteFunc of nothing -/
theorem delete_none (fv : Value) (w : World) : Calls Tryz.prog 86 #[.slice none 0 0, fv] w fun e w' => e = .returned (.slice none 0 0) ∧ w = w' := by
 have K := Tryz.slices_IndexFunc_empty (α := Txt) none 0 fv w
 go_enter Tryz.func86, Tryz.ntmps86
 go_wp2_with fail
 refine K.mono ?_
 rintro e w' ⟨rfl, rfl⟩
 go_wp2_with fail
 go_ret
 exact ⟨rfl, rfl⟩

/-- slices.DeleteFunc of a row of texts: those are struck of which p holds; what is asked of the function: that it tells p in every later world in which what lay below B stands -/
theorem delete_texts {B : Nat} {v : Value} {xs : List Txt} {w0 w : World} (hv : RowT B w v xs) (hb : Below B w0 w) (hB : B ≤ w.heap.size) (hx : xs.length ≤ 1000000) (p : Txt → Bool) (g : Nat) (lb : Array Value)
  (eg : ∀ args w, (callFunc g args).run Tryz.prog w = .ok (.enter g args) w) (hp : ∀ (W : World) (x : Txt), Below B w0 W → FnGives Tryz.prog g lb #[tv x] (.bool (p x)) W) :
  Calls Tryz.prog 86 #[v, .func (.func g) #[] lb] w fun e w' => ∃ u, e = .returned u ∧ RowT B w' u (xs.filter fun x => !p x) ∧ Below B w0 w' := by
 rcases hv with ⟨rfl, rfl⟩ | ⟨k, off, c, rfl, h1, h2, h3, h4, h5⟩
 ·exact (delete_none _ w).mono fun e w' ⟨he, hw⟩ => ⟨_, he, .inl ⟨rfl, rfl⟩, by rw [← hw]; exact hb⟩
 ·have hm : maxLen = 9223372036854775807 := rfl
  have K := Tryz.slices_DeleteFunc encStr (fun _ => rfl) p g lb eg [] Tryz.zeroValue9 k off c xs.toArray w (fun W x hW => hp W x (hb.trans (hW.mono hB)))
   (fun n os dk x hd => hp _ x (below_put hb hB h3 n os)) h5 (by simp; omega) (by simpa using h1)
  simp only [List.size_toArray] at K
  have hl := List.length_filter_le (fun x => !p x) xs
  generalize xs.filter (fun x => !p x) = F at *
  refine K.mono fun e w' ⟨he, q, hw⟩ => ⟨_, he, ?_, ?_⟩
  ·have hH : Sort.Holds encStr w' k off (F ++ List.replicate (xs.length - F.length) []).toArray := by
    rw [hw, ← Sort.grow_empty (Sort.putRow _ _ _ _ _)]
    exact holds_put h5 (by rw [List.size_toArray, List.size_toArray, List.length_append, List.length_replicate]; omega) h4 q #[]
   refine .inr ⟨k, off, c, rfl, by omega, h2, h3, ?_, holds_first hH⟩
   rw [hw, Sort.size_putRow]
   exact h4
  ·rw [hw, ← Sort.grow_empty (Sort.putRow _ _ _ _ _)]
   exact below_put hb hB h3 q #[]
end Go.Proofs.YtmknpmamkjjiaaaGreat
