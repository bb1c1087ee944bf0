/- Sorted, and of each run one: what slices.Sort and slices.Compact (in the library's words) make of texts is once. From a slice of texts of the call's own to the library's words for a row that is sorted in place, and back. What the program's own compare and Less of items leave. -/
import Derived.Test.YtpnpomocjkmncaaGreatRefZs
import Derived.Lib.SlicesCompact
import Derived.Sort.Grow
import Derived.Shelf.Slices.CompactS
import Derived.Test.YtpnpomocjkmncaaGreatMaths
import Derived.Test.YtpnpomocjkmncaaGreatShelf
import Derived.Test.YtpnpomocjkmncaaGreatISets
import Derived.Deep.RegionHeld3
import Derived.Deep.Cut
namespace Go.Proofs.YtpnpomocjkmncaaGreat
open Plain
set_option linter.unusedVariables false

theorem take_next {xs : List Txt} {k : Nat} (hk : k < xs.length) : xs.take (k + 1) = xs.take k ++ [xs.getD k []] := by
 rw [List.take_succ_eq_append_getElem hk]
 simp [List.getD, List.getElem?_eq_getElem hk]
theorem le_of_not {a b : Txt} (h : a ≤ b) (hne : a ≠ b) : a < b := by
 rcases Classical.em (a < b) with g | g
 ·exact g
 ·exact absurd (List.le_antisymm h (List.not_lt.1 g)) hne
theorem get_bang (zs : List Txt) (m : Nat) (hm : m < zs.length) : zs.toArray[m]! = zs.getD m [] := by
 simp [getElem!_pos, hm, List.getD]
theorem sorted_at {zs : List Txt} (h : zs.Pairwise (· ≤ ·)) {i j : Nat} (hij : i < j) (hj : j < zs.length) : zs.getD i [] ≤ zs.getD j [] := by
 have := List.pairwise_iff_getElem.1 h i j (by omega) hj hij
 simpa [List.getD, List.getElem?_eq_getElem hj, List.getElem?_eq_getElem (show i < zs.length by omega)] using this
theorem compactUpTo_spec {zs : List Txt} (h : zs.Pairwise (· ≤ ·)) : ∀ m, m ≤ zs.length → Rising (Lib.compactUpTo zs.toArray m) ∧ ∀ t, t ∈ Lib.compactUpTo zs.toArray m ↔ t ∈ zs.take m
 | 0, _ => ⟨List.Pairwise.nil, fun t => by simp [Lib.compactUpTo]⟩
 | m + 1, hm => by
  obtain ⟨hr, hmem⟩ := compactUpTo_spec h m (by omega)
  rw [Lib.compactUpTo_succ, take_next (by omega)]
  by_cases hk : Lib.keeps zs.toArray m = true
  ·rw [if_pos hk, get_bang zs m (by omega)]
   refine ⟨List.pairwise_append.2 ⟨hr, by simp, fun t ht u hu => ?_⟩, fun t => by rw [List.mem_append, List.mem_append, hmem]⟩
   rw [List.mem_singleton.1 hu]
   obtain ⟨j, hj, hjt⟩ := mem_at ((hmem t).1 ht)
   have hjm : j < m := by rw [List.length_take] at hj; omega
   have e : (zs.take m).getD j [] = zs.getD j [] := by simp [List.getD, hjm]
   rw [e] at hjt
   subst hjt
   have hk' : ¬ m = 0 → zs.getD m [] ≠ zs.getD (m - 1) [] := fun h0 => by
    unfold Lib.keeps at hk
    rw [decide_eq_true_iff] at hk
    rcases hk with hk | hk
    ·exact absurd hk h0
    ·rw [get_bang zs m (by omega), get_bang zs (m - 1) (by omega)] at hk
     exact hk
   have h1 := le_of_not (sorted_at h (show m - 1 < m by omega) (by omega)) (fun e => hk' (by omega) e.symm)
   by_cases e : j = m - 1
   ·rw [e]; exact h1
   ·have h2 := sorted_at h (show j < m - 1 by omega) (by omega)
    by_cases e2 : zs.getD j [] = zs.getD (m - 1) []
    ·rw [e2]; exact h1
    ·exact lt_trans (le_of_not h2 e2) h1
  ·rw [if_neg hk, List.append_nil]
   refine ⟨hr, fun t => ?_⟩
   rw [hmem, List.mem_append]
   refine ⟨.inl, fun g => g.elim id fun g => ?_⟩
   rw [List.mem_singleton.1 g]
   have hk' : m ≠ 0 ∧ zs.getD m [] = zs.getD (m - 1) [] := by
    unfold Lib.keeps at hk
    rw [decide_eq_true_iff] at hk
    refine ⟨fun e => hk (.inl e), Classical.byContradiction fun hne => hk (.inr ?_)⟩
    by_cases e : m = 0
    ·exact absurd (.inl e) hk
    ·rw [get_bang zs m (by omega), get_bang zs (m - 1) (by omega)]
     exact hne
   rw [hk'.2]
   have : (zs.take m).getD (m - 1) [] = zs.getD (m - 1) [] := by simp [List.getD, show m - 1 < m by omega]
   rw [← this]
   exact mem_getD (by rw [List.length_take]; omega)
theorem compact_sorted {zs : List Txt} (h : zs.Pairwise (· ≤ ·)) : Lib.compact zs = once zs := by
 obtain ⟨hr, hm⟩ := compactUpTo_spec h zs.length (Nat.le_refl _)
 refine rising_ext hr (rising_once zs) fun t => ?_
 refine (hm t).trans ?_
 rw [mem_once, List.take_length]
theorem sort_pairwise (zs : List Txt) : (zs.mergeSort fun x y => decide (x ≤ y)).Pairwise (· ≤ ·) := by
 have := List.pairwise_mergeSort (le := fun x y : Txt => decide (x ≤ y)) (fun a b c h g => by
  rw [decide_eq_true_iff] at *
  exact List.le_trans h g) (fun a b => by
  rw [Bool.or_eq_true, decide_eq_true_iff, decide_eq_true_iff]
  exact List.le_total a b) zs
 exact this.imp fun h => of_decide_eq_true h
theorem compact_sort (zs : List Txt) : Lib.compact (zs.mergeSort fun x y => decide (x ≤ y)) = once zs := by
 rw [compact_sorted (sort_pairwise zs)]
 exact once_ext fun t => List.mem_mergeSort
end Go.Proofs.YtpnpomocjkmncaaGreat
namespace Go.Proofs.YtpnpomocjkmncaaGreat
open Go.RowKit Plain
set_option linter.unusedVariables false

theorem encStr_tv (t : Txt) : encStr t = tv t := rfl
theorem holds_of_owns {B : Nat} {w : World} {g n cap : Nat} {xs : List Txt} (h : OwnsT B w (.slice (some ⟨g, 0, none⟩) n cap) xs) : Sort.Holds encStr w g 0 xs.toArray := fun j hj => by
 have hj' : j < xs.length := by simpa using hj
 refine ⟨?_, ?_⟩
 ·rw [Nat.zero_add, h.cell j hj', get_bang xs j hj', encStr_tv]
 ·rw [Nat.zero_add]; exact h.free j
theorem seq_of_holds {w : World} {g off cap : Nat} {xs : List Txt} (h : Sort.Holds encStr w g off xs.toArray) (hc : xs.length ≤ cap) (hm : cap ≤ maxLen) : SeqT w (.slice (some ⟨g, off, none⟩) xs.length cap) xs := by
 refine ⟨_, cap, rfl, hc, hm, (by simp), fun _ => ⟨g, off, rfl, fun j hj => ?_⟩⟩
 have := (h j (by simpa using hj)).1
 rw [get_bang xs j hj, encStr_tv] at this
 exact this
theorem holds_first {w : World} {g off : Nat} {xs ys : List Txt} (h : Sort.Holds encStr w g off (xs ++ ys).toArray) : Sort.Holds encStr w g off xs.toArray := fun j hj => by
 have hj' : j < xs.length := by simpa using hj
 have := h j (by simp; omega)
 rw [get_bang (xs ++ ys) j (by simp; omega)] at this
 rw [get_bang xs j hj']
 rw [show (xs ++ ys).getD j [] = xs.getD j [] by simp [List.getD, List.getElem?_append_left hj']] at this
 exact this
theorem below_put {B : Nat} {w u : World} {g off : Nat} {d : Array Txt} (hb : Below B w u) (hB : B ≤ u.heap.size) (hg : B ≤ g) (n : Nat) (os : Array Obj) : Below B w (Sort.grow (Sort.putRow encStr (Sort.ahead u n) g off d) os) := by
 refine ⟨hb.os, hb.tape, hb.output, ?_, fun k hk => ?_⟩
 ·have := hb.size
  rw [Sort.size_grow, Sort.size_putRow]
  show w.heap.size ≤ u.heap.size + os.size
  omega
 ·have hlt : k < u.heap.size := by omega
  rw [Sort.heap_grow_old _ _ (by rw [Sort.size_putRow]; exact hlt)]
  refine Eq.trans ?_ (hb.block k hk)
  show ((Sort.ahead u n).heap.modify g _)[k]? = u.heap[k]?
  rw [Array.getElem?_modify, if_neg (by omega)]
  rfl
theorem holds_put {u : World} {g off : Nat} {d0 d : Array Txt} (h : Sort.Holds encStr u g off d0) (hs : d.size = d0.size) (hg : g < u.heap.size) (n : Nat) (os : Array Obj) : Sort.Holds encStr (Sort.grow (Sort.putRow encStr (Sort.ahead u n) g off d) os) g off d :=
 Sort.holds_grow encStr _ os g off d (by rw [Sort.size_putRow]; exact hg) (Sort.holds_putRow encStr _ g off d0 d (Sort.holds_ahead encStr u n g off d0 h) hs)
def RowT (B : Nat) (w : World) (v : Value) (xs : List Txt) : Prop :=
 (v = .slice none 0 0 ∧ xs = []) ∨ ∃ g off c, v = .slice (some ⟨g, off, none⟩) xs.length c ∧ xs.length ≤ c ∧ c ≤ maxLen ∧ B ≤ g ∧ g < w.heap.size ∧ Sort.Holds encStr w g off xs.toArray
theorem RowT.seq {B : Nat} {w : World} {v : Value} {xs : List Txt} (h : RowT B w v xs) : SeqT w v xs := by
 rcases h with ⟨rfl, rfl⟩ | ⟨g, off, c, rfl, h1, h2, -, -, h3⟩
 ·exact SeqT.nil w
 ·exact seq_of_holds h3 h1 h2
theorem RowT.mono {B C : Nat} {w : World} {v : Value} {xs : List Txt} (h : RowT B w v xs) (hc : C ≤ B) : RowT C w v xs := by
 rcases h with h | ⟨g, off, c, h0, h1, h2, h3, h4⟩
 ·exact .inl h
 ·exact .inr ⟨g, off, c, h0, h1, h2, by omega, h4⟩
def RowsT (w : World) (xs : List Txt) (e : Ending) (w' : World) : Prop := ∃ v, e = .returned v ∧ RowT w.heap.size w' v xs ∧ Below w.heap.size w w'
end Go.Proofs.YtpnpomocjkmncaaGreat
namespace Go.Proofs.YtpnpomocjkmncaaGreat
open Go.RowKit Plain
set_option linter.unusedVariables false

def GivesB (w : World) (r : Bool) (e : Ending) (w' : World) : Prop := e = .returned (.bool r) ∧ Below w.heap.size w w'
def GivesT (w : World) (xs : List Txt) (e : Ending) (w' : World) : Prop := ∃ v, e = .returned v ∧ SeqT w' v xs ∧ Below w.heap.size w w'
theorem below_of_drawn {w w' : World} (h : ∃ n, w' = w.drewN n) : Below w.heap.size w w' := by
 obtain ⟨n, rfl⟩ := h
 exact below_drewN (Below.refl _ _) n
theorem below_of_same {w w' : World} (h : w = w') : Below w.heap.size w w' := by rw [h]; exact Below.refl _ _
end Go.Proofs.YtpnpomocjkmncaaGreat
namespace Go.Proofs.YtpnpomocjkmncaaGreat
open Go.RowKit Plain
set_option linter.unusedVariables false

theorem hasPrefix_any (s p : Txt) (w : World) : Calls Tryz.prog 166 #[.string (bt s), .string (bt p)] w fun e w' => e = .returned (.bool (beg s p)) ∧ w' = w :=
 Tryz.strings_HasPrefix (bt s) (bt p) w
theorem hasPrefixL (s p : Txt) (w : World) : Calls Tryz.prog 166 #[.string (bt s), .string (bt p)] w fun e w' => e = .returned (.bool (beg s p)) ∧ w = w' :=
 (hasPrefix_any s p w).mono fun _ _ ⟨h, e⟩ => ⟨h, e.symm⟩
theorem search_texts {v : Value} {zs : List Txt} {w : World} (hv : SeqT w v zs) (hr : Rising zs) (hn : zs.length ≤ 1000000) (s : Txt) :
  ∃ k, k ≤ zs.length ∧ (∀ j, j < k → zs.getD j [] < s) ∧ (∀ j, k ≤ j → j < zs.length → ¬ zs.getD j [] < s) ∧
  Calls Tryz.prog 99 #[v, .string (bt s)] w fun e w' => e = .returned (.tuple #[.int .i64 (k : Int), .bool (decide (k < zs.length ∧ zs.getD k [] = s))]) ∧ ∃ q, w' = w.drewN q := by
 obtain ⟨k, hk, h1, h2⟩ := parted hr s
 refine ⟨k, hk, h1, h2, ?_⟩
 by_cases h0 : 0 < zs.length
 ·obtain ⟨b, o, c, rfl, -, -, -, hc⟩ := hv.spot h0
  have K := Tryz.slices_BinarySearch_string b o zs.length c (fun j => if j < zs.length then bt (zs.getD j []) else bt s) (bt s) w (by omega) (fun j hj => by rw [hc j hj, if_pos hj]; rfl)
  have e : Lib.bsGo (fun t => Op.bytesLess ((fun j => if j < zs.length then bt (zs.getD j []) else bt s) t).toList (bt s).toList) zs.length 0 zs.length = k := by
   refine Lib.bsGo_spec _ k (fun t ht => ?_) (fun t ht => ?_) zs.length 0 zs.length (by omega) (Nat.zero_le _) hk
   ·show Op.bytesLess (if t < zs.length then bt (zs.getD t []) else bt s).toList (bt s).toList = true
    rw [if_pos (by omega), text_lt, decide_eq_true (h1 t ht)]
   ·show Op.bytesLess (if t < zs.length then bt (zs.getD t []) else bt s).toList (bt s).toList = false
    split
    ·rename_i h
     rw [text_lt, decide_eq_false (h2 t ht h)]
    ·rw [text_lt, decide_eq_false (lt_irrefl s)]
  rw [e] at K
  refine K.mono fun _ _ ⟨h, hw⟩ => ⟨?_, hw⟩
  rw [h]
  have ed : decide (k < zs.length ∧ (if k < zs.length then bt (zs.getD k []) else bt s) = bt s) = decide (k < zs.length ∧ zs.getD k [] = s) := decide_eq_decide.2 ⟨fun ⟨g1, g2⟩ => by
   refine ⟨g1, ?_⟩
   rw [if_pos g1] at g2
   exact bt_inj g2, fun ⟨g1, g2⟩ => by
   refine ⟨g1, ?_⟩
   rw [if_pos g1, g2]⟩
  rw [← ed]
 ·obtain rfl : zs = [] := List.eq_nil_of_length_eq_zero (by omega)
  obtain ⟨a, cap, rfl, -⟩ := hv.parts
  obtain rfl : k = 0 := by simpa using hk
  exact (Tryz.slices_BinarySearch_string_empty a cap (bt s) w).mono fun _ _ ⟨h, e⟩ => ⟨h, 0, e⟩

theorem clone_texts {v : Value} {xs : List Txt} {w : World} (hv : SeqT w v xs) (hx : xs.length ≤ 1000000) : Calls Tryz.prog 168 #[v] w (MadeT w xs) := by
 obtain ⟨a, cap, rfl, g1, g2, g0, h⟩ := hv.parts
 cases a with
 | none =>
  obtain rfl := g0 rfl
  obtain rfl : xs = [] := List.eq_nil_of_length_eq_zero (by omega)
  exact (Tryz.slices_Clone_string_nil _ _ w).mono fun _ _ ⟨he, hw⟩ => ⟨_, he, OwnsT.nil _ _, by rw [hw]; exact Below.refl _ _⟩
 | some ad =>
  by_cases hp : 0 < xs.length
  ·obtain ⟨b, o, c, hv, -, -, -, hc⟩ := h.spot hp
   simp only [Value.slice.injEq, Option.some.injEq] at hv
   obtain ⟨rfl, -, rfl⟩ := hv
   refine (Tryz.slices_Clone_string b o xs.length cap (xs.map bt) w (by simp) (by omega) (fun j hj => ?_)).mono fun _ _ ⟨v', he, ho, _, hb⟩ => ⟨v', he, ?_, hb⟩
   ·rw [List.length_map] at hj
    rw [hc j hj]
    simp [List.getD, hj, tv]
   ·unfold OwnsT
    have e : ((xs.map bt).take xs.length).map Value.string = xs.map tv := by
     rw [List.take_of_length_le (by simp), List.map_map]
     rfl
    rw [e] at ho
    exact ho
  ·obtain rfl : xs = [] := List.eq_nil_of_length_eq_zero (by omega)
   exact (Tryz.slices_Clone_string_zero ad cap w).mono fun _ _ ⟨v', he, ho, _, hb⟩ => ⟨v', he, ho, hb⟩

set_option maxHeartbeats 1000000 in
theorem delete_none (fv : Value) (w : World) : Calls Tryz.prog 136 #[.slice none 0 0, fv] w fun e w' => e = .returned (.slice none 0 0) ∧ w = w' := by
 have K := Tryz.slices_IndexFunc_empty (α := Txt) none 0 fv w
 go_enter Tryz.func136, Tryz.ntmps136
 go_wp2_with fail
 refine K.mono ?_
 rintro e w' ⟨rfl, rfl⟩
 go_wp2_with fail
 go_ret
 exact ⟨rfl, rfl⟩

theorem delete_texts {B : Nat} {v : Value} {xs : List Txt} {w0 w : World} (hv : RowT B w v xs) (hb : Below B w0 w) (hB : B ≤ w.heap.size) (hx : xs.length ≤ 1000000) (p : Txt → Bool) (g : Nat) (lb : Array Value)
  (eg : ∀ args w, (callFunc g args).run Tryz.prog w = .ok (.enter g args) w) (hp : ∀ (W : World) (x : Txt), Below B w0 W → FnGives Tryz.prog g lb #[tv x] (.bool (p x)) W) :
  Calls Tryz.prog 136 #[v, .func (.func g) #[] lb] w fun e w' => ∃ u, e = .returned u ∧ RowT B w' u (xs.filter fun x => !p x) ∧ Below B w0 w' := by
 rcases hv with ⟨rfl, rfl⟩ | ⟨k, off, c, rfl, h1, h2, h3, h4, h5⟩
 ·exact (delete_none _ w).mono fun e w' ⟨he, hw⟩ => ⟨_, he, .inl ⟨rfl, rfl⟩, by rw [← hw]; exact hb⟩
 ·have hm : maxLen = 9223372036854775807 := rfl
  have K := Tryz.slices_DeleteFunc encStr (fun _ => rfl) p g lb eg [] Tryz.zeroValue9 k off c xs.toArray w (fun W x hW => hp W x (hb.trans (hW.mono hB)))
   (fun n os dk x hd => hp _ x (below_put hb hB h3 n os)) h5 (by simp; omega) (by simpa using h1)
  simp only [List.size_toArray] at K
  have hl := List.length_filter_le (fun x => !p x) xs
  generalize xs.filter (fun x => !p x) = F at *
  refine K.mono fun e w' ⟨he, q, hw⟩ => ⟨_, he, ?_, ?_⟩
  ·have hH : Sort.Holds encStr w' k off (F ++ List.replicate (xs.length - F.length) []).toArray := by
    rw [hw, ← Sort.grow_empty (Sort.putRow _ _ _ _ _)]
    exact holds_put h5 (by rw [List.size_toArray, List.size_toArray, List.length_append, List.length_replicate]; omega) h4 q #[]
   refine .inr ⟨k, off, c, rfl, by omega, h2, h3, ?_, holds_first hH⟩
   rw [hw, Sort.size_putRow]
   exact h4
  ·rw [hw, ← Sort.grow_empty (Sort.putRow _ _ _ _ _)]
   exact below_put hb hB h3 q #[]
end Go.Proofs.YtpnpomocjkmncaaGreat
namespace Go.Proofs.YtpnpomocjkmncaaGreat
open Go.RowKit Plain
set_option linter.unusedVariables false

theorem tcompare (a b : Txt) (W : World) : Calls Tryz.prog 120 #[.string (bt a), .string (bt b)] W fun e w' => e = .returned (.int .i64 (tcmp a b)) ∧ w' = W := Tryz.strings_Compare (bt a) (bt b) W

set_option maxRecDepth 100000 in
set_option maxHeartbeats 8000000 in
theorem icompare_any (x y : PItem) (w : World) : Calls Tryz.prog 81 #[itv x, itv y] w fun e w' => e = .returned (.int .i64 (icmp x y)) ∧ ∃ q os, w' = Sort.grow (w.drewN q) os := by
 have HX : Hid (ItemAt ((w.alloc (.cells #[.string (bt x.key), .string (bt x.field), .int .i64 x.kind, .string (bt x.elem), .int .i64 x.n, .int .i64 x.dot.node, .int .i64 x.dot.seq, .int .i64 x.dot.pos] 64)).alloc (.cells #[.string (bt y.key), .string (bt y.field), .int .i64 y.kind, .string (bt y.elem), .int .i64 y.n, .int .i64 y.dot.node, .int .i64 y.dot.seq, .int .i64 y.dot.pos] 64)) w.heap.size 0 x) := Lib.hid ⟨by simp, by simp, by simp, by simp, by simp, by simp, by simp, by simp⟩
 have HY : Hid (ItemAt ((w.alloc (.cells #[.string (bt x.key), .string (bt x.field), .int .i64 x.kind, .string (bt x.elem), .int .i64 x.n, .int .i64 x.dot.node, .int .i64 x.dot.seq, .int .i64 x.dot.pos] 64)).alloc (.cells #[.string (bt y.key), .string (bt y.field), .int .i64 y.kind, .string (bt y.elem), .int .i64 y.n, .int .i64 y.dot.node, .int .i64 y.dot.seq, .int .i64 y.dot.pos] 64)) (w.heap.size + 1) 0 y) := Lib.hid ⟨by simp, by simp, by simp, by simp, by simp, by simp, by simp, by simp⟩
 have HZ : Hid (((w.alloc (.cells #[.string (bt x.key), .string (bt x.field), .int .i64 x.kind, .string (bt x.elem), .int .i64 x.n, .int .i64 x.dot.node, .int .i64 x.dot.seq, .int .i64 x.dot.pos] 64)).alloc (.cells #[.string (bt y.key), .string (bt y.field), .int .i64 y.kind, .string (bt y.elem), .int .i64 y.n, .int .i64 y.dot.node, .int .i64 y.dot.seq, .int .i64 y.dot.pos] 64)).heap.size = w.heap.size + 2) := Lib.hid (by simp)
 obtain ⟨os2, hw2⟩ : ∃ os, ((w.alloc (.cells #[.string (bt x.key), .string (bt x.field), .int .i64 x.kind, .string (bt x.elem), .int .i64 x.n, .int .i64 x.dot.node, .int .i64 x.dot.seq, .int .i64 x.dot.pos] 64)).alloc (.cells #[.string (bt y.key), .string (bt y.field), .int .i64 y.kind, .string (bt y.elem), .int .i64 y.n, .int .i64 y.dot.node, .int .i64 y.dot.seq, .int .i64 y.dot.pos] 64)) = Sort.grow w os := ⟨#[(.cells #[.string (bt x.key), .string (bt x.field), .int .i64 x.kind, .string (bt x.elem), .int .i64 x.n, .int .i64 x.dot.node, .int .i64 x.dot.seq, .int .i64 x.dot.pos] 64), (.cells #[.string (bt y.key), .string (bt y.field), .int .i64 y.kind, .string (bt y.elem), .int .i64 y.n, .int .i64 y.dot.node, .int .i64 y.dot.seq, .int .i64 y.dot.pos] 64)], rfl⟩
 have HW := Lib.hid hw2
 clear hw2
 have K0 := Lib.hid (fun W => tcompare x.key y.key W)
 have K1 := Lib.hid (fun W => tcompare x.field y.field W)
 have K2 := Lib.hid (fun W => Tryz.cmp_Compare_int_f121 x.kind y.kind W)
 have K3 := Lib.hid (fun W => Tryz.cmp_Compare_int_f121 x.dot.node y.dot.node W)
 have K4 := Lib.hid (fun W => Tryz.cmp_Compare_int_f121 x.dot.seq y.dot.seq W)
 have K5 := Lib.hid (fun W => Tryz.cmp_Compare_int_f121 x.dot.pos y.dot.pos W)
 have K6 := Lib.hid (fun W => tcompare x.elem y.elem W)
 have K7 := Lib.hid (fun W => Tryz.cmp_Compare_int_f122 x.n y.n W)
 have HI : Hid (icmp x y = firstNZ (cmps x y)) := Lib.hid rfl
 rw [HI.out]
 unfold cmps
 clear HI
 generalize tcmp x.key y.key = r0 at *
 generalize tcmp x.field y.field = r1 at *
 generalize Lib.compareInt x.kind y.kind = r2 at *
 generalize Lib.compareInt x.dot.node y.dot.node = r3 at *
 generalize Lib.compareInt x.dot.seq y.dot.seq = r4 at *
 generalize Lib.compareInt x.dot.pos y.dot.pos = r5 at *
 generalize tcmp x.elem y.elem = r6 at *
 generalize Lib.compareInt x.n y.n = r7 at *
 obtain ⟨r, hr⟩ : ∃ r, firstNZ [r0, r1, r2, r3, r4, r5, r6, r7] = r := ⟨_, rfl⟩
 rw [hr]
 have HR := Lib.hid hr
 clear hr
 rw [itv_eq3, itv_eq3]
 go_enter Tryz.func81, Tryz.ntmps81
 go_upto_region 1 with fail
 generalize ((w.alloc (.cells #[.string (bt x.key), .string (bt x.field), .int .i64 x.kind, .string (bt x.elem), .int .i64 x.n, .int .i64 x.dot.node, .int .i64 x.dot.seq, .int .i64 x.dot.pos] 64)).alloc (.cells #[.string (bt y.key), .string (bt y.field), .int .i64 y.kind, .string (bt y.elem), .int .i64 y.n, .int .i64 y.dot.node, .int .i64 y.dot.seq, .int .i64 y.dot.pos] 64)) = W2 at *
 have KO := Lib.hid (ior_any [r0, r1, r2, r3, r4, r5, r6, r7] 8 W2.heap.size (W2.alloc (.cells #[.int .i64 r0, .int .i64 r1, .int .i64 r2, .int .i64 r3, .int .i64 r4, .int .i64 r5, .int .i64 r6, .int .i64 r7] 3)).drew rfl (by omega) (fun j hj => by
  have e : (W2.alloc (.cells #[.int .i64 r0, .int .i64 r1, .int .i64 r2, .int .i64 r3, .int .i64 r4, .int .i64 r5, .int .i64 r6, .int .i64 r7] 3)).drew.cell? ⟨W2.heap.size, j, none⟩ = (#[.int .i64 r0, .int .i64 r1, .int .i64 r2, .int .i64 r3, .int .i64 r4, .int .i64 r5, .int .i64 r6, .int .i64 r7] : Array Value)[j]? := by
   have := World.cell?_alloc_new W2 #[.int .i64 r0, .int .i64 r1, .int .i64 r2, .int .i64 r3, .int .i64 r4, .int .i64 r5, .int .i64 r6, .int .i64 r7] 3 j
   exact this
  rw [e]
  match j, hj with
  | 0, _ => rfl
  | 1, _ => rfl
  | 2, _ => rfl
  | 3, _ => rfl
  | 4, _ => rfl
  | 5, _ => rfl
  | 6, _ => rfl
  | 7, _ => rfl))
 rw [HR.out] at KO
 have KE : Hid (∀ u, Below W2.heap.size W2 u → (u.cell? ⟨w.heap.size, 0, none⟩ = some (.string (bt x.key)) ∧ u.cell? ⟨w.heap.size, 1, none⟩ = some (.string (bt x.field)) ∧ u.cell? ⟨w.heap.size, 2, none⟩ = some (.int .i64 x.kind) ∧ u.cell? ⟨w.heap.size, 3, none⟩ = some (.string (bt x.elem)) ∧ u.cell? ⟨w.heap.size, 4, none⟩ = some (.int .i64 x.n) ∧ u.cell? ⟨w.heap.size, 5, none⟩ = some (.int .i64 x.dot.node) ∧ u.cell? ⟨w.heap.size, 6, none⟩ = some (.int .i64 x.dot.seq) ∧ u.cell? ⟨w.heap.size, 7, none⟩ = some (.int .i64 x.dot.pos)) ∧ (u.cell? ⟨w.heap.size + 1, 0, none⟩ = some (.string (bt y.key)) ∧ u.cell? ⟨w.heap.size + 1, 1, none⟩ = some (.string (bt y.field)) ∧ u.cell? ⟨w.heap.size + 1, 2, none⟩ = some (.int .i64 y.kind) ∧ u.cell? ⟨w.heap.size + 1, 3, none⟩ = some (.string (bt y.elem)) ∧ u.cell? ⟨w.heap.size + 1, 4, none⟩ = some (.int .i64 y.n) ∧ u.cell? ⟨w.heap.size + 1, 5, none⟩ = some (.int .i64 y.dot.node) ∧ u.cell? ⟨w.heap.size + 1, 6, none⟩ = some (.int .i64 y.dot.seq) ∧ u.cell? ⟨w.heap.size + 1, 7, none⟩ = some (.int .i64 y.dot.pos))) := Lib.hid (fun u hu => by
  obtain ⟨c0, c1, c2, c3, c4, c5, c6, c7⟩ := HX.out.below hu HX.out.lt
  obtain ⟨d0, d1, d2, d3, d4, d5, d6, d7⟩ := HY.out.below hu HY.out.lt
  simp only [Nat.zero_add] at c1 c2 c3 c4 c5 c6 c7 d1 d2 d3 d4 d5 d6 d7
  exact ⟨⟨c0, c1, c2, c3, c4, c5, c6, c7⟩, ⟨d0, d1, d2, d3, d4, d5, d6, d7⟩⟩)
 generalize bt x.key = xkey at *
 generalize bt y.key = ykey at *
 generalize bt x.field = xfield at *
 generalize bt y.field = yfield at *
 generalize bt x.elem = xelem at *
 generalize bt y.elem = yelem at *
 generalize x.kind = xkind at *
 generalize x.n = xnn at *
 generalize x.dot.node = xnode at *
 generalize x.dot.seq = xseq at *
 generalize x.dot.pos = xpos at *
 generalize y.kind = ykind at *
 generalize y.n = ynn at *
 generalize y.dot.node = ynode at *
 generalize y.dot.seq = yseq at *
 generalize y.dot.pos = ypos at *
 go_region_held3 (fun u => (u.cell? ⟨w.heap.size, 0, none⟩ = some (.string (xkey)) ∧ u.cell? ⟨w.heap.size, 1, none⟩ = some (.string (xfield)) ∧ u.cell? ⟨w.heap.size, 2, none⟩ = some (.int .i64 xkind) ∧ u.cell? ⟨w.heap.size, 3, none⟩ = some (.string (xelem)) ∧ u.cell? ⟨w.heap.size, 4, none⟩ = some (.int .i64 xnn) ∧ u.cell? ⟨w.heap.size, 5, none⟩ = some (.int .i64 xnode) ∧ u.cell? ⟨w.heap.size, 6, none⟩ = some (.int .i64 xseq) ∧ u.cell? ⟨w.heap.size, 7, none⟩ = some (.int .i64 xpos)) ∧ (u.cell? ⟨w.heap.size + 1, 0, none⟩ = some (.string (ykey)) ∧ u.cell? ⟨w.heap.size + 1, 1, none⟩ = some (.string (yfield)) ∧ u.cell? ⟨w.heap.size + 1, 2, none⟩ = some (.int .i64 ykind) ∧ u.cell? ⟨w.heap.size + 1, 3, none⟩ = some (.string (yelem)) ∧ u.cell? ⟨w.heap.size + 1, 4, none⟩ = some (.int .i64 ynn) ∧ u.cell? ⟨w.heap.size + 1, 5, none⟩ = some (.int .i64 ynode) ∧ u.cell? ⟨w.heap.size + 1, 6, none⟩ = some (.int .i64 yseq) ∧ u.cell? ⟨w.heap.size + 1, 7, none⟩ = some (.int .i64 ypos)))
  (first | (exact KE.out _ (Below.refl _ _).drew) | (exact KE.out _ ((Below.refl _ _).alloc (Nat.le_refl _) _).drew))
  (first
   | (go_at_call 120; (with_reducible refine (K0.out _).mono ?_); rintro e w' ⟨rfl, rfl⟩)
   | (go_at_call 120; (with_reducible refine (K1.out _).mono ?_); rintro e w' ⟨rfl, rfl⟩)
   | (go_at_call 121; (with_reducible refine (K2.out _).mono ?_); rintro e w' ⟨rfl, rfl⟩)
   | (go_at_call 121; (with_reducible refine (K3.out _).mono ?_); rintro e w' ⟨rfl, rfl⟩)
   | (go_at_call 121; (with_reducible refine (K4.out _).mono ?_); rintro e w' ⟨rfl, rfl⟩)
   | (go_at_call 121; (with_reducible refine (K5.out _).mono ?_); rintro e w' ⟨rfl, rfl⟩)
   | (go_at_call 120; (with_reducible refine (K6.out _).mono ?_); rintro e w' ⟨rfl, rfl⟩)
   | (go_at_call 122; (with_reducible refine (K7.out _).mono ?_); rintro e w' ⟨rfl, rfl⟩)
   | (go_at_call 119; (with_reducible refine KO.out.mono ?_); rintro e w' ⟨rfl, rfl⟩))
 go_wp2_with fail
 go_ret
 exact ⟨rfl, 1, os2 ++ #[(.cells #[.int .i64 r0, .int .i64 r1, .int .i64 r2, .int .i64 r3, .int .i64 r4, .int .i64 r5, .int .i64 r6, .int .i64 r7] 3)], by rw [HW.out, Sort.alloc_eq_grow, Sort.grow_grow]; rfl⟩

end Go.Proofs.YtpnpomocjkmncaaGreat
