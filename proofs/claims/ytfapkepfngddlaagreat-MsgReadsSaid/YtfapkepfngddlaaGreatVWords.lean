/- Vectors as plain mathematics: what one says of a node, the shortest one that says so, and the laws that follow. WORDS FOR INTS: slices that read as a list of numbers (nil, empty, cut), slices of the call's own, append, make. (Turned out of words/XWords, XMore, XMake.) -/
import Derived.Test.YtfapkepfngddlaaGreatEls
import Derived.Deep.OwnRows
import Derived.OwnWalk
namespace Go.Proofs.YtfapkepfngddlaaGreat.Plain
abbrev Ints := List Int
def says (v : Ints) (i : Nat) : Int := max (v.getD i 0) 0
theorem says_pos (v : Ints) (i : Nat) : 0 ≤ says v i := by unfold says; omega
theorem getD_end (v : Ints) (i : Nat) (h : v.length ≤ i) : v.getD i 0 = 0 := by simp [List.getD, List.getElem?_eq_none h]
theorem says_end (v : Ints) (i : Nat) (h : v.length ≤ i) : says v i = 0 := by unfold says; rw [getD_end v i h]; omega
def saysI (v : Ints) (n : Int) : Int := if 0 ≤ n then says v n.toNat else 0
theorem saysI_nat (v : Ints) (i : Nat) : saysI v (i : Int) = says v i := by unfold saysI; rw [if_pos (by omega)]; rfl
theorem saysI_pos (v : Ints) (n : Int) : 0 ≤ saysI v n := by unfold saysI; split; exact says_pos _ _; omega
def laid (c : Nat → Int) : Nat → Ints
 | 0 => []
 | n + 1 => if c n = 0 then laid c n else (List.range (n + 1)).map c
theorem range_getD (c : Nat → Int) (n i : Nat) : ((List.range n).map c).getD i 0 = if i < n then c i else 0 := by
 by_cases h : i < n
 ·simp [List.getD, h]
 ·rw [if_neg h, getD_end _ _ (by simp; omega)]
theorem laid_len (c : Nat → Int) : ∀ n, (laid c n).length ≤ n
 | 0 => Nat.le_refl _
 | n + 1 => by
  have := laid_len c n;unfold laid
  split
  ·omega
  ·simp
theorem laid_getD (c : Nat → Int) : ∀ n i, (laid c n).getD i 0 = if i < n then c i else 0
 | 0, i => by simp [laid]
 | n + 1, i => by
  unfold laid
  split
  ·rename_i h
   rw [laid_getD c n i]
   by_cases g : i < n
   ·rw [if_pos g, if_pos (by omega)]
   ·rw [if_neg g]
    by_cases e : i = n
    ·subst e; rw [if_pos (by omega), h]
    ·rw [if_neg (by omega)]
  ·exact range_getD c (n + 1) i
theorem laid_last (c : Nat → Int) : ∀ n k, (laid c n).length = k + 1 → (laid c n).getD k 0 ≠ 0
 | 0, k => by simp [laid]
 | n + 1, k => by
  unfold laid
  split
  ·exact laid_last c n k
  ·rename_i h
   intro g;simp at g
   subst g;rw [range_getD, if_pos (by omega)];exact h
theorem laid_range (c : Nat → Int) : ∀ n, laid c n = (List.range (laid c n).length).map c
 | 0 => rfl
 | n + 1 => by
  have ih := laid_range c n;unfold laid
  split
  ·exact ih
  ·simp
theorem laid_zero (c : Nat → Int) (n : Nat) (h : c n = 0) : laid c (n + 1) = laid c n := by rw [laid, if_pos h]
theorem laid_some (c : Nat → Int) (n : Nat) (h : ¬ c n = 0) : laid c (n + 1) = (List.range (n + 1)).map c := by rw [laid, if_neg h]
theorem laid_some_len (c : Nat → Int) (n : Nat) (h : ¬ c n = 0) : (laid c (n + 1)).length = n + 1 := by rw [laid_some c n h]; simp
def Short (v : Ints) : Prop := (∀ i, 0 ≤ v.getD i 0) ∧ ∀ k, v.length = k + 1 → v.getD k 0 ≠ 0
theorem laid_short {c : Nat → Int} {n : Nat} (h : ∀ i, i < n → 0 ≤ c i) : Short (laid c n) :=
 ⟨fun i => by rw [laid_getD]; split; exact h _ (by assumption); omega, laid_last c n⟩
theorem Short.says {v : Ints} (h : Short v) (i : Nat) : v.getD i 0 = says v i := by have := h.1 i; unfold Plain.says; omega
theorem short_ext {u v : Ints} (hu : Short u) (hv : Short v) (h : ∀ i, says u i = says v i) : u = v := by
 have hg : ∀ i, u.getD i 0 = v.getD i 0 := fun i => by rw [hu.says, hv.says, h]
 have hl : u.length = v.length := by
  rcases Nat.lt_trichotomy u.length v.length with g | g | g
  ·exfalso
   refine hv.2 (v.length - 1) (by omega) ?_;rw [← hg, getD_end _ _ (by omega)]
  ·exact g
  ·exfalso
   refine hu.2 (u.length - 1) (by omega) ?_;rw [hg, getD_end _ _ (by omega)]
 refine List.ext_getElem hl fun i h1 h2 => ?_
 have := hg i
 simpa [List.getD, List.getElem?_eq_getElem h1, List.getElem?_eq_getElem h2] using this
theorem laid_says {c : Nat → Int} {n : Nat} (h : ∀ i, 0 ≤ c i) (i : Nat) : says (laid c n) i = if i < n then c i else 0 := by
 have := h i;unfold says;rw [laid_getD]
 split <;> omega
def trim (v : Ints) : Ints := laid (says v) v.length
def join (a b : Ints) : Ints := laid (fun i => max (says a i) (says b i)) (max a.length b.length)
def withF (v : Ints) (k : Nat) (n : Int) (i : Nat) : Int := if i = k then n else says v i
def withN (v : Ints) (k : Nat) (n : Int) : Ints := laid (withF v k n) (max v.length (k + 1))
theorem join_pos (a b : Ints) (i : Nat) : 0 ≤ max (says a i) (says b i) := by have := says_pos a i; omega
theorem withF_pos (v : Ints) (k : Nat) (n : Int) (hn : 0 ≤ n) (i : Nat) : 0 ≤ withF v k n i := by unfold withF; split; exact hn; exact says_pos v i
theorem trim_short (v : Ints) : Short (trim v) := laid_short fun i _ => says_pos v i
theorem join_short (a b : Ints) : Short (join a b) := laid_short fun i _ => join_pos a b i
theorem trim_says (v : Ints) (i : Nat) : says (trim v) i = says v i := by
 unfold trim;rw [laid_says (says_pos v)]
 split
 ·rfl
 ·rw [says_end v i (by omega)]
theorem join_says (a b : Ints) (i : Nat) : says (join a b) i = max (says a i) (says b i) := by
 unfold join;rw [laid_says (join_pos a b)]
 split
 ·rfl
 ·rw [says_end a i (by omega), says_end b i (by omega)]; rfl
theorem with_says (v : Ints) (k : Nat) (n : Int) (hn : 0 ≤ n) (i : Nat) : says (withN v k n) i = withF v k n i := by
 unfold withN;rw [laid_says (withF_pos v k n hn)]
 split
 ·rfl
 ·unfold withF
  rw [if_neg (by omega), says_end v i (by omega)]
theorem join_len (a b : Ints) : (join a b).length ≤ max a.length b.length := laid_len _ _
def Within (a b : Ints) : Prop := ∀ i, says a i ≤ says b i
theorem within_of {a b : Ints} (h : ∀ i, i < a.length → says a i ≤ says b i) : Within a b := fun i => by
 by_cases g : i < a.length
 ·exact h i g
 ·rw [says_end a i (by omega)]; exact says_pos b i
def within (a b : Ints) : Bool := (List.range a.length).all fun i => decide (says a i ≤ says b i)
theorem within_iff {a b : Ints} : within a b = true ↔ Within a b := by
 unfold within;rw [List.all_eq_true]
 constructor
 ·intro h
  refine within_of fun i hi => ?_
  have := h i (List.mem_range.2 hi);exact of_decide_eq_true this
 ·intro h i _
  exact decide_eq_true (h i)
theorem within_true {a b : Ints} (h : Within a b) : within a b = true := within_iff.2 h
theorem within_false {a b : Ints} (h : ¬ Within a b) : within a b = false := by
 cases e : within a b with
 | false => rfl
 | true => exact absurd (within_iff.1 e) h
theorem within_join (a b : Ints) : Within a b ↔ join a b = trim b :=
 ⟨fun h => short_ext (join_short _ _) (trim_short _) fun i => by have := h i; rw [join_says, trim_says]; omega,
  fun h i => by
  have e : says (join a b) i = says (trim b) i := by rw [h]
  rw [join_says, trim_says] at e;omega⟩
theorem trim_of_range (c : Nat → Int) (hc : ∀ i, 0 ≤ c i) (n : Nat) : trim ((List.range n).map c) = laid c n := by
 refine short_ext (trim_short _) (laid_short fun i _ => hc i) fun i => ?_
 rw [trim_says, laid_says hc];unfold says;rw [range_getD];have := hc i
 split <;> omega
theorem same_join (a b : Ints) : (∀ i, says (join a b) i = says b i) ↔ Within a b :=
 ⟨fun h i => by have := h i; rw [join_says] at this; omega, fun h i => by have := h i; rw [join_says]; omega⟩
def partI (c : Nat → Int) (m k : Nat) : Ints := (List.range m).map fun i => if i < k then c i else 0
theorem partI_len (c : Nat → Int) (m k : Nat) : (partI c m k).length = m := by simp [partI]
theorem partI_zero (c : Nat → Int) (m : Nat) : partI c m 0 = List.replicate m 0 := by
 refine List.ext_getElem (by simp [partI]) fun i h1 h2 => ?_
 simp [partI]
theorem partI_next (c : Nat → Int) (m k : Nat) : (partI c m k).set k (c k) = partI c m (k + 1) := by
 refine List.ext_getElem (by simp [partI]) fun i h1 h2 => ?_
 simp only [partI, List.getElem_set, List.getElem_map, List.getElem_range]
 by_cases e : k = i
 ·subst e; simp
 ·rw [if_neg e]
  by_cases g : i < k
  ·rw [if_pos g, if_pos (by omega)]
  ·rw [if_neg g, if_neg (by omega)]
theorem partI_all (c : Nat → Int) (m : Nat) : partI c m m = (List.range m).map c := by
 refine List.ext_getElem (by simp [partI]) fun i h1 h2 => ?_
 simp only [partI, List.getElem_map, List.getElem_range]
 rw [if_pos (by simpa [partI] using h1)]
theorem partI_laid (c : Nat → Int) (n : Nat) : partI c (laid c n).length (laid c n).length = laid c n := by
 rw [partI_all]; exact (laid_range c n).symm
theorem laid_step (c : Nat → Int) (n k : Nat) (h : laid c (k + 1) = laid c n) (h0 : c k = 0) : laid c k = laid c n := by rw [← h, laid_zero c k h0]
theorem laid_stop (c : Nat → Int) (n k : Nat) (h : laid c (k + 1) = laid c n) (h0 : ¬ c k = 0) : (laid c n).length = k + 1 := by rw [← h, laid_some_len c k h0]
end Go.Proofs.YtfapkepfngddlaaGreat.Plain
namespace Go.Proofs.YtfapkepfngddlaaGreat
open Go.RowKit Plain
set_option linter.unusedVariables false
def SeqI (w : World) (v : Value) (xs : Ints) : Prop :=
 ∃ a cap, v = .slice a xs.length cap ∧ xs.length ≤ cap ∧ cap ≤ maxLen ∧ (a = none → cap = 0) ∧
  (0 < xs.length → ∃ b off, a = some ⟨b, off, none⟩ ∧ ∀ j, j < xs.length → w.cell? ⟨b, off + j, none⟩ = some (Value.int .i64 (xs.getD j 0)))
theorem SeqI.nil (w : World) : SeqI w (.slice none 0 0) [] := ⟨none, 0, rfl, Nat.zero_le _, Nat.zero_le _, fun _ => rfl, fun h => absurd h (by simp)⟩
theorem SeqI.empty (w : World) (a : Addr) (cap : Nat) (h : cap ≤ maxLen) : SeqI w (.slice (some a) 0 cap) [] := ⟨some a, cap, rfl, Nat.zero_le _, h, (by simp), fun h => absurd h (by simp)⟩
theorem SeqI.of_cell {w w' : World} {v : Value} {xs : Ints} (h : SeqI w v xs) (hc : ∀ a, w'.cell? a = w.cell? a) : SeqI w' v xs := by
 obtain ⟨a, cap, rfl, h1, h2, h0, h3⟩ := h;refine ⟨a, cap, rfl, h1, h2, h0, fun hp => ?_⟩;obtain ⟨b, off, rfl, g⟩ := h3 hp;exact ⟨b, off, rfl, fun j hj => (hc _).trans (g j hj)⟩
theorem SeqI.below' {N : Nat} {w w' : World} {v : Value} {xs : Ints} (h : SeqI w v xs) (hb : Below N w w') (hN : w.heap.size ≤ N) : SeqI w' v xs := by
 obtain ⟨a, cap, rfl, h1, h2, h0, h3⟩ := h;refine ⟨a, cap, rfl, h1, h2, h0, fun hp => ?_⟩;obtain ⟨b, off, rfl, hc⟩ := h3 hp;refine ⟨b, off, rfl, fun j hj => ?_⟩;have hlt : b < w.heap.size := World.block_lt_of_cell? w ⟨b, off + j, none⟩ (hc j hj);exact (hb.cell (p := ⟨b, off + j, none⟩) (show b < N by omega)).trans (hc j hj)
theorem SeqI.below {w w' : World} {v : Value} {xs : Ints} (h : SeqI w v xs) (hb : Below w.heap.size w w') : SeqI w' v xs := SeqI.below' h hb (Nat.le_refl _)
theorem SeqI.below_alloc {w : World} {v : Value} {xs : Ints} (h : SeqI w v xs) (o : Obj) : SeqI (w.alloc o) v xs := h.below ((Below.refl _ _).alloc (Nat.le_refl _) _)
theorem SeqI.parts {w : World} {v : Value} {xs : Ints} (h : SeqI w v xs) : ∃ a cap, v = .slice a xs.length cap ∧ xs.length ≤ cap ∧ cap ≤ maxLen ∧ (a = none → cap = 0) ∧ SeqI w (.slice a xs.length cap) xs := by
 have h' := h;obtain ⟨a, cap, rfl, h1, h2, h0, h3⟩ := h;exact ⟨a, cap, rfl, h1, h2, h0, h'⟩
theorem SeqI.spot {w : World} {v : Value} {xs : Ints} (h : SeqI w v xs) (hp : 0 < xs.length) : ∃ b o cap, v = .slice (some ⟨b, o, none⟩) xs.length cap ∧ xs.length ≤ cap ∧ cap ≤ maxLen ∧ SeqI w (.slice (some ⟨b, o, none⟩) xs.length cap) xs ∧ ∀ j, j < xs.length → w.cell? ⟨b, o + j, none⟩ = some (Value.int .i64 (xs.getD j 0)) := by
 have h' := h;obtain ⟨a, cap, rfl, h1, h2, h0, h3⟩ := h;obtain ⟨b, o, rfl, hc⟩ := h3 hp;exact ⟨b, o, cap, rfl, h1, h2, h', hc⟩
theorem SeqI.first {w : World} {a : Option Addr} {n cap : Nat} {xs : Ints} (h : SeqI w (.slice a n cap) xs) (k : Nat) (hk : k ≤ xs.length) : SeqI w (.slice a k cap) (xs.take k) := by
 obtain ⟨a', cap', hv, h1, h2, h0, h3⟩ := h;simp only [Value.slice.injEq] at hv
 obtain ⟨rfl, rfl, rfl⟩ := hv;have hl : (xs.take k).length = k := by rw [List.length_take]; omega
 refine ⟨a, cap, by rw [hl], by omega, h2, h0, fun hp => ?_⟩;obtain ⟨b, off, rfl, hc⟩ := h3 (by omega);refine ⟨b, off, rfl, fun j hj => ?_⟩;rw [hc j (by omega)];simp [List.getD, show j < k by omega]
def OwnsI (B : Nat) (w : World) (v : Value) (xs : Ints) : Prop := w.ownsRow B 3 1 v xs.length (xs.map (Value.int .i64))
theorem OwnsI.nil (B : Nat) (w : World) : OwnsI B w (.slice none 0 0) [] := World.ownsRow_nil _ _ _ _
theorem getD_mapI (xs : Ints) (j : Nat) (hj : j < xs.length) : (xs.map (Value.int .i64))[j]? = some (Value.int .i64 (xs.getD j 0)) := by
 simp [List.getD, List.getElem?_eq_getElem hj]
theorem OwnsI.seq {B : Nat} {w : World} {v : Value} {xs : Ints} (h : OwnsI B w v xs) : SeqI w v xs := by
 have h' := h
 rcases h.2 with ⟨rfl, hn⟩ | ⟨g, cap, cur, rfl, hb, hg, hnc, hcm, hcs, htake⟩
 ·obtain rfl : xs = [] := List.eq_nil_of_length_eq_zero hn
  exact SeqI.nil w
 ·refine ⟨_, cap, rfl, hnc, hcm, (by simp), fun hp => ⟨g, 0, rfl, fun j hj => ?_⟩⟩
  have := World.ownsRow.cellAt h' j (by omega);rw [Nat.zero_add, this, getD_mapI xs j hj]
theorem OwnsI.parts {B : Nat} {w : World} {v : Value} {xs : Ints} (h : OwnsI B w v xs) : ∃ a cap, v = .slice a xs.length cap ∧ xs.length ≤ cap ∧ cap ≤ maxLen ∧ OwnsI B w (.slice a xs.length cap) xs ∧ (a = none → cap = 0) := by
 obtain ⟨a, cap, rfl, h1, h2, h0, hs⟩ := h.seq.parts;exact ⟨a, cap, rfl, h1, h2, h, h0⟩
theorem OwnsI.lt {B : Nat} {w : World} {v : Value} {xs : Ints} (h : OwnsI B w v xs) : ∀ k, v.ownBlock = some k → B ≤ k ∧ k < w.heap.size := World.ownsRow.lt h
theorem OwnsI.alloc {B : Nat} {w : World} {v : Value} {xs : Ints} (h : OwnsI B w v xs) (o : Obj) : OwnsI B (w.alloc o) v xs := World.ownsRow.alloc h o
theorem OwnsI.mono {B C : Nat} {w : World} {v : Value} {xs : Ints} (h : OwnsI B w v xs) (hc : C ≤ B) : OwnsI C w v xs := by
 refine ⟨h.1, ?_⟩
 rcases h.2 with hn | ⟨g, cap, cur, hv, hb, hg⟩
 ·exact .inl hn
 ·exact .inr ⟨g, cap, cur, hv, by omega, hg⟩
theorem OwnsI.below {B N : Nat} {w w' : World} {v : Value} {xs : Ints} (h : OwnsI B w v xs) (hb : Below N w w') (hN : w.heap.size ≤ N) : OwnsI B w' v xs := by
 refine ⟨h.1, ?_⟩
 rcases h.2 with hn | ⟨g, cap, cur, hv, hb', hg, hr⟩
 ·exact .inl hn
 ·have hlt : g < w.heap.size := (Array.getElem?_eq_some_iff.1 hg).1
  exact .inr ⟨g, cap, cur, hv, hb', (hb.block g (by omega)).trans hg, hr⟩
theorem OwnsI.empty (w : World) (B : Nat) (hB : B ≤ w.heap.size) : OwnsI B (w.alloc (.cells #[] 3)) (.slice (some ⟨w.heap.size, 0, none⟩) 0 0) [] :=
 World.ownsRow_lit w #[] 0 hB (Nat.zero_le _) rfl
theorem OwnsI.one (w : World) (B : Nat) (x : Int) (hB : B ≤ w.heap.size) : OwnsI B (w.alloc (.cells #[Value.int .i64 x] 3)) (.slice (some ⟨w.heap.size, 0, none⟩) 1 1) [x] :=
 World.ownsRow_lit w #[Value.int .i64 x] 1 hB (by unfold maxLen; omega) rfl
theorem SeqI.one (w : World) (x : Int) : SeqI (w.alloc (.cells #[.int .i64 x] 3)) (.slice (some ⟨w.heap.size, 0, none⟩) 1 1) [x] :=
 (OwnsI.one w w.heap.size x (Nat.le_refl _)).seq
def MadeI (w : World) (xs : Ints) (e : Ending) (w' : World) : Prop := ∃ v, e = .returned v ∧ OwnsI w.heap.size w' v xs ∧ Below w.heap.size w w'
theorem infoI : (Tryz.prog.info? 3).map (fun i => (i.zero, i.size, i.bytes)) = some (some (.int .i64 0), 1, 8) := by kernel_rfl
theorem ints_oneCell (ys : Ints) : ∀ u ∈ ys.map (Value.int .i64), u.oneCell' = true := by
 intro u hu;obtain ⟨c, -, rfl⟩ := List.mem_map.1 hu
 rfl
theorem wpList_append_ints {w : World} {ops : Array Oper} {rest : List Oper} {o : Oper} {act : Act} {Q : Exit → Act → World → Prop} (hgd : o.guard = none) (s x : Operand)
  (ho : o.op = .call { callee := .builtin .append, args := #[s, x], argTypes := #[23, 23] }) (B : Nat) {v u : Value} {xs ys : Ints}
  (hs : act.eval s = v) (hown : OwnsI B w v xs) (hx : act.eval x = u) (hseq : SeqI w u ys) (hlen : xs.length + ys.length ≤ 1073741824) (hbase : B ≤ w.heap.size)
  (h : ∀ v' w', OwnsI B w' v' (xs ++ ys) → w.grownBy w' v.ownBlock → (v'.ownBlock = v.ownBlock ∨ v'.ownBlock = some w.heap.size) → wpList Tryz.prog ops Q rest (act.put o.dst v') w') : wpList Tryz.prog ops Q (o :: rest) act w := by
 obtain ⟨i0, hi, hz0, hz1, hz2⟩ := info_parts infoI;obtain ⟨a, cap, rfl, h1, h2, h0, h3⟩ := hseq
 cases a with
 | none =>
  obtain rfl := h0 rfl;obtain rfl : ys = [] := List.eq_nil_of_length_eq_zero (by omega);refine wpList_append_own_none hgd s x 23 ho B 3 i0 1 Tryz.underlying23 hi v _ _ hs hown hx (h v w ?_ (World.grownBy.refl _ _) (.inl rfl));rw [List.append_nil]; exact hown
 | some ad =>
  refine wpList_append_own_at _ hgd s x 23 ho B 3 i0 (.int .i64 0) 1 8 Tryz.underlying23 hi hz0 hz1 hz2 rfl (by decide) v _ _ hs hown ad ys.length cap (ys.map (Value.int .i64)) hx (by simp) ?_ (ints_oneCell _) (by unfold maxLen; omega) (by omega) hbase ?_
  ·intro j u hu
   have hj : j < ys.length := by
    have := (List.getElem?_eq_some_iff.1 hu).1
    simpa using this
   obtain ⟨b, off, he, hc⟩ := h3 (by omega)
   cases he
   rw [getD_mapI ys j hj] at hu
   cases hu
   rw [Addr.add_lit];exact hc j hj
  ·intro v' w' hown' hg _ hat
   exact h v' w' (by unfold OwnsI; rw [List.length_append, List.map_append]; exact hown') hg hat
theorem SeqI.dims {w : World} {a : Option Addr} {n cap : Nat} {xs : Ints} (h : SeqI w (.slice a n cap) xs) : xs.length = n ∧ n ≤ cap ∧ cap ≤ 9223372036854775807 := by
 obtain ⟨a', cap', hv, h1, h2, -, -⟩ := h;simp only [Value.slice.injEq] at hv
 obtain ⟨rfl, rfl, rfl⟩ := hv;exact ⟨rfl, h1, h2⟩
theorem OwnsI.cell {B : Nat} {w : World} {g n cap : Nat} {xs : Ints} (h : OwnsI B w (.slice (some ⟨g, 0, none⟩) n cap) xs) (j : Nat) (hj : j < xs.length) : w.cell? ⟨g, j, none⟩ = some (Value.int .i64 (xs.getD j 0)) := by
 have hn := h.seq.dims.1;have h' : w.ownsRow B 3 1 (.slice (some ⟨g, 0, none⟩) n cap) n (xs.map (Value.int .i64)) := by rw [← hn]; unfold OwnsI at h; rw [← hn] at h; exact h
 rw [World.ownsRow.cellAt h' j (by omega), getD_mapI xs j hj]
theorem OwnsI.at {B : Nat} {w : World} {v : Value} {xs : Ints} (h : OwnsI B w v xs) (n : Nat) (hn : xs.length = n) : ∃ a cap, v = .slice a n cap ∧ (n : Int) ≤ cap ∧ (cap : Int) ≤ 9223372036854775807 ∧ OwnsI B w (.slice a n cap) xs := by
 subst hn;obtain ⟨a, cap, rfl, h1, h2, h3, -⟩ := h.parts;have hm : maxLen = 9223372036854775807 := rfl;exact ⟨a, cap, rfl, by omega, by omega, h3⟩
theorem SeqI.drawn {w : World} {v : Value} {xs : Ints} (h : SeqI w v xs) (n : Nat) : SeqI (w.drewN n) v xs := h.below (below_drewN (Below.refl _ _) n)
theorem map_setI (xs : Ints) (k : Nat) (c : Int) : (xs.set k c).map (Value.int .i64) = (xs.map (Value.int .i64)).set k (Value.int .i64 c) := by
 simp [List.map_set]
theorem wpList_makeI {w : World} {ops : Array Oper} {rest : List Oper} {o : Oper} {a : Act} {Q : Exit → Act → World → Prop} (hg : o.guard = none) (l : Operand) (ho : o.op = Op.makeSlice 23 l l)
  (m : Int) (n : Nat) (hl : a.eval l = .int .i64 m) (hm : m = (n : Int)) (hn : n ≤ 16777216)
  (h : ∀ w', OwnsI w.heap.size w' (.slice (some ⟨w.heap.size, 0, none⟩) n n) (List.replicate n 0) → Below w.heap.size w w' → wpList Tryz.prog ops Q rest (a.put o.dst (.slice (some ⟨w.heap.size, 0, none⟩) n n)) w') :
  wpList Tryz.prog ops Q (o :: rest) a w := by
 subst hm;obtain ⟨i0, hi, hz0, hz1, hz2⟩ := info_parts infoI;refine wpList_make_row w hg l l 23 ho 3 i0 (.int .i64 0) Tryz.underlying23 hi hz0 hz1 rfl .i64 .i64 n hl hl (by rw [hz2]; omega) (by omega) ?_;refine h _ ?_ ((Below.refl _ _).alloc (Nat.le_refl _) _);have hr := World.ownsRow_lit (base := w.heap.size) (e := 3) (size := 1) w (madeCells #[.int .i64 0] n) n (Nat.le_refl _) (by unfold maxLen; omega) (by rw [size_madeCells, Nat.mul_one]);rw [toList_madeCells_one] at hr;have e : List.replicate n (Value.int .i64 0) = (List.replicate n 0).map (Value.int .i64) := by rw [List.map_replicate]
 rw [e] at hr;unfold OwnsI;rw [List.length_replicate];exact hr
theorem OwnsI.free {B : Nat} {w : World} {g n cap : Nat} {xs : Ints} (h : OwnsI B w (.slice (some ⟨g, 0, none⟩) n cap) xs) (j : Nat) : w.frozen? ⟨g, j, none⟩ = false := by
 have hn := h.seq.dims.1;have h' : w.ownsRow B 3 1 (.slice (some ⟨g, 0, none⟩) n cap) n (xs.map (Value.int .i64)) := by rw [← hn]; unfold OwnsI at h; rw [← hn] at h; exact h
 exact World.ownsRow.frozenAt h' j
theorem OwnsI.set {B : Nat} {w : World} {g n cap : Nat} {xs : Ints} (h : OwnsI B w (.slice (some ⟨g, 0, none⟩) n cap) xs) (j : Nat) (x : Int) : OwnsI B (w.setCell ⟨g, j, none⟩ (.int .i64 x)) (.slice (some ⟨g, 0, none⟩) n cap) (xs.set j x) := by
 have hn := h.seq.dims.1;have h' : w.ownsRow B 3 1 (.slice (some ⟨g, 0, none⟩) n cap) n (xs.map (Value.int .i64)) := by rw [← hn]; unfold OwnsI at h; rw [← hn] at h; exact h
 have hs := (World.ownsRow.stored h' j (Value.int .i64 x)).1;rw [← map_setI] at hs;unfold OwnsI;rw [List.length_set, hn];exact hs
theorem OwnsI.block {B : Nat} {w : World} {g n cap : Nat} {xs : Ints} (h : OwnsI B w (.slice (some ⟨g, 0, none⟩) n cap) xs) : B ≤ g ∧ g < w.heap.size := h.lt g rfl
end Go.Proofs.YtfapkepfngddlaaGreat
