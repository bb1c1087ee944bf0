/- What the document's own Is, Without, Under, Of, Keys, Size, Same of items leave. What the document's own Less of items leaves. What the document's own Put and Norm of items leave. (Written by gen-put.py.) -/
import Derived.Test.YtfapkepfngddlaaGreatISets
import Derived.Test.YtfapkepfngddlaaGreatRefZs
import Derived.Test.YtfapkepfngddlaaGreatEqI
import Derived.Deep.QuietTactic
import Derived.Deep.Cut
set_option maxRecDepth 100000
set_option maxHeartbeats 64000000
namespace Go.Proofs.YtfapkepfngddlaaGreat
open Go.RowKit Plain
set_option linter.unusedVariables false
def pickG {α : Type} (f : α → Bool) (xs : List α) (k : Nat) : List α := (xs.take k).filter f
theorem takeG {α : Type} [Inhabited α] {xs : List α} {k : Nat} (hk : k < xs.length) : xs.take (k + 1) = xs.take k ++ [xs.getD k default] := by
 rw [List.take_succ_eq_append_getElem hk];simp [List.getD, List.getElem?_eq_getElem hk]
theorem pickG_yes {α : Type} [Inhabited α] {f : α → Bool} {xs : List α} {k : Nat} (hk : k < xs.length) (h : f (xs.getD k default) = true) : pickG f xs k ++ [xs.getD k default] = pickG f xs (k + 1) := by
 unfold pickG;rw [takeG hk, List.filter_append];simp only [List.filter_cons, h, if_true, List.filter_nil]
theorem pickG_no {α : Type} [Inhabited α] {f : α → Bool} {xs : List α} {k : Nat} (hk : k < xs.length) (h : f (xs.getD k default) = false) : pickG f xs k = pickG f xs (k + 1) := by
 unfold pickG;rw [takeG hk, List.filter_append, List.filter_cons, if_neg (by rw [h]; decide), List.filter_nil, List.append_nil]
theorem pickG_all {α : Type} (f : α → Bool) (xs : List α) : pickG f xs xs.length = xs.filter f := by unfold pickG; rw [List.take_length]
theorem pickG_len {α : Type} (f : α → Bool) (xs : List α) (k : Nat) : (pickG f xs k).length ≤ k := by
 unfold pickG;have := List.length_filter_le f (xs.take k);have := List.length_take_le k xs;omega
theorem rcoversB {v : Value} {zs : List Txt} {w : World} (hv : SeqT w v zs) (hz : FitT zs) (hm : zs.length ≤ 1000000) (s : Txt) (hs : s.length ≤ 1000000) :
  Calls Tryz.prog 34 #[v, .string (bt s)] w fun e w' => e = .returned (.bool (covers zs s)) ∧ Below w.heap.size w w' :=
 (rcovers_any hv hz hm s hs).mono fun _ _ ⟨h, q, hq⟩ => ⟨h, by rw [hq]; exact below_drewN (Below.refl _ _) q⟩
theorem rsameI_any {u v : Value} {xs ys : List PItem} {w : World} (hu : SeqE LItem w u xs) (hv : SeqE LItem w v ys) :
  Calls Tryz.prog 36 #[u, v] w fun e w' => e = .returned (.bool (decide (xs = ys))) ∧ ∃ n, w' = w.drewN n := by
 obtain ⟨a, cap, rfl, g1, g2, g0, h⟩ := hu.parts;obtain ⟨a', cap', rfl, e1, e2, e0, h'⟩ := hv.parts
 by_cases hl : xs.length = ys.length
 ·obtain ⟨n, hN⟩ : ∃ n, xs.length = n := ⟨_, rfl⟩
  have hM : ys.length = n := by omega
  have hT : (∀ j, j < n → xs.getD j default = ys.getD j default) → decide (xs = ys) = true := fun hall => decide_eq_true (by
   apply List.ext_getElem hl
   intro j h1 h2;have := hall j (by omega)
   simpa [List.getD, List.getElem?_eq_getElem h1, List.getElem?_eq_getElem h2] using this)
  have hF : ∀ j, ¬ xs.getD j default = ys.getD j default → decide (xs = ys) = false := fun j hne => decide_eq_false (by
   intro e; subst e; exact hne rfl)
  have HT := zH hT;have HF := zH hF;generalize decide (xs = ys) = r at *;rw [hN] at h g1 ⊢;rw [hM] at h' e1 ⊢;have HS := zH h;have HS' := zH h';have LN := zH hN;have LM := zH hM;clear hu hv h h' g0 e0 hl hT hF hN hM;go_enter Tryz.func36, Tryz.ntmps36
  go_wp2_with fail
  go_loopw [5] (fun i wr => ∃ k : Nat, k ≤ n ∧ i = .int .i64 k ∧ (∀ j, j < k → xs.getD j default = ys.getD j default) ∧ ∃ q, wr = w.drewN q) (fun i _ => n - (intOf i).toNat)
  case atStart => exact ⟨0, Nat.zero_le _, rfl, (fun j hj => absurd hj (by omega)), 0, rfl⟩
  case round =>
   obtain ⟨k, hk, rfl, hall, q, rfl⟩ := hrel;have HALL := zH hall;clear hall
   by_cases hlt : k < n
   ·obtain ⟨b, o, c, hv, -, -, -, hc⟩ := items_spot HS.out (by rw [LN.out]; omega)
    rw [LN.out] at hv;simp only [Value.slice.injEq] at hv
    obtain ⟨rfl, -, rfl⟩ := hv;obtain ⟨b', o', c', hv', -, -, -, hc'⟩ := items_spot HS'.out (by rw [LM.out]; omega);rw [LM.out] at hv';simp only [Value.slice.injEq] at hv'
    obtain ⟨rfl, -, rfl⟩ := hv';obtain ⟨c0, c1, c2, c3, c4, c5, c6, c7⟩ := hc k (by rw [LN.out]; exact hlt);obtain ⟨d0, d1, d2, d3, d4, d5, d6, d7⟩ := hc' k (by rw [LM.out]; exact hlt);have HFK := zH (HF.out k);have HNX : Hid (xs.getD k default = ys.getD k default → ∀ j, j < k + 1 → xs.getD j default = ys.getD j default) := zH (fun he j hj => by
     by_cases e : j = k
     ·rw [e]; exact he
     ·exact HALL.out j (by omega))
    clear hc hc';generalize xs.getD k default = x at *;generalize ys.getD k default = y at *;have hq := neq_item x y
    by_cases he : x = y
    ·have HX := zH (HNX.out he)
     rw [decide_eq_true he] at hq;clear he HNX HFK;go_wp2_with fail
     go_quiet (fail)
     go_wp2_with fail
     go_roundw
     case rel => exact ⟨k + 1, by omega, by go_num, HX.out, _, rfl⟩
     case measure => simp [intOf]; omega
    ·obtain rfl : r = false := HFK.out he
     rw [decide_eq_false he] at hq;clear he HNX HFK;go_wp2_with fail
     go_quiet (fail)
     go_wp2_with fail
     go_ret
     exact ⟨rfl, _, World.drewN_drewN _ _ _⟩
   ·obtain rfl : k = n := by omega
    obtain rfl : r = true := HT.out HALL.out;go_wp2_with fail
    go_ret
    exact ⟨rfl, _, rfl⟩
 ·have hne : ((xs.length : Int) == (ys.length : Int)) = false := by simp; omega
  rw [decide_eq_false (by intro e; subst e; exact hl rfl)];clear hu hv h h' g0 e0 g1 g2 e1 e2;generalize xs.length = n at *;generalize ys.length = m at *;go_enter Tryz.func36, Tryz.ntmps36
  go_wp2_with fail
  go_ret
  exact ⟨rfl, 0, rfl⟩
theorem rsameIR {u v : Value} {xs ys : List PItem} {w : World} {r : Bool} (hu : SeqE LItem w u xs) (hv : SeqE LItem w v ys) (e : decide (xs = ys) = r) :
  Calls Tryz.prog 36 #[u, v] w fun e w' => e = .returned (.bool r) ∧ Below w.heap.size w w' := by
 rw [← e];exact (rsameI_any hu hv).mono fun _ _ ⟨h, n, hw⟩ => ⟨h, by rw [hw]; exact below_drewN (Below.refl _ _) n⟩
theorem itv_eq2 (x : PItem) : itv x = .agg #[.string (bt x.key), .string (bt x.field), .int .i64 x.kind, .string (bt x.elem), .int .i64 x.n, .int .i64 x.dot.node, .int .i64 x.dot.seq, .int .i64 x.dot.pos] := rfl
def tailP (a b : PItem) : Prop := a.kind < b.kind ∨ (a.kind = b.kind ∧ (a.dot.node < b.dot.node ∨ (a.dot.node = b.dot.node ∧ (a.dot.seq < b.dot.seq ∨ (a.dot.seq = b.dot.seq ∧ (a.dot.pos < b.dot.pos ∨ (a.dot.pos = b.dot.pos ∧ (a.elem < b.elem ∨ (a.elem = b.elem ∧ a.n < b.n)))))))))
instance (a b : PItem) : Decidable (tailP a b) := by unfold tailP; infer_instance
theorem less_key {a b : PItem} (h : ¬ a.key = b.key) : lessB a b = decide (a.key < b.key) := by
 unfold lessB;rw [decide_eq_decide];unfold iless
 constructor
 ·rintro (g | ⟨e, -⟩)
  ·exact g
  ·exact absurd e h
 ·exact .inl
theorem less_field {a b : PItem} (h : a.key = b.key) (g : ¬ a.field = b.field) : lessB a b = decide (a.field < b.field) := by
 unfold lessB;rw [decide_eq_decide];unfold iless;rw [h]
 constructor
 ·rintro (k | ⟨-, k | ⟨e, -⟩⟩)
  ·exact absurd k (lt_irrefl _)
  ·exact k
  ·exact absurd e g
 ·exact fun k => .inr ⟨rfl, .inl k⟩
theorem less_tail {a b : PItem} (h : a.key = b.key) (g : a.field = b.field) : lessB a b = decide (tailP a b) := by
 unfold lessB;rw [decide_eq_decide];unfold iless tailP;rw [h, g]
 constructor
 ·rintro (k | ⟨-, k | ⟨-, k⟩⟩)
  ·exact absurd k (lt_irrefl _)
  ·exact absurd k (lt_irrefl _)
  ·exact k
 ·exact fun k => .inr ⟨rfl, .inr ⟨rfl, k⟩⟩
theorem rless_key (x y : PItem) (w : World) (h : ¬ x.key = y.key) :
  Calls Tryz.prog 86 #[itv x, itv y] w fun e w' => e = .returned (.bool (lessB x y)) ∧ Below w.heap.size w w' := by
 rw [less_key h];have t1 := text_eq x.key y.key;have t2 := text_lt x.key y.key;rw [decide_eq_false h] at t1;rw [← t2];clear t2 h;have HB := zH ((zB w (.cells #[.string (bt x.key), .string (bt x.field), .int .i64 x.kind, .string (bt x.elem), .int .i64 x.n, .int .i64 x.dot.node, .int .i64 x.dot.seq, .int .i64 x.dot.pos] 47)).alloc (by simp) (.cells #[.string (bt y.key), .string (bt y.field), .int .i64 y.kind, .string (bt y.elem), .int .i64 y.n, .int .i64 y.dot.node, .int .i64 y.dot.seq, .int .i64 y.dot.pos] 47));rw [itv_eq2, itv_eq2];generalize bt x.key = K1 at *;generalize bt y.key = K2 at *;go_enter Tryz.func86, Tryz.ntmps86
 go_wp2_with fail
 go_ret
 exact ⟨rfl, HB.out⟩
theorem rless_field (x y : PItem) (w : World) (h : x.key = y.key) (g : ¬ x.field = y.field) :
  Calls Tryz.prog 86 #[itv x, itv y] w fun e w' => e = .returned (.bool (lessB x y)) ∧ Below w.heap.size w w' := by
 rw [less_field h g];have t1 := text_eq x.key y.key;have t2 := text_lt x.field y.field;have t3 := text_eq x.field y.field;rw [decide_eq_true h] at t1;rw [decide_eq_false g] at t3;rw [← t2];clear t2 g h;have HB := zH ((zB w (.cells #[.string (bt x.key), .string (bt x.field), .int .i64 x.kind, .string (bt x.elem), .int .i64 x.n, .int .i64 x.dot.node, .int .i64 x.dot.seq, .int .i64 x.dot.pos] 47)).alloc (by simp) (.cells #[.string (bt y.key), .string (bt y.field), .int .i64 y.kind, .string (bt y.elem), .int .i64 y.n, .int .i64 y.dot.node, .int .i64 y.dot.seq, .int .i64 y.dot.pos] 47));rw [itv_eq2, itv_eq2];generalize bt x.key = K1 at *;generalize bt y.key = K2 at *;generalize bt x.field = F1 at *;generalize bt y.field = F2 at *;go_enter Tryz.func86, Tryz.ntmps86
 go_wp2_with fail
 go_ret
 exact ⟨rfl, HB.out⟩
def num4 (x : PItem) : Nat → Int
 | 0 => x.kind
 | 1 => x.dot.node
 | 2 => x.dot.seq
 | _ => x.dot.pos
theorem tail_num {x y : PItem} {k : Nat} (hk : k < 4) (h : ∀ j, j < k → num4 x j = num4 y j) (g : ¬ num4 x k = num4 y k) : decide (tailP x y) = decide (num4 x k < num4 y k) := by
 rw [decide_eq_decide];unfold tailP
 match k, hk with
 | 0, _ =>
  have g0 : ¬ x.kind = y.kind := g
  show _ ↔ x.kind < y.kind
  constructor
  ·rintro (h | ⟨e, -⟩)
   ·exact h
   ·exact absurd e g0
  ·exact .inl
 | 1, _ =>
  have e0 : x.kind = y.kind := h 0 (by omega);have g0 : ¬ x.dot.node = y.dot.node := g
  show _ ↔ x.dot.node < y.dot.node
  rw [e0]
  constructor
  ·rintro (h | ⟨-, h | ⟨e, -⟩⟩)
   ·omega
   ·exact h
   ·exact absurd e g0
  ·exact fun h => .inr ⟨rfl, .inl h⟩
 | 2, _ =>
  have e0 : x.kind = y.kind := h 0 (by omega);have e1 : x.dot.node = y.dot.node := h 1 (by omega);have g0 : ¬ x.dot.seq = y.dot.seq := g
  show _ ↔ x.dot.seq < y.dot.seq
  rw [e0, e1]
  constructor
  ·rintro (h | ⟨-, h | ⟨-, h | ⟨e, -⟩⟩⟩)
   ·omega
   ·omega
   ·exact h
   ·exact absurd e g0
  ·exact fun h => .inr ⟨rfl, .inr ⟨rfl, .inl h⟩⟩
 | 3, _ =>
  have e0 : x.kind = y.kind := h 0 (by omega);have e1 : x.dot.node = y.dot.node := h 1 (by omega);have e2 : x.dot.seq = y.dot.seq := h 2 (by omega);have g0 : ¬ x.dot.pos = y.dot.pos := g
  show _ ↔ x.dot.pos < y.dot.pos
  rw [e0, e1, e2]
  constructor
  ·rintro (h | ⟨-, h | ⟨-, h | ⟨-, h | ⟨e, -⟩⟩⟩⟩)
   ·omega
   ·omega
   ·omega
   ·exact h
   ·exact absurd e g0
  ·exact fun h => .inr ⟨rfl, .inr ⟨rfl, .inr ⟨rfl, .inl h⟩⟩⟩
theorem tail_end {x y : PItem} (h : ∀ j, j < 4 → num4 x j = num4 y j) : tailP x y ↔ x.elem < y.elem ∨ (x.elem = y.elem ∧ x.n < y.n) := by
 have e0 : x.kind = y.kind := h 0 (by omega);have e1 : x.dot.node = y.dot.node := h 1 (by omega);have e2 : x.dot.seq = y.dot.seq := h 2 (by omega);have e3 : x.dot.pos = y.dot.pos := h 3 (by omega);unfold tailP;rw [e0, e1, e2, e3]
 constructor
 ·rintro (h | ⟨-, h | ⟨-, h | ⟨-, h | ⟨-, h⟩⟩⟩⟩)
  ·omega
  ·omega
  ·omega
  ·omega
  ·exact h
 ·exact fun h => .inr ⟨rfl, .inr ⟨rfl, .inr ⟨rfl, .inr ⟨rfl, h⟩⟩⟩⟩
theorem tail_elem {x y : PItem} (h : ∀ j, j < 4 → num4 x j = num4 y j) (g : ¬ x.elem = y.elem) : decide (tailP x y) = decide (x.elem < y.elem) := by
 rw [decide_eq_decide, tail_end h]
 constructor
 ·rintro (h | ⟨e, -⟩)
  ·exact h
  ·exact absurd e g
 ·exact .inl
theorem tail_n {x y : PItem} (h : ∀ j, j < 4 → num4 x j = num4 y j) (g : x.elem = y.elem) : decide (tailP x y) = decide (x.n < y.n) := by
 rw [decide_eq_decide, tail_end h, g]
 constructor
 ·rintro (h | ⟨-, h⟩)
  ·exact absurd h (lt_irrefl _)
  ·exact h
 ·exact fun h => .inr ⟨rfl, h⟩
theorem pair_cells (W : World) (x y : PItem) (t : TypeId) : ∀ k, k < 4 → (W.alloc (.cells #[.int .i64 x.kind, .int .i64 y.kind, .int .i64 x.dot.node, .int .i64 y.dot.node, .int .i64 x.dot.seq, .int .i64 y.dot.seq, .int .i64 x.dot.pos, .int .i64 y.dot.pos] t)).cell? ⟨W.heap.size, k * 2, none⟩ = some (.int .i64 (num4 x k)) ∧
  (W.alloc (.cells #[.int .i64 x.kind, .int .i64 y.kind, .int .i64 x.dot.node, .int .i64 y.dot.node, .int .i64 x.dot.seq, .int .i64 y.dot.seq, .int .i64 x.dot.pos, .int .i64 y.dot.pos] t)).cell? ⟨W.heap.size, k * 2 + 1, none⟩ = some (.int .i64 (num4 y k))
 | 0, _ => ⟨by simp [num4], by simp [num4]⟩
 | 1, _ => ⟨by simp [num4], by simp [num4]⟩
 | 2, _ => ⟨by simp [num4], by simp [num4]⟩
 | 3, _ => ⟨by simp [num4], by simp [num4]⟩
theorem rless_tail (x y : PItem) (w : World) (h : x.key = y.key) (g : x.field = y.field) :
  Calls Tryz.prog 86 #[itv x, itv y] w fun e w' => e = .returned (.bool (lessB x y)) ∧ Below w.heap.size w w' := by
 rw [less_tail h g];have t1 := text_eq x.key y.key;have t3 := text_eq x.field y.field;rw [decide_eq_true h] at t1;rw [decide_eq_true g] at t3;clear g h;have TN := zH (fun k hk h g => tail_num (x := x) (y := y) (k := k) hk h g);have TE := zH (fun h g => tail_elem (x := x) (y := y) h g);have TQ := zH (fun h g => tail_n (x := x) (y := y) h g);have t5 := text_eq x.elem y.elem;have t6 := text_lt x.elem y.elem;generalize decide (tailP x y) = r at *;obtain ⟨W1, hW1⟩ : ∃ W1, (w.alloc (.cells #[.string (bt x.key), .string (bt x.field), .int .i64 x.kind, .string (bt x.elem), .int .i64 x.n, .int .i64 x.dot.node, .int .i64 x.dot.seq, .int .i64 x.dot.pos] 47)).alloc (.cells #[.string (bt y.key), .string (bt y.field), .int .i64 y.kind, .string (bt y.elem), .int .i64 y.n, .int .i64 y.dot.node, .int .i64 y.dot.seq, .int .i64 y.dot.pos] 47) = W1 := ⟨_, rfl⟩;have HW1 := zH hW1;have hs1 : W1.heap.size = w.heap.size + 2 := by rw [← hW1]; simp
 have HS1 := zH hs1;have A1 : Hid (ItemAt W1 w.heap.size 0 x) := zH (by rw [← hW1]; exact ⟨by simp, by simp, by simp, by simp, by simp, by simp, by simp, by simp⟩);have A2 : Hid (ItemAt W1 (w.heap.size + 1) 0 y) := zH (by rw [← hW1]; exact ⟨by simp, by simp, by simp, by simp, by simp, by simp, by simp, by simp⟩);have HB1 : Hid (Below w.heap.size w W1) := zH (by rw [← hW1]; exact (zB w _).alloc (by simp) _);have PC := zH (pair_cells W1 x y 144);clear hs1 hW1;rw [itv_eq2, itv_eq2];go_enter Tryz.func86, Tryz.ntmps86
 go_upto_region 5 with fail
 rw [HW1.out];have HE1 := zH (text_eq x.elem y.elem);have HE2 := zH (text_lt x.elem y.elem);obtain ⟨c0, c1, c2, c3, c4, c5, c6, c7⟩ := A1.out;obtain ⟨d0, d1, d2, d3, d4, d5, d6, d7⟩ := A2.out;simp only [Nat.zero_add] at c1 c2 c3 c4 c5 c6 c7 d1 d2 d3 d4 d5 d6 d7
 clear t1 t3 t5 t6 c0 c1 d0 d1;go_wp2_with fail
 have HB2 := zH (HB1.out.alloc HB1.out.size (.cells #[.int .i64 x.kind, .int .i64 y.kind, .int .i64 x.dot.node, .int .i64 y.dot.node, .int .i64 x.dot.seq, .int .i64 y.dot.seq, .int .i64 x.dot.pos, .int .i64 y.dot.pos] 144));have HS2 : Hid ((W1.alloc (.cells #[.int .i64 x.kind, .int .i64 y.kind, .int .i64 x.dot.node, .int .i64 y.dot.node, .int .i64 x.dot.seq, .int .i64 y.dot.seq, .int .i64 x.dot.pos, .int .i64 y.dot.pos] 144)).heap.size = W1.heap.size + 1) := zH (by simp);have A3 : Hid (ItemAt (W1.alloc (.cells #[.int .i64 x.kind, .int .i64 y.kind, .int .i64 x.dot.node, .int .i64 y.dot.node, .int .i64 x.dot.seq, .int .i64 y.dot.seq, .int .i64 x.dot.pos, .int .i64 y.dot.pos] 144)) w.heap.size 0 x) := zH (A1.out.below (zB W1 _) (by rw [HS1.out]; omega));have A4 : Hid (ItemAt (W1.alloc (.cells #[.int .i64 x.kind, .int .i64 y.kind, .int .i64 x.dot.node, .int .i64 y.dot.node, .int .i64 x.dot.seq, .int .i64 y.dot.seq, .int .i64 x.dot.pos, .int .i64 y.dot.pos] 144)) (w.heap.size + 1) 0 y) := zH (A2.out.below (zB W1 _) (by rw [HS1.out]; omega));clear c2 c3 c4 c5 c6 c7 d2 d3 d4 d5 d6 d7 A1 A2;generalize (W1.alloc (.cells #[.int .i64 x.kind, .int .i64 y.kind, .int .i64 x.dot.node, .int .i64 y.dot.node, .int .i64 x.dot.seq, .int .i64 y.dot.seq, .int .i64 x.dot.pos, .int .i64 y.dot.pos] 144)) = W2 at *
 go_loopw [6, 55] (fun _ i wr => ∃ k : Nat, k ≤ 4 ∧ i = .int .i64 k ∧ Aside (∀ j, j < k → num4 x j = num4 y j) ∧ Below W2.heap.size W2 wr) (fun _ i _ => 4 - (intOf i).toNat)
 case atStart => exact ⟨0, Nat.zero_le _, rfl, (fun j hj => absurd hj (Nat.not_lt_zero _)), Below.refl _ _⟩
 case round =>
  obtain ⟨k, hk, rfl, HA, hb⟩ := hrel;have HB := zH hb;clear hb
  by_cases hlt : k < 4
  ·have hlz : (k : Int) < 4 := by omega
   have p1 := (HB.out.cell (p := ⟨W1.heap.size, k * 2, none⟩) (by rw [HS2.out]; exact Nat.lt_succ_self _)).trans (PC.out k hlt).1;have p2 := (HB.out.cell (p := ⟨W1.heap.size, k * 2 + 1, none⟩) (by rw [HS2.out]; exact Nat.lt_succ_self _)).trans (PC.out k hlt).2;have HTN := zH (TN.out k hlt HA.out);have HNX : Hid (num4 x k = num4 y k → ∀ j, j < k + 1 → num4 x j = num4 y j) := zH (fun h j hj => by
    by_cases e : j = k
    ·rw [e]; exact h
    ·exact HA.out j (by omega))
   have G1 := zH (fun o => HB.out.alloc HB.out.size o);have G2 := zH (fun o => (HB2.out.trans (HB.out.mono HB2.out.size)).alloc (HB2.out.trans (HB.out.mono HB2.out.size)).size o);generalize num4 x k = m at *;generalize num4 y k = n at *
   by_cases he : m = n
   ·have HA2 := zH (HNX.out he)
    have q1 : (m == n) = true := by simp [he]
    clear he HTN HNX;go_wp2_with fail
    go_roundw
    case rel => exact ⟨k + 1, by omega, by go_num, HA2.out, G1.out _⟩
    case measure => simp [intOf]; omega
   ·have hr := HTN.out he
    have q1 : (m == n) = false := by simp [he]
    have HR := zH hr;clear he HTN HNX hr;go_wp2_with fail
    go_ret
    exact ⟨ret_bool HR.out.symm, G2.out _⟩
  ·obtain rfl : k = 4 := by omega
   obtain ⟨-, -, -, c3, c4, -, -, -⟩ := A3.out.below HB.out A3.out.lt;obtain ⟨-, -, -, d3, d4, -, -, -⟩ := A4.out.below HB.out A4.out.lt;simp only [Nat.zero_add] at c3 c4 d3 d4
   have HTE := zH (TE.out HA.out);have HTQ := zH (TQ.out HA.out);have G2 := zH (HB2.out.trans (HB.out.mono HB2.out.size));have t5 := HE1.out;have t6 := HE2.out
   by_cases he : x.elem = y.elem
   ·rw [decide_eq_true he] at t5
    have hr := HTQ.out he;have HR := zH hr;clear he hr t6;generalize bt x.elem = X at *;generalize bt y.elem = Y at *;go_wp2_with fail
    go_ret
    exact ⟨ret_bool HR.out.symm, G2.out⟩
   ·rw [decide_eq_false he] at t5
    have hr := HTE.out he;rw [← t6] at hr;have HR := zH hr;clear he hr t6;generalize bt x.elem = X at *;generalize bt y.elem = Y at *;go_wp2_with fail
    go_ret
    exact ⟨ret_bool HR.out.symm, G2.out⟩
theorem rless_any (x y : PItem) (w : World) :
  Calls Tryz.prog 86 #[itv x, itv y] w fun e w' => e = .returned (.bool (lessB x y)) ∧ Below w.heap.size w w' := by
 by_cases h : x.key = y.key
 ·by_cases g : x.field = y.field
  ·exact rless_tail x y w h g
  ·exact rless_field x y w h g
 ·exact rless_key x y w h
theorem put_at {xs : List PItem} {x : PItem} {k : Nat} (hr : Ris iless xs) (hx : x ∉ xs) (h1 : ∀ j, j < k → lessB (xs.getD j default) x = true) (h2 : k < xs.length → lessB (xs.getD k default) x = false) (hk : k ≤ xs.length) :
  insR iless x xs = xs.take k ++ x :: xs.drop k := by
 have key : insR iless x (xs.take k ++ xs.drop k) = xs.take k ++ x :: xs.drop k := by
  refine insR_at sto_item (by rw [List.take_append_drop]; exact hr) (fun t ht => ?_) (fun t ht => ?_)
  ·obtain ⟨j, hj, rfl⟩ := List.getElem_of_mem ht
   rw [List.length_take] at hj;have := of_decide_eq_true (h1 j (by omega));rw [List.getElem_take]
   rwa [show xs.getD j default = xs[j] by simp [List.getD, List.getElem?_eq_getElem (show j < xs.length by omega)]] at this
  ·obtain ⟨j, hj, rfl⟩ := List.getElem_of_mem ht
   rw [List.length_drop] at hj;rw [List.getElem_drop];have hk' : k < xs.length := by omega
   have h3 := of_decide_eq_false (h2 hk');rw [show xs.getD k default = xs[k] by simp [List.getD, List.getElem?_eq_getElem hk']] at h3;have h4 : iless x xs[k] := sto_item.total h3 (fun e => hx (by rw [← e]; exact List.getElem_mem hk'))
   by_cases e : j = 0
   ·subst e; simpa using h4
   ·exact sto_item.trans h4 (List.pairwise_iff_getElem.1 hr k (k + j) hk' (by omega) (by omega))
 rwa [List.take_append_drop] at key
theorem rput_any {u : Value} {xs : List PItem} {w : World} (hu : SeqE LItem w u xs) (hn : xs.length ≤ 1000000) (x : PItem) (hr : Ris iless xs) (hx : x ∉ xs) :
  Calls Tryz.prog 87 #[u, itv x] w (MadeE LItem w (insR iless x xs)) := by
 have HP := zH (fun k h1 h2 hk => put_at (k := k) hr hx h1 h2 hk);obtain ⟨a, cap, rfl, g1, g2, g0, h⟩ := hu.parts;have HS := zH (h.below_alloc (.cells #[.string (bt x.key), .string (bt x.field), .int .i64 x.kind, .string (bt x.elem), .int .i64 x.n, .int .i64 x.dot.node, .int .i64 x.dot.seq, .int .i64 x.dot.pos] 47));have IA : Hid (ItemAt (w.alloc (.cells #[.string (bt x.key), .string (bt x.field), .int .i64 x.kind, .string (bt x.elem), .int .i64 x.n, .int .i64 x.dot.node, .int .i64 x.dot.seq, .int .i64 x.dot.pos] 47)) w.heap.size 0 x) := zH ⟨by simp, by simp, by simp, by simp, by simp, by simp, by simp, by simp⟩;have HB1 := zH (zB w (.cells #[.string (bt x.key), .string (bt x.field), .int .i64 x.kind, .string (bt x.elem), .int .i64 x.n, .int .i64 x.dot.node, .int .i64 x.dot.seq, .int .i64 x.dot.pos] 47));have HW1 : Hid ((w.alloc (.cells #[.string (bt x.key), .string (bt x.field), .int .i64 x.kind, .string (bt x.elem), .int .i64 x.n, .int .i64 x.dot.node, .int .i64 x.dot.seq, .int .i64 x.dot.pos] 47)).heap.size = w.heap.size + 1) := zH (by simp);obtain ⟨n, hN⟩ : ∃ n, xs.length = n := ⟨_, rfl⟩;rw [hN] at HS g1 hn ⊢;have LN := zH hN;have H0 := zH (g0);have KL := zH (fun (W : World) (y : PItem) => rless_any y x W);clear hu h g0 hN hr hx;rw [itv_eq2];generalize insR iless x xs = R at *;go_enter Tryz.func87, Tryz.ntmps87
 go_wp2_with fail
 generalize (w.alloc (.cells #[.string (bt x.key), .string (bt x.field), .int .i64 x.kind, .string (bt x.elem), .int .i64 x.n, .int .i64 x.dot.node, .int .i64 x.dot.seq, .int .i64 x.dot.pos] 47)) = W1 at *
 go_loopw [5] (fun i wr => ∃ k : Nat, k ≤ n ∧ i = .int .i64 k ∧ Aside (∀ j, j < k → lessB (xs.getD j default) x = true) ∧ Below (w.heap.size + 1) W1 wr) (fun i _ => n - (intOf i).toNat)
 case atStart => exact ⟨0, Nat.zero_le _, rfl, (fun j hj => absurd hj (Nat.not_lt_zero _)), Below.refl _ _⟩
 case round =>
  obtain ⟨k, hk, rfl, HA, hb⟩ := hrel;have HB := zH hb;have KLE := zH hk;clear hb
  by_cases hlt : k < n
  ·have HK := zH (show k < xs.length by rw [LN.out]; exact hlt)
   obtain ⟨b, o, c, hv, -, -, -, hc⟩ := items_spot (HS.out.below' HB.out (by rw [HW1.out]; omega)) (by rw [LN.out]; omega);rw [LN.out] at hv;simp only [Value.slice.injEq] at hv
   obtain ⟨rfl, -, rfl⟩ := hv;obtain ⟨c0, c1, c2, c3, c4, c5, c6, c7⟩ := hc k HK.out;obtain ⟨d0, d1, d2, d3, d4, d5, d6, d7⟩ := IA.out.below HB.out (by omega);simp only [Nat.zero_add] at d1 d2 d3 d4 d5 d6 d7
   have K := zH (fun W => KL.out W (xs.getD k default));have HA2 : Hid (lessB (xs.getD k default) x = true → ∀ j, j < k + 1 → lessB (xs.getD j default) x = true) := zH (fun h j hj => by
    by_cases e : j = k
    ·rw [e]; exact h
    ·exact HA.out j (by omega))
   have HE : Hid (lessB (xs.getD k default) x = false → R = xs.take k ++ x :: xs.drop k) := zH (fun h => HP.out k HA.out (fun _ => h) (by rw [LN.out]; exact hk));clear hc;generalize xs.getD k default = y at *;have IY := zH (show ItemAt wr b (o + k * 8) y from ⟨c0, c1, c2, c3, c4, c5, c6, c7⟩);have IXX := zH (show ItemAt wr w.heap.size 0 x from IA.out.below HB.out (by omega));have KE : Hid (∀ u, Below wr.heap.size wr u → Below wr.heap.size wr u ∧ (u.cell? ⟨b, o + k * 8, none⟩ = some (.string (bt y.key)) ∧ u.cell? ⟨b, o + k * 8 + 1, none⟩ = some (.string (bt y.field)) ∧ u.cell? ⟨b, o + k * 8 + 2, none⟩ = some (.int .i64 y.kind) ∧ u.cell? ⟨b, o + k * 8 + 3, none⟩ = some (.string (bt y.elem)) ∧ u.cell? ⟨b, o + k * 8 + 4, none⟩ = some (.int .i64 y.n) ∧ u.cell? ⟨b, o + k * 8 + 5, none⟩ = some (.int .i64 y.dot.node) ∧ u.cell? ⟨b, o + k * 8 + 6, none⟩ = some (.int .i64 y.dot.seq) ∧ u.cell? ⟨b, o + k * 8 + 7, none⟩ = some (.int .i64 y.dot.pos)) ∧ (u.cell? ⟨w.heap.size, 0, none⟩ = some (.string (bt x.key)) ∧ u.cell? ⟨w.heap.size, 1, none⟩ = some (.string (bt x.field)) ∧ u.cell? ⟨w.heap.size, 2, none⟩ = some (.int .i64 x.kind) ∧ u.cell? ⟨w.heap.size, 3, none⟩ = some (.string (bt x.elem)) ∧ u.cell? ⟨w.heap.size, 4, none⟩ = some (.int .i64 x.n) ∧ u.cell? ⟨w.heap.size, 5, none⟩ = some (.int .i64 x.dot.node) ∧ u.cell? ⟨w.heap.size, 6, none⟩ = some (.int .i64 x.dot.seq) ∧ u.cell? ⟨w.heap.size, 7, none⟩ = some (.int .i64 x.dot.pos))) := zH (fun u hu => ⟨hu, by
    obtain ⟨c0, c1, c2, c3, c4, c5, c6, c7⟩ := IY.out.below hu IY.out.lt;obtain ⟨d0, d1, d2, d3, d4, d5, d6, d7⟩ := IXX.out.below hu IXX.out.lt;simp only [Nat.zero_add] at d1 d2 d3 d4 d5 d6 d7
    exact ⟨⟨c0, c1, c2, c3, c4, c5, c6, c7⟩, ⟨d0, d1, d2, d3, d4, d5, d6, d7⟩⟩⟩)
   cases hl : lessB y x with
   | true =>
    have HA3 := zH (HA2.out hl);rw [hl] at K;clear hl HA2 HE;go_wp2_with fail
    go_region_held3 (fun u => Below wr.heap.size wr u ∧ (u.cell? ⟨b, o + k * 8, none⟩ = some (.string (bt y.key)) ∧ u.cell? ⟨b, o + k * 8 + 1, none⟩ = some (.string (bt y.field)) ∧ u.cell? ⟨b, o + k * 8 + 2, none⟩ = some (.int .i64 y.kind) ∧ u.cell? ⟨b, o + k * 8 + 3, none⟩ = some (.string (bt y.elem)) ∧ u.cell? ⟨b, o + k * 8 + 4, none⟩ = some (.int .i64 y.n) ∧ u.cell? ⟨b, o + k * 8 + 5, none⟩ = some (.int .i64 y.dot.node) ∧ u.cell? ⟨b, o + k * 8 + 6, none⟩ = some (.int .i64 y.dot.seq) ∧ u.cell? ⟨b, o + k * 8 + 7, none⟩ = some (.int .i64 y.dot.pos)) ∧ (u.cell? ⟨w.heap.size, 0, none⟩ = some (.string (bt x.key)) ∧ u.cell? ⟨w.heap.size, 1, none⟩ = some (.string (bt x.field)) ∧ u.cell? ⟨w.heap.size, 2, none⟩ = some (.int .i64 x.kind) ∧ u.cell? ⟨w.heap.size, 3, none⟩ = some (.string (bt x.elem)) ∧ u.cell? ⟨w.heap.size, 4, none⟩ = some (.int .i64 x.n) ∧ u.cell? ⟨w.heap.size, 5, none⟩ = some (.int .i64 x.dot.node) ∧ u.cell? ⟨w.heap.size, 6, none⟩ = some (.int .i64 x.dot.seq) ∧ u.cell? ⟨w.heap.size, 7, none⟩ = some (.int .i64 x.dot.pos)))
     (first | (exact KE.out _ (Below.refl _ _).drew) | (exact KE.out _ (holdC (by assumption) hb)))
     ((go_at_call 86; refine (K.out _).mono ?_; rintro e u2 ⟨rfl, hb⟩; have hbu := holdC (by assumption) hb))
    have HB2 : Hid (Below (w.heap.size + 1) W1 u2) := zH (HB.out.trans (hbu.mono (by have := HB.out.size; rw [HW1.out] at this; exact this)));clear hbu hb c0 c1 c2 c3 c4 c5 c6 c7 d0 d1 d2 d3 d4 d5 d6 d7;go_wp2_with fail
    go_roundw
    case rel => exact ⟨k + 1, by omega, by go_num, HA3.out, HB2.out⟩
    case measure => simp [intOf]; omega
   | false =>
    have HR := zH (HE.out hl);have hck : ¬ cap = k := by omega
    rw [hl] at K;clear hl HA2 HE;go_wp2_with fail
    go_region_held3 (fun u => Below wr.heap.size wr u ∧ (u.cell? ⟨b, o + k * 8, none⟩ = some (.string (bt y.key)) ∧ u.cell? ⟨b, o + k * 8 + 1, none⟩ = some (.string (bt y.field)) ∧ u.cell? ⟨b, o + k * 8 + 2, none⟩ = some (.int .i64 y.kind) ∧ u.cell? ⟨b, o + k * 8 + 3, none⟩ = some (.string (bt y.elem)) ∧ u.cell? ⟨b, o + k * 8 + 4, none⟩ = some (.int .i64 y.n) ∧ u.cell? ⟨b, o + k * 8 + 5, none⟩ = some (.int .i64 y.dot.node) ∧ u.cell? ⟨b, o + k * 8 + 6, none⟩ = some (.int .i64 y.dot.seq) ∧ u.cell? ⟨b, o + k * 8 + 7, none⟩ = some (.int .i64 y.dot.pos)) ∧ (u.cell? ⟨w.heap.size, 0, none⟩ = some (.string (bt x.key)) ∧ u.cell? ⟨w.heap.size, 1, none⟩ = some (.string (bt x.field)) ∧ u.cell? ⟨w.heap.size, 2, none⟩ = some (.int .i64 x.kind) ∧ u.cell? ⟨w.heap.size, 3, none⟩ = some (.string (bt x.elem)) ∧ u.cell? ⟨w.heap.size, 4, none⟩ = some (.int .i64 x.n) ∧ u.cell? ⟨w.heap.size, 5, none⟩ = some (.int .i64 x.dot.node) ∧ u.cell? ⟨w.heap.size, 6, none⟩ = some (.int .i64 x.dot.seq) ∧ u.cell? ⟨w.heap.size, 7, none⟩ = some (.int .i64 x.dot.pos)))
     (first | (exact KE.out _ (Below.refl _ _).drew) | (exact KE.out _ (holdC (by assumption) hb)))
     ((go_at_call 86; refine (K.out _).mono ?_; rintro e u2 ⟨rfl, hb⟩; have hbu := holdC (by assumption) hb))
    have HBX : Hid (Below (w.heap.size + 1) W1 u2) := zH (HB.out.trans (hbu.mono (by have := HB.out.size; rw [HW1.out] at this; exact this)));clear hbu hb c0 c1 c2 c3 c4 c5 c6 c7 d0 d1 d2 d3 d4 d5 d6 d7;have HSW := zH (HS.out.below' HBX.out (by rw [HW1.out]; omega));have IX := zH (IA.out.below HBX.out (by omega));have HBW : Hid (Below w.heap.size w u2) := zH (HB1.out.trans (HBX.out.mono (by omega)));have hws : w.heap.size + 1 ≤ u2.heap.size := by have := HBX.out.size; rw [HW1.out] at this; exact this
    have HWS := zH hws;have SF := zH ((HSW.out.first k KLE.out).below_alloc (.cells #[] LItem.E));have O0 := zH (OwnE.empty (L := LItem) u2 u2.heap.size (Nat.le_refl _));have HLK : Hid ((xs.take k).length = k) := zH (by rw [List.length_take, LN.out]; have := KLE.out; omega);have LEN0 : Hid (([] : List PItem).length + (xs.take k).length ≤ 1073741824) := zH (by rw [HLK.out]; simp <;> omega);go_wp2_with (at_builtin; refine wpList_append_el LItem rfl (.tmp 21) (.tmp 24) rfl u2.heap.size rfl O0.out rfl SF.out (fun _ _ h => h) LEN0.out (by simp) ?_)
    intro v1 w1 ho1 hg1 _;have hb1 : Below u2.heap.size u2 w1 := ((Below.refl _ _).alloc (Nat.le_refl _) _).grown hg1 (by simp) (fun j hj => (O0.out.lt j hj).1);obtain ⟨a1, c1, rfl, -, -, ho2⟩ := ho1.at k HLK.out;have O1 := zH (ho2.mono hws);have B1 := zH hb1;have IW : Hid (∀ u, Below (w.heap.size + 1) w1 u → Below (w.heap.size + 1) w1 u ∧ (u.cell? ⟨w.heap.size, 0, none⟩ = some (.string (bt x.key)) ∧ u.cell? ⟨w.heap.size, 1, none⟩ = some (.string (bt x.field)) ∧ u.cell? ⟨w.heap.size, 2, none⟩ = some (.int .i64 x.kind) ∧ u.cell? ⟨w.heap.size, 3, none⟩ = some (.string (bt x.elem)) ∧ u.cell? ⟨w.heap.size, 4, none⟩ = some (.int .i64 x.n) ∧ u.cell? ⟨w.heap.size, 5, none⟩ = some (.int .i64 x.dot.node) ∧ u.cell? ⟨w.heap.size, 6, none⟩ = some (.int .i64 x.dot.seq) ∧ u.cell? ⟨w.heap.size, 7, none⟩ = some (.int .i64 x.dot.pos))) := zH (fun u hu => ⟨hu, by
     have I := (IX.out.below (B1.out.mono hws) (by omega)).below hu (by omega);obtain ⟨c0, c1, c2, c3, c4, c5, c6, c7⟩ := I;simp only [Nat.zero_add] at c1 c2 c3 c4 c5 c6 c7
     exact ⟨c0, c1, c2, c3, c4, c5, c6, c7⟩⟩)
    have hN1 : w.heap.size + 1 ≤ w1.heap.size := by have := B1.out.size; omega
    have HN1 := zH hN1;have SD : Hid (∀ u, Below (w.heap.size + 1) w1 u → SeqE LItem u (.slice (some ⟨b, o + k * 8, none⟩) (n - k) (cap - k)) (xs.drop k)) := zH (fun u hu => (HS.out.behind k KLE.out).below' ((HBX.out.trans (B1.out.mono HWS.out)).trans hu) (by rw [HW1.out]; omega));have X1 := zH (fun (W : World) => one_item W x);have LEN1 : Hid ((xs.take k).length + ([x] : List PItem).length ≤ 1073741824) := zH (by rw [HLK.out]; simp <;> omega);have LEN2 : Hid ((xs.take k ++ [x]).length + (xs.drop k).length ≤ 1073741824) := zH (by rw [List.length_append, HLK.out, List.length_drop, LN.out]; simp <;> omega);have LEN3 : Hid ((xs.take k ++ [x]).length = k + 1) := zH (by rw [List.length_append, HLK.out]; rfl);have HBA := zH (HBW.out.trans (B1.out.mono (by omega : w.heap.size ≤ u2.heap.size)));clear ho1 ho2 hg1 hb1 hws hN1;go_wp2_with fail
    go_region_held3 (fun u => Below (w.heap.size + 1) w1 u ∧ (u.cell? ⟨w.heap.size, 0, none⟩ = some (.string (bt x.key)) ∧ u.cell? ⟨w.heap.size, 1, none⟩ = some (.string (bt x.field)) ∧ u.cell? ⟨w.heap.size, 2, none⟩ = some (.int .i64 x.kind) ∧ u.cell? ⟨w.heap.size, 3, none⟩ = some (.string (bt x.elem)) ∧ u.cell? ⟨w.heap.size, 4, none⟩ = some (.int .i64 x.n) ∧ u.cell? ⟨w.heap.size, 5, none⟩ = some (.int .i64 x.dot.node) ∧ u.cell? ⟨w.heap.size, 6, none⟩ = some (.int .i64 x.dot.seq) ∧ u.cell? ⟨w.heap.size, 7, none⟩ = some (.int .i64 x.dot.pos)))
     (first | (exact IW.out _ (Below.refl _ _).drew) | (exact IW.out _ ((Below.refl _ _).alloc HN1.out _).drew) | (exact IW.out _ (holdEA (by assumption) HN1.out _)) | (exact IW.out _ (holdE (by assumption) hb)))
     (first
      | (refine step_append_el LItem (by rfl) (.tmp 26) (.tmp 28) (by rfl) (w.heap.size + 1) (by rfl) (O1.out.below ((Below.refl w1.heap.size w1).drew.alloc (Nat.le_refl _) _) (Nat.le_refl _)) (by rfl) (X1.out _) (fun _ _ h => h) LEN1.out (held_le (by assumption) HN1.out) ?_; intro v2 u2 ho2 hb; obtain ⟨b2, d2, rfl, -, -, ho2⟩ := ho2.at (k + 1) LEN3.out)
      | (refine step_append_el LItem (by rfl) (.tmp 29) (.tmp 32) (by rfl) (w.heap.size + 1) (by rfl) ho2 (by rfl) (SD.out _ (by assumption : _ ∧ _).1) (fun _ _ h => h) LEN2.out (held_le (by assumption) HN1.out) ?_; intro v3 u3 ho3 hb; have hbe := holdE (by assumption) hb))
    have O3 := zH (show OwnE LItem w.heap.size u3 v3 R by rw [HR.out]; have := ho3.mono (C := w.heap.size) (by omega); rwa [List.append_assoc] at this);have G3 := zH (HBA.out.trans (hbe.mono (by omega)));clear ho3 hb hbe;go_wp2_with fail
    go_ret
    exact ⟨_, rfl, O3.out, G3.out⟩
  ·obtain rfl : k = n := by omega
   have HR : Hid (R = xs.take k ++ x :: xs.drop k) := zH (HP.out k HA.out (fun h => absurd h (by rw [LN.out]; omega)) (by rw [LN.out]; exact Nat.le_refl _))
   cases a with
   | none =>
    obtain rfl := H0.out rfl;obtain rfl : k = 0 := by omega
    go_wp2_with fail
    go_quiet (fail)
    have HBX : Hid (Below (w.heap.size + 1) W1 (wr.drewN nq)) := zH (below_drewN HB.out _);generalize wr.drewN nq = u2 at *;have HSW := zH (HS.out.below' HBX.out (by rw [HW1.out]; omega));have IX := zH (IA.out.below HBX.out (by omega));have HBW : Hid (Below w.heap.size w u2) := zH (HB1.out.trans (HBX.out.mono (by omega)));have hws : w.heap.size + 1 ≤ u2.heap.size := by have := HBX.out.size; rw [HW1.out] at this; exact this
    have HWS := zH hws;have SF := zH ((HSW.out.first 0 KLE.out).below_alloc (.cells #[] LItem.E));have O0 := zH (OwnE.empty (L := LItem) u2 u2.heap.size (Nat.le_refl _));have HLK : Hid ((xs.take 0).length = 0) := zH (by rw [List.length_take, LN.out]; have := KLE.out; omega);have LEN0 : Hid (([] : List PItem).length + (xs.take 0).length ≤ 1073741824) := zH (by rw [HLK.out]; simp <;> omega);go_wp2_with (at_builtin; refine wpList_append_el LItem rfl (.tmp 21) (.tmp 24) rfl u2.heap.size rfl O0.out rfl SF.out (fun _ _ h => h) LEN0.out (by simp) ?_)
    intro v1 w1 ho1 hg1 _;have hb1 : Below u2.heap.size u2 w1 := ((Below.refl _ _).alloc (Nat.le_refl _) _).grown hg1 (by simp) (fun j hj => (O0.out.lt j hj).1);obtain ⟨a1, c1, rfl, -, -, ho2⟩ := ho1.at 0 HLK.out;have O1 := zH (ho2.mono hws);have B1 := zH hb1;have IW : Hid (∀ u, Below (w.heap.size + 1) w1 u → Below (w.heap.size + 1) w1 u ∧ (u.cell? ⟨w.heap.size, 0, none⟩ = some (.string (bt x.key)) ∧ u.cell? ⟨w.heap.size, 1, none⟩ = some (.string (bt x.field)) ∧ u.cell? ⟨w.heap.size, 2, none⟩ = some (.int .i64 x.kind) ∧ u.cell? ⟨w.heap.size, 3, none⟩ = some (.string (bt x.elem)) ∧ u.cell? ⟨w.heap.size, 4, none⟩ = some (.int .i64 x.n) ∧ u.cell? ⟨w.heap.size, 5, none⟩ = some (.int .i64 x.dot.node) ∧ u.cell? ⟨w.heap.size, 6, none⟩ = some (.int .i64 x.dot.seq) ∧ u.cell? ⟨w.heap.size, 7, none⟩ = some (.int .i64 x.dot.pos))) := zH (fun u hu => ⟨hu, by
     have I := (IX.out.below (B1.out.mono hws) (by omega)).below hu (by omega);obtain ⟨c0, c1, c2, c3, c4, c5, c6, c7⟩ := I;simp only [Nat.zero_add] at c1 c2 c3 c4 c5 c6 c7
     exact ⟨c0, c1, c2, c3, c4, c5, c6, c7⟩⟩)
    have hN1 : w.heap.size + 1 ≤ w1.heap.size := by have := B1.out.size; omega
    have HN1 := zH hN1;have SD : Hid (∀ u, Below (w.heap.size + 1) w1 u → SeqE LItem u (.slice none 0 0) (xs.drop 0)) := zH (fun u hu => by rw [List.drop_eq_nil_of_le (by rw [LN.out]; exact Nat.zero_le _)]; exact SeqE.nil u);have X1 := zH (fun (W : World) => one_item W x);have LEN1 : Hid ((xs.take 0).length + ([x] : List PItem).length ≤ 1073741824) := zH (by rw [HLK.out]; simp <;> omega);have LEN2 : Hid ((xs.take 0 ++ [x]).length + (xs.drop 0).length ≤ 1073741824) := zH (by rw [List.length_append, HLK.out, List.length_drop, LN.out]; simp <;> omega);have LEN3 : Hid ((xs.take 0 ++ [x]).length = 0 + 1) := zH (by rw [List.length_append, HLK.out]; rfl);have HBA := zH (HBW.out.trans (B1.out.mono (by omega : w.heap.size ≤ u2.heap.size)));clear ho1 ho2 hg1 hb1 hws hN1;go_wp2_with fail
    go_region_held3 (fun u => Below (w.heap.size + 1) w1 u ∧ (u.cell? ⟨w.heap.size, 0, none⟩ = some (.string (bt x.key)) ∧ u.cell? ⟨w.heap.size, 1, none⟩ = some (.string (bt x.field)) ∧ u.cell? ⟨w.heap.size, 2, none⟩ = some (.int .i64 x.kind) ∧ u.cell? ⟨w.heap.size, 3, none⟩ = some (.string (bt x.elem)) ∧ u.cell? ⟨w.heap.size, 4, none⟩ = some (.int .i64 x.n) ∧ u.cell? ⟨w.heap.size, 5, none⟩ = some (.int .i64 x.dot.node) ∧ u.cell? ⟨w.heap.size, 6, none⟩ = some (.int .i64 x.dot.seq) ∧ u.cell? ⟨w.heap.size, 7, none⟩ = some (.int .i64 x.dot.pos)))
     (first | (exact IW.out _ (Below.refl _ _).drew) | (exact IW.out _ ((Below.refl _ _).alloc HN1.out _).drew) | (exact IW.out _ (holdEA (by assumption) HN1.out _)) | (exact IW.out _ (holdE (by assumption) hb)))
     (first
      | (refine step_append_el LItem (by rfl) (.tmp 26) (.tmp 28) (by rfl) (w.heap.size + 1) (by rfl) (O1.out.below ((Below.refl w1.heap.size w1).drew.alloc (Nat.le_refl _) _) (Nat.le_refl _)) (by rfl) (X1.out _) (fun _ _ h => h) LEN1.out (held_le (by assumption) HN1.out) ?_; intro v2 u2 ho2 hb; obtain ⟨b2, d2, rfl, -, -, ho2⟩ := ho2.at (0 + 1) LEN3.out)
      | (refine step_append_el LItem (by rfl) (.tmp 29) (.tmp 32) (by rfl) (w.heap.size + 1) (by rfl) ho2 (by rfl) (SD.out _ (by assumption : _ ∧ _).1) (fun _ _ h => h) LEN2.out (held_le (by assumption) HN1.out) ?_; intro v3 u3 ho3 hb; have hbe := holdE (by assumption) hb))
    have O3 := zH (show OwnE LItem w.heap.size u3 v3 R by rw [HR.out]; have := ho3.mono (C := w.heap.size) (by omega); rwa [List.append_assoc] at this);have G3 := zH (HBA.out.trans (hbe.mono (by omega)));clear ho3 hb hbe;go_wp2_with fail
    go_ret
    exact ⟨_, rfl, O3.out, G3.out⟩
   | some ad =>
    by_cases hck : cap = k
    ·have hck2 := hck.symm
     subst hck2;go_wp2_with fail
     go_quiet (fail)
     have HBX : Hid (Below (w.heap.size + 1) W1 (wr.drewN nq)) := zH (below_drewN HB.out _);generalize wr.drewN nq = u2 at *;have HSW := zH (HS.out.below' HBX.out (by rw [HW1.out]; omega));have IX := zH (IA.out.below HBX.out (by omega));have HBW : Hid (Below w.heap.size w u2) := zH (HB1.out.trans (HBX.out.mono (by omega)));have hws : w.heap.size + 1 ≤ u2.heap.size := by have := HBX.out.size; rw [HW1.out] at this; exact this
     have HWS := zH hws;have SF := zH ((HSW.out.first k KLE.out).below_alloc (.cells #[] LItem.E));have O0 := zH (OwnE.empty (L := LItem) u2 u2.heap.size (Nat.le_refl _));have HLK : Hid ((xs.take k).length = k) := zH (by rw [List.length_take, LN.out]; have := KLE.out; omega);have LEN0 : Hid (([] : List PItem).length + (xs.take k).length ≤ 1073741824) := zH (by rw [HLK.out]; simp <;> omega);go_wp2_with (at_builtin; refine wpList_append_el LItem rfl (.tmp 21) (.tmp 24) rfl u2.heap.size rfl O0.out rfl SF.out (fun _ _ h => h) LEN0.out (by simp) ?_)
     intro v1 w1 ho1 hg1 _;have hb1 : Below u2.heap.size u2 w1 := ((Below.refl _ _).alloc (Nat.le_refl _) _).grown hg1 (by simp) (fun j hj => (O0.out.lt j hj).1);obtain ⟨a1, c1, rfl, -, -, ho2⟩ := ho1.at k HLK.out;have O1 := zH (ho2.mono hws);have B1 := zH hb1;have IW : Hid (∀ u, Below (w.heap.size + 1) w1 u → Below (w.heap.size + 1) w1 u ∧ (u.cell? ⟨w.heap.size, 0, none⟩ = some (.string (bt x.key)) ∧ u.cell? ⟨w.heap.size, 1, none⟩ = some (.string (bt x.field)) ∧ u.cell? ⟨w.heap.size, 2, none⟩ = some (.int .i64 x.kind) ∧ u.cell? ⟨w.heap.size, 3, none⟩ = some (.string (bt x.elem)) ∧ u.cell? ⟨w.heap.size, 4, none⟩ = some (.int .i64 x.n) ∧ u.cell? ⟨w.heap.size, 5, none⟩ = some (.int .i64 x.dot.node) ∧ u.cell? ⟨w.heap.size, 6, none⟩ = some (.int .i64 x.dot.seq) ∧ u.cell? ⟨w.heap.size, 7, none⟩ = some (.int .i64 x.dot.pos))) := zH (fun u hu => ⟨hu, by
      have I := (IX.out.below (B1.out.mono hws) (by omega)).below hu (by omega);obtain ⟨c0, c1, c2, c3, c4, c5, c6, c7⟩ := I;simp only [Nat.zero_add] at c1 c2 c3 c4 c5 c6 c7
      exact ⟨c0, c1, c2, c3, c4, c5, c6, c7⟩⟩)
     have hN1 : w.heap.size + 1 ≤ w1.heap.size := by have := B1.out.size; omega
     have HN1 := zH hN1;have SD : Hid (∀ u, Below (w.heap.size + 1) w1 u → SeqE LItem u (.slice (some ad) 0 0) (xs.drop k)) := zH (fun u hu => by rw [List.drop_eq_nil_of_le (by rw [LN.out]; exact Nat.le_refl _)]; exact SeqE.empty u _ _ (by unfold maxLen; omega));have X1 := zH (fun (W : World) => one_item W x);have LEN1 : Hid ((xs.take k).length + ([x] : List PItem).length ≤ 1073741824) := zH (by rw [HLK.out]; simp <;> omega);have LEN2 : Hid ((xs.take k ++ [x]).length + (xs.drop k).length ≤ 1073741824) := zH (by rw [List.length_append, HLK.out, List.length_drop, LN.out]; simp <;> omega);have LEN3 : Hid ((xs.take k ++ [x]).length = k + 1) := zH (by rw [List.length_append, HLK.out]; rfl);have HBA := zH (HBW.out.trans (B1.out.mono (by omega : w.heap.size ≤ u2.heap.size)));clear ho1 ho2 hg1 hb1 hws hN1;go_wp2_with fail
     go_region_held3 (fun u => Below (w.heap.size + 1) w1 u ∧ (u.cell? ⟨w.heap.size, 0, none⟩ = some (.string (bt x.key)) ∧ u.cell? ⟨w.heap.size, 1, none⟩ = some (.string (bt x.field)) ∧ u.cell? ⟨w.heap.size, 2, none⟩ = some (.int .i64 x.kind) ∧ u.cell? ⟨w.heap.size, 3, none⟩ = some (.string (bt x.elem)) ∧ u.cell? ⟨w.heap.size, 4, none⟩ = some (.int .i64 x.n) ∧ u.cell? ⟨w.heap.size, 5, none⟩ = some (.int .i64 x.dot.node) ∧ u.cell? ⟨w.heap.size, 6, none⟩ = some (.int .i64 x.dot.seq) ∧ u.cell? ⟨w.heap.size, 7, none⟩ = some (.int .i64 x.dot.pos)))
      (first | (exact IW.out _ (Below.refl _ _).drew) | (exact IW.out _ ((Below.refl _ _).alloc HN1.out _).drew) | (exact IW.out _ (holdEA (by assumption) HN1.out _)) | (exact IW.out _ (holdE (by assumption) hb)))
      (first
       | (refine step_append_el LItem (by rfl) (.tmp 26) (.tmp 28) (by rfl) (w.heap.size + 1) (by rfl) (O1.out.below ((Below.refl w1.heap.size w1).drew.alloc (Nat.le_refl _) _) (Nat.le_refl _)) (by rfl) (X1.out _) (fun _ _ h => h) LEN1.out (held_le (by assumption) HN1.out) ?_; intro v2 u2 ho2 hb; obtain ⟨b2, d2, rfl, -, -, ho2⟩ := ho2.at (k + 1) LEN3.out)
       | (refine step_append_el LItem (by rfl) (.tmp 29) (.tmp 32) (by rfl) (w.heap.size + 1) (by rfl) ho2 (by rfl) (SD.out _ (by assumption : _ ∧ _).1) (fun _ _ h => h) LEN2.out (held_le (by assumption) HN1.out) ?_; intro v3 u3 ho3 hb; have hbe := holdE (by assumption) hb))
     have O3 := zH (show OwnE LItem w.heap.size u3 v3 R by rw [HR.out]; have := ho3.mono (C := w.heap.size) (by omega); rwa [List.append_assoc] at this);have G3 := zH (HBA.out.trans (hbe.mono (by omega)));clear ho3 hb hbe;go_wp2_with fail
     go_ret
     exact ⟨_, rfl, O3.out, G3.out⟩
    ·go_wp2_with fail
     go_quiet (fail)
     have HBX : Hid (Below (w.heap.size + 1) W1 (wr.drewN nq)) := zH (below_drewN HB.out _);generalize wr.drewN nq = u2 at *;have HSW := zH (HS.out.below' HBX.out (by rw [HW1.out]; omega));have IX := zH (IA.out.below HBX.out (by omega));have HBW : Hid (Below w.heap.size w u2) := zH (HB1.out.trans (HBX.out.mono (by omega)));have hws : w.heap.size + 1 ≤ u2.heap.size := by have := HBX.out.size; rw [HW1.out] at this; exact this
     have HWS := zH hws;have SF := zH ((HSW.out.first k KLE.out).below_alloc (.cells #[] LItem.E));have O0 := zH (OwnE.empty (L := LItem) u2 u2.heap.size (Nat.le_refl _));have HLK : Hid ((xs.take k).length = k) := zH (by rw [List.length_take, LN.out]; have := KLE.out; omega);have LEN0 : Hid (([] : List PItem).length + (xs.take k).length ≤ 1073741824) := zH (by rw [HLK.out]; simp <;> omega);go_wp2_with (at_builtin; refine wpList_append_el LItem rfl (.tmp 21) (.tmp 24) rfl u2.heap.size rfl O0.out rfl SF.out (fun _ _ h => h) LEN0.out (by simp) ?_)
     intro v1 w1 ho1 hg1 _;have hb1 : Below u2.heap.size u2 w1 := ((Below.refl _ _).alloc (Nat.le_refl _) _).grown hg1 (by simp) (fun j hj => (O0.out.lt j hj).1);obtain ⟨a1, c1, rfl, -, -, ho2⟩ := ho1.at k HLK.out;have O1 := zH (ho2.mono hws);have B1 := zH hb1;have IW : Hid (∀ u, Below (w.heap.size + 1) w1 u → Below (w.heap.size + 1) w1 u ∧ (u.cell? ⟨w.heap.size, 0, none⟩ = some (.string (bt x.key)) ∧ u.cell? ⟨w.heap.size, 1, none⟩ = some (.string (bt x.field)) ∧ u.cell? ⟨w.heap.size, 2, none⟩ = some (.int .i64 x.kind) ∧ u.cell? ⟨w.heap.size, 3, none⟩ = some (.string (bt x.elem)) ∧ u.cell? ⟨w.heap.size, 4, none⟩ = some (.int .i64 x.n) ∧ u.cell? ⟨w.heap.size, 5, none⟩ = some (.int .i64 x.dot.node) ∧ u.cell? ⟨w.heap.size, 6, none⟩ = some (.int .i64 x.dot.seq) ∧ u.cell? ⟨w.heap.size, 7, none⟩ = some (.int .i64 x.dot.pos))) := zH (fun u hu => ⟨hu, by
      have I := (IX.out.below (B1.out.mono hws) (by omega)).below hu (by omega);obtain ⟨c0, c1, c2, c3, c4, c5, c6, c7⟩ := I;simp only [Nat.zero_add] at c1 c2 c3 c4 c5 c6 c7
      exact ⟨c0, c1, c2, c3, c4, c5, c6, c7⟩⟩)
     have hN1 : w.heap.size + 1 ≤ w1.heap.size := by have := B1.out.size; omega
     have HN1 := zH hN1;have SD : Hid (∀ u, Below (w.heap.size + 1) w1 u → SeqE LItem u (.slice (some (ad.add (k * 8))) 0 (cap - k)) (xs.drop k)) := zH (fun u hu => by rw [List.drop_eq_nil_of_le (by rw [LN.out]; exact Nat.le_refl _)]; exact SeqE.empty u _ _ (by unfold maxLen; omega));have X1 := zH (fun (W : World) => one_item W x);have LEN1 : Hid ((xs.take k).length + ([x] : List PItem).length ≤ 1073741824) := zH (by rw [HLK.out]; simp <;> omega);have LEN2 : Hid ((xs.take k ++ [x]).length + (xs.drop k).length ≤ 1073741824) := zH (by rw [List.length_append, HLK.out, List.length_drop, LN.out]; simp <;> omega);have LEN3 : Hid ((xs.take k ++ [x]).length = k + 1) := zH (by rw [List.length_append, HLK.out]; rfl);have HBA := zH (HBW.out.trans (B1.out.mono (by omega : w.heap.size ≤ u2.heap.size)));clear ho1 ho2 hg1 hb1 hws hN1;go_wp2_with fail
     go_region_held3 (fun u => Below (w.heap.size + 1) w1 u ∧ (u.cell? ⟨w.heap.size, 0, none⟩ = some (.string (bt x.key)) ∧ u.cell? ⟨w.heap.size, 1, none⟩ = some (.string (bt x.field)) ∧ u.cell? ⟨w.heap.size, 2, none⟩ = some (.int .i64 x.kind) ∧ u.cell? ⟨w.heap.size, 3, none⟩ = some (.string (bt x.elem)) ∧ u.cell? ⟨w.heap.size, 4, none⟩ = some (.int .i64 x.n) ∧ u.cell? ⟨w.heap.size, 5, none⟩ = some (.int .i64 x.dot.node) ∧ u.cell? ⟨w.heap.size, 6, none⟩ = some (.int .i64 x.dot.seq) ∧ u.cell? ⟨w.heap.size, 7, none⟩ = some (.int .i64 x.dot.pos)))
      (first | (exact IW.out _ (Below.refl _ _).drew) | (exact IW.out _ ((Below.refl _ _).alloc HN1.out _).drew) | (exact IW.out _ (holdEA (by assumption) HN1.out _)) | (exact IW.out _ (holdE (by assumption) hb)))
      (first
       | (refine step_append_el LItem (by rfl) (.tmp 26) (.tmp 28) (by rfl) (w.heap.size + 1) (by rfl) (O1.out.below ((Below.refl w1.heap.size w1).drew.alloc (Nat.le_refl _) _) (Nat.le_refl _)) (by rfl) (X1.out _) (fun _ _ h => h) LEN1.out (held_le (by assumption) HN1.out) ?_; intro v2 u2 ho2 hb; obtain ⟨b2, d2, rfl, -, -, ho2⟩ := ho2.at (k + 1) LEN3.out)
       | (refine step_append_el LItem (by rfl) (.tmp 29) (.tmp 32) (by rfl) (w.heap.size + 1) (by rfl) ho2 (by rfl) (SD.out _ (by assumption : _ ∧ _).1) (fun _ _ h => h) LEN2.out (held_le (by assumption) HN1.out) ?_; intro v3 u3 ho3 hb; have hbe := holdE (by assumption) hb))
     have O3 := zH (show OwnE LItem w.heap.size u3 v3 R by rw [HR.out]; have := ho3.mono (C := w.heap.size) (by omega); rwa [List.append_assoc] at this);have G3 := zH (HBA.out.trans (hbe.mono (by omega)));clear ho3 hb hbe;go_wp2_with fail
     go_ret
     exact ⟨_, rfl, O3.out, G3.out⟩
end Go.Proofs.YtfapkepfngddlaaGreat
