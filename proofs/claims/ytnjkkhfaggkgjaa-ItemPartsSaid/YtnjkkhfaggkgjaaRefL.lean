/- What the document's own Less of items leaves. -/
import Derived.Test.YtnjkkhfaggkgjaaRefA
import Derived.Deep.Cut
namespace Go.Proofs.Ytnjkkhfaggkgjaa
open Go.RowKit Plain
set_option linter.unusedVariables false

theorem itv_eq2 (x : PItem) : itv x = .agg #[.string (bt x.key), .string (bt x.field), .int .i64 x.kind, .string (bt x.elem), .int .i64 x.n, .int .i64 x.dot.node, .int .i64 x.dot.seq, .int .i64 x.dot.pos] := rfl
theorem int_eq {a b : Int} (h : a = b) : (a == b) = true := by subst h; simp
theorem int_ne {a b : Int} (h : ¬ a = b) : (a == b) = false := by simp [h]
/-- the part of Less behind the texts: the four pairs of numbers, Elem, N -/
def tailP (a b : PItem) : Prop := a.kind < b.kind ∨ (a.kind = b.kind ∧ (a.dot.node < b.dot.node ∨ (a.dot.node = b.dot.node ∧ (a.dot.seq < b.dot.seq ∨ (a.dot.seq = b.dot.seq ∧ (a.dot.pos < b.dot.pos ∨ (a.dot.pos = b.dot.pos ∧ (a.elem < b.elem ∨ (a.elem = b.elem ∧ a.n < b.n)))))))))
instance (a b : PItem) : Decidable (tailP a b) := by unfold tailP; infer_instance
theorem less_key {a b : PItem} (h : ¬ a.key = b.key) : lessB a b = decide (a.key < b.key) := by
  unfold lessB
  rw [decide_eq_decide]
  unfold iless
  constructor
  · rintro (g | ⟨e, -⟩)
    · exact g
    · exact absurd e h
  · exact .inl
theorem less_field {a b : PItem} (h : a.key = b.key) (g : ¬ a.field = b.field) : lessB a b = decide (a.field < b.field) := by
  unfold lessB
  rw [decide_eq_decide]
  unfold iless
  rw [h]
  constructor
  · rintro (k | ⟨-, k | ⟨e, -⟩⟩)
    · exact absurd k (lt_irrefl _)
    · exact k
    · exact absurd e g
  · exact fun k => .inr ⟨rfl, .inl k⟩
theorem less_tail {a b : PItem} (h : a.key = b.key) (g : a.field = b.field) : lessB a b = decide (tailP a b) := by
  unfold lessB
  rw [decide_eq_decide]
  unfold iless tailP
  rw [h, g]
  constructor
  · rintro (k | ⟨-, k | ⟨-, k⟩⟩)
    · exact absurd k (lt_irrefl _)
    · exact absurd k (lt_irrefl _)
    · exact k
  · exact fun k => .inr ⟨rfl, .inr ⟨rfl, k⟩⟩
set_option maxRecDepth 100000 in
set_option maxHeartbeats 2000000 in
theorem rless_key (x y : PItem) (w : World) (h : ¬ x.key = y.key) :
    Calls Try.prog 28 #[itv x, itv y] w fun e w' => e = .returned (.bool (lessB x y)) ∧ Below w.heap.size w w' := by
  rw [less_key h]
  have t1 := text_eq x.key y.key
  have t2 := text_lt x.key y.key
  rw [decide_eq_false h] at t1
  rw [← t2]
  clear t2 h
  have HB := Lib.hid (((Below.refl w.heap.size w).alloc (Nat.le_refl _) (.cells #[.string (bt x.key), .string (bt x.field), .int .i64 x.kind, .string (bt x.elem), .int .i64 x.n, .int .i64 x.dot.node, .int .i64 x.dot.seq, .int .i64 x.dot.pos] 26)).alloc (by simp) (.cells #[.string (bt y.key), .string (bt y.field), .int .i64 y.kind, .string (bt y.elem), .int .i64 y.n, .int .i64 y.dot.node, .int .i64 y.dot.seq, .int .i64 y.dot.pos] 26))
  rw [itv_eq2, itv_eq2]
  generalize bt x.key = K1 at *
  generalize bt y.key = K2 at *
  go_enter Try.func28, Try.ntmps28
  go_wp2_with fail
  go_ret
  exact ⟨rfl, HB.out⟩
set_option maxRecDepth 100000 in
set_option maxHeartbeats 2000000 in
theorem rless_field (x y : PItem) (w : World) (h : x.key = y.key) (g : ¬ x.field = y.field) :
    Calls Try.prog 28 #[itv x, itv y] w fun e w' => e = .returned (.bool (lessB x y)) ∧ Below w.heap.size w w' := by
  rw [less_field h g]
  have t1 := text_eq x.key y.key
  have t2 := text_lt x.field y.field
  have t3 := text_eq x.field y.field
  rw [decide_eq_true h] at t1
  rw [decide_eq_false g] at t3
  rw [← t2]
  clear t2 g h
  have HB := Lib.hid (((Below.refl w.heap.size w).alloc (Nat.le_refl _) (.cells #[.string (bt x.key), .string (bt x.field), .int .i64 x.kind, .string (bt x.elem), .int .i64 x.n, .int .i64 x.dot.node, .int .i64 x.dot.seq, .int .i64 x.dot.pos] 26)).alloc (by simp) (.cells #[.string (bt y.key), .string (bt y.field), .int .i64 y.kind, .string (bt y.elem), .int .i64 y.n, .int .i64 y.dot.node, .int .i64 y.dot.seq, .int .i64 y.dot.pos] 26))
  rw [itv_eq2, itv_eq2]
  generalize bt x.key = K1 at *
  generalize bt y.key = K2 at *
  generalize bt x.field = F1 at *
  generalize bt y.field = F2 at *
  go_enter Try.func28, Try.ntmps28
  go_wp2_with fail
  go_ret
  exact ⟨rfl, HB.out⟩

/-! ### the four pairs of numbers -/
def num4 (x : PItem) : Nat → Int
  | 0 => x.kind
  | 1 => x.dot.node
  | 2 => x.dot.seq
  | _ => x.dot.pos
theorem tail_num {x y : PItem} {k : Nat} (hk : k < 4) (h : ∀ j, j < k → num4 x j = num4 y j) (g : ¬ num4 x k = num4 y k) : decide (tailP x y) = decide (num4 x k < num4 y k) := by
  rw [decide_eq_decide]
  unfold tailP
  match k, hk with
  | 0, _ =>
    have g0 : ¬ x.kind = y.kind := g
    show _ ↔ x.kind < y.kind
    constructor
    · rintro (h | ⟨e, -⟩)
      · exact h
      · exact absurd e g0
    · exact .inl
  | 1, _ =>
    have e0 : x.kind = y.kind := h 0 (by omega)
    have g0 : ¬ x.dot.node = y.dot.node := g
    show _ ↔ x.dot.node < y.dot.node
    rw [e0]
    constructor
    · rintro (h | ⟨-, h | ⟨e, -⟩⟩)
      · omega
      · exact h
      · exact absurd e g0
    · exact fun h => .inr ⟨rfl, .inl h⟩
  | 2, _ =>
    have e0 : x.kind = y.kind := h 0 (by omega)
    have e1 : x.dot.node = y.dot.node := h 1 (by omega)
    have g0 : ¬ x.dot.seq = y.dot.seq := g
    show _ ↔ x.dot.seq < y.dot.seq
    rw [e0, e1]
    constructor
    · rintro (h | ⟨-, h | ⟨-, h | ⟨e, -⟩⟩⟩)
      · omega
      · omega
      · exact h
      · exact absurd e g0
    · exact fun h => .inr ⟨rfl, .inr ⟨rfl, .inl h⟩⟩
  | 3, _ =>
    have e0 : x.kind = y.kind := h 0 (by omega)
    have e1 : x.dot.node = y.dot.node := h 1 (by omega)
    have e2 : x.dot.seq = y.dot.seq := h 2 (by omega)
    have g0 : ¬ x.dot.pos = y.dot.pos := g
    show _ ↔ x.dot.pos < y.dot.pos
    rw [e0, e1, e2]
    constructor
    · rintro (h | ⟨-, h | ⟨-, h | ⟨-, h | ⟨e, -⟩⟩⟩⟩)
      · omega
      · omega
      · omega
      · exact h
      · exact absurd e g0
    · exact fun h => .inr ⟨rfl, .inr ⟨rfl, .inr ⟨rfl, .inl h⟩⟩⟩
theorem tail_end {x y : PItem} (h : ∀ j, j < 4 → num4 x j = num4 y j) : tailP x y ↔ x.elem < y.elem ∨ (x.elem = y.elem ∧ x.n < y.n) := by
  have e0 : x.kind = y.kind := h 0 (by omega)
  have e1 : x.dot.node = y.dot.node := h 1 (by omega)
  have e2 : x.dot.seq = y.dot.seq := h 2 (by omega)
  have e3 : x.dot.pos = y.dot.pos := h 3 (by omega)
  unfold tailP
  rw [e0, e1, e2, e3]
  constructor
  · rintro (h | ⟨-, h | ⟨-, h | ⟨-, h | ⟨-, h⟩⟩⟩⟩)
    · omega
    · omega
    · omega
    · omega
    · exact h
  · exact fun h => .inr ⟨rfl, .inr ⟨rfl, .inr ⟨rfl, .inr ⟨rfl, h⟩⟩⟩⟩
theorem tail_elem {x y : PItem} (h : ∀ j, j < 4 → num4 x j = num4 y j) (g : ¬ x.elem = y.elem) : decide (tailP x y) = decide (x.elem < y.elem) := by
  rw [decide_eq_decide, tail_end h]
  constructor
  · rintro (h | ⟨e, -⟩)
    · exact h
    · exact absurd e g
  · exact .inl
theorem tail_n {x y : PItem} (h : ∀ j, j < 4 → num4 x j = num4 y j) (g : x.elem = y.elem) : decide (tailP x y) = decide (x.n < y.n) := by
  rw [decide_eq_decide, tail_end h, g]
  constructor
  · rintro (h | ⟨-, h⟩)
    · exact absurd h (lt_irrefl _)
    · exact h
  · exact fun h => .inr ⟨rfl, h⟩
/-- the block of the four pairs -/
theorem pair_cells (W : World) (x y : PItem) (t : TypeId) : ∀ k, k < 4 → (W.alloc (.cells #[.int .i64 x.kind, .int .i64 y.kind, .int .i64 x.dot.node, .int .i64 y.dot.node, .int .i64 x.dot.seq, .int .i64 y.dot.seq, .int .i64 x.dot.pos, .int .i64 y.dot.pos] t)).cell? ⟨W.heap.size, k * 2, none⟩ = some (.int .i64 (num4 x k)) ∧
    (W.alloc (.cells #[.int .i64 x.kind, .int .i64 y.kind, .int .i64 x.dot.node, .int .i64 y.dot.node, .int .i64 x.dot.seq, .int .i64 y.dot.seq, .int .i64 x.dot.pos, .int .i64 y.dot.pos] t)).cell? ⟨W.heap.size, k * 2 + 1, none⟩ = some (.int .i64 (num4 y k))
  | 0, _ => ⟨by simp [num4], by simp [num4]⟩
  | 1, _ => ⟨by simp [num4], by simp [num4]⟩
  | 2, _ => ⟨by simp [num4], by simp [num4]⟩
  | 3, _ => ⟨by simp [num4], by simp [num4]⟩

set_option maxRecDepth 100000 in
set_option maxHeartbeats 4000000 in
theorem rless_tail (x y : PItem) (w : World) (h : x.key = y.key) (g : x.field = y.field) :
    Calls Try.prog 28 #[itv x, itv y] w fun e w' => e = .returned (.bool (lessB x y)) ∧ Below w.heap.size w w' := by
  rw [less_tail h g]
  have t1 := text_eq x.key y.key
  have t3 := text_eq x.field y.field
  rw [decide_eq_true h] at t1
  rw [decide_eq_true g] at t3
  clear g h
  have TN := Lib.hid (fun k hk h g => tail_num (x := x) (y := y) (k := k) hk h g)
  have TE := Lib.hid (fun h g => tail_elem (x := x) (y := y) h g)
  have TQ := Lib.hid (fun h g => tail_n (x := x) (y := y) h g)
  have t5 := text_eq x.elem y.elem
  have t6 := text_lt x.elem y.elem
  generalize decide (tailP x y) = r at *
  obtain ⟨W1, hW1⟩ : ∃ W1, (w.alloc (.cells #[.string (bt x.key), .string (bt x.field), .int .i64 x.kind, .string (bt x.elem), .int .i64 x.n, .int .i64 x.dot.node, .int .i64 x.dot.seq, .int .i64 x.dot.pos] 26)).alloc (.cells #[.string (bt y.key), .string (bt y.field), .int .i64 y.kind, .string (bt y.elem), .int .i64 y.n, .int .i64 y.dot.node, .int .i64 y.dot.seq, .int .i64 y.dot.pos] 26) = W1 := ⟨_, rfl⟩
  have HW1 := Lib.hid hW1
  have hs1 : W1.heap.size = w.heap.size + 2 := by rw [← hW1]; simp
  have HS1 := Lib.hid hs1
  have A1 : Hid (ItemAt W1 w.heap.size 0 x) := Lib.hid (by rw [← hW1]; exact ⟨by simp, by simp, by simp, by simp, by simp, by simp, by simp, by simp⟩)
  have A2 : Hid (ItemAt W1 (w.heap.size + 1) 0 y) := Lib.hid (by rw [← hW1]; exact ⟨by simp, by simp, by simp, by simp, by simp, by simp, by simp, by simp⟩)
  have HB1 : Hid (Below w.heap.size w W1) := Lib.hid (by rw [← hW1]; exact ((Below.refl w.heap.size w).alloc (Nat.le_refl _) _).alloc (by simp) _)
  have PC := Lib.hid (pair_cells W1 x y 64)
  clear hs1 hW1
  rw [itv_eq2, itv_eq2]
  go_enter Try.func28, Try.ntmps28
  go_upto_region 5 with fail
  rw [HW1.out]
  have HE1 := Lib.hid (text_eq x.elem y.elem)
  have HE2 := Lib.hid (text_lt x.elem y.elem)
  obtain ⟨c0, c1, c2, c3, c4, c5, c6, c7⟩ := A1.out
  obtain ⟨d0, d1, d2, d3, d4, d5, d6, d7⟩ := A2.out
  simp only [Nat.zero_add] at c1 c2 c3 c4 c5 c6 c7 d1 d2 d3 d4 d5 d6 d7
  clear t1 t3 t5 t6 c0 c1 d0 d1
  go_wp2_with fail
  have HB2 := Lib.hid (HB1.out.alloc HB1.out.size (.cells #[.int .i64 x.kind, .int .i64 y.kind, .int .i64 x.dot.node, .int .i64 y.dot.node, .int .i64 x.dot.seq, .int .i64 y.dot.seq, .int .i64 x.dot.pos, .int .i64 y.dot.pos] 64))
  have HS2 : Hid ((W1.alloc (.cells #[.int .i64 x.kind, .int .i64 y.kind, .int .i64 x.dot.node, .int .i64 y.dot.node, .int .i64 x.dot.seq, .int .i64 y.dot.seq, .int .i64 x.dot.pos, .int .i64 y.dot.pos] 64)).heap.size = W1.heap.size + 1) := Lib.hid (by simp)
  have A3 : Hid (ItemAt (W1.alloc (.cells #[.int .i64 x.kind, .int .i64 y.kind, .int .i64 x.dot.node, .int .i64 y.dot.node, .int .i64 x.dot.seq, .int .i64 y.dot.seq, .int .i64 x.dot.pos, .int .i64 y.dot.pos] 64)) w.heap.size 0 x) := Lib.hid (A1.out.below ((Below.refl W1.heap.size W1).alloc (Nat.le_refl _) _) (by rw [HS1.out]; omega))
  have A4 : Hid (ItemAt (W1.alloc (.cells #[.int .i64 x.kind, .int .i64 y.kind, .int .i64 x.dot.node, .int .i64 y.dot.node, .int .i64 x.dot.seq, .int .i64 y.dot.seq, .int .i64 x.dot.pos, .int .i64 y.dot.pos] 64)) (w.heap.size + 1) 0 y) := Lib.hid (A2.out.below ((Below.refl W1.heap.size W1).alloc (Nat.le_refl _) _) (by rw [HS1.out]; omega))
  clear c2 c3 c4 c5 c6 c7 d2 d3 d4 d5 d6 d7 A1 A2
  generalize (W1.alloc (.cells #[.int .i64 x.kind, .int .i64 y.kind, .int .i64 x.dot.node, .int .i64 y.dot.node, .int .i64 x.dot.seq, .int .i64 y.dot.seq, .int .i64 x.dot.pos, .int .i64 y.dot.pos] 64)) = W2 at *
  go_loopw [6, 55] (fun _ i wr => ∃ k : Nat, k ≤ 4 ∧ i = .int .i64 k ∧ Aside (∀ j, j < k → num4 x j = num4 y j) ∧ Below W2.heap.size W2 wr) (fun _ i _ => 4 - (intOf i).toNat)
  case atStart => exact ⟨0, Nat.zero_le _, rfl, (fun j hj => absurd hj (Nat.not_lt_zero _)), Below.refl _ _⟩
  case round =>
    obtain ⟨k, hk, rfl, HA, hb⟩ := hrel
    have HB := Lib.hid hb
    clear hb
    by_cases hlt : k < 4
    · have hlz : (k : Int) < 4 := by omega
      have p1 := (HB.out.cell (p := ⟨W1.heap.size, k * 2, none⟩) (by rw [HS2.out]; exact Nat.lt_succ_self _)).trans (PC.out k hlt).1
      have p2 := (HB.out.cell (p := ⟨W1.heap.size, k * 2 + 1, none⟩) (by rw [HS2.out]; exact Nat.lt_succ_self _)).trans (PC.out k hlt).2
      have HTN := Lib.hid (TN.out k hlt HA.out)
      have HNX : Hid (num4 x k = num4 y k → ∀ j, j < k + 1 → num4 x j = num4 y j) := Lib.hid (fun h j hj => by
        by_cases e : j = k
        · rw [e]; exact h
        · exact HA.out j (by omega))
      have G1 := Lib.hid (fun o => HB.out.alloc HB.out.size o)
      have G2 := Lib.hid (fun o => (HB2.out.trans (HB.out.mono HB2.out.size)).alloc (HB2.out.trans (HB.out.mono HB2.out.size)).size o)
      generalize num4 x k = m at *
      generalize num4 y k = n at *
      by_cases he : m = n
      · have HA2 := Lib.hid (HNX.out he)
        have q1 : (m == n) = true := by simp [he]
        clear he HTN HNX
        go_wp2_with fail
        go_roundw
        case rel => exact ⟨k + 1, by omega, by go_num, HA2.out, G1.out _⟩
        case measure => simp [intOf]; omega
      · have hr := HTN.out he
        have q1 : (m == n) = false := by simp [he]
        have HR := Lib.hid hr
        clear he HTN HNX hr
        go_wp2_with fail
        go_ret
        exact ⟨ret_bool HR.out.symm, G2.out _⟩
    · obtain rfl : k = 4 := by omega
      obtain ⟨-, -, -, c3, c4, -, -, -⟩ := A3.out.below HB.out A3.out.lt
      obtain ⟨-, -, -, d3, d4, -, -, -⟩ := A4.out.below HB.out A4.out.lt
      simp only [Nat.zero_add] at c3 c4 d3 d4
      have HTE := Lib.hid (TE.out HA.out)
      have HTQ := Lib.hid (TQ.out HA.out)
      have G2 := Lib.hid (HB2.out.trans (HB.out.mono HB2.out.size))
      have t5 := HE1.out
      have t6 := HE2.out
      by_cases he : x.elem = y.elem
      · rw [decide_eq_true he] at t5
        have hr := HTQ.out he
        have HR := Lib.hid hr
        clear he hr t6
        generalize bt x.elem = X at *
        generalize bt y.elem = Y at *
        go_wp2_with fail
        go_ret
        exact ⟨ret_bool HR.out.symm, G2.out⟩
      · rw [decide_eq_false he] at t5
        have hr := HTE.out he
        rw [← t6] at hr
        have HR := Lib.hid hr
        clear he hr t6
        generalize bt x.elem = X at *
        generalize bt y.elem = Y at *
        go_wp2_with fail
        go_ret
        exact ⟨ret_bool HR.out.symm, G2.out⟩
/-- Less -/
theorem rless_any (x y : PItem) (w : World) :
    Calls Try.prog 28 #[itv x, itv y] w fun e w' => e = .returned (.bool (lessB x y)) ∧ Below w.heap.size w w' := by
  by_cases h : x.key = y.key
  · by_cases g : x.field = y.field
    · exact rless_tail x y w h g
    · exact rless_field x y w h g
  · exact rless_key x y w h
end Go.Proofs.Ytnjkkhfaggkgjaa
