/- What the document's own texts, Field, Fields and Same of fields leave. (Written by gen-ref.py.) What the document's own Same of fields leaves. What the document's own Field of fields leaves. (Written by gen-reff.py.) -/
import Derived.Test.YtkmiodpaanohoaaVals
import Derived.Test.YtkmiodpaanohoaaRefA
import Derived.Test.YtkmiodpaanohoaaRefZs
import Derived.Test.YtkmiodpaanohoaaRefSame
import Derived.Test.YtkmiodpaanohoaaNmCs
import Derived.Deep.Cut
namespace Go.Proofs.Ytkmiodpaanohoaa
open Go.RowKit Plain
set_option linter.unusedVariables false

/-- of the first k items those that pass, and what is taken of each -/
def upto {α : Type} (p : PItem → Bool) (f : PItem → α) (l : List PItem) (k : Nat) : List α := ((l.take k).filter p).map f
theorem upto_zero {α : Type} (p : PItem → Bool) (f : PItem → α) (l : List PItem) : upto p f l 0 = [] := rfl
theorem upto_all {α : Type} (p : PItem → Bool) (f : PItem → α) (l : List PItem) : upto p f l l.length = (l.filter p).map f := by unfold upto; rw [List.take_length]
theorem upto_len {α : Type} (p : PItem → Bool) (f : PItem → α) (l : List PItem) (k : Nat) : (upto p f l k).length ≤ l.length := by
  unfold upto
  rw [List.length_map]
  have h1 := List.length_filter_le p (l.take k)
  have h2 : (l.take k).length ≤ l.length := by rw [List.length_take]; omega
  omega
theorem upto_yes {α : Type} {l : List PItem} {k : Nat} (hk : k < l.length) (p : PItem → Bool) (f : PItem → α) (h : p (l.getD k default) = true) : upto p f l (k + 1) = upto p f l k ++ [f (l.getD k default)] := by
  have e : l.take (k + 1) = l.take k ++ [l.getD k default] := by
    rw [List.take_succ_eq_append_getElem hk]
    simp [List.getD, List.getElem?_eq_getElem hk]
  unfold upto
  rw [e, List.filter_append, List.filter_cons, if_pos h, List.filter_nil, List.map_append]
  rfl
theorem upto_no {α : Type} {l : List PItem} {k : Nat} (hk : k < l.length) (p : PItem → Bool) (f : PItem → α) (h : p (l.getD k default) = false) : upto p f l (k + 1) = upto p f l k := by
  have e : l.take (k + 1) = l.take k ++ [l.getD k default] := by
    rw [List.take_succ_eq_append_getElem hk]
    simp [List.getD, List.getElem?_eq_getElem hk]
  unfold upto
  rw [e, List.filter_append, List.filter_cons, if_neg (by rw [h]; decide), List.filter_nil, List.append_nil]
theorem kind_no1 {x : PItem} {key field : Txt} {kind : Int} (h : ¬ x.key = key) : ofKind key field kind x = false := by unfold ofKind inField; rw [decide_eq_false h]; rfl
theorem kind_no2 {x : PItem} {key field : Txt} {kind : Int} (h : ¬ x.field = field) : ofKind key field kind x = false := by unfold ofKind inField; rw [decide_eq_false h, Bool.and_false]; rfl
theorem kind_no3 {x : PItem} {key field : Txt} {kind : Int} (h : ¬ x.kind = kind) : ofKind key field kind x = false := by unfold ofKind; rw [decide_eq_false h, Bool.and_false]
theorem kind_yes {x : PItem} {key field : Txt} {kind : Int} (h1 : x.key = key) (h2 : x.field = field) (h3 : x.kind = kind) : ofKind key field kind x = true := by unfold ofKind inField; rw [decide_eq_true h1, decide_eq_true h2, decide_eq_true h3]; rfl

end Go.Proofs.Ytkmiodpaanohoaa
namespace Go.Proofs.Ytkmiodpaanohoaa
open Go.RowKit Plain
set_option linter.unusedVariables false

theorem pval_dec (p q : PVal) : decide (p = q) = (decide (p.elems = q.elems) && (decide (p.regs = q.regs) && (decide (p.total = q.total) && decide (p.over = q.over)))) := by
  rw [Bool.eq_iff_iff]
  simp only [Bool.and_eq_true, decide_eq_true_iff]
  exact ⟨fun h => by subst h; exact ⟨rfl, rfl, rfl, rfl⟩, fun ⟨h1, h2, h3, h4⟩ => pval_ext h1 h2 h3 h4⟩
theorem vpair_cells (w : World) (X Y : Array Value) (t u : TypeId) (i : Nat) :
    ((w.alloc (.cells X t)).alloc (.cells Y u)).cell? ⟨w.heap.size, i, none⟩ = X[i]? ∧ ((w.alloc (.cells X t)).alloc (.cells Y u)).cell? ⟨w.heap.size + 1, i, none⟩ = Y[i]? := by
  have s1 : (w.alloc (.cells X t)).heap.size = w.heap.size + 1 := by simp
  have h1 := World.cell?_alloc_new w X t i
  have h2 := World.cell?_alloc_new (w.alloc (.cells X t)) Y u i
  rw [s1] at h2
  have b2 := (Below.refl (w.heap.size + 1) (w.alloc (.cells X t))).alloc (by rw [s1]; exact Nat.le_refl _) (.cells Y u)
  exact ⟨(b2.cell (p := ⟨w.heap.size, i, none⟩) (show w.heap.size < w.heap.size + 1 by omega)).trans h1, h2⟩
theorem rsameTB {u v : Value} {xs ys : List Txt} {w : World} {r : Bool} (hu : SeqT w u xs) (hv : SeqT w v ys) (e : decide (xs = ys) = r) : Calls Try.prog 30 #[u, v] w (GivesB w r) := by
  rw [← e]
  exact (rsameT_any hu hv).mono fun _ _ ⟨h, hw⟩ => ⟨h, below_of_drawn hw⟩

set_option maxRecDepth 100000 in
set_option maxHeartbeats 4000000 in
/-- Same -/
theorem rvsame_any {u v : Value} {p q : PVal} {w : World} (hu : IsVal w u p) (hv : IsVal w v q) : Calls Try.prog 15 #[u, v] w (GivesB w (decide (p = q))) := by
  have HD := Lib.hid (pval_dec p q)
  generalize decide (p = q) = r at *
  obtain ⟨a1, n1, c1, a2, n2, c2, rfl, s1, s2⟩ := hu
  obtain ⟨b1, m1, d1, b2, m2, d2, rfl, t1, t2⟩ := hv
  have HB : Hid (Below w.heap.size w ((w.alloc (.cells #[.slice a1 n1 c1, .slice a2 n2 c2, .int .i64 p.total, .bool p.over] 36)).alloc (.cells #[.slice b1 m1 d1, .slice b2 m2 d2, .int .i64 q.total, .bool q.over] 36))) := Lib.hid (((Below.refl _ _).alloc (Nat.le_refl _) _).alloc (by simp) _)
  have PC := fun i => vpair_cells w #[.slice a1 n1 c1, .slice a2 n2 c2, .int .i64 p.total, .bool p.over] #[.slice b1 m1 d1, .slice b2 m2 d2, .int .i64 q.total, .bool q.over] 36 36 i
  have HC : Hid (∀ W, Below ((w.alloc (.cells #[.slice a1 n1 c1, .slice a2 n2 c2, .int .i64 p.total, .bool p.over] 36)).alloc (.cells #[.slice b1 m1 d1, .slice b2 m2 d2, .int .i64 q.total, .bool q.over] 36)).heap.size ((w.alloc (.cells #[.slice a1 n1 c1, .slice a2 n2 c2, .int .i64 p.total, .bool p.over] 36)).alloc (.cells #[.slice b1 m1 d1, .slice b2 m2 d2, .int .i64 q.total, .bool q.over] 36)) W →
      (W.cell? ⟨w.heap.size, 0, none⟩ = some (.slice a1 n1 c1) ∧ W.cell? ⟨w.heap.size, 1, none⟩ = some (.slice a2 n2 c2) ∧ W.cell? ⟨w.heap.size, 2, none⟩ = some (.int .i64 p.total) ∧ W.cell? ⟨w.heap.size, 3, none⟩ = some (.bool p.over)) ∧
      (W.cell? ⟨w.heap.size + 1, 0, none⟩ = some (.slice b1 m1 d1) ∧ W.cell? ⟨w.heap.size + 1, 1, none⟩ = some (.slice b2 m2 d2) ∧ W.cell? ⟨w.heap.size + 1, 2, none⟩ = some (.int .i64 q.total) ∧ W.cell? ⟨w.heap.size + 1, 3, none⟩ = some (.bool q.over))) :=
    Lib.hid (fun W hb => by
      have c : ∀ {a : Addr} {v : Value}, ((w.alloc (.cells #[.slice a1 n1 c1, .slice a2 n2 c2, .int .i64 p.total, .bool p.over] 36)).alloc (.cells #[.slice b1 m1 d1, .slice b2 m2 d2, .int .i64 q.total, .bool q.over] 36)).cell? a = some v → W.cell? a = some v := fun g => (hb.cell (World.block_lt_of_cell? _ _ g)).trans g
      exact ⟨⟨c (PC 0).1, c (PC 1).1, c (PC 2).1, c (PC 3).1⟩, ⟨c (PC 0).2, c (PC 1).2, c (PC 2).2, c (PC 3).2⟩⟩)
  have S1 := Lib.hid s1
  have S2 := Lib.hid s2
  have T1 := Lib.hid t1
  have T2 := Lib.hid t2
  clear s1 s2 t1 t2 PC
  go_enter Try.func15, Try.ntmps15
  go_upto_region 1 with fail
  generalize ((w.alloc (.cells #[.slice a1 n1 c1, .slice a2 n2 c2, .int .i64 p.total, .bool p.over] 36)).alloc (.cells #[.slice b1 m1 d1, .slice b2 m2 d2, .int .i64 q.total, .bool q.over] 36)) = w1 at *
  obtain ⟨⟨x0, x1, x2, x3⟩, ⟨y0, y1, y2, y3⟩⟩ := HC.out w1 (Below.refl _ _)
  have K1 := rsameTB (S1.out.below HB.out) (T1.out.below HB.out) rfl
  cases hr1 : decide (p.elems = q.elems) with
  | false =>
    rw [hr1] at K1
    obtain rfl : r = false := by rw [HD.out, hr1]; rfl
    clear HD
    go_wp2_with fail
    refine K1.mono ?_
    rintro e w2 ⟨rfl, hb⟩
    have G2 := Lib.hid (HB.out.trans (hb.mono HB.out.size))
    clear hb K1 x0 x1 x2 x3 y0 y1 y2 y3
    go_wp2_with fail
    go_ret
    exact ⟨rfl, G2.out⟩
  | true =>
    rw [hr1] at K1
    rw [hr1, Bool.true_and] at HD
    go_wp2_with fail
    refine K1.mono ?_
    rintro e w2 ⟨rfl, hb⟩
    have B2 := Lib.hid hb
    have G2 := Lib.hid (HB.out.trans (hb.mono HB.out.size))
    clear hb K1 x0 x1 x2 x3 y0 y1 y2 y3
    obtain ⟨⟨x0, x1, x2, x3⟩, ⟨y0, y1, y2, y3⟩⟩ := HC.out w2 B2.out
    have K2 := rsameTB (S2.out.below G2.out) (T2.out.below G2.out) rfl
    cases hr2 : decide (p.regs = q.regs) with
    | false =>
      rw [hr2] at K2
      obtain rfl : r = false := by rw [HD.out, hr2]; rfl
      clear HD
      go_wp2_with fail
      refine K2.mono ?_
      rintro e w3 ⟨rfl, hb⟩
      have G3 := Lib.hid (G2.out.trans (hb.mono G2.out.size))
      clear hb K2 x0 x1 x2 x3 y0 y1 y2 y3
      go_wp2_with fail
      go_ret
      exact ⟨rfl, G3.out⟩
    | true =>
      rw [hr2] at K2
      rw [hr2, Bool.true_and] at HD
      go_wp2_with fail
      refine K2.mono ?_
      rintro e w3 ⟨rfl, hb⟩
      have B3 := Lib.hid (B2.out.trans (hb.mono B2.out.size))
      have G3 := Lib.hid (G2.out.trans (hb.mono G2.out.size))
      clear hb K2 x0 x1 x2 x3 y0 y1 y2 y3
      obtain ⟨⟨x0, x1, x2, x3⟩, ⟨y0, y1, y2, y3⟩⟩ := HC.out w3 B3.out
      generalize p.total = pt1 at *
      generalize q.total = pt2 at *
      generalize p.over = po1 at *
      generalize q.over = po2 at *
      by_cases ht : pt1 = pt2
      · have e1 : (pt1 == pt2) = true := beq_iff_eq.2 ht
        rw [decide_eq_true ht, Bool.true_and] at HD
        have e2 : (po1 == po2) = r := by rw [HD.out]; cases po1 <;> cases po2 <;> rfl
        clear ht
        go_wp2_with fail
        go_ret
        exact ⟨rfl, G3.out⟩
      · have e1 : (pt1 == pt2) = false := beq_false_of_ne ht
        obtain rfl : r = false := by rw [HD.out, decide_eq_false ht]; rfl
        clear ht HD
        go_wp2_with fail
        go_ret
        exact ⟨rfl, G3.out⟩
end Go.Proofs.Ytkmiodpaanohoaa
namespace Go.Proofs.Ytkmiodpaanohoaa
open Go.RowKit Plain
set_option linter.unusedVariables false

/-- texts read the same when a cell that holds none is stored into -/
theorem SeqT.setOther {w : World} {v u x : Value} {xs : List Txt} {a : Addr} (h : SeqT w v xs) (hc : w.cell? a = some u) (hu : ∀ s, u ≠ .string s) : SeqT (w.setCell a x) v xs := by
  obtain ⟨p, cap, rfl, h1, h2, h0, h3⟩ := h
  refine ⟨p, cap, rfl, h1, h2, h0, fun hp => ?_⟩
  obtain ⟨b, off, rfl, g⟩ := h3 hp
  refine ⟨b, off, rfl, fun j hj => ?_⟩
  rw [World.cell?_setCell_other _ _ _ _ (fun e => by
    have := g j hj
    rw [← e] at this
    rw [hc] at this
    exact hu _ (Option.some.inj this))]
  exact g j hj
/-- four cells that were stored into, one behind the other -/
def set4 (w : World) (g : Nat) (v0 v1 v2 v3 : Value) : World := (((w.setCell ⟨g, 0, none⟩ v0).setCell ⟨g, 1, none⟩ v1).setCell ⟨g, 2, none⟩ v2).setCell ⟨g, 3, none⟩ v3
theorem set4_cells {w : World} {g : Nat} {z0 z1 z2 z3 v0 v1 v2 v3 : Value} (h0 : w.cell? ⟨g, 0, none⟩ = some z0) (h1 : w.cell? ⟨g, 1, none⟩ = some z1) (h2 : w.cell? ⟨g, 2, none⟩ = some z2) (h3 : w.cell? ⟨g, 3, none⟩ = some z3) :
    (set4 w g v0 v1 v2 v3).cell? ⟨g, 0, none⟩ = some v0 ∧ (set4 w g v0 v1 v2 v3).cell? ⟨g, 1, none⟩ = some v1 ∧ (set4 w g v0 v1 v2 v3).cell? ⟨g, 2, none⟩ = some v2 ∧ (set4 w g v0 v1 v2 v3).cell? ⟨g, 3, none⟩ = some v3 := by
  have ne : ∀ (W : World) (i j : Nat) (u : Value), i ≠ j → (W.setCell ⟨g, j, none⟩ u).cell? ⟨g, i, none⟩ = W.cell? ⟨g, i, none⟩ := fun W i j u h => World.cell?_setCell_other _ _ _ _ (by simp <;> exact h)
  unfold set4
  refine ⟨?_, ?_, ?_, ?_⟩
  · rw [ne _ 0 3 _ (by decide), ne _ 0 2 _ (by decide), ne _ 0 1 _ (by decide)]
    exact World.cell?_setCell_same _ _ _ h0
  · rw [ne _ 1 3 _ (by decide), ne _ 1 2 _ (by decide)]
    exact World.cell?_setCell_same _ _ _ ((ne _ 1 0 _ (by decide)).trans h1)
  · rw [ne _ 2 3 _ (by decide)]
    exact World.cell?_setCell_same _ _ _ (((ne _ 2 1 _ (by decide)).trans (ne _ 2 0 _ (by decide))).trans h2)
  · exact World.cell?_setCell_same _ _ _ ((((ne _ 3 2 _ (by decide)).trans (ne _ 3 1 _ (by decide))).trans (ne _ 3 0 _ (by decide))).trans h3)
theorem set4_seq {w : World} {g : Nat} {z0 z1 z2 z3 v0 v1 v2 v3 v : Value} {xs : List Txt} (h : SeqT w v xs) (h0 : w.cell? ⟨g, 0, none⟩ = some z0) (h1 : w.cell? ⟨g, 1, none⟩ = some z1) (h2 : w.cell? ⟨g, 2, none⟩ = some z2) (h3 : w.cell? ⟨g, 3, none⟩ = some z3)
    (n0 : ∀ s, z0 ≠ .string s) (n1 : ∀ s, z1 ≠ .string s) (n2 : ∀ s, z2 ≠ .string s) (n3 : ∀ s, z3 ≠ .string s) : SeqT (set4 w g v0 v1 v2 v3) v xs := by
  have ne : ∀ (W : World) (i j : Nat) (u : Value), i ≠ j → (W.setCell ⟨g, j, none⟩ u).cell? ⟨g, i, none⟩ = W.cell? ⟨g, i, none⟩ := fun W i j u h => World.cell?_setCell_other _ _ _ _ (by simp <;> exact h)
  unfold set4
  refine SeqT.setOther (u := z3) (SeqT.setOther (u := z2) (SeqT.setOther (u := z1) (h.setOther h0 n0) ?_ n1) ?_ n2) ?_ n3
  · exact (ne _ 1 0 _ (by decide)).trans h1
  · exact ((ne _ 2 1 _ (by decide)).trans (ne _ 2 0 _ (by decide))).trans h2
  · exact (((ne _ 3 2 _ (by decide)).trans (ne _ 3 1 _ (by decide))).trans (ne _ 3 0 _ (by decide))).trans h3
theorem set4_below {B : Nat} {w u : World} {g : Nat} {v0 v1 v2 v3 : Value} (h : Below B w u) (hg : B ≤ g) : Below B w (set4 u g v0 v1 v2 v3) := (((h.setCell hg _).setCell hg _).setCell hg _).setCell hg _
theorem upto_all_of {α : Type} {p : PItem → Bool} {f : PItem → α} {l : List PItem} {n : Nat} (h : l.length = n) : upto p f l n = (l.filter p).map f := by rw [← h, upto_all]

end Go.Proofs.Ytkmiodpaanohoaa
