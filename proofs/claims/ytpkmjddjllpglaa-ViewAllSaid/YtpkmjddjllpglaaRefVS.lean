/- What the document's own Same of fields leaves. -/
import Derived.Test.YtpkmjddjllpglaaRefV
namespace Go.Proofs.Ytpkmjddjllpglaa
open Go.RowKit Plain
set_option linter.unusedVariables false

theorem pval_dec (p q : PVal) : decide (p = q) = (decide (p.elems = q.elems) && (decide (p.regs = q.regs) && (decide (p.total = q.total) && decide (p.over = q.over)))) := by
  rw [Bool.eq_iff_iff]
  simp only [Bool.and_eq_true, decide_eq_true_iff]
  exact ⟨fun h => by subst h; exact ⟨rfl, rfl, rfl, rfl⟩, fun ⟨h1, h2, h3, h4⟩ => pval_ext h1 h2 h3 h4⟩
theorem pair_cells (w : World) (X Y : Array Value) (t u : TypeId) (i : Nat) :
    ((w.alloc (.cells X t)).alloc (.cells Y u)).cell? ⟨w.heap.size, i, none⟩ = X[i]? ∧ ((w.alloc (.cells X t)).alloc (.cells Y u)).cell? ⟨w.heap.size + 1, i, none⟩ = Y[i]? := by
  have s1 : (w.alloc (.cells X t)).heap.size = w.heap.size + 1 := by simp
  have h1 := World.cell?_alloc_new w X t i
  have h2 := World.cell?_alloc_new (w.alloc (.cells X t)) Y u i
  rw [s1] at h2
  have b2 := (Below.refl (w.heap.size + 1) (w.alloc (.cells X t))).alloc (by rw [s1]; exact Nat.le_refl _) (.cells Y u)
  exact ⟨(b2.cell (p := ⟨w.heap.size, i, none⟩) (show w.heap.size < w.heap.size + 1 by omega)).trans h1, h2⟩
theorem rsameTB {u v : Value} {xs ys : List Txt} {w : World} {r : Bool} (hu : SeqT w u xs) (hv : SeqT w v ys) (e : decide (xs = ys) = r) : Calls Try.prog 14 #[u, v] w (GivesB w r) := by
  rw [← e]
  exact (rsameT_any hu hv).mono fun _ _ ⟨h, hw⟩ => ⟨h, below_of_drawn hw⟩

set_option maxRecDepth 100000 in
set_option maxHeartbeats 4000000 in
/-- Same -/
theorem rvsame_any {u v : Value} {p q : PVal} {w : World} (hu : IsVal w u p) (hv : IsVal w v q) : Calls Try.prog 12 #[u, v] w (GivesB w (decide (p = q))) := by
  have HD := Lib.hid (pval_dec p q)
  generalize decide (p = q) = r at *
  obtain ⟨a1, n1, c1, a2, n2, c2, rfl, s1, s2⟩ := hu
  obtain ⟨b1, m1, d1, b2, m2, d2, rfl, t1, t2⟩ := hv
  have HB : Hid (Below w.heap.size w ((w.alloc (.cells #[.slice a1 n1 c1, .slice a2 n2 c2, .int .i64 p.total, .bool p.over] 25)).alloc (.cells #[.slice b1 m1 d1, .slice b2 m2 d2, .int .i64 q.total, .bool q.over] 25))) := Lib.hid (((Below.refl _ _).alloc (Nat.le_refl _) _).alloc (by simp) _)
  have PC := fun i => pair_cells w #[.slice a1 n1 c1, .slice a2 n2 c2, .int .i64 p.total, .bool p.over] #[.slice b1 m1 d1, .slice b2 m2 d2, .int .i64 q.total, .bool q.over] 25 25 i
  have HC : Hid (∀ W, Below ((w.alloc (.cells #[.slice a1 n1 c1, .slice a2 n2 c2, .int .i64 p.total, .bool p.over] 25)).alloc (.cells #[.slice b1 m1 d1, .slice b2 m2 d2, .int .i64 q.total, .bool q.over] 25)).heap.size ((w.alloc (.cells #[.slice a1 n1 c1, .slice a2 n2 c2, .int .i64 p.total, .bool p.over] 25)).alloc (.cells #[.slice b1 m1 d1, .slice b2 m2 d2, .int .i64 q.total, .bool q.over] 25)) W →
      (W.cell? ⟨w.heap.size, 0, none⟩ = some (.slice a1 n1 c1) ∧ W.cell? ⟨w.heap.size, 1, none⟩ = some (.slice a2 n2 c2) ∧ W.cell? ⟨w.heap.size, 2, none⟩ = some (.int .i64 p.total) ∧ W.cell? ⟨w.heap.size, 3, none⟩ = some (.bool p.over)) ∧
      (W.cell? ⟨w.heap.size + 1, 0, none⟩ = some (.slice b1 m1 d1) ∧ W.cell? ⟨w.heap.size + 1, 1, none⟩ = some (.slice b2 m2 d2) ∧ W.cell? ⟨w.heap.size + 1, 2, none⟩ = some (.int .i64 q.total) ∧ W.cell? ⟨w.heap.size + 1, 3, none⟩ = some (.bool q.over))) :=
    Lib.hid (fun W hb => by
      have c : ∀ {a : Addr} {v : Value}, ((w.alloc (.cells #[.slice a1 n1 c1, .slice a2 n2 c2, .int .i64 p.total, .bool p.over] 25)).alloc (.cells #[.slice b1 m1 d1, .slice b2 m2 d2, .int .i64 q.total, .bool q.over] 25)).cell? a = some v → W.cell? a = some v := fun g => (hb.cell (World.block_lt_of_cell? _ _ g)).trans g
      exact ⟨⟨c (PC 0).1, c (PC 1).1, c (PC 2).1, c (PC 3).1⟩, ⟨c (PC 0).2, c (PC 1).2, c (PC 2).2, c (PC 3).2⟩⟩)
  have S1 := Lib.hid s1
  have S2 := Lib.hid s2
  have T1 := Lib.hid t1
  have T2 := Lib.hid t2
  clear s1 s2 t1 t2 PC
  go_enter Try.func12, Try.ntmps12
  go_upto_region 1 with fail
  generalize ((w.alloc (.cells #[.slice a1 n1 c1, .slice a2 n2 c2, .int .i64 p.total, .bool p.over] 25)).alloc (.cells #[.slice b1 m1 d1, .slice b2 m2 d2, .int .i64 q.total, .bool q.over] 25)) = w1 at *
  obtain ⟨⟨x0, x1, x2, x3⟩, ⟨y0, y1, y2, y3⟩⟩ := HC.out w1 (Below.refl _ _)
  have K1 := rsameTB (S1.out.below HB.out) (T1.out.below HB.out) rfl
  cases hr1 : decide (p.elems = q.elems) with
  | false =>
    rw [hr1] at K1
    obtain rfl : r = false := by rw [HD.out, hr1]; rfl
    clear HD
    go_wp2_with fail
    refine K1.mono ?_
    rintro e w2 ⟨rfl, hb⟩
    have G2 := Lib.hid (HB.out.trans (hb.mono HB.out.size))
    clear hb K1 x0 x1 x2 x3 y0 y1 y2 y3
    go_wp2_with fail
    go_ret
    exact ⟨rfl, G2.out⟩
  | true =>
    rw [hr1] at K1
    rw [hr1, Bool.true_and] at HD
    go_wp2_with fail
    refine K1.mono ?_
    rintro e w2 ⟨rfl, hb⟩
    have B2 := Lib.hid hb
    have G2 := Lib.hid (HB.out.trans (hb.mono HB.out.size))
    clear hb K1 x0 x1 x2 x3 y0 y1 y2 y3
    obtain ⟨⟨x0, x1, x2, x3⟩, ⟨y0, y1, y2, y3⟩⟩ := HC.out w2 B2.out
    have K2 := rsameTB (S2.out.below G2.out) (T2.out.below G2.out) rfl
    cases hr2 : decide (p.regs = q.regs) with
    | false =>
      rw [hr2] at K2
      obtain rfl : r = false := by rw [HD.out, hr2]; rfl
      clear HD
      go_wp2_with fail
      refine K2.mono ?_
      rintro e w3 ⟨rfl, hb⟩
      have G3 := Lib.hid (G2.out.trans (hb.mono G2.out.size))
      clear hb K2 x0 x1 x2 x3 y0 y1 y2 y3
      go_wp2_with fail
      go_ret
      exact ⟨rfl, G3.out⟩
    | true =>
      rw [hr2] at K2
      rw [hr2, Bool.true_and] at HD
      go_wp2_with fail
      refine K2.mono ?_
      rintro e w3 ⟨rfl, hb⟩
      have B3 := Lib.hid (B2.out.trans (hb.mono B2.out.size))
      have G3 := Lib.hid (G2.out.trans (hb.mono G2.out.size))
      clear hb K2 x0 x1 x2 x3 y0 y1 y2 y3
      obtain ⟨⟨x0, x1, x2, x3⟩, ⟨y0, y1, y2, y3⟩⟩ := HC.out w3 B3.out
      generalize p.total = pt1 at *
      generalize q.total = pt2 at *
      generalize p.over = po1 at *
      generalize q.over = po2 at *
      by_cases ht : pt1 = pt2
      · have e1 : (pt1 == pt2) = true := beq_iff_eq.2 ht
        rw [decide_eq_true ht, Bool.true_and] at HD
        have e2 : (po1 == po2) = r := by rw [HD.out]; cases po1 <;> cases po2 <;> rfl
        clear ht
        go_wp2_with fail
        go_ret
        exact ⟨rfl, G3.out⟩
      · have e1 : (pt1 == pt2) = false := beq_false_of_ne ht
        obtain rfl : r = false := by rw [HD.out, decide_eq_false ht]; rfl
        clear ht HD
        go_wp2_with fail
        go_ret
        exact ⟨rfl, G3.out⟩
end Go.Proofs.Ytpkmjddjllpglaa
