/- What the program's own Formed of effects leaves. -/
import Derived.Test.YthcpglbeiibniaaGreatEForm
namespace Go.Proofs.YthcpglbeiibniaaGreat
open Go.RowKit Plain
set_option linter.unusedVariables false

theorem effAt_box (w : World) (x : PEff) (a : Option Addr) (n c : Nat) : EffAt (w.alloc (.cells #[.int .i64 x.pos, .string (bt x.key), .string (bt x.field), .int .i64 x.kind, .string (bt x.elem), .int .i64 x.n, .slice a n c] 35)) w.heap.size 0 x (.slice a n c) := ⟨by simp, by simp, by simp, by simp, by simp, by simp, by simp⟩
theorem EffAt.zero {w : World} {b : Nat} {x : PEff} {dv : Value} (h : EffAt w b 0 x dv) : w.cell? ⟨b, 0, none⟩ = some (.int .i64 x.pos) ∧ w.cell? ⟨b, 1, none⟩ = some (.string (bt x.key)) ∧ w.cell? ⟨b, 2, none⟩ = some (.string (bt x.field)) ∧ w.cell? ⟨b, 3, none⟩ = some (.int .i64 x.kind) ∧ w.cell? ⟨b, 4, none⟩ = some (.string (bt x.elem)) ∧ w.cell? ⟨b, 5, none⟩ = some (.int .i64 x.n) ∧ w.cell? ⟨b, 6, none⟩ = some dv := by
  obtain ⟨c0, c1, c2, c3, c4, c5, c6⟩ := h
  simp only [Nat.zero_add] at c1 c2 c3 c4 c5 c6
  exact ⟨c0, c1, c2, c3, c4, c5, c6⟩
theorem ItemAt.zero {w : World} {b : Nat} {x : PItem} (h : ItemAt w b 0 x) : w.cell? ⟨b, 0, none⟩ = some (.string (bt x.key)) ∧ w.cell? ⟨b, 1, none⟩ = some (.string (bt x.field)) ∧ w.cell? ⟨b, 2, none⟩ = some (.int .i64 x.kind) ∧ w.cell? ⟨b, 3, none⟩ = some (.string (bt x.elem)) ∧ w.cell? ⟨b, 4, none⟩ = some (.int .i64 x.n) ∧ w.cell? ⟨b, 5, none⟩ = some (.int .i64 x.dot.node) ∧ w.cell? ⟨b, 6, none⟩ = some (.int .i64 x.dot.seq) ∧ w.cell? ⟨b, 7, none⟩ = some (.int .i64 x.dot.pos) := by
  obtain ⟨c0, c1, c2, c3, c4, c5, c6, c7⟩ := h
  simp only [Nat.zero_add] at c1 c2 c3 c4 c5 c6 c7
  exact ⟨c0, c1, c2, c3, c4, c5, c6, c7⟩
theorem itemAt_box (w : World) (x : PItem) : ItemAt (w.alloc (.cells #[.string (bt x.key), .string (bt x.field), .int .i64 x.kind, .string (bt x.elem), .int .i64 x.n, .int .i64 x.dot.node, .int .i64 x.dot.seq, .int .i64 x.dot.pos] 39)) w.heap.size 0 x := ⟨by simp, by simp, by simp, by simp, by simp, by simp, by simp, by simp⟩
/-- an item whose Kind is stored anew -/
theorem ItemAt.kind {w : World} {b : Nat} {x : PItem} (h : ItemAt w b 0 x) (k : Int) : ItemAt (w.setCell ⟨b, 2, none⟩ (.int .i64 k)) b 0 ⟨x.key, x.field, k, x.elem, x.n, x.dot⟩ := by
  obtain ⟨c0, c1, c2, c3, c4, c5, c6, c7⟩ := h
  simp only [Nat.zero_add] at c1 c2 c3 c4 c5 c6 c7
  exact ⟨(World.cell?_setCell_other _ _ _ _ (by simp)).trans c0, (World.cell?_setCell_other _ _ _ _ (by simp)).trans c1, World.cell?_setCell_same _ _ _ c2, (World.cell?_setCell_other _ _ _ _ (by simp)).trans c3, (World.cell?_setCell_other _ _ _ _ (by simp)).trans c4, (World.cell?_setCell_other _ _ _ _ (by simp)).trans c5, (World.cell?_setCell_other _ _ _ _ (by simp)).trans c6, (World.cell?_setCell_other _ _ _ _ (by simp)).trans c7⟩

set_option maxRecDepth 100000 in
set_option maxHeartbeats 8000000 in
/-- Formed -/
theorem eformed_any (node seq : Int) (x : PEff) {a : Option Addr} {n c : Nat} {w : World} (hs : SeqE LDot w (.slice a n c) x.drops) :
    Calls Tryz.prog 16 #[.int .i64 node, .int .i64 seq, .agg #[.int .i64 x.pos, .string (bt x.key), .string (bt x.field), .int .i64 x.kind, .string (bt x.elem), .int .i64 x.n, .slice a n c]] w (GivesB w (eformedB node seq x)) := by
  have E1 := Lib.hid (effAt_box w x a n c)
  have G1 := Lib.hid ((Below.refl w.heap.size w).alloc (Nat.le_refl _) (.cells #[.int .i64 x.pos, .string (bt x.key), .string (bt x.field), .int .i64 x.kind, .string (bt x.elem), .int .i64 x.n, .slice a n c] 35))
  have HS1 := Lib.hid (hs.below_alloc (.cells #[.int .i64 x.pos, .string (bt x.key), .string (bt x.field), .int .i64 x.kind, .string (bt x.elem), .int .i64 x.n, .slice a n c] 35))
  have KM := Lib.hid (fun W => emade_any node seq x a n c W)
  have KF : Hid (∀ (y : PItem) W, Calls Tryz.prog 30 #[.agg #[.string (bt y.key), .string (bt y.field), .int .i64 y.kind, .string (bt y.elem), .int .i64 y.n, .int .i64 y.dot.node, .int .i64 y.dot.seq, .int .i64 y.dot.pos]] W (GivesB W (formedB y))) := Lib.hid (fun y W => iformed_any y W)
  have HD := Lib.hid hs.dims.1
  have t1 := nil_eq x.elem
  have F1 := Lib.hid (fun h1 h2 h3 => eformed_zero (node := node) (seq := seq) (e := x) h1 h2 h3)
  have F2 := Lib.hid (fun h1 h2 => eformed_bare (node := node) (seq := seq) (e := x) h1 h2)
  have F3 := Lib.hid (fun h1 h2 => eformed_idle (node := node) (seq := seq) (e := x) h1 h2)
  have F4 := Lib.hid (fun h => eformed_made (node := node) (seq := seq) (e := x) h)
  clear hs
  generalize eformedB node seq x = r at *
  go_enter Tryz.func16, Tryz.ntmps16
  go_upto_region 1 with fail
  generalize (w.alloc (.cells #[.int .i64 x.pos, .string (bt x.key), .string (bt x.field), .int .i64 x.kind, .string (bt x.elem), .int .i64 x.n, .slice a n c] 35)) = w1 at *
  obtain ⟨e0, e1, e2, e3, e4, e5, e6⟩ := E1.out.zero
  go_wp2_with fail
  refine (KM.out _).mono ?_
  rintro e w2 ⟨rfl, hb⟩
  have G2 := Lib.hid (G1.out.trans (hb.mono G1.out.size))
  have E2 := Lib.hid (E1.out.below hb E1.out.lt)
  have HS2 := Lib.hid (HS1.out.below hb)
  clear hb e0 e1 e2 e3 e4 e5 e6 HS1 E1 KM
  have B3 := (Below.refl w2.heap.size w2).alloc (Nat.le_refl _) (.cells #[.string (bt x.key), .string (bt x.field), .int .i64 x.kind, .string (bt x.elem), .int .i64 x.n, .int .i64 node, .int .i64 seq, .int .i64 x.pos] 39)
  have G3 : Hid (Below w.heap.size w (w2.alloc (.cells #[.string (bt x.key), .string (bt x.field), .int .i64 x.kind, .string (bt x.elem), .int .i64 x.n, .int .i64 node, .int .i64 seq, .int .i64 x.pos] 39))) := Lib.hid (G2.out.trans (B3.mono G2.out.size))
  have E3 := Lib.hid (E2.out.below B3 E2.out.lt)
  have HS3 := Lib.hid (HS2.out.below B3)
  have I3 : Hid (ItemAt (w2.alloc (.cells #[.string (bt x.key), .string (bt x.field), .int .i64 x.kind, .string (bt x.elem), .int .i64 x.n, .int .i64 node, .int .i64 seq, .int .i64 x.pos] 39)) w2.heap.size 0 (madeI node seq x)) := Lib.hid (itemAt_box w2 (madeI node seq x))
  have Z3 : Hid ((w2.alloc (.cells #[.string (bt x.key), .string (bt x.field), .int .i64 x.kind, .string (bt x.elem), .int .i64 x.n, .int .i64 node, .int .i64 seq, .int .i64 x.pos] 39)).frozen? ⟨w2.heap.size, 2, none⟩ = false) := Lib.hid (by simp)
  have N3 : Hid (w.heap.size < w2.heap.size) := Lib.hid (E2.out.lt)
  have NW : Hid (w.heap.size ≤ w2.heap.size) := Lib.hid G2.out.size
  have B3' := Lib.hid B3
  have HSO : Hid (∀ W, Below w2.heap.size w2 W → SeqE LDot W (.slice a n c) x.drops) := Lib.hid (fun W hb => HS2.out.below hb)
  clear B3 E2 HS2
  go_upto_region 2 with fail
  generalize (w2.alloc (.cells #[.string (bt x.key), .string (bt x.field), .int .i64 x.kind, .string (bt x.elem), .int .i64 x.n, .int .i64 node, .int .i64 seq, .int .i64 x.pos] 39)) = w3 at *
  obtain ⟨e0, e1, e2, e3, e4, e5, e6⟩ := E3.out.zero
  obtain ⟨c0, c1, c2, c3, c4, c5, c6, c7⟩ := I3.out.zero
  by_cases hk : x.kind = 0
  · have q1 : (x.kind == 0) = true := by simp [hk]
    by_cases he : x.elem.length = 0
    · rw [decide_eq_true he] at t1
      by_cases hn : x.drops.length = 0
      · obtain rfl : r = false := F3.out hk hn
        have q2 : ((n : Int) == 0) = true := by rw [← HD.out, hn]; rfl
        clear hk he hn F1 F2 F3 F4
        go_wp2_with fail
        go_ret
        exact ⟨rfl, G3.out⟩
      · have q2 : ((n : Int) == 0) = false := by rw [← HD.out]; exact beq_false_of_ne (by omega)
        have FF := F1.out hk he (by omega)
        have KA : ∀ W, Calls Tryz.prog 30 #[.agg #[.string (bt x.key), .string (bt x.field), .int .i64 1, .string (bt x.elem), .int .i64 x.n, .int .i64 node, .int .i64 seq, .int .i64 x.pos]] W (GivesB W (formedB (askI node seq x))) := KF.out (askI node seq x)
        have z3 := Z3.out
        clear hk he hn F1 F2 F3 F4 KF c0 c1 c3 c4 c5 c6 c7
        have I5 : Hid (ItemAt (w3.setCell ⟨w2.heap.size, 2, none⟩ (.int .i64 1)) w2.heap.size 0 (askI node seq x)) := Lib.hid (I3.out.kind 1)
        have B5 : Below w2.heap.size w3 (w3.setCell ⟨w2.heap.size, 2, none⟩ (.int .i64 1)) := (Below.refl w2.heap.size w3).setCell (Nat.le_refl _) _
        have G5 : Hid (Below w.heap.size w (w3.setCell ⟨w2.heap.size, 2, none⟩ (.int .i64 1))) := Lib.hid (G3.out.setCell NW.out _)
        have E5 : Hid (EffAt (w3.setCell ⟨w2.heap.size, 2, none⟩ (.int .i64 1)) w.heap.size 0 x (.slice a n c)) := Lib.hid (E3.out.below B5 N3.out)
        have HS5 : Hid (SeqE LDot (w3.setCell ⟨w2.heap.size, 2, none⟩ (.int .i64 1)) (.slice a n c) x.drops) := Lib.hid (HSO.out _ (B3'.out.trans B5))
        clear B5
        go_upto_region 6 with fail
        generalize (w3.setCell ⟨w2.heap.size, 2, none⟩ (.int .i64 1)) = w5 at *
        obtain ⟨d0, d1, d2, d3, d4, d5, d6, d7⟩ := (show w5.cell? ⟨w2.heap.size, 0, none⟩ = some (.string (bt x.key)) ∧ w5.cell? ⟨w2.heap.size, 1, none⟩ = some (.string (bt x.field)) ∧ w5.cell? ⟨w2.heap.size, 2, none⟩ = some (.int .i64 1) ∧ w5.cell? ⟨w2.heap.size, 3, none⟩ = some (.string (bt x.elem)) ∧ w5.cell? ⟨w2.heap.size, 4, none⟩ = some (.int .i64 x.n) ∧ w5.cell? ⟨w2.heap.size, 5, none⟩ = some (.int .i64 node) ∧ w5.cell? ⟨w2.heap.size, 6, none⟩ = some (.int .i64 seq) ∧ w5.cell? ⟨w2.heap.size, 7, none⟩ = some (.int .i64 x.pos) from I5.out.zero)
        clear e0 e1 e2 e3 e4 e5 e6 c2 z3
        obtain ⟨e0, e1, e2, e3, e4, e5, e6⟩ := E5.out.zero
        cases hf : formedB (askI node seq x) with
        | false =>
          rw [hf] at KA
          obtain rfl : r = false := by rw [FF, hf, Bool.false_and]
          clear FF
          clear hf e0 e1 e2 e3 e4 e5 e6
          go_wp2_with fail
          refine (KA _).mono ?_
          rintro e w6 ⟨rfl, hb⟩
          have G6 := Lib.hid (G5.out.trans (hb.mono G5.out.size))
          clear hb d0 d1 d2 d3 d4 d5 d6 d7
          go_wp2_with fail
          go_ret
          exact ⟨rfl, G6.out⟩
        | true =>
          rw [hf] at KA
          have HR := Lib.hid (show r = areB x.drops by rw [FF, hf, Bool.true_and])
          clear FF
          clear hf
          go_wp2_with fail
          refine (KA _).mono ?_
          rintro e w6 ⟨rfl, hb⟩
          have G6 := Lib.hid (G5.out.trans (hb.mono G5.out.size))
          have KD := eare_any (HS5.out.below hb)
          have m6 := (hb.cell (World.block_lt_of_cell? w5 _ e6)).trans e6
          clear hb d0 d1 d2 d3 d4 d5 d6 d7 e0 e1 e2 e3 e4 e5 e6
          rw [← HR.out] at KD
          go_wp2_with fail
          refine KD.mono ?_
          rintro e w7 ⟨rfl, hb⟩
          have G7 := Lib.hid (G6.out.trans (hb.mono G6.out.size))
          clear hb m6 KD
          go_wp2_with fail
          go_ret
          exact ⟨rfl, G7.out⟩
    · rw [decide_eq_false he] at t1
      obtain rfl : r = false := F2.out hk he
      clear hk he F1 F2 F3 F4
      go_wp2_with fail
      go_ret
      exact ⟨rfl, G3.out⟩
  · have q1 : (x.kind == 0) = false := by simp [hk]
    have FF := F4.out hk
    have KA : ∀ W, Calls Tryz.prog 30 #[.agg #[.string (bt x.key), .string (bt x.field), .int .i64 x.kind, .string (bt x.elem), .int .i64 x.n, .int .i64 node, .int .i64 seq, .int .i64 x.pos]] W (GivesB W (formedB (madeI node seq x))) := KF.out (madeI node seq x)
    have KD := eare_any HS3.out
    clear hk F1 F2 F3 F4 KF e0 e1 e2 e4 e5
    cases hf : formedB (madeI node seq x) with
    | false =>
      rw [hf] at KA
      obtain rfl : r = false := by rw [FF, hf, Bool.false_and]
      clear FF
      clear hf
      go_wp2_with fail
      refine (KA _).mono ?_
      rintro e w5 ⟨rfl, hb⟩
      have G5 := Lib.hid (G3.out.trans (hb.mono G3.out.size))
      clear hb c0 c1 c2 c3 c4 c5 c6 c7
      go_wp2_with fail
      go_ret
      exact ⟨rfl, G5.out⟩
    | true =>
      rw [hf] at KA
      have HR := Lib.hid (show r = areB x.drops by rw [FF, hf, Bool.true_and])
      clear FF
      clear hf
      go_wp2_with fail
      refine (KA _).mono ?_
      rintro e w5 ⟨rfl, hb⟩
      have G5 := Lib.hid (G3.out.trans (hb.mono G3.out.size))
      have KD := eare_any (HS3.out.below hb)
      have m6 := (hb.cell (World.block_lt_of_cell? w3 _ e6)).trans e6
      clear hb c0 c1 c2 c3 c4 c5 c6 c7 e3 e6
      rw [← HR.out] at KD
      go_wp2_with fail
      refine KD.mono ?_
      rintro e w6 ⟨rfl, hb⟩
      have G6 := Lib.hid (G5.out.trans (hb.mono G5.out.size))
      clear hb m6 KD
      go_wp2_with fail
      go_ret
      exact ⟨rfl, G6.out⟩
end Go.Proofs.YthcpglbeiibniaaGreat
