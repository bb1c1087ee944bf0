/-
  For any list of items, any item, any lists of dots and of texts, and any key the law ItemAll answers true: what is put in order, looked through and told how large it is, is the document's answer, and the items stay as they are. No condition.
  (The frame was written by the guide's proof-skeleton.mjs, turned for slices of items; the walk is ours.)
-/
import Derived.Test.YtnjkkhfaggkgjaaRows
import Derived.WalkKit
import Derived.ProofKit
import Derived.OpenShut
import Derived.ShutString
import Derived.ChangeOld
import Derived.Below
import Derived.Test.YtnjkkhfaggkgjaaAwakeI
import Derived.Test.YtnjkkhfaggkgjaaOpenZ
namespace Go.Proofs.Ytnjkkhfaggkgjaa.itemAll
open Go.ChangeShapes Go.WideShapes Go.ChangeAt Go.RowKit
open Go.ChangeMaps (open_string shut_string)
set_option linter.unusedVariables false

theorem own : ownKnob Try.prog.godebug = none := by kernel_rfl
theorem laidOut : laidOutB Try.prog = true := by kernel_rfl

open Plain

set_option maxRecDepth 100000 in
theorem open0 {H : Type} {enc : TypeId × Value → H} {W : World} {r : Reach} {b : Nat} {v : Value} {d : DataW H} {p : List MemPlace} (hv : Value.okWide Try.prog W r b 22 v) (h : DataW.Trod enc Try.prog W 0 (fun _ => true) true 22 v d p) : IsItems W v := items_of_trod hv h
set_option maxRecDepth 100000 in
theorem open1 {H : Type} {enc : TypeId × Value → H} {W : World} {r : Reach} {b : Nat} {v : Value} {d : DataW H} {p : List MemPlace} (hv : Value.okWide Try.prog W r b 26 v) (h : DataW.Trod enc Try.prog W 0 (fun _ => true) true 26 v d p) : IsItem v := item_of_trod hv h
set_option maxRecDepth 100000 in
theorem open2 {H : Type} {enc : TypeId × Value → H} {W : World} {r : Reach} {b : Nat} {v : Value} {d : DataW H} {p : List MemPlace} (hv : Value.okWide Try.prog W r b 27 v) (h : DataW.Trod enc Try.prog W 0 (fun _ => true) true 27 v d p) : IsDots W v := dots_of_trod hv h
set_option maxRecDepth 100000 in
theorem open3 {H : Type} {enc : TypeId × Value → H} {W : World} {r : Reach} {b : Nat} {v : Value} {d : DataW H} {p : List MemPlace} (hv : Value.okWide Try.prog W r b 28 v) (h : DataW.Trod enc Try.prog W 0 (fun _ => true) true 28 v d p) : IsTexts W v := texts_of_trod hv h

set_option maxRecDepth 100000 in
set_option maxHeartbeats 16000000 in
theorem walk (v0 v1 v2 v3 : Value) (t : ByteArray) (w : World) (w0 : IsItems w v0) (w1 : IsItem v1) (w2 : IsDots w v2) (w3 : IsTexts w v3) (w4 : t.size ≤ maxLen) :
    Calls Try.prog 3 #[v0, v1, v2, v3, .string t] w fun e w' => e = .returned (.bool true) ∧ Below w.heap.size w w' := by
  obtain ⟨xs, s0, q0⟩ := w0
  have Q0 := Lib.hid q0
  clear q0
  obtain ⟨x, rfl, hx⟩ := w1
  obtain ⟨ds, s2, q2⟩ := w2
  have QD := Lib.hid q2
  clear q2
  obtain ⟨zs, s3⟩ := w3
  obtain ⟨s, rfl⟩ : ∃ s, bt s = t := ⟨tx t, bt_tx t⟩
  have HX := Lib.hid hx
  have Sx := Lib.hid (s0.below_alloc (.cells #[.string (bt x.key), .string (bt x.field), .int .i64 x.kind, .string (bt x.elem), .int .i64 x.n, .int .i64 x.dot.node, .int .i64 x.dot.seq, .int .i64 x.dot.pos] 26))
  have Sd := Lib.hid (s2.below_alloc (.cells #[.string (bt x.key), .string (bt x.field), .int .i64 x.kind, .string (bt x.elem), .int .i64 x.n, .int .i64 x.dot.node, .int .i64 x.dot.seq, .int .i64 x.dot.pos] 26))
  have Sz := Lib.hid (s3.below_alloc (.cells #[.string (bt x.key), .string (bt x.field), .int .i64 x.kind, .string (bt x.elem), .int .i64 x.n, .int .i64 x.dot.node, .int .i64 x.dot.seq, .int .i64 x.dot.pos] 26))
  have IB : Hid (ItemAt (w.alloc (.cells #[.string (bt x.key), .string (bt x.field), .int .i64 x.kind, .string (bt x.elem), .int .i64 x.n, .int .i64 x.dot.node, .int .i64 x.dot.seq, .int .i64 x.dot.pos] 26)) w.heap.size 0 x) := Lib.hid ⟨by simp, by simp, by simp, by simp, by simp, by simp, by simp, by simp⟩
  have G := Lib.hid ((Below.refl w.heap.size w).alloc (Nat.le_refl _) (.cells #[.string (bt x.key), .string (bt x.field), .int .i64 x.kind, .string (bt x.elem), .int .i64 x.n, .int .i64 x.dot.node, .int .i64 x.dot.seq, .int .i64 x.dot.pos] 26))
  clear s0 s2 s3 hx w4
  obtain ⟨aD, cD, hvD, -, -, -, hD⟩ := Sd.out.parts
  subst hvD
  obtain ⟨D, eD⟩ : ∃ n, ds.length = n := ⟨_, rfl⟩
  replace Sd := Lib.hid hD
  rw [eD] at Sd ⊢
  have ND := Lib.hid eD
  clear hD eD
  rw [itv_eq2]
  go_enter Try.func3, Try.ntmps3
  go_upto_region 1 with fail
  generalize (w.alloc (.cells #[.string (bt x.key), .string (bt x.field), .int .i64 x.kind, .string (bt x.elem), .int .i64 x.n, .int .i64 x.dot.node, .int .i64 x.dot.seq, .int .i64 x.dot.pos] 26)) = wb at *
  go_wp2_with fail
  refine (awake_any _).mono ?_
  rintro e u2 ⟨rfl, hb⟩
  replace Sx := Lib.hid (Sx.out.below hb)
  replace Sd := Lib.hid (Sd.out.below hb)
  replace Sz := Lib.hid (Sz.out.below hb)
  replace IB := Lib.hid (IB.out.below hb IB.out.lt)
  replace G := Lib.hid (G.out.trans (hb.mono G.out.size))
  clear hb
  cases hA : shortI xs with
  | false =>
    go_wp2_with fail
    refine (rshortR Sx.out hA).mono ?_
    rintro e u3 ⟨rfl, hb⟩
    replace Sx := Lib.hid (Sx.out.below hb)
    replace Sd := Lib.hid (Sd.out.below hb)
    replace Sz := Lib.hid (Sz.out.below hb)
    replace IB := Lib.hid (IB.out.below hb IB.out.lt)
    replace G := Lib.hid (G.out.trans (hb.mono G.out.size))
    clear hb
    go_wp2_with fail
    go_ret
    exact ⟨rfl, G.out⟩
  | true =>
    go_wp2_with fail
    refine (rshortR Sx.out hA).mono ?_
    rintro e u4 ⟨rfl, hb⟩
    replace Sx := Lib.hid (Sx.out.below hb)
    replace Sd := Lib.hid (Sd.out.below hb)
    replace Sz := Lib.hid (Sz.out.below hb)
    replace IB := Lib.hid (IB.out.below hb IB.out.lt)
    replace G := Lib.hid (G.out.trans (hb.mono G.out.size))
    clear hb
    have Mx := Lib.hid (smallI_of hA Q0.out)
    clear hA
    cases hB : shortB zs with
    | false =>
      go_wp2_with fail
      refine (rshortTR Sz.out hB).mono ?_
      rintro e u5 ⟨rfl, hb⟩
      replace Sx := Lib.hid (Sx.out.below hb)
      replace Sd := Lib.hid (Sd.out.below hb)
      replace Sz := Lib.hid (Sz.out.below hb)
      replace IB := Lib.hid (IB.out.below hb IB.out.lt)
      replace G := Lib.hid (G.out.trans (hb.mono G.out.size))
      clear hb
      go_wp2_with fail
      go_ret
      exact ⟨rfl, G.out⟩
    | true =>
      go_wp2_with fail
      refine (rshortTR Sz.out hB).mono ?_
      rintro e u6 ⟨rfl, hb⟩
      replace Sx := Lib.hid (Sx.out.below hb)
      replace Sd := Lib.hid (Sd.out.below hb)
      replace Sz := Lib.hid (Sz.out.below hb)
      replace IB := Lib.hid (IB.out.below hb IB.out.lt)
      replace G := Lib.hid (G.out.trans (hb.mono G.out.size))
      clear hb
      have Mz := Lib.hid (smallT_of hB)
      clear hB
      by_cases hD : D ≤ 60
      rotate_left
      · have hD1 : (60 : Int) < (D : Int) := by omega
        clear hD
        go_wp2_with fail
        go_ret
        exact ⟨rfl, G.out⟩
      have MD := Lib.hid (show ds.length ≤ 60 by rw [ND.out]; exact hD)
      have hD1 : ¬ (60 : Int) < (D : Int) := by omega
      clear hD
      obtain ⟨ax, cx, hvx, x1, x2, -, hxs⟩ := Sx.out.parts
      subst hvx
      obtain ⟨n, eN⟩ : ∃ n, xs.length = n := ⟨_, rfl⟩
      replace Sx := Lib.hid hxs
      rw [eN] at Sx x1 ⊢
      have NN := Lib.hid eN
      have hn200 := Mx.out.1
      rw [eN] at hn200
      clear hxs eN
      go_wp2_with fail
      refine (rcopyS Sx.out Mx.out).mono ?_
      rintro e u7 ⟨v7, rfl, hs, hb⟩
      replace Sx := Lib.hid (Sx.out.below hb)
      replace Sd := Lib.hid (Sd.out.below hb)
      replace Sz := Lib.hid (Sz.out.below hb)
      replace IB := Lib.hid (IB.out.below hb IB.out.lt)
      replace G := Lib.hid (G.out.trans (hb.mono G.out.size))
      have Sm := Lib.hid hs
      clear hs hb
      have MN := Lib.hid (smallI_norm Mx.out)
      rename World => wk
      obtain ⟨rf, hrf⟩ : ∃ r, formedB x = r := ⟨_, rfl⟩
      have HRF := Lib.hid hrf
      have bf : (rf != rf) = false := by simp
      clear hrf
      have KE : Hid (∀ u, Below wk.heap.size wk u → Below wk.heap.size wk u ∧ (u.cell? ⟨w.heap.size, 0, none⟩ = some (.string (bt x.key)) ∧ u.cell? ⟨w.heap.size, 1, none⟩ = some (.string (bt x.field)) ∧ u.cell? ⟨w.heap.size, 2, none⟩ = some (.int .i64 x.kind) ∧ u.cell? ⟨w.heap.size, 3, none⟩ = some (.string (bt x.elem)) ∧ u.cell? ⟨w.heap.size, 4, none⟩ = some (.int .i64 x.n) ∧ u.cell? ⟨w.heap.size, 5, none⟩ = some (.int .i64 x.dot.node) ∧ u.cell? ⟨w.heap.size, 6, none⟩ = some (.int .i64 x.dot.seq) ∧ u.cell? ⟨w.heap.size, 7, none⟩ = some (.int .i64 x.dot.pos))) := Lib.hid (fun u hu => ⟨hu, by
        obtain ⟨c0, c1, c2, c3, c4, c5, c6, c7⟩ := IB.out.below hu IB.out.lt
        simp only [Nat.zero_add] at c1 c2 c3 c4 c5 c6 c7
        exact ⟨c0, c1, c2, c3, c4, c5, c6, c7⟩⟩)
      have KF1 : Hid (∀ u, Calls _ _ _ u _) := Lib.hid (fun u => iformedR (w := u) HX.out HRF.out)
      have KF2 : Hid (∀ u, Calls _ _ _ u _) := Lib.hid (fun u => rformedR (w := u) HX.out HRF.out)
      have KN1 : Hid (∀ u, Below wk.heap.size wk u → Calls _ _ _ u _) := Lib.hid (fun u h => inormS (Sm.out.below h) Mx.out)
      have KN2 : Hid (∀ u, Below wk.heap.size wk u → Calls _ _ _ u _) := Lib.hid (fun u h => rnormS (Sx.out.below h) Mx.out)
      have KW1 : Hid (∀ u, Below wk.heap.size wk u → Calls _ _ _ u _) := Lib.hid (fun u h => iwithoutS (Sm.out.below h) (Sd.out.below h) Mx.out MD.out QD.out)
      have KW2 : Hid (∀ u, Below wk.heap.size wk u → Calls _ _ _ u _) := Lib.hid (fun u h => rwithoutS (Sx.out.below h) (Sd.out.below h) Mx.out MD.out)
      rw [itv_eq2] at KF1 KF2
      go_wp2_with fail
      go_region_held3 (fun u => Below wk.heap.size wk u ∧ (u.cell? ⟨w.heap.size, 0, none⟩ = some (.string (bt x.key)) ∧ u.cell? ⟨w.heap.size, 1, none⟩ = some (.string (bt x.field)) ∧ u.cell? ⟨w.heap.size, 2, none⟩ = some (.int .i64 x.kind) ∧ u.cell? ⟨w.heap.size, 3, none⟩ = some (.string (bt x.elem)) ∧ u.cell? ⟨w.heap.size, 4, none⟩ = some (.int .i64 x.n) ∧ u.cell? ⟨w.heap.size, 5, none⟩ = some (.int .i64 x.dot.node) ∧ u.cell? ⟨w.heap.size, 6, none⟩ = some (.int .i64 x.dot.seq) ∧ u.cell? ⟨w.heap.size, 7, none⟩ = some (.int .i64 x.dot.pos)))
        (first | (exact KE.out _ (Below.refl _ _).drew) | (exact KE.out _ (holdC (by assumption) hb)))
        (first
          | (go_at_call 11; (with_reducible refine (KF1.out _).mono ?_); rintro e s1 ⟨rfl, hb⟩)
          | (go_at_call 12; (with_reducible refine (KF2.out _).mono ?_); rintro e s2 ⟨rfl, hb⟩)
          | (go_at_call 14; (with_reducible refine (KN1.out _ (by assumption : _ ∧ _).1).mono ?_); rintro e s3 ⟨y3, rfl, hA, hb⟩)
          | (go_at_call 15; (with_reducible refine (KN2.out _ (by assumption : _ ∧ _).1).mono ?_); rintro e s4 ⟨y4, rfl, hB, hb⟩; have hA2 := hA.below hb)
          | (go_at_call 13; (with_reducible refine (rsame_eq hA2 hB rfl).mono ?_); rintro e s5 ⟨rfl, hb⟩; clear hA2)
          | (go_at_call 16; (with_reducible refine (KW1.out _ (by assumption : _ ∧ _).1).mono ?_); rintro e s6 ⟨y6, rfl, hC, hb⟩)
          | (go_at_call 17; (with_reducible refine (KW2.out _ (by assumption : _ ∧ _).1).mono ?_); rintro e s7 ⟨y7, rfl, hE, hb⟩; have hC2 := hC.below hb)
          | (go_at_call 13; (with_reducible refine (rsame_eq hC2 hE rfl).mono ?_); rintro e s8 ⟨rfl, hb⟩; have hbu := holdC (by assumption) hb))
      replace Sx := Lib.hid (Sx.out.below hbu)
      replace Sd := Lib.hid (Sd.out.below hbu)
      replace Sz := Lib.hid (Sz.out.below hbu)
      replace IB := Lib.hid (IB.out.below hbu IB.out.lt)
      replace Sm := Lib.hid (Sm.out.below hbu)
      replace G := Lib.hid (G.out.trans (hbu.mono G.out.size))
      clear KE KF1 KF2 KN1 KN2 KW1 KW2 hbu hb
      go_wp2_with fail
      refine (iunderS Sm.out Sz.out Mx.out Mz.out).mono ?_
      rintro e u8 ⟨v8, rfl, hs, hb⟩
      replace Sx := Lib.hid (Sx.out.below hb)
      replace Sd := Lib.hid (Sd.out.below hb)
      replace Sz := Lib.hid (Sz.out.below hb)
      replace IB := Lib.hid (IB.out.below hb IB.out.lt)
      replace Sm := Lib.hid (Sm.out.below hb)
      replace G := Lib.hid (G.out.trans (hb.mono G.out.size))
      have Si := Lib.hid hs
      clear hs hb
      go_wp2_with fail
      refine (runderS Sx.out Sz.out Mx.out Mz.out).mono ?_
      rintro e u9 ⟨v9, rfl, hs, hb⟩
      replace Sx := Lib.hid (Sx.out.below hb)
      replace Sd := Lib.hid (Sd.out.below hb)
      replace Sz := Lib.hid (Sz.out.below hb)
      replace IB := Lib.hid (IB.out.below hb IB.out.lt)
      replace Sm := Lib.hid (Sm.out.below hb)
      replace Si := Lib.hid (Si.out.below hb)
      replace G := Lib.hid (G.out.trans (hb.mono G.out.size))
      have Sj := Lib.hid hs
      clear hs hb
      go_wp2_with fail
      refine (rsame_eq Si.out Sj.out rfl).mono ?_
      rintro e u10 ⟨rfl, hb⟩
      replace Sx := Lib.hid (Sx.out.below hb)
      replace Sd := Lib.hid (Sd.out.below hb)
      replace Sz := Lib.hid (Sz.out.below hb)
      replace IB := Lib.hid (IB.out.below hb IB.out.lt)
      replace Sm := Lib.hid (Sm.out.below hb)
      replace Si := Lib.hid (Si.out.below hb)
      replace Sj := Lib.hid (Sj.out.below hb)
      replace G := Lib.hid (G.out.trans (hb.mono G.out.size))
      clear hb
      clear Si
      clear Sj
      have KO1 := Lib.hid (iofS (s := s) Sm.out Mx.out)
      go_wp2_with fail
      refine KO1.out.mono ?_
      rintro e u11 ⟨v11, rfl, hs, hb⟩
      replace Sx := Lib.hid (Sx.out.below hb)
      replace Sd := Lib.hid (Sd.out.below hb)
      replace Sz := Lib.hid (Sz.out.below hb)
      replace IB := Lib.hid (IB.out.below hb IB.out.lt)
      replace Sm := Lib.hid (Sm.out.below hb)
      replace G := Lib.hid (G.out.trans (hb.mono G.out.size))
      have Si := Lib.hid hs.seq
      clear hs hb KO1
      go_wp2_with fail
      refine (rofS Sx.out Mx.out).mono ?_
      rintro e u12 ⟨v12, rfl, hs, hb⟩
      replace Sx := Lib.hid (Sx.out.below hb)
      replace Sd := Lib.hid (Sd.out.below hb)
      replace Sz := Lib.hid (Sz.out.below hb)
      replace IB := Lib.hid (IB.out.below hb IB.out.lt)
      replace Sm := Lib.hid (Sm.out.below hb)
      replace Si := Lib.hid (Si.out.below hb)
      replace G := Lib.hid (G.out.trans (hb.mono G.out.size))
      have Sj := Lib.hid hs
      clear hs hb
      go_wp2_with fail
      refine (rsame_eq Si.out Sj.out rfl).mono ?_
      rintro e u13 ⟨rfl, hb⟩
      replace Sx := Lib.hid (Sx.out.below hb)
      replace Sd := Lib.hid (Sd.out.below hb)
      replace Sz := Lib.hid (Sz.out.below hb)
      replace IB := Lib.hid (IB.out.below hb IB.out.lt)
      replace Sm := Lib.hid (Sm.out.below hb)
      replace Si := Lib.hid (Si.out.below hb)
      replace Sj := Lib.hid (Sj.out.below hb)
      replace G := Lib.hid (G.out.trans (hb.mono G.out.size))
      clear hb
      clear Si
      clear Sj
      go_wp2_with fail
      refine (ikeysS Sm.out Mx.out).mono ?_
      rintro e u14 ⟨v14, rfl, hs, hb⟩
      replace Sx := Lib.hid (Sx.out.below hb)
      replace Sd := Lib.hid (Sd.out.below hb)
      replace Sz := Lib.hid (Sz.out.below hb)
      replace IB := Lib.hid (IB.out.below hb IB.out.lt)
      replace Sm := Lib.hid (Sm.out.below hb)
      replace G := Lib.hid (G.out.trans (hb.mono G.out.size))
      have Si := Lib.hid hs
      clear hs hb
      go_wp2_with fail
      refine (rkeysS Sx.out Mx.out).mono ?_
      rintro e u15 ⟨v15, rfl, hs, hb⟩
      replace Sx := Lib.hid (Sx.out.below hb)
      replace Sd := Lib.hid (Sd.out.below hb)
      replace Sz := Lib.hid (Sz.out.below hb)
      replace IB := Lib.hid (IB.out.below hb IB.out.lt)
      replace Sm := Lib.hid (Sm.out.below hb)
      replace Si := Lib.hid (Si.out.below hb)
      replace G := Lib.hid (G.out.trans (hb.mono G.out.size))
      have Sj := Lib.hid hs
      clear hs hb
      go_wp2_with fail
      refine (rsameT_eq Si.out Sj.out rfl).mono ?_
      rintro e u16 ⟨rfl, hb⟩
      replace Sx := Lib.hid (Sx.out.below hb)
      replace Sd := Lib.hid (Sd.out.below hb)
      replace Sz := Lib.hid (Sz.out.below hb)
      replace IB := Lib.hid (IB.out.below hb IB.out.lt)
      replace Sm := Lib.hid (Sm.out.below hb)
      replace Si := Lib.hid (Si.out.below hb)
      replace Sj := Lib.hid (Sj.out.below hb)
      replace G := Lib.hid (G.out.trans (hb.mono G.out.size))
      clear hb
      clear Si
      clear Sj
      go_wp2_with fail
      refine (isizeS Sm.out Mx.out).mono ?_
      rintro e u17 ⟨rfl, hb⟩
      replace Sx := Lib.hid (Sx.out.below hb)
      replace Sd := Lib.hid (Sd.out.below hb)
      replace Sz := Lib.hid (Sz.out.below hb)
      replace IB := Lib.hid (IB.out.below hb IB.out.lt)
      replace Sm := Lib.hid (Sm.out.below hb)
      replace G := Lib.hid (G.out.trans (hb.mono G.out.size))
      clear hb
      have bz : ((isize xs : Int) != (isize xs : Int)) = false := by simp
      go_wp2_with fail
      refine (rsizeS Sx.out Mx.out).mono ?_
      rintro e u18 ⟨rfl, hb⟩
      replace Sx := Lib.hid (Sx.out.below hb)
      replace Sd := Lib.hid (Sd.out.below hb)
      replace Sz := Lib.hid (Sz.out.below hb)
      replace IB := Lib.hid (IB.out.below hb IB.out.lt)
      replace Sm := Lib.hid (Sm.out.below hb)
      replace G := Lib.hid (G.out.trans (hb.mono G.out.size))
      clear hb
      rename World => wl
      go_wp2_with fail
      go_loopw [12] (fun i wr => ∃ k : Nat, k ≤ n ∧ i = .int .i64 k ∧ Below wl.heap.size wl wr) (fun i _ => n - (intOf i).toNat)
      case atStart => exact ⟨0, Nat.zero_le _, rfl, Below.refl _ _⟩
      case round =>
        obtain ⟨k, hk, rfl, hb⟩ := hrel
        have HB := Lib.hid hb
        clear hb
        by_cases hlt : k < n
        · obtain ⟨b, o, c, hv, -, -, -, hc⟩ := items_spot (Sx.out.below HB.out) (by rw [NN.out]; omega)
          rw [NN.out] at hv
          simp only [Value.slice.injEq] at hv
          obtain ⟨rfl, -, rfl⟩ := hv
          have IY := Lib.hid (hc k (by rw [NN.out]; exact hlt))
          have IX := Lib.hid (IB.out.below HB.out IB.out.lt)
          clear hc
          generalize xs.getD k default = y at *
          have KE : Hid (∀ u, Below wr.heap.size wr u → Below wr.heap.size wr u ∧ (u.cell? ⟨b, o + k * 8, none⟩ = some (.string (bt y.key)) ∧ u.cell? ⟨b, o + k * 8 + 1, none⟩ = some (.string (bt y.field)) ∧ u.cell? ⟨b, o + k * 8 + 2, none⟩ = some (.int .i64 y.kind) ∧ u.cell? ⟨b, o + k * 8 + 3, none⟩ = some (.string (bt y.elem)) ∧ u.cell? ⟨b, o + k * 8 + 4, none⟩ = some (.int .i64 y.n) ∧ u.cell? ⟨b, o + k * 8 + 5, none⟩ = some (.int .i64 y.dot.node) ∧ u.cell? ⟨b, o + k * 8 + 6, none⟩ = some (.int .i64 y.dot.seq) ∧ u.cell? ⟨b, o + k * 8 + 7, none⟩ = some (.int .i64 y.dot.pos)) ∧ (u.cell? ⟨w.heap.size, 0, none⟩ = some (.string (bt x.key)) ∧ u.cell? ⟨w.heap.size, 1, none⟩ = some (.string (bt x.field)) ∧ u.cell? ⟨w.heap.size, 2, none⟩ = some (.int .i64 x.kind) ∧ u.cell? ⟨w.heap.size, 3, none⟩ = some (.string (bt x.elem)) ∧ u.cell? ⟨w.heap.size, 4, none⟩ = some (.int .i64 x.n) ∧ u.cell? ⟨w.heap.size, 5, none⟩ = some (.int .i64 x.dot.node) ∧ u.cell? ⟨w.heap.size, 6, none⟩ = some (.int .i64 x.dot.seq) ∧ u.cell? ⟨w.heap.size, 7, none⟩ = some (.int .i64 x.dot.pos))) := Lib.hid (fun u hu => ⟨hu, by
            obtain ⟨c0, c1, c2, c3, c4, c5, c6, c7⟩ := IY.out.below hu IY.out.lt
            obtain ⟨d0, d1, d2, d3, d4, d5, d6, d7⟩ := IX.out.below hu IX.out.lt
            simp only [Nat.zero_add] at d1 d2 d3 d4 d5 d6 d7
            exact ⟨⟨c0, c1, c2, c3, c4, c5, c6, c7⟩, ⟨d0, d1, d2, d3, d4, d5, d6, d7⟩⟩⟩)
          obtain ⟨r1, h1⟩ : ∃ r, lessB y x = r := ⟨_, rfl⟩
          obtain ⟨r2, h2⟩ : ∃ r, lessB x y = r := ⟨_, rfl⟩
          have K1 : Hid (∀ u, Calls _ _ _ u _) := Lib.hid (fun u => ilessR (w := u) h1)
          have K2 : Hid (∀ u, Calls _ _ _ u _) := Lib.hid (fun u => rlessR (w := u) h1)
          have K3 : Hid (∀ u, Calls _ _ _ u _) := Lib.hid (fun u => ilessR (w := u) h2)
          have K4 : Hid (∀ u, Calls _ _ _ u _) := Lib.hid (fun u => rlessR (w := u) h2)
          rw [itv_eq2, itv_eq2] at K1 K2 K3 K4
          have b1 : (r1 != r1) = false := by simp
          have b2 : (r2 != r2) = false := by simp
          have tok : Hid True := Lib.hid trivial
          clear h1 h2
          go_wp2_with fail
          go_region_held3 (fun u => Below wr.heap.size wr u ∧ (u.cell? ⟨b, o + k * 8, none⟩ = some (.string (bt y.key)) ∧ u.cell? ⟨b, o + k * 8 + 1, none⟩ = some (.string (bt y.field)) ∧ u.cell? ⟨b, o + k * 8 + 2, none⟩ = some (.int .i64 y.kind) ∧ u.cell? ⟨b, o + k * 8 + 3, none⟩ = some (.string (bt y.elem)) ∧ u.cell? ⟨b, o + k * 8 + 4, none⟩ = some (.int .i64 y.n) ∧ u.cell? ⟨b, o + k * 8 + 5, none⟩ = some (.int .i64 y.dot.node) ∧ u.cell? ⟨b, o + k * 8 + 6, none⟩ = some (.int .i64 y.dot.seq) ∧ u.cell? ⟨b, o + k * 8 + 7, none⟩ = some (.int .i64 y.dot.pos)) ∧ (u.cell? ⟨w.heap.size, 0, none⟩ = some (.string (bt x.key)) ∧ u.cell? ⟨w.heap.size, 1, none⟩ = some (.string (bt x.field)) ∧ u.cell? ⟨w.heap.size, 2, none⟩ = some (.int .i64 x.kind) ∧ u.cell? ⟨w.heap.size, 3, none⟩ = some (.string (bt x.elem)) ∧ u.cell? ⟨w.heap.size, 4, none⟩ = some (.int .i64 x.n) ∧ u.cell? ⟨w.heap.size, 5, none⟩ = some (.int .i64 x.dot.node) ∧ u.cell? ⟨w.heap.size, 6, none⟩ = some (.int .i64 x.dot.seq) ∧ u.cell? ⟨w.heap.size, 7, none⟩ = some (.int .i64 x.dot.pos)))
            (first | (exact KE.out _ (Below.refl _ _).drew) | (exact KE.out _ (holdC (by assumption) hb)))
            (first
              | (go_at_call 27; (with_reducible refine (K1.out _).mono ?_); rintro e s1 ⟨rfl, hb⟩; clear K1)
              | (go_at_call 28; (with_reducible refine (K2.out _).mono ?_); rintro e s2 ⟨rfl, hb⟩; clear K2)
              | (go_at_call 27; (with_reducible refine (K3.out _).mono ?_); rintro e s3 ⟨rfl, hb⟩)
              | (go_at_call 28; (with_reducible refine (K4.out _).mono ?_); rintro e s4 ⟨rfl, hb⟩; have hbu := holdC (by assumption) hb))
          have HB2 := Lib.hid (HB.out.trans (hbu.mono HB.out.size))
          clear hbu hb
          go_wp2_with fail
          go_roundw
          case rel => exact ⟨k + 1, by omega, by go_num, HB2.out⟩
          case measure => simp [intOf]; omega
        · obtain rfl : k = n := by omega
          replace G := Lib.hid (G.out.trans (HB.out.mono G.out.size))
          have Sm2 := Lib.hid (Sm.out.below HB.out)
          have Sx2 := Lib.hid (Sx.out.below HB.out)
          clear HB IB Sm Sx Sd Sz
          go_wp2_with fail
          refine (rsame_eq Sm2.out Sx2.out rfl).mono ?_
          rintro e u19 ⟨rfl, hb⟩
          replace G := Lib.hid (G.out.trans (hb.mono G.out.size))
          clear hb
          go_wp2_with fail
          go_ret
          exact ⟨rfl, G.out⟩

set_option maxRecDepth 100000 in
theorem lifted (os : Os) (started : os.Started) (H : Type) (enc : TypeId × Value → H) :
    ReturnsInHanded {} Try.checked os 3 .any (Rows.itemAllSpec.pre6 enc Try.prog Try.f3 Rows.itemAllRow.domain false) (Rows.itemAllSpec.post enc Try.prog Try.f3 false true false false) := by
  refine returnsInHanded_of_change (C := Try.checked) own started (by kernel_rfl) Try.func3
    (ChangeSpec.witness6 (enc := enc) (C := Try.checked) false ⟨#[], #[.slice none 0 0, .agg #[.string ByteArray.empty, .string ByteArray.empty, .int .i64 0, .string ByteArray.empty, .int .i64 0, .int .i64 0, .int .i64 0, .int .i64 0], .slice none 0 0, .slice none 0 0, .string ByteArray.empty], []⟩ 8 (by kernel_rfl) (by kernel_rfl) (by kernel_rfl) (by kernel_rfl)) ?_
  intro W base args ds gs before hval0 hW hcnd _
  have hval : ∀ (j : Nat) t v, Try.f3.params[j]? = some t → args[j]? = some v → Value.okWide Try.prog W .any base t v := hval0
  have hW' := hW
  obtain ⟨p, q, hA0, hV, rfl, hfz, hnd⟩ := hW
  have hA : DataW.TrodAll enc Try.prog W 0 (fun _ => true) true Try.f3.params.toList args.toList ds p := hA0
  rw [Try.params3] at hA hval
  obtain ⟨v0, vs0, d0, ds0, p0, q0, hargs, rfl, rfl, h0, r0⟩ := trodAll_cons hA
  obtain ⟨v1, vs1, d1, ds1, p1, q1, rfl, rfl, rfl, h1, r1⟩ := trodAll_cons r0
  obtain ⟨v2, vs2, d2, ds2, p2, q2, rfl, rfl, rfl, h2, r2⟩ := trodAll_cons r1
  obtain ⟨v3, vs3, d3, ds3, p3, q3, rfl, rfl, rfl, h3, r3⟩ := trodAll_cons r2
  obtain ⟨v4, vs4, d4, ds4, p4, q4, rfl, rfl, rfl, h4, r4⟩ := trodAll_cons r3
  obtain ⟨rfl, rfl, rfl⟩ := trodAll_nil r4
  obtain rfl : args = #[v0, v1, v2, v3, v4] := by cases args; simp_all
  obtain ⟨rfl, rfl⟩ := trodVars_none hV
  have k0 := h0
  have lt0 : ∀ x ∈ p0, x.block < W.heap.size := by obtain ⟨m, hm⟩ := k0; exact DataW.trod_lt m _ _ _ hm
  have w0 := open0 (hval 0 22 v0 rfl rfl) h0
  have k1 := h1
  have lt1 : ∀ x ∈ p1, x.block < W.heap.size := by obtain ⟨m, hm⟩ := k1; exact DataW.trod_lt m _ _ _ hm
  have w1 := open1 (hval 1 26 v1 rfl rfl) h1
  have k2 := h2
  have lt2 : ∀ x ∈ p2, x.block < W.heap.size := by obtain ⟨m, hm⟩ := k2; exact DataW.trod_lt m _ _ _ hm
  have w2 := open2 (hval 2 27 v2 rfl rfl) h2
  have k3 := h3
  have lt3 : ∀ x ∈ p3, x.block < W.heap.size := by obtain ⟨m, hm⟩ := k3; exact DataW.trod_lt m _ _ _ hm
  have w3 := open3 (hval 3 28 v3 rfl rfl) h3
  obtain ⟨a4, rfl, rfl, rfl, w4⟩ := open_string Try.underlying9 (hval 4 9 v4 rfl rfl) h4
  clear hA0 hval0
  refine (walk v0 v1 v2 v3 a4 W w0 w1 w2 w3 w4).mono fun e W' ⟨he, bel⟩ => ?_
  subst he
  exact ⟨_, rfl, _, _, _, [], _, [], hW', trodAll_mk1 (shut_bool Try.underlying4 _), (trodAll_cons_mk (Below.trod laidOut (by kernel_rfl) (of_decide_eq_true (by kernel_rfl)) k0 bel lt0) (trodAll_cons_mk (Below.trod laidOut (by kernel_rfl) (of_decide_eq_true (by kernel_rfl)) k1 bel lt1) (trodAll_cons_mk (Below.trod laidOut (by kernel_rfl) (of_decide_eq_true (by kernel_rfl)) k2 bel lt2) (trodAll_cons_mk (Below.trod laidOut (by kernel_rfl) (of_decide_eq_true (by kernel_rfl)) k3 bel lt3) (trodAll_cons_mk (shut_string Try.underlying9 w4) trodAll_mk0))))), rfl, bel.frame _, fun h => by cases h⟩

theorem over : Rows.itemAllRow.holds Try.pinned (OpenSpec.ofChange Rows.itemAllSpec) :=
  OpenClaim.holds_of_wide 3 Try.f3 rfl rfl rfl rfl rfl rfl rfl ⟨rfl, rfl, rfl, rfl, rfl⟩ rfl rfl rfl rfl rfl (by kernel_rfl) Try.func3 (by kernel_rfl)
    (of_decide_eq_true (by kernel_rfl)) (by unfold Func.isWrapper; first | (rw [if_pos (by decide +kernel)]; kernel_rfl) | (rw [if_neg (by decide +kernel)]; exact ⟨rfl, rfl⟩))
    (fun os started H enc _ => lifted os started H enc)

/-- the given statement -/
theorem proved : Rows.ItemAllSaid := over
#print axioms proved
end Go.Proofs.Ytnjkkhfaggkgjaa.itemAll
