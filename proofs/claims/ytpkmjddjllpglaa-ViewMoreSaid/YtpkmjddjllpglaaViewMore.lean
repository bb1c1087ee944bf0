/-
  For any items, any item and any two texts the law ViewMore answers true: an item more shows in its own field alone. No condition.
  (The frame was written by the guide's proof-skeleton.mjs, turned for slices of items and for fields; the walk is ours.)
-/
import Derived.Test.YtpkmjddjllpglaaRows
import Derived.WalkKit
import Derived.ProofKit
import Derived.OpenShut
import Derived.ShutString
import Derived.ChangeOld
import Derived.Below
import Derived.Test.YtpkmjddjllpglaaVwMact
import Derived.Deep.DeepCutAuto
namespace Go.Proofs.Ytpkmjddjllpglaa.viewMore
open Go.ChangeShapes Go.WideShapes Go.ChangeAt Go.RowKit
open Go.ChangeMaps (open_string shut_string)
set_option linter.unusedVariables false

theorem own : ownKnob Try.prog.godebug = none := by kernel_rfl
theorem laidOut : laidOutB Try.prog = true := by kernel_rfl

open Plain

set_option maxRecDepth 100000 in
theorem open0 {H : Type} {enc : TypeId × Value → H} {W : World} {r : Reach} {b : Nat} {v : Value} {d : DataW H} {p : List MemPlace} (hv : Value.okWide Try.prog W r b 22 v) (h : DataW.Trod enc Try.prog W 0 (fun _ => true) true 22 v d p) : IsItems W v := items_of_trod hv h
set_option maxRecDepth 100000 in
theorem open1 {H : Type} {enc : TypeId × Value → H} {W : World} {r : Reach} {b : Nat} {v : Value} {d : DataW H} {p : List MemPlace} (hv : Value.okWide Try.prog W r b 40 v) (h : DataW.Trod enc Try.prog W 0 (fun _ => true) true 40 v d p) : IsItem v := item_of_trod hv h

set_option maxRecDepth 100000 in
set_option maxHeartbeats 16000000 in
theorem walk (v0 : Value) (v1 : Value) (t2 : ByteArray) (t3 : ByteArray) (w : World) (w0 : IsItems w v0) (w1 : IsItem v1) (w2 : t2.size ≤ maxLen) (w3 : t3.size ≤ maxLen) :
    Calls Try.prog 5 #[v0, v1, .string t2, .string t3] w fun e w' => e = .returned (.bool true) ∧ Below w.heap.size w w' := by
  obtain ⟨l, s0, q0⟩ := w0
  have Q0 := Lib.hid q0
  have Sl := Lib.hid s0
  clear s0 q0
  obtain ⟨key, hx2⟩ : ∃ k, t2 = bt k := ⟨tx t2, rfl⟩
  subst hx2
  clear w2
  obtain ⟨field, hx3⟩ : ∃ k, t3 = bt k := ⟨tx t3, rfl⟩
  subst hx3
  clear w3
  obtain ⟨x, hx1, qx⟩ := w1
  subst hx1
  have QX := Lib.hid qx
  clear qx
  have G0 := Lib.hid (Below.refl w.heap.size w)
  obtain ⟨an, cn, hvn, gn1, gn2, -, hn⟩ := Sl.out.parts
  subst hvn
  obtain ⟨n, en⟩ : ∃ n, l.length = n := ⟨_, rfl⟩
  replace Sl := Lib.hid hn
  rw [en] at Sl gn1 ⊢
  have Nn := Lib.hid en
  clear hn en
  have G : Hid (Below w.heap.size w (w.alloc (.cells #[.string (bt x.key), .string (bt x.field), .int .i64 x.kind, .string (bt x.elem), .int .i64 x.n, .int .i64 x.dot.node, .int .i64 x.dot.seq, .int .i64 x.dot.pos] 40))) := Lib.hid ((Below.refl _ _).alloc (Nat.le_refl _) _)
  have IB : Hid (ItemAt (w.alloc (.cells #[.string (bt x.key), .string (bt x.field), .int .i64 x.kind, .string (bt x.elem), .int .i64 x.n, .int .i64 x.dot.node, .int .i64 x.dot.seq, .int .i64 x.dot.pos] 40)) w.heap.size 0 x) := Lib.hid ⟨by simp, by simp, by simp, by simp, by simp, by simp, by simp, by simp⟩
  replace Sl := Lib.hid (Sl.out.below G.out)
  clear G0
  show Calls Try.prog 5 #[_, .agg #[.string (bt x.key), .string (bt x.field), .int .i64 x.kind, .string (bt x.elem), .int .i64 x.n, .int .i64 x.dot.node, .int .i64 x.dot.seq, .int .i64 x.dot.pos], _, _] w _
  go_enter Try.func5, Try.ntmps5
  go_upto_region 1 with fail
  generalize (w.alloc (.cells #[.string (bt x.key), .string (bt x.field), .int .i64 x.kind, .string (bt x.elem), .int .i64 x.n, .int .i64 x.dot.node, .int .i64 x.dot.seq, .int .i64 x.dot.pos] 40)) = wB at *
  have IB0 := Lib.hid (item_box IB.out)
  go_wp2_with fail
  refine (awake_any _).mono ?_
  rintro e u2 ⟨rfl, hb⟩
  replace Sl := Lib.hid (Sl.out.below hb)
  replace IB0 := Lib.hid (IB0.out.below hb)
  replace G := Lib.hid (G.out.trans (hb.mono G.out.size))
  clear hb
  cases hA : shortI l with
  | false =>
    obtain ⟨x0, x1, x2, x3, x4, x5, x6, x7⟩ := IB0.out.c
    go_wp2_with fail
    refine (rshortIB Sl.out hA).mono ?_
    rintro e u3 ⟨rfl, hb⟩
    replace Sl := Lib.hid (Sl.out.below hb)
    replace IB0 := Lib.hid (IB0.out.below hb)
    replace G := Lib.hid (G.out.trans (hb.mono G.out.size))
    clear hb
    clear x0 x1 x2 x3 x4 x5 x6 x7
    go_wp2_with fail
    go_ret
    exact ⟨rfl, G.out⟩
  | true =>
    obtain ⟨x0, x1, x2, x3, x4, x5, x6, x7⟩ := IB0.out.c
    have zx := bt_size x.elem
    go_wp2_with fail
    refine (rshortIB Sl.out hA).mono ?_
    rintro e u3 ⟨rfl, hb⟩
    replace Sl := Lib.hid (Sl.out.below hb)
    replace IB0 := Lib.hid (IB0.out.below hb)
    replace G := Lib.hid (G.out.trans (hb.mono G.out.size))
    clear hb
    clear x0 x1 x2 x3 x4 x5 x6 x7
    have MX := Lib.hid (fitV_of hA Q0.out)
    clear hA
    by_cases he : x.elem.length ≤ 300
    rotate_left
    · have he1 : (300 : Int) < (x.elem.length : Int) := by omega
      clear he
      obtain ⟨x0, x1, x2, x3, x4, x5, x6, x7⟩ := IB0.out.c
      go_wp2_with fail
      go_ret
      exact ⟨rfl, G.out⟩
    have he1 : ¬ (300 : Int) < (x.elem.length : Int) := by omega
    obtain ⟨x0, x1, x2, x3, x4, x5, x6, x7⟩ := IB0.out.c
    have KE : Hid (∀ U, Below u3.heap.size u3 U → Below u3.heap.size u3 U ∧ (U.cell? ⟨w.heap.size, 0, none⟩ = some (.string (bt x.key)) ∧ U.cell? ⟨w.heap.size, 1, none⟩ = some (.string (bt x.field)) ∧ U.cell? ⟨w.heap.size, 2, none⟩ = some (.int .i64 x.kind) ∧ U.cell? ⟨w.heap.size, 3, none⟩ = some (.string (bt x.elem)) ∧ U.cell? ⟨w.heap.size, 4, none⟩ = some (.int .i64 x.n) ∧ U.cell? ⟨w.heap.size, 5, none⟩ = some (.int .i64 x.dot.node) ∧ U.cell? ⟨w.heap.size, 6, none⟩ = some (.int .i64 x.dot.seq) ∧ U.cell? ⟨w.heap.size, 7, none⟩ = some (.int .i64 x.dot.pos))) := Lib.hid (fun U hU => ⟨hU, (IB0.out.below hU).c⟩)
    have K3 := Lib.hid (fun (W : World) (h : Below u3.heap.size u3 W) => vfieldS key field (Sl.out.below h) MX.out)
    have K5 := Lib.hid (fun (W : World) (h : Below u3.heap.size u3 W) => rcopyI_any (Sl.out.below h) (by have := MX.out.1; omega))
    have MXX := Lib.hid (fitV_more MX.out QX.out)
    have K11 := Lib.hid (fun (W : World) (v : Value) (h : SeqE LItem W v (l ++ [x])) => vfieldS2 key field h MXX.out)
    obtain ⟨pa, hpa⟩ : ∃ p, vfield l key field = p := ⟨_, rfl⟩
    obtain ⟨pb, hpb⟩ : ∃ p, vfield (l ++ [x]) key field = p := ⟨_, rfl⟩
    rw [hpa] at K3
    rw [hpb] at K11
    have HPA := Lib.hid hpa
    have HPB := Lib.hid hpb
    clear hpa hpb
    go_upto_region 5 with fail
    go_cut [9, 10] (fun s9 s10 wx => ∃ (g h : Nat) (a1 : Option Addr) (n1 c1 : Nat) (a2 : Option Addr) (n2 c2 : Nat) (b1 : Option Addr) (m1 d1 : Nat) (b2 : Option Addr) (m2 d2 : Nat), s9 = .pointer (some ⟨g, 0, none⟩) ∧ s10 = .pointer (some ⟨h, 0, none⟩) ∧ VBoxes g h a1 n1 c1 a2 n2 c2 pa b1 m1 d1 b2 m2 d2 pb wx ∧ IsVal wx (.agg #[.slice a1 n1 c1, .slice a2 n2 c2, .int .i64 pa.total, .bool pa.over]) pa ∧ IsVal wx (.agg #[.slice b1 m1 d1, .slice b2 m2 d2, .int .i64 pb.total, .bool pb.over]) pb ∧ Below u3.heap.size u3 wx)
    case first =>
      refine wp_region_held_drew (S := fun u' => Below u3.heap.size u3 u' ∧ (u'.cell? ⟨w.heap.size, 0, none⟩ = some (.string (bt x.key)) ∧ u'.cell? ⟨w.heap.size, 1, none⟩ = some (.string (bt x.field)) ∧ u'.cell? ⟨w.heap.size, 2, none⟩ = some (.int .i64 x.kind) ∧ u'.cell? ⟨w.heap.size, 3, none⟩ = some (.string (bt x.elem)) ∧ u'.cell? ⟨w.heap.size, 4, none⟩ = some (.int .i64 x.n) ∧ u'.cell? ⟨w.heap.size, 5, none⟩ = some (.int .i64 x.dot.node) ∧ u'.cell? ⟨w.heap.size, 6, none⟩ = some (.int .i64 x.dot.seq) ∧ u'.cell? ⟨w.heap.size, 7, none⟩ = some (.int .i64 x.dot.pos))) (by kernel_rfl) ?_ (fun hHeld => ?_)
      · (exact KE.out _ (Below.refl _ _).drew)
      simp only [List.size_toArray, List.length_cons, List.length_nil, Nat.zero_add, Nat.reduceAdd]
      refine wpAnyH_take (i := 0) (v := ?_) rfl (by kernel_rfl) (by kernel_rfl) (by kernel_rfl) (fun _ _ _ h => h) (Or.inl ⟨by rfl, ?_⟩) hHeld ?_
      rotate_left
      · (intro w' hSw; (try dsimp only at hSw); go_simp; try with_reducible rfl)
      simp only [List.getElem_toArray, List.getElem_cons_zero, Act.put, List.setIfInBounds_toArray, List.set_cons_zero, List.set_cons_succ]
      refine wpAnyH_take (i := 1) (v := ?_) rfl (by kernel_rfl) (by kernel_rfl) (by kernel_rfl) (fun _ _ _ h => h) (Or.inl ⟨by rfl, ?_⟩) hHeld ?_
      rotate_left
      · (intro w' hSw; (try dsimp only at hSw); go_simp; try with_reducible rfl)
      simp only [List.getElem_toArray, List.getElem_cons_zero, List.getElem_cons_succ, Act.put, List.setIfInBounds_toArray, List.set_cons_zero, List.set_cons_succ]
      refine wpAnyH_take (i := 2) (v := ?_) rfl (by kernel_rfl) (by kernel_rfl) (by kernel_rfl) (fun _ _ _ h => h) (Or.inl ⟨by rfl, ?_⟩) hHeld ?_
      rotate_left
      · (intro w' hSw; (try dsimp only at hSw); go_simp; try with_reducible rfl)
      simp only [List.getElem_toArray, List.getElem_cons_zero, List.getElem_cons_succ, Act.put, List.setIfInBounds_toArray, List.set_cons_zero, List.set_cons_succ]
      refine wpAnyH_take (i := 4) (v := ?_) rfl (by kernel_rfl) (by kernel_rfl) (by kernel_rfl) (fun _ _ _ h => h) (Or.inl ⟨by rfl, ?_⟩) hHeld ?_
      rotate_left
      · (intro w' hSw; (try dsimp only at hSw); go_simp; try with_reducible rfl)
      simp only [List.getElem_toArray, List.getElem_cons_zero, List.getElem_cons_succ, Act.put, List.setIfInBounds_toArray, List.set_cons_zero, List.set_cons_succ]
      refine wpAnyH_take (i := 6) (v := ?_) rfl (by kernel_rfl) (by kernel_rfl) (by kernel_rfl) (fun _ _ _ h => h) (Or.inl ⟨by rfl, ?_⟩) hHeld ?_
      rotate_left
      · (intro w' hSw; (try dsimp only at hSw); go_simp; try with_reducible rfl)
      simp only [List.getElem_toArray, List.getElem_cons_zero, List.getElem_cons_succ, Act.put, List.setIfInBounds_toArray, List.set_cons_zero, List.set_cons_succ]
      refine wpAnyH_take (i := 9) (v := ?_) rfl (by kernel_rfl) (by kernel_rfl) (by kernel_rfl) (fun _ _ _ h => h) (Or.inl ⟨by rfl, ?_⟩) hHeld ?_
      rotate_left
      · (intro w' hSw; (try dsimp only at hSw); go_simp; try with_reducible rfl)
      simp only [List.getElem_toArray, List.getElem_cons_zero, List.getElem_cons_succ, Act.put, List.setIfInBounds_toArray, List.set_cons_zero, List.set_cons_succ]
      refine wpAnyH_take (i := 10) (v := ?_) rfl (by kernel_rfl) (by kernel_rfl) (by kernel_rfl) (fun _ _ _ h => h) (Or.inl ⟨by rfl, ?_⟩) hHeld ?_
      rotate_left
      · (intro w' hSw; (try dsimp only at hSw); go_simp; try with_reducible rfl)
      simp only [List.getElem_toArray, List.getElem_cons_zero, List.getElem_cons_succ, Act.put, List.setIfInBounds_toArray, List.set_cons_zero, List.set_cons_succ]
      refine (fun (H : ∀ (Q' : Exit → Act → World → Prop) (a0 : Act), a0.tmps.size = 127 → a0.eval (.tmp 22) = .slice an n cn → a0.eval (.tmp 23) = .string (bt key) → a0.eval (.tmp 24) = .string (bt field) → a0.eval (.tmp 26) = .slice an n cn → a0.eval (.tmp 28) = .agg #[.string (bt x.key), .string (bt x.field), .int .i64 x.kind, .string (bt x.elem), .int .i64 x.n, .int .i64 x.dot.node, .int .i64 x.dot.seq, .int .i64 x.dot.pos] → a0.eval (.tmp 31) = .string (bt key) → a0.eval (.tmp 32) = .string (bt field) →
          (∀ y9 y10 y25 y27 y29 y30 y33 W, MI u3 x l pa pb true true true true true true true true true y9 y10 y25 y27 y29 y30 y33 W → Q' .normal (mact a0 y9 y10 y25 y27 y29 y30 y33) W) → wpAnyH _ _ _ Q' _ _ _ a0 _) => H _ _ rfl rfl rfl rfl rfl rfl rfl rfl ?_) ?_
      · intro y9 y10 y25 y27 y29 y30 y33 W hM
        obtain ⟨g, e9, -, -, -, -, k9⟩ := hM.box9 rfl
        obtain ⟨v0, v1, v2, v3, e25, B9⟩ := k9 rfl
        obtain ⟨h, e10, -, -, -, -, k10⟩ := hM.box10 rfl
        obtain ⟨t0, t1, t2, t3, e33, B10⟩ := k10 rfl
        have V25 := hM.v25 rfl
        have V33 := hM.v33 rfl
        rw [e25] at V25
        rw [e33] at V33
        obtain ⟨a1, n1, c1, a2, n2, c2, ev, s1, s2⟩ := V25
        obtain ⟨b1, m1, d1, b2, m2, d2, ew, r1, r2⟩ := V33
        simp only [Value.agg.injEq, Array.mk.injEq, List.cons.injEq, and_true] at ev ew
        obtain ⟨rfl, rfl, rfl, rfl⟩ := ev
        obtain ⟨rfl, rfl, rfl, rfl⟩ := ew
        subst e9 e10
        simp only [mact, List.setIfInBounds_toArray, List.set_cons_zero, List.set_cons_succ]
        go_step
        go_step
        go_meet
        exact ⟨g, h, a1, n1, c1, a2, n2, c2, b1, m1, d1, b2, m2, d2, rfl, rfl, ⟨⟨B9.c0, B9.c1, B9.c2, B9.c3⟩, ⟨B10.c0, B10.c1, B10.c2, B10.c3⟩⟩, ⟨a1, n1, c1, a2, n2, c2, rfl, s1, s2⟩, ⟨b1, m1, d1, b2, m2, d2, rfl, r1, r2⟩, hM.low⟩
      · intro Q' a0 F0 F22 F23 F24 F26 F28 F31 F32 fin
        refine wpAnyH_inv (fun L a W => ∃ (b3 b5 b7 b8 b11 b12 b13 b14 b15 : Bool) (y9 y10 y25 y27 y29 y30 y33 : Value), L = #[true, true, true, b3, true, b5, true, b7, b8, true, true, b11, b12, b13, b14, b15] ∧ a = mact a0 y9 y10 y25 y27 y29 y30 y33 ∧ MI u3 x l pa pb b3 b5 b7 b8 b11 b12 b13 b14 b15 y9 y10 y25 y27 y29 y30 y33 W) ?_ ?_ _ _ _ _ (by decide) ⟨false, false, false, false, false, false, false, false, false, _, _, _, _, _, _, _, rfl, (mact_same a0).symm, MI.zero hHeld.1 _ _ _ _ _ _ _⟩
        · rintro L a W i ⟨b3, b5, b7, b8, b11, b12, b13, b14, b15, y9, y10, y25, y27, y29, y30, y33, rfl, rfl, hM⟩ hi
          obtain ⟨h1, o, ho, hall⟩ := mem_ready.1 hi
          have hlt : i < 16 := (Array.getElem?_eq_some_iff.1 ho).1
          rcases (by omega : i = 0 ∨ i = 1 ∨ i = 2 ∨ i = 3 ∨ i = 4 ∨ i = 5 ∨ i = 6 ∨ i = 7 ∨ i = 8 ∨ i = 9 ∨ i = 10 ∨ i = 11 ∨ i = 12 ∨ i = 13 ∨ i = 14 ∨ i = 15) with rfl | rfl | rfl | rfl | rfl | rfl | rfl | rfl | rfl | rfl | rfl | rfl | rfl | rfl | rfl | rfl
          · exact absurd (show true = false from h1) (by decide)
          · exact absurd (show true = false from h1) (by decide)
          · exact absurd (show true = false from h1) (by decide)
          · -- 3
            obtain rfl : b3 = false := h1
            refine wpOp_step (o := _) rfl (fun K' hK => ?_)
            refine (if_pos (show _ = true by rfl)).mpr ?_
            refine step_call rfl (vs := #[.slice an n cn, .string (bt key), .string (bt field)]) ?_ (by go_simp) (K3.out W hM.low) ?_
            · simp only [List.map_toArray, List.map_cons, List.map_nil, (mact_at22 (a0 := a0) (y9 := y9) (y10 := y10) (y25 := y25) (y27 := y27) (y29 := y29) (y30 := y30) (y33 := y33) (show 22 < a0.tmps.size by omega)).trans F22, (mact_at23 (a0 := a0) (y9 := y9) (y10 := y10) (y25 := y25) (y27 := y27) (y29 := y29) (y30 := y30) (y33 := y33) (show 23 < a0.tmps.size by omega)).trans F23, (mact_at24 (a0 := a0) (y9 := y9) (y10 := y10) (y25 := y25) (y27 := y27) (y29 := y29) (y30 := y30) (y33 := y33) (show 24 < a0.tmps.size by omega)).trans F24]
            · rintro e W' ⟨v, rfl, hv, hb⟩
              have hN := (hM.below hb).s3 hv
              exact ⟨v, rfl, hK _ _ ⟨KE.out _ hN.low, true, b5, b7, b8, b11, b12, b13, b14, b15, y9, y10, v, y27, y29, y30, y33, rfl, mact_put25, hN⟩⟩
          · exact absurd (show true = false from h1) (by decide)
          · obtain rfl : b5 = false := h1
            obtain rfl : b3 = true := ready_dep hi rfl 1 rfl rfl
            refine wpOp_step (o := _) rfl (fun K' hK => ?_)
            refine (if_pos (show _ = true by rfl)).mpr ?_
            refine step_call rfl (vs := #[.slice an n cn]) ?_ (by go_simp) (K5.out W hM.low) ?_
            · simp only [List.map_toArray, List.map_cons, List.map_nil, (mact_at26 (a0 := a0) (y9 := y9) (y10 := y10) (y25 := y25) (y27 := y27) (y29 := y29) (y30 := y30) (y33 := y33) (show 26 < a0.tmps.size by omega)).trans F26]
            · rintro e W' ⟨v, rfl, hv, hb⟩
              have hN := hM.s5 hb hv
              exact ⟨v, rfl, hK _ _ ⟨KE.out _ hN.low, true, true, b7, b8, b11, b12, b13, b14, b15, y9, y10, y25, v, y29, y30, y33, rfl, mact_put27, hN⟩⟩
          · exact absurd (show true = false from h1) (by decide)
          · obtain rfl : b7 = false := h1
            refine wpOp_step (o := _) rfl (fun K' hK => ?_)
            refine (if_pos (show _ = true by rfl)).mpr ?_
            refine step_value (exec_one rfl ((mact_at28 (a0 := a0) (y9 := y9) (y10 := y10) (y25 := y25) (y27 := y27) (y29 := y29) (y30 := y30) (y33 := y33) (show 28 < a0.tmps.size by omega)).trans F28)) ?_
            have hN := hM.s7 (.cells (cellsIt x).toArray 40) ⟨World.cell?_alloc_new W _ _ 0, World.cell?_alloc_new W _ _ 1, World.cell?_alloc_new W _ _ 2, World.cell?_alloc_new W _ _ 3, World.cell?_alloc_new W _ _ 4, World.cell?_alloc_new W _ _ 5, World.cell?_alloc_new W _ _ 6, World.cell?_alloc_new W _ _ 7⟩
            exact hK _ _ ⟨KE.out _ hN.low, b3, b5, true, b8, b11, b12, b13, b14, b15, y9, y10, y25, y27, _, y30, y33, rfl, mact_put29, hN⟩
          · obtain rfl : b8 = false := h1
            obtain rfl : b5 = true := ready_dep hi rfl 0 rfl rfl
            obtain rfl : b7 = true := ready_dep hi rfl 1 rfl rfl
            obtain rfl : b3 = true := hM.c5 rfl
            obtain ⟨w1, z1, z2, z3, z4⟩ := hM.own rfl rfl
            obtain ⟨k, rfl, z6, z7⟩ := hM.lit rfl rfl
            refine wpOp_step (o := _) rfl (fun K' hK => ?_)
            refine (if_pos (show _ = true by rfl)).mpr ?_
            refine step_append_grown LItem _ _ rfl w1.heap.size (mact_at27 (a0 := a0) (y9 := y9) (y10 := y10) (y25 := y25) (y27 := y27) (y30 := y30) (y33 := y33) (show 27 < a0.tmps.size by omega)) z4 (mact_at29 (a0 := a0) (y9 := y9) (y10 := y10) (y25 := y25) (y27 := y27) (y30 := y30) (y33 := y33) (show 29 < a0.tmps.size by omega)) (one_at z6) ?_ ?_ z3.size ?_
            · exact fun _ _ h => h
            · have := MX.out.1
              simp
              omega
            · intro v W' hv hg
              have hN := hM.s8 z1 hv hg ⟨w1, rfl, z2, z3⟩ (fun k e => (z4.lt k e).1) z3.size
              exact hK _ _ ⟨KE.out _ hN.low, true, true, true, true, b11, b12, b13, b14, b15, y9, y10, y25, y27, .slice (some ⟨k, 0, none⟩) 1 1, v, y33, rfl, mact_put30, hN⟩
          · exact absurd (show true = false from h1) (by decide)
          · exact absurd (show true = false from h1) (by decide)
          · obtain rfl : b11 = false := h1
            obtain rfl : b8 = true := ready_dep hi rfl 0 rfl rfl
            refine wpOp_step (o := _) rfl (fun K' hK => ?_)
            refine (if_pos (show _ = true by rfl)).mpr ?_
            refine step_call rfl (vs := #[y30, .string (bt key), .string (bt field)]) ?_ (by go_simp) (K11.out W y30 (hM.app rfl rfl)) ?_
            · simp only [List.map_toArray, List.map_cons, List.map_nil, (mact_at30 (a0 := a0) (y9 := y9) (y10 := y10) (y25 := y25) (y27 := y27) (y29 := y29) (y30 := y30) (y33 := y33) (show 30 < a0.tmps.size by omega)), (mact_at31 (a0 := a0) (y9 := y9) (y10 := y10) (y25 := y25) (y27 := y27) (y29 := y29) (y30 := y30) (y33 := y33) (show 31 < a0.tmps.size by omega)).trans F31, (mact_at32 (a0 := a0) (y9 := y9) (y10 := y10) (y25 := y25) (y27 := y27) (y29 := y29) (y30 := y30) (y33 := y33) (show 32 < a0.tmps.size by omega)).trans F32]
            · rintro e W' ⟨v, rfl, hv, hb⟩
              have hN := (hM.below hb).s11 hv
              exact ⟨v, rfl, hK _ _ ⟨KE.out _ hN.low, b3, b5, b7, true, true, b12, b13, b14, b15, y9, y10, y25, y27, y29, y30, v, rfl, mact_put33, hN⟩⟩
          · obtain rfl : b12 = false := h1
            refine wpOp_step (o := _) rfl (fun K' hK => ?_)
            refine (if_pos (show _ = true by rfl)).mpr ?_
            refine step_value (w' := W.alloc (.cells #[.slice none 0 0, .slice none 0 0, .int .i64 0, .bool false] 25)) (v := .pointer (some ⟨W.heap.size, 0, none⟩)) (by go_simp) ?_
            have hN := hM.s12 25
            exact hK _ _ ⟨KE.out _ hN.low, b3, b5, b7, b8, b11, true, b13, b14, b15, _, y10, y25, y27, y29, y30, y33, rfl, mact_put9, hN⟩
          · obtain rfl : b13 = false := h1
            refine wpOp_step (o := _) rfl (fun K' hK => ?_)
            refine (if_pos (show _ = true by rfl)).mpr ?_
            refine step_value (w' := W.alloc (.cells #[.slice none 0 0, .slice none 0 0, .int .i64 0, .bool false] 25)) (v := .pointer (some ⟨W.heap.size, 0, none⟩)) (by go_simp) ?_
            have hN := hM.s13 25
            exact hK _ _ ⟨KE.out _ hN.low, b3, b5, b7, b8, b11, b12, true, b14, b15, y9, _, y25, y27, y29, y30, y33, rfl, mact_put10, hN⟩
          · obtain rfl : b14 = false := h1
            obtain rfl : b12 = true := ready_dep hi rfl 0 rfl rfl
            obtain rfl : b11 = true := ready_dep hi rfl 2 rfl rfl
            obtain rfl : b13 = true := ready_dep hi rfl 16 rfl rfl
            obtain rfl : b8 = true := hM.c11 rfl
            obtain ⟨rfl, rfl⟩ := hM.c8 rfl
            obtain rfl : b3 = true := hM.c5 rfl
            obtain ⟨g, rfl, z2, z3, -, z5, -⟩ := hM.box9 rfl
            obtain ⟨a1, n1, c1, a2, n2, c2, rfl, s1, s2⟩ := hM.v25 rfl
            have hZ := z5 rfl
            have hq := ho
            simp only [List.getElem?_toArray, List.getElem?_cons_succ, List.getElem?_cons_zero, Option.some.injEq] at hq
            have hop := (congrArg Oper.op hq).symm
            have hd := (congrArg Oper.dst hq).symm
            have hg := (congrArg Oper.guard hq).symm
            clear hq
            refine wpOp_none ho hg hd (exec_put hop (mact_at9 (a0 := a0)  (y10 := y10)  (y27 := y27) (y29 := y29) (y30 := y30) (y33 := y33) (show 9 < a0.tmps.size by omega)) (mact_at25 (a0 := a0)  (y10 := y10)  (y27 := y27) (y29 := y29) (y30 := y30) (y33 := y33) (show 25 < a0.tmps.size by omega)) hZ) ?_
            have hN := hM.s14 (g := g) rfl rfl
            exact ⟨KE.out _ hN.low, true, true, true, true, true, true, true, true, b15, .pointer (some ⟨g, 0, none⟩), y10, .agg #[.slice a1 n1 c1, .slice a2 n2 c2, .int .i64 pa.total, .bool pa.over], y27, y29, y30, y33, rfl, rfl, hN⟩
          · obtain rfl : b15 = false := h1
            obtain rfl : b14 = true := ready_dep hi rfl 2 rfl rfl
            obtain ⟨rfl, rfl, rfl⟩ := hM.c14 rfl
            obtain rfl : b8 = true := hM.c11 rfl
            obtain ⟨rfl, rfl⟩ := hM.c8 rfl
            obtain rfl : b3 = true := hM.c5 rfl
            obtain ⟨g, rfl, z2, z3, -, z5, -⟩ := hM.box10 rfl
            obtain ⟨a1, n1, c1, a2, n2, c2, rfl, s1, s2⟩ := hM.v33 rfl
            have hZ := z5 rfl
            have hq := ho
            simp only [List.getElem?_toArray, List.getElem?_cons_succ, List.getElem?_cons_zero, Option.some.injEq] at hq
            have hop := (congrArg Oper.op hq).symm
            have hd := (congrArg Oper.dst hq).symm
            have hg := (congrArg Oper.guard hq).symm
            clear hq
            refine wpOp_none ho hg hd (exec_put hop (mact_at10 (a0 := a0) (y9 := y9)  (y25 := y25) (y27 := y27) (y29 := y29) (y30 := y30)  (show 10 < a0.tmps.size by omega)) (mact_at33 (a0 := a0) (y9 := y9)  (y25 := y25) (y27 := y27) (y29 := y29) (y30 := y30)  (show 33 < a0.tmps.size by omega)) hZ) ?_
            have hN := hM.s15 (g := g) rfl rfl
            exact ⟨KE.out _ hN.low, true, true, true, true, true, true, true, true, true, y9, .pointer (some ⟨g, 0, none⟩), y25, y27, y29, y30, .agg #[.slice a1 n1 c1, .slice a2 n2 c2, .int .i64 pb.total, .bool pb.over], rfl, rfl, hN⟩
        · rintro L a W ⟨b3, b5, b7, b8, b11, b12, b13, b14, b15, y9, y10, y25, y27, y29, y30, y33, rfl, rfl, hM⟩ hr
          obtain rfl : b3 = true := by
            cases b3 with
            | true => rfl
            | false => exact absurd (ready_now 3 rfl (by kernel_rfl)) (by rw [hr]; exact List.not_mem_nil)
          obtain rfl : b5 = true := by
            cases b5 with
            | true => rfl
            | false => exact absurd (ready_now 5 rfl (by kernel_rfl)) (by rw [hr]; exact List.not_mem_nil)
          obtain rfl : b7 = true := by
            cases b7 with
            | true => rfl
            | false => exact absurd (ready_now 7 rfl (by kernel_rfl)) (by rw [hr]; exact List.not_mem_nil)
          obtain rfl : b8 = true := by
            cases b8 with
            | true => rfl
            | false => exact absurd (ready_now 8 rfl (by kernel_rfl)) (by rw [hr]; exact List.not_mem_nil)
          obtain rfl : b11 = true := by
            cases b11 with
            | true => rfl
            | false => exact absurd (ready_now 11 rfl (by kernel_rfl)) (by rw [hr]; exact List.not_mem_nil)
          obtain rfl : b12 = true := by
            cases b12 with
            | true => rfl
            | false => exact absurd (ready_now 12 rfl (by kernel_rfl)) (by rw [hr]; exact List.not_mem_nil)
          obtain rfl : b13 = true := by
            cases b13 with
            | true => rfl
            | false => exact absurd (ready_now 13 rfl (by kernel_rfl)) (by rw [hr]; exact List.not_mem_nil)
          obtain rfl : b14 = true := by
            cases b14 with
            | true => rfl
            | false => exact absurd (ready_now 14 rfl (by kernel_rfl)) (by rw [hr]; exact List.not_mem_nil)
          obtain rfl : b15 = true := by
            cases b15 with
            | true => rfl
            | false => exact absurd (ready_now 15 rfl (by kernel_rfl)) (by rw [hr]; exact List.not_mem_nil)
          exact fin _ _ _ _ _ _ _ W hM
    case rest =>
      obtain ⟨g, h, a1, n1, c1, a2, n2, c2, b1, m1, d1, b2, m2, d2, rfl, rfl, BX, VA, VB, hb⟩ := hcut
      have G' : Hid (Below w.heap.size w wc) := Lib.hid (G.out.trans (hb.mono G.out.size))
      have IX := Lib.hid (IB0.out.below hb)
      have KB := Lib.hid BX
      have KA := Lib.hid VA
      have KC := Lib.hid VB
      clear BX VA VB hb
      by_cases hf : x.key = key ∧ x.field = field
      rotate_left
      · have hin : inField key field x = false := by
          rw [inField_dec]
          by_cases e1 : x.key = key
          · by_cases e2 : x.field = field
            · exact absurd ⟨e1, e2⟩ hf
            · rw [decide_eq_false e2, Bool.and_false]
          · rw [decide_eq_false e1, Bool.false_and]
        have hpp : pb = pa := HPB.out.symm.trans ((vfield_apart l hin).trans HPA.out)
        subst hpp
        obtain ⟨i0, i1, i2, i3, i4, i5, i6, i7⟩ := IX.out
        obtain ⟨⟨x0, x1, x2, x3⟩, ⟨y0, y1, y2, y3⟩⟩ := KB.out
        clear i2 i3 i4 i5 i6 i7
        by_cases e1 : x.key = key
        · have e2 : ¬ x.field = field := fun k => hf ⟨e1, k⟩
          have nk1 : ((bt x.key).toList == (bt key).toList) = true := (text_eq _ _).trans (decide_eq_true e1)
          have nk2 : ((bt x.field).toList == (bt field).toList) = false := (text_eq _ _).trans (decide_eq_false e2)
          go_upto_region 7 with fail
          go_wp2_with fail
          refine (vsameB KA.out KC.out (decide_eq_true rfl)).mono ?_
          rintro e u9 ⟨rfl, hb⟩
          go_wp2_with fail
          go_ret
          exact ⟨rfl, G'.out.trans (hb.mono G'.out.size)⟩
        · have nk1 : ((bt x.key).toList == (bt key).toList) = false := (text_eq _ _).trans (decide_eq_false e1)
          go_upto_region 7 with fail
          go_wp2_with fail
          refine (vsameB KA.out KC.out (decide_eq_true rfl)).mono ?_
          rintro e u9 ⟨rfl, hb⟩
          go_wp2_with fail
          go_ret
          exact ⟨rfl, G'.out.trans (hb.mono G'.out.size)⟩
      · have hin : inField key field x = true := by rw [inField_dec, decide_eq_true hf.1, decide_eq_true hf.2, Bool.and_self]
        have nk1 : ((bt x.key).toList == (bt key).toList) = true := (text_eq _ _).trans (decide_eq_true hf.1)
        have nk2 : ((bt x.field).toList == (bt field).toList) = true := (text_eq _ _).trans (decide_eq_true hf.2)
        clear hf
        have MK := Lib.hid (more_kind HPA.out HPB.out hin)
        have SA := Lib.hid KA.out.seqs
        have SB := Lib.hid KC.out.seqs
        obtain ⟨i0, i1, i2, i3, i4, i5, i6, i7⟩ := IX.out
        obtain ⟨⟨x0, x1, x2, x3⟩, ⟨y0, y1, y2, y3⟩⟩ := KB.out
        clear i4 i5 i6 i7
        by_cases q1 : x.kind = 1
        · skip
          have HE := Lib.hid (MK.out.2.2.2.1 q1)
          have HR := Lib.hid (MK.out.2.1 (by rw [q1]; decide))
          have HT := Lib.hid (MK.out.2.2.1 (by rw [q1]; decide))
          have KE : Hid (∀ U, Below wc.heap.size wc U → Below wc.heap.size wc U ∧ (U.cell? ⟨g, 0, none⟩ = some (.slice a1 n1 c1) ∧ U.cell? ⟨g, 1, none⟩ = some (.slice a2 n2 c2) ∧ U.cell? ⟨g, 2, none⟩ = some (.int .i64 pa.total) ∧ U.cell? ⟨g, 3, none⟩ = some (.bool pa.over)) ∧ (U.cell? ⟨h, 0, none⟩ = some (.slice b1 m1 d1) ∧ U.cell? ⟨h, 1, none⟩ = some (.slice b2 m2 d2) ∧ U.cell? ⟨h, 2, none⟩ = some (.int .i64 pb.total) ∧ U.cell? ⟨h, 3, none⟩ = some (.bool pb.over)) ∧ U.cell? ⟨w.heap.size, 3, none⟩ = some (.string (bt x.elem))) := Lib.hid (fun U hU => ⟨hU, (KB.out.below hU).x, (KB.out.below hU).y, (IX.out.below hU).c.2.2.2.1⟩)
          have HLE : Hid (pa.elems.length ≤ 1000) := Lib.hid (by rw [← HPA.out]; have := MX.out.1; exact Nat.le_trans (vtexts_len l key field 1) (by omega))
          have K10 := Lib.hid (fun (W : World) (v : Value) (h : SeqT W v (pa.elems ++ [x.elem])) => ronceS h (by have := HLE.out; simp; omega))
          rw [← HE.out] at K10
          obtain ⟨m, hm⟩ : ∃ m, pa.elems.length = m := ⟨_, rfl⟩
          have LM := Lib.hid hm
          have LM1 : Hid ((pa.elems ++ [x.elem]).length = m + 1) := Lib.hid (by rw [List.length_append, LM.out]; rfl)
          obtain ⟨mp, hmp⟩ : ∃ m, pb.elems.length = m := ⟨_, rfl⟩
          have LP := Lib.hid hmp
          clear hm hmp
          have SAW := Lib.hid (fun (W : World) (h : Below wc.heap.size wc W) => SA.out.1.below h)
          have SBW := Lib.hid (fun (W : World) (h : Below wc.heap.size wc W) => SB.out.1.below h)
          have SAO := Lib.hid (fun (W : World) (h : Below wc.heap.size wc W) => SA.out.2.below h)
          have SBO := Lib.hid (fun (W : World) (h : Below wc.heap.size wc W) => SB.out.2.below h)
          go_upto_region 9 with fail
          refine wp_region_held_drew (S := fun U => Below wc.heap.size wc U ∧ (U.cell? ⟨g, 0, none⟩ = some (.slice a1 n1 c1) ∧ U.cell? ⟨g, 1, none⟩ = some (.slice a2 n2 c2) ∧ U.cell? ⟨g, 2, none⟩ = some (.int .i64 pa.total) ∧ U.cell? ⟨g, 3, none⟩ = some (.bool pa.over)) ∧ (U.cell? ⟨h, 0, none⟩ = some (.slice b1 m1 d1) ∧ U.cell? ⟨h, 1, none⟩ = some (.slice b2 m2 d2) ∧ U.cell? ⟨h, 2, none⟩ = some (.int .i64 pb.total) ∧ U.cell? ⟨h, 3, none⟩ = some (.bool pb.over)) ∧ U.cell? ⟨w.heap.size, 3, none⟩ = some (.string (bt x.elem))) (by kernel_rfl) ?_ (fun hHeld => ?_)
          · (exact KE.out _ (Below.refl _ _).drew)
          simp only [List.size_toArray, List.length_cons, List.length_nil, Nat.zero_add, Nat.reduceAdd]
          refine wpAnyH_take (i := 0) (v := ?_) rfl (by kernel_rfl) (by kernel_rfl) (by kernel_rfl) (fun _ _ _ h => h) (Or.inl ⟨by rfl, ?_⟩) hHeld ?_
          rotate_left
          · (intro w' hSw; (try dsimp only at hSw); go_simp; try with_reducible rfl)
          simp only [List.getElem_toArray, List.getElem_cons_zero, Act.put, List.setIfInBounds_toArray, List.set_cons_zero, List.set_cons_succ]
          refine wpAnyH_take (i := 1) (v := ?_) rfl (by kernel_rfl) (by kernel_rfl) (by kernel_rfl) (fun _ _ _ h => h) (Or.inl ⟨by rfl, ?_⟩) hHeld ?_
          rotate_left
          · (intro w' hSw; (try dsimp only at hSw); go_simp; try with_reducible rfl)
          simp only [List.getElem_toArray, List.getElem_cons_zero, List.getElem_cons_succ, Act.put, List.setIfInBounds_toArray, List.set_cons_zero, List.set_cons_succ]
          refine wpAnyH_take (i := 3) (v := ?_) rfl (by kernel_rfl) (by kernel_rfl) (by kernel_rfl) (fun _ _ _ h => h) (Or.inl ⟨by rfl, ?_⟩) hHeld ?_
          rotate_left
          · (intro w' hSw; (try dsimp only at hSw); go_simp; try with_reducible rfl)
          simp only [List.getElem_toArray, List.getElem_cons_zero, List.getElem_cons_succ, Act.put, List.setIfInBounds_toArray, List.set_cons_zero, List.set_cons_succ]
          refine wpAnyH_take (i := 4) (v := ?_) rfl (by kernel_rfl) (by kernel_rfl) (by kernel_rfl) (fun _ _ _ h => h) (Or.inl ⟨by rfl, ?_⟩) hHeld ?_
          rotate_left
          · (intro w' hSw; (try dsimp only at hSw); go_simp; try with_reducible rfl)
          simp only [List.getElem_toArray, List.getElem_cons_zero, List.getElem_cons_succ, Act.put, List.setIfInBounds_toArray, List.set_cons_zero, List.set_cons_succ]
          refine wpAnyH_take (i := 6) (v := ?_) rfl (by kernel_rfl) (by kernel_rfl) (by kernel_rfl) (fun _ _ _ h => h) (Or.inl ⟨by rfl, ?_⟩) hHeld ?_
          rotate_left
          · (intro w' hSw; (try dsimp only at hSw); go_simp; try with_reducible rfl)
          simp only [List.getElem_toArray, List.getElem_cons_zero, List.getElem_cons_succ, Act.put, List.setIfInBounds_toArray, List.set_cons_zero, List.set_cons_succ]
          refine wpAnyH_take (i := 7) (v := ?_) rfl (by kernel_rfl) (by kernel_rfl) (by kernel_rfl) (fun _ _ _ h => h) (Or.inl ⟨by rfl, ?_⟩) hHeld ?_
          rotate_left
          · (intro w' hSw; (try dsimp only at hSw); go_simp; try with_reducible rfl)
          simp only [List.getElem_toArray, List.getElem_cons_zero, List.getElem_cons_succ, Act.put, List.setIfInBounds_toArray, List.set_cons_zero, List.set_cons_succ]
          refine wpAnyH_ready (rs := [2, 8]) (by kernel_rfl) (by simp) ?_
          refine AllReadyH.cons rfl (fun K hK => ?_) (AllReadyH.cons rfl (fun K hK => ?_) AllReadyH.nil)
          · go_simp
            refine hK.out _ _ (KE.out _ ((Below.refl _ _).alloc (Nat.le_refl _) _).drew) (fun hHeld => ?_)
            clear hK K
            have OE : OwnsT wc.heap.size ((wc.alloc (.cells #[] 9)).drew) (.slice (some ⟨wc.heap.size, 0, none⟩) 0 0) [] := (OwnsT.empty wc wc.heap.size (Nat.le_refl _)).below (Below.refl _ _).drew (Nat.le_refl _)
            generalize (wc.alloc (.cells #[] 9)).drew = wd at *
            have hlt : wc.heap.size < wd.heap.size := (OE.lt _ rfl).2
            refine wpAnyH_ready (rs := [5, 8]) (by kernel_rfl) (by simp) ?_
            refine AllReadyH.cons rfl (fun K hK => ?_) (AllReadyH.cons rfl (fun K hK => ?_) AllReadyH.nil)
            · refine step_append_texts (by rfl) (.tmp 52) (.tmp 54) (by rfl) wc.heap.size (by rfl) OE (by rfl) (SAW.out _ hHeld.1) (by have := HLE.out; simp; omega) hHeld.1.size ?_
              intro v5 w5 ho5 hg5
              rw [List.nil_append] at ho5
              obtain ⟨a5, k5, rfl, -, -, ho5⟩ := ho5.at m LM.out
              have HB5 := hHeld.1.grown hg5 hHeld.1.size (fun j hj => (OE.lt j hj).1)
              refine hK.out _ _ (KE.out _ HB5) (fun hHeld => ?_)
              clear hK K
              refine wpAnyH_ready (rs := [8]) (by kernel_rfl) (by simp) ?_
              refine AllReadyH.cons rfl (fun K hK => ?_) AllReadyH.nil
              go_simp
              refine hK.out _ _ (KE.out _ (HB5.alloc HB5.size _)) (fun hHeld => ?_)
              clear hK K
              refine wpAnyH_ready (rs := [9]) (by kernel_rfl) (by simp) ?_
              refine AllReadyH.cons rfl (fun K hK => ?_) AllReadyH.nil
              refine step_append_texts (by rfl) (.tmp 55) (.tmp 58) (by rfl) _ (by rfl) (ho5.alloc _) (by rfl) (SeqT.one w5 x.elem) (by have := HLE.out; simp; omega) hHeld.1.size ?_
              intro v9 w9 ho9 hg9
              have HB9 := hHeld.1.grown hg9 hHeld.1.size (fun j hj => (ho5.lt j hj).1)
              refine hK.out _ _ (KE.out _ HB9) (fun hHeld => ?_)
              obtain ⟨a9, k9, rfl, -, -, ho9⟩ := ho9.at (m + 1) LM1.out
              clear hK K
              refine wpAnyH_ready (rs := [10]) (by kernel_rfl) (by simp) ?_
              refine AllReadyH.cons rfl (fun K hK => ?_) AllReadyH.nil
              go_simp
              refine (K10.out _ _ ho9.seq).mono ?_
              rintro e w10 ⟨v10, rfl, hs10, hb⟩
              refine hK.out _ _ (KE.out _ (hHeld.1.trans (hb.mono hHeld.1.size))) (fun hHeld => ?_)
              obtain ⟨a10, k10, rfl, -, -, -, hs10⟩ := hs10.parts
              rw [LP.out] at hs10 ⊢
              clear hK K hb
              refine wpAnyH_ready (rs := [11]) (by kernel_rfl) (by simp) ?_
              refine AllReadyH.cons rfl (fun K hK => ?_) AllReadyH.nil
              go_simp
              refine (rsameTB (SBW.out _ hHeld.1) hs10 (decide_eq_true rfl)).mono ?_
              rintro e w11 ⟨rfl, hb⟩
              refine hK.out _ _ (KE.out _ (hHeld.1.trans (hb.mono hHeld.1.size))) (fun hHeld => ?_)
              clear hK K hb
              refine wpAnyH_take (i := 12) (v := ?_) rfl (by kernel_rfl) (by kernel_rfl) (by kernel_rfl) (fun _ _ _ h => h) (Or.inl ⟨by rfl, ?_⟩) hHeld ?_
              rotate_left
              · (intro w' hSw; (try dsimp only at hSw); go_simp; try with_reducible rfl)
              simp only [List.getElem_toArray, List.getElem_cons_zero, List.getElem_cons_succ, Act.put, List.setIfInBounds_toArray, List.set_cons_zero, List.set_cons_succ]
              refine wpAnyH_take (i := 13) (v := ?_) rfl (by kernel_rfl) (by kernel_rfl) (by kernel_rfl) (fun _ _ _ h => h) (Or.inl ⟨by rfl, ?_⟩) hHeld ?_
              rotate_left
              · (intro w' hSw; (try dsimp only at hSw); go_simp; try with_reducible rfl)
              simp only [List.getElem_toArray, List.getElem_cons_zero, List.getElem_cons_succ, Act.put, List.setIfInBounds_toArray, List.set_cons_zero, List.set_cons_succ]
              refine wpAnyH_take (i := 14) (v := ?_) rfl (by kernel_rfl) (by kernel_rfl) (by kernel_rfl) (fun _ _ _ h => h) (Or.inl ⟨by rfl, ?_⟩) hHeld ?_
              rotate_left
              · (intro w' hSw; (try dsimp only at hSw); go_simp; try with_reducible rfl)
              simp only [List.getElem_toArray, List.getElem_cons_zero, List.getElem_cons_succ, Act.put, List.setIfInBounds_toArray, List.set_cons_zero, List.set_cons_succ]
              refine wpAnyH_take (i := 15) (v := ?_) rfl (by kernel_rfl) (by kernel_rfl) (by kernel_rfl) (fun _ _ _ h => h) (Or.inl ⟨by rfl, ?_⟩) hHeld ?_
              rotate_left
              · (intro w' hSw; (try dsimp only at hSw); go_simp; try with_reducible rfl)
              simp only [List.getElem_toArray, List.getElem_cons_zero, List.getElem_cons_succ, Act.put, List.setIfInBounds_toArray, List.set_cons_zero, List.set_cons_succ]
              refine wpAnyH_take (i := 16) (v := ?_) rfl (by kernel_rfl) (by kernel_rfl) (by kernel_rfl) (fun _ _ _ h => h) (Or.inl ⟨by rfl, ?_⟩) hHeld ?_
              rotate_left
              · (intro w' hSw; (try dsimp only at hSw); go_simp; try with_reducible rfl)
              simp only [List.getElem_toArray, List.getElem_cons_zero, List.getElem_cons_succ, Act.put, List.setIfInBounds_toArray, List.set_cons_zero, List.set_cons_succ]
              refine wpAnyH_ready (rs := [17]) (by kernel_rfl) (by simp) ?_
              refine AllReadyH.cons rfl (fun K hK => ?_) AllReadyH.nil
              go_simp
              refine (rsameTB (SAO.out _ hHeld.1) (SBO.out _ hHeld.1) (decide_eq_true HR.out)).mono ?_
              rintro e w17 ⟨rfl, hb⟩
              refine hK.out _ _ (KE.out _ (hHeld.1.trans (hb.mono hHeld.1.size))) (fun hHeld => ?_)
              clear hK K hb
              refine wpAnyH_take (i := 18) (v := ?_) rfl (by kernel_rfl) (by kernel_rfl) (by kernel_rfl) (fun _ _ _ h => h) (Or.inl ⟨by rfl, ?_⟩) hHeld ?_
              rotate_left
              · (intro w' hSw; (try dsimp only at hSw); go_simp; try with_reducible rfl)
              simp only [List.getElem_toArray, List.getElem_cons_zero, List.getElem_cons_succ, Act.put, List.setIfInBounds_toArray, List.set_cons_zero, List.set_cons_succ]
              refine wpAnyH_take (i := 19) (v := ?_) rfl (by kernel_rfl) (by kernel_rfl) (by kernel_rfl) (fun _ _ _ h => h) (Or.inl ⟨by rfl, ?_⟩) hHeld ?_
              rotate_left
              · (intro w' hSw; (try dsimp only at hSw); go_simp; try with_reducible rfl)
              simp only [List.getElem_toArray, List.getElem_cons_zero, List.getElem_cons_succ, Act.put, List.setIfInBounds_toArray, List.set_cons_zero, List.set_cons_succ]
              refine wpAnyH_take (i := 20) (v := ?_) rfl (by kernel_rfl) (by kernel_rfl) (by kernel_rfl) (fun _ _ _ h => h) (Or.inl ⟨by rfl, ?_⟩) hHeld ?_
              rotate_left
              · (intro w' hSw; (try dsimp only at hSw); go_simp; try with_reducible rfl)
              simp only [List.getElem_toArray, List.getElem_cons_zero, List.getElem_cons_succ, Act.put, List.setIfInBounds_toArray, List.set_cons_zero, List.set_cons_succ]
              refine wpAnyH_take (i := 21) (v := ?_) rfl (by kernel_rfl) (by kernel_rfl) (by kernel_rfl) (fun _ _ _ h => h) (Or.inl ⟨by rfl, ?_⟩) hHeld ?_
              rotate_left
              · (intro w' hSw; (try dsimp only at hSw); go_simp; try with_reducible rfl)
              simp only [List.getElem_toArray, List.getElem_cons_zero, List.getElem_cons_succ, Act.put, List.setIfInBounds_toArray, List.set_cons_zero, List.set_cons_succ]
              refine wpAnyH_take (i := 22) (v := ?_) rfl (by kernel_rfl) (by kernel_rfl) (by kernel_rfl) (fun _ _ _ h => h) (Or.inl ⟨by rfl, ?_⟩) hHeld ?_
              rotate_left
              · (intro w' hSw; (try dsimp only at hSw); go_simp; try with_reducible rfl)
              simp only [List.getElem_toArray, List.getElem_cons_zero, List.getElem_cons_succ, Act.put, List.setIfInBounds_toArray, List.set_cons_zero, List.set_cons_succ]
              refine wpAnyH_take (i := 23) (v := ?_) rfl (by kernel_rfl) (by kernel_rfl) (by kernel_rfl) (fun _ _ _ h => h) (Or.inl ⟨by rfl, ?_⟩) hHeld ?_
              rotate_left
              · (intro w' hSw; (try dsimp only at hSw); go_simp; try with_reducible rfl)
              simp only [List.getElem_toArray, List.getElem_cons_zero, List.getElem_cons_succ, Act.put, List.setIfInBounds_toArray, List.set_cons_zero, List.set_cons_succ]
              refine wpAnyH_take (i := 24) (v := ?_) rfl (by kernel_rfl) (by kernel_rfl) (by kernel_rfl) (fun _ _ _ h => h) (Or.inl ⟨by rfl, ?_⟩) hHeld ?_
              rotate_left
              · (intro w' hSw; (try dsimp only at hSw); go_simp; try with_reducible rfl)
              simp only [List.getElem_toArray, List.getElem_cons_zero, List.getElem_cons_succ, Act.put, List.setIfInBounds_toArray, List.set_cons_zero, List.set_cons_succ]
              refine wpAnyH_take (i := 25) (v := ?_) rfl (by kernel_rfl) (by kernel_rfl) (by kernel_rfl) (fun _ _ _ h => h) (Or.inl ⟨by rfl, ?_⟩) hHeld ?_
              rotate_left
              · (intro w' hSw; (try dsimp only at hSw); go_simp; try with_reducible rfl)
              simp only [List.getElem_toArray, List.getElem_cons_zero, List.getElem_cons_succ, Act.put, List.setIfInBounds_toArray, List.set_cons_zero, List.set_cons_succ]
              refine wpAnyH_take (i := 26) (v := ?_) rfl (by kernel_rfl) (by kernel_rfl) (by kernel_rfl) (fun _ _ _ h => h) (Or.inl ⟨by rfl, ?_⟩) hHeld ?_
              rotate_left
              · (intro w' hSw; (try dsimp only at hSw); go_simp; try with_reducible rfl)
              simp only [List.getElem_toArray, List.getElem_cons_zero, List.getElem_cons_succ, Act.put, List.setIfInBounds_toArray, List.set_cons_zero, List.set_cons_succ]
              refine wpAnyH_done (by kernel_rfl) ?_ _
              go_wp2_with fail
              go_ret
              exact ⟨by rw [HT.out.1]; simp, G'.out.trans (hHeld.1.mono G'.out.size)⟩
            · go_simp
              refine hK.out _ _ (KE.out _ (hHeld.1.alloc hHeld.1.size _)) (fun hHeld => ?_)
              clear hK K
              replace OE := OE.alloc (.cells #[.string (bt x.elem)] 9)
              have S1 := SeqT.one wd x.elem
              unfold tv at S1
              generalize (wd.alloc (.cells #[.string (bt x.elem)] 9)) = we at *
              refine wpAnyH_ready (rs := [5]) (by kernel_rfl) (by simp) ?_
              refine AllReadyH.cons rfl (fun K hK => ?_) AllReadyH.nil
              refine step_append_texts (by rfl) (.tmp 52) (.tmp 54) (by rfl) wc.heap.size (by rfl) OE (by rfl) (SAW.out _ hHeld.1) (by have := HLE.out; simp; omega) hHeld.1.size ?_
              intro v5 w5 ho5 hg5
              rw [List.nil_append] at ho5
              obtain ⟨a5, k5, rfl, -, -, ho5⟩ := ho5.at m LM.out
              have HB5 := hHeld.1.grown hg5 hHeld.1.size (fun j hj => (OE.lt j hj).1)
              refine hK.out _ _ (KE.out _ HB5) (fun hHeld => ?_)
              replace S1 := one_kept S1 hg5 (by simp [Value.ownBlock]; omega)
              clear hK K
              refine wpAnyH_ready (rs := [9]) (by kernel_rfl) (by simp) ?_
              refine AllReadyH.cons rfl (fun K hK => ?_) AllReadyH.nil
              refine step_append_texts (by rfl) (.tmp 55) (.tmp 58) (by rfl) _ (by rfl) (ho5) (by rfl) (S1) (by have := HLE.out; simp; omega) hHeld.1.size ?_
              intro v9 w9 ho9 hg9
              have HB9 := hHeld.1.grown hg9 hHeld.1.size (fun j hj => (ho5.lt j hj).1)
              refine hK.out _ _ (KE.out _ HB9) (fun hHeld => ?_)
              obtain ⟨a9, k9, rfl, -, -, ho9⟩ := ho9.at (m + 1) LM1.out
              clear hK K
              refine wpAnyH_ready (rs := [10]) (by kernel_rfl) (by simp) ?_
              refine AllReadyH.cons rfl (fun K hK => ?_) AllReadyH.nil
              go_simp
              refine (K10.out _ _ ho9.seq).mono ?_
              rintro e w10 ⟨v10, rfl, hs10, hb⟩
              refine hK.out _ _ (KE.out _ (hHeld.1.trans (hb.mono hHeld.1.size))) (fun hHeld => ?_)
              obtain ⟨a10, k10, rfl, -, -, -, hs10⟩ := hs10.parts
              rw [LP.out] at hs10 ⊢
              clear hK K hb
              refine wpAnyH_ready (rs := [11]) (by kernel_rfl) (by simp) ?_
              refine AllReadyH.cons rfl (fun K hK => ?_) AllReadyH.nil
              go_simp
              refine (rsameTB (SBW.out _ hHeld.1) hs10 (decide_eq_true rfl)).mono ?_
              rintro e w11 ⟨rfl, hb⟩
              refine hK.out _ _ (KE.out _ (hHeld.1.trans (hb.mono hHeld.1.size))) (fun hHeld => ?_)
              clear hK K hb
              refine wpAnyH_take (i := 12) (v := ?_) rfl (by kernel_rfl) (by kernel_rfl) (by kernel_rfl) (fun _ _ _ h => h) (Or.inl ⟨by rfl, ?_⟩) hHeld ?_
              rotate_left
              · (intro w' hSw; (try dsimp only at hSw); go_simp; try with_reducible rfl)
              simp only [List.getElem_toArray, List.getElem_cons_zero, List.getElem_cons_succ, Act.put, List.setIfInBounds_toArray, List.set_cons_zero, List.set_cons_succ]
              refine wpAnyH_take (i := 13) (v := ?_) rfl (by kernel_rfl) (by kernel_rfl) (by kernel_rfl) (fun _ _ _ h => h) (Or.inl ⟨by rfl, ?_⟩) hHeld ?_
              rotate_left
              · (intro w' hSw; (try dsimp only at hSw); go_simp; try with_reducible rfl)
              simp only [List.getElem_toArray, List.getElem_cons_zero, List.getElem_cons_succ, Act.put, List.setIfInBounds_toArray, List.set_cons_zero, List.set_cons_succ]
              refine wpAnyH_take (i := 14) (v := ?_) rfl (by kernel_rfl) (by kernel_rfl) (by kernel_rfl) (fun _ _ _ h => h) (Or.inl ⟨by rfl, ?_⟩) hHeld ?_
              rotate_left
              · (intro w' hSw; (try dsimp only at hSw); go_simp; try with_reducible rfl)
              simp only [List.getElem_toArray, List.getElem_cons_zero, List.getElem_cons_succ, Act.put, List.setIfInBounds_toArray, List.set_cons_zero, List.set_cons_succ]
              refine wpAnyH_take (i := 15) (v := ?_) rfl (by kernel_rfl) (by kernel_rfl) (by kernel_rfl) (fun _ _ _ h => h) (Or.inl ⟨by rfl, ?_⟩) hHeld ?_
              rotate_left
              · (intro w' hSw; (try dsimp only at hSw); go_simp; try with_reducible rfl)
              simp only [List.getElem_toArray, List.getElem_cons_zero, List.getElem_cons_succ, Act.put, List.setIfInBounds_toArray, List.set_cons_zero, List.set_cons_succ]
              refine wpAnyH_take (i := 16) (v := ?_) rfl (by kernel_rfl) (by kernel_rfl) (by kernel_rfl) (fun _ _ _ h => h) (Or.inl ⟨by rfl, ?_⟩) hHeld ?_
              rotate_left
              · (intro w' hSw; (try dsimp only at hSw); go_simp; try with_reducible rfl)
              simp only [List.getElem_toArray, List.getElem_cons_zero, List.getElem_cons_succ, Act.put, List.setIfInBounds_toArray, List.set_cons_zero, List.set_cons_succ]
              refine wpAnyH_ready (rs := [17]) (by kernel_rfl) (by simp) ?_
              refine AllReadyH.cons rfl (fun K hK => ?_) AllReadyH.nil
              go_simp
              refine (rsameTB (SAO.out _ hHeld.1) (SBO.out _ hHeld.1) (decide_eq_true HR.out)).mono ?_
              rintro e w17 ⟨rfl, hb⟩
              refine hK.out _ _ (KE.out _ (hHeld.1.trans (hb.mono hHeld.1.size))) (fun hHeld => ?_)
              clear hK K hb
              refine wpAnyH_take (i := 18) (v := ?_) rfl (by kernel_rfl) (by kernel_rfl) (by kernel_rfl) (fun _ _ _ h => h) (Or.inl ⟨by rfl, ?_⟩) hHeld ?_
              rotate_left
              · (intro w' hSw; (try dsimp only at hSw); go_simp; try with_reducible rfl)
              simp only [List.getElem_toArray, List.getElem_cons_zero, List.getElem_cons_succ, Act.put, List.setIfInBounds_toArray, List.set_cons_zero, List.set_cons_succ]
              refine wpAnyH_take (i := 19) (v := ?_) rfl (by kernel_rfl) (by kernel_rfl) (by kernel_rfl) (fun _ _ _ h => h) (Or.inl ⟨by rfl, ?_⟩) hHeld ?_
              rotate_left
              · (intro w' hSw; (try dsimp only at hSw); go_simp; try with_reducible rfl)
              simp only [List.getElem_toArray, List.getElem_cons_zero, List.getElem_cons_succ, Act.put, List.setIfInBounds_toArray, List.set_cons_zero, List.set_cons_succ]
              refine wpAnyH_take (i := 20) (v := ?_) rfl (by kernel_rfl) (by kernel_rfl) (by kernel_rfl) (fun _ _ _ h => h) (Or.inl ⟨by rfl, ?_⟩) hHeld ?_
              rotate_left
              · (intro w' hSw; (try dsimp only at hSw); go_simp; try with_reducible rfl)
              simp only [List.getElem_toArray, List.getElem_cons_zero, List.getElem_cons_succ, Act.put, List.setIfInBounds_toArray, List.set_cons_zero, List.set_cons_succ]
              refine wpAnyH_take (i := 21) (v := ?_) rfl (by kernel_rfl) (by kernel_rfl) (by kernel_rfl) (fun _ _ _ h => h) (Or.inl ⟨by rfl, ?_⟩) hHeld ?_
              rotate_left
              · (intro w' hSw; (try dsimp only at hSw); go_simp; try with_reducible rfl)
              simp only [List.getElem_toArray, List.getElem_cons_zero, List.getElem_cons_succ, Act.put, List.setIfInBounds_toArray, List.set_cons_zero, List.set_cons_succ]
              refine wpAnyH_take (i := 22) (v := ?_) rfl (by kernel_rfl) (by kernel_rfl) (by kernel_rfl) (fun _ _ _ h => h) (Or.inl ⟨by rfl, ?_⟩) hHeld ?_
              rotate_left
              · (intro w' hSw; (try dsimp only at hSw); go_simp; try with_reducible rfl)
              simp only [List.getElem_toArray, List.getElem_cons_zero, List.getElem_cons_succ, Act.put, List.setIfInBounds_toArray, List.set_cons_zero, List.set_cons_succ]
              refine wpAnyH_take (i := 23) (v := ?_) rfl (by kernel_rfl) (by kernel_rfl) (by kernel_rfl) (fun _ _ _ h => h) (Or.inl ⟨by rfl, ?_⟩) hHeld ?_
              rotate_left
              · (intro w' hSw; (try dsimp only at hSw); go_simp; try with_reducible rfl)
              simp only [List.getElem_toArray, List.getElem_cons_zero, List.getElem_cons_succ, Act.put, List.setIfInBounds_toArray, List.set_cons_zero, List.set_cons_succ]
              refine wpAnyH_take (i := 24) (v := ?_) rfl (by kernel_rfl) (by kernel_rfl) (by kernel_rfl) (fun _ _ _ h => h) (Or.inl ⟨by rfl, ?_⟩) hHeld ?_
              rotate_left
              · (intro w' hSw; (try dsimp only at hSw); go_simp; try with_reducible rfl)
              simp only [List.getElem_toArray, List.getElem_cons_zero, List.getElem_cons_succ, Act.put, List.setIfInBounds_toArray, List.set_cons_zero, List.set_cons_succ]
              refine wpAnyH_take (i := 25) (v := ?_) rfl (by kernel_rfl) (by kernel_rfl) (by kernel_rfl) (fun _ _ _ h => h) (Or.inl ⟨by rfl, ?_⟩) hHeld ?_
              rotate_left
              · (intro w' hSw; (try dsimp only at hSw); go_simp; try with_reducible rfl)
              simp only [List.getElem_toArray, List.getElem_cons_zero, List.getElem_cons_succ, Act.put, List.setIfInBounds_toArray, List.set_cons_zero, List.set_cons_succ]
              refine wpAnyH_take (i := 26) (v := ?_) rfl (by kernel_rfl) (by kernel_rfl) (by kernel_rfl) (fun _ _ _ h => h) (Or.inl ⟨by rfl, ?_⟩) hHeld ?_
              rotate_left
              · (intro w' hSw; (try dsimp only at hSw); go_simp; try with_reducible rfl)
              simp only [List.getElem_toArray, List.getElem_cons_zero, List.getElem_cons_succ, Act.put, List.setIfInBounds_toArray, List.set_cons_zero, List.set_cons_succ]
              refine wpAnyH_done (by kernel_rfl) ?_ _
              go_wp2_with fail
              go_ret
              exact ⟨by rw [HT.out.1]; simp, G'.out.trans (hHeld.1.mono G'.out.size)⟩
          · go_simp
            refine hK.out _ _ (KE.out _ ((Below.refl _ _).alloc (Nat.le_refl _) _).drew) (fun hHeld => ?_)
            clear hK K
            have S1 := (SeqT.one wc x.elem).below ((Below.refl _ _).drew)
            unfold tv at S1
            generalize (wc.alloc (.cells #[.string (bt x.elem)] 9)).drew = wd at *
            refine wpAnyH_ready (rs := [2]) (by kernel_rfl) (by simp) ?_
            refine AllReadyH.cons rfl (fun K hK => ?_) AllReadyH.nil
            go_simp
            refine hK.out _ _ (KE.out _ (hHeld.1.alloc hHeld.1.size _)) (fun hHeld => ?_)
            clear hK K
            have hlt : wc.heap.size < wd.heap.size := by obtain ⟨_, _, hv, _, _, _, h3⟩ := S1; simp only [Value.slice.injEq] at hv; obtain ⟨rfl, -, -⟩ := hv; obtain ⟨b, off, he, hc⟩ := h3 (by simp); cases he; exact World.block_lt_of_cell? _ _ (hc 0 (by simp))
            have OE := OwnsT.empty wd wc.heap.size (by omega)
            replace S1 := S1.below_alloc (.cells #[] 9)
            generalize (wd.alloc (.cells #[] 9)) = we at *
            refine wpAnyH_ready (rs := [5]) (by kernel_rfl) (by simp) ?_
            refine AllReadyH.cons rfl (fun K hK => ?_) AllReadyH.nil
            refine step_append_texts (by rfl) (.tmp 52) (.tmp 54) (by rfl) wc.heap.size (by rfl) OE (by rfl) (SAW.out _ hHeld.1) (by have := HLE.out; simp; omega) hHeld.1.size ?_
            intro v5 w5 ho5 hg5
            rw [List.nil_append] at ho5
            obtain ⟨a5, k5, rfl, -, -, ho5⟩ := ho5.at m LM.out
            have HB5 := hHeld.1.grown hg5 hHeld.1.size (fun j hj => (OE.lt j hj).1)
            refine hK.out _ _ (KE.out _ HB5) (fun hHeld => ?_)
            replace S1 := one_kept S1 hg5 (by simp [Value.ownBlock]; omega)
            clear hK K
            refine wpAnyH_ready (rs := [9]) (by kernel_rfl) (by simp) ?_
            refine AllReadyH.cons rfl (fun K hK => ?_) AllReadyH.nil
            refine step_append_texts (by rfl) (.tmp 55) (.tmp 58) (by rfl) _ (by rfl) (ho5) (by rfl) (S1) (by have := HLE.out; simp; omega) hHeld.1.size ?_
            intro v9 w9 ho9 hg9
            have HB9 := hHeld.1.grown hg9 hHeld.1.size (fun j hj => (ho5.lt j hj).1)
            refine hK.out _ _ (KE.out _ HB9) (fun hHeld => ?_)
            obtain ⟨a9, k9, rfl, -, -, ho9⟩ := ho9.at (m + 1) LM1.out
            clear hK K
            refine wpAnyH_ready (rs := [10]) (by kernel_rfl) (by simp) ?_
            refine AllReadyH.cons rfl (fun K hK => ?_) AllReadyH.nil
            go_simp
            refine (K10.out _ _ ho9.seq).mono ?_
            rintro e w10 ⟨v10, rfl, hs10, hb⟩
            refine hK.out _ _ (KE.out _ (hHeld.1.trans (hb.mono hHeld.1.size))) (fun hHeld => ?_)
            obtain ⟨a10, k10, rfl, -, -, -, hs10⟩ := hs10.parts
            rw [LP.out] at hs10 ⊢
            clear hK K hb
            refine wpAnyH_ready (rs := [11]) (by kernel_rfl) (by simp) ?_
            refine AllReadyH.cons rfl (fun K hK => ?_) AllReadyH.nil
            go_simp
            refine (rsameTB (SBW.out _ hHeld.1) hs10 (decide_eq_true rfl)).mono ?_
            rintro e w11 ⟨rfl, hb⟩
            refine hK.out _ _ (KE.out _ (hHeld.1.trans (hb.mono hHeld.1.size))) (fun hHeld => ?_)
            clear hK K hb
            refine wpAnyH_take (i := 12) (v := ?_) rfl (by kernel_rfl) (by kernel_rfl) (by kernel_rfl) (fun _ _ _ h => h) (Or.inl ⟨by rfl, ?_⟩) hHeld ?_
            rotate_left
            · (intro w' hSw; (try dsimp only at hSw); go_simp; try with_reducible rfl)
            simp only [List.getElem_toArray, List.getElem_cons_zero, List.getElem_cons_succ, Act.put, List.setIfInBounds_toArray, List.set_cons_zero, List.set_cons_succ]
            refine wpAnyH_take (i := 13) (v := ?_) rfl (by kernel_rfl) (by kernel_rfl) (by kernel_rfl) (fun _ _ _ h => h) (Or.inl ⟨by rfl, ?_⟩) hHeld ?_
            rotate_left
            · (intro w' hSw; (try dsimp only at hSw); go_simp; try with_reducible rfl)
            simp only [List.getElem_toArray, List.getElem_cons_zero, List.getElem_cons_succ, Act.put, List.setIfInBounds_toArray, List.set_cons_zero, List.set_cons_succ]
            refine wpAnyH_take (i := 14) (v := ?_) rfl (by kernel_rfl) (by kernel_rfl) (by kernel_rfl) (fun _ _ _ h => h) (Or.inl ⟨by rfl, ?_⟩) hHeld ?_
            rotate_left
            · (intro w' hSw; (try dsimp only at hSw); go_simp; try with_reducible rfl)
            simp only [List.getElem_toArray, List.getElem_cons_zero, List.getElem_cons_succ, Act.put, List.setIfInBounds_toArray, List.set_cons_zero, List.set_cons_succ]
            refine wpAnyH_take (i := 15) (v := ?_) rfl (by kernel_rfl) (by kernel_rfl) (by kernel_rfl) (fun _ _ _ h => h) (Or.inl ⟨by rfl, ?_⟩) hHeld ?_
            rotate_left
            · (intro w' hSw; (try dsimp only at hSw); go_simp; try with_reducible rfl)
            simp only [List.getElem_toArray, List.getElem_cons_zero, List.getElem_cons_succ, Act.put, List.setIfInBounds_toArray, List.set_cons_zero, List.set_cons_succ]
            refine wpAnyH_take (i := 16) (v := ?_) rfl (by kernel_rfl) (by kernel_rfl) (by kernel_rfl) (fun _ _ _ h => h) (Or.inl ⟨by rfl, ?_⟩) hHeld ?_
            rotate_left
            · (intro w' hSw; (try dsimp only at hSw); go_simp; try with_reducible rfl)
            simp only [List.getElem_toArray, List.getElem_cons_zero, List.getElem_cons_succ, Act.put, List.setIfInBounds_toArray, List.set_cons_zero, List.set_cons_succ]
            refine wpAnyH_ready (rs := [17]) (by kernel_rfl) (by simp) ?_
            refine AllReadyH.cons rfl (fun K hK => ?_) AllReadyH.nil
            go_simp
            refine (rsameTB (SAO.out _ hHeld.1) (SBO.out _ hHeld.1) (decide_eq_true HR.out)).mono ?_
            rintro e w17 ⟨rfl, hb⟩
            refine hK.out _ _ (KE.out _ (hHeld.1.trans (hb.mono hHeld.1.size))) (fun hHeld => ?_)
            clear hK K hb
            refine wpAnyH_take (i := 18) (v := ?_) rfl (by kernel_rfl) (by kernel_rfl) (by kernel_rfl) (fun _ _ _ h => h) (Or.inl ⟨by rfl, ?_⟩) hHeld ?_
            rotate_left
            · (intro w' hSw; (try dsimp only at hSw); go_simp; try with_reducible rfl)
            simp only [List.getElem_toArray, List.getElem_cons_zero, List.getElem_cons_succ, Act.put, List.setIfInBounds_toArray, List.set_cons_zero, List.set_cons_succ]
            refine wpAnyH_take (i := 19) (v := ?_) rfl (by kernel_rfl) (by kernel_rfl) (by kernel_rfl) (fun _ _ _ h => h) (Or.inl ⟨by rfl, ?_⟩) hHeld ?_
            rotate_left
            · (intro w' hSw; (try dsimp only at hSw); go_simp; try with_reducible rfl)
            simp only [List.getElem_toArray, List.getElem_cons_zero, List.getElem_cons_succ, Act.put, List.setIfInBounds_toArray, List.set_cons_zero, List.set_cons_succ]
            refine wpAnyH_take (i := 20) (v := ?_) rfl (by kernel_rfl) (by kernel_rfl) (by kernel_rfl) (fun _ _ _ h => h) (Or.inl ⟨by rfl, ?_⟩) hHeld ?_
            rotate_left
            · (intro w' hSw; (try dsimp only at hSw); go_simp; try with_reducible rfl)
            simp only [List.getElem_toArray, List.getElem_cons_zero, List.getElem_cons_succ, Act.put, List.setIfInBounds_toArray, List.set_cons_zero, List.set_cons_succ]
            refine wpAnyH_take (i := 21) (v := ?_) rfl (by kernel_rfl) (by kernel_rfl) (by kernel_rfl) (fun _ _ _ h => h) (Or.inl ⟨by rfl, ?_⟩) hHeld ?_
            rotate_left
            · (intro w' hSw; (try dsimp only at hSw); go_simp; try with_reducible rfl)
            simp only [List.getElem_toArray, List.getElem_cons_zero, List.getElem_cons_succ, Act.put, List.setIfInBounds_toArray, List.set_cons_zero, List.set_cons_succ]
            refine wpAnyH_take (i := 22) (v := ?_) rfl (by kernel_rfl) (by kernel_rfl) (by kernel_rfl) (fun _ _ _ h => h) (Or.inl ⟨by rfl, ?_⟩) hHeld ?_
            rotate_left
            · (intro w' hSw; (try dsimp only at hSw); go_simp; try with_reducible rfl)
            simp only [List.getElem_toArray, List.getElem_cons_zero, List.getElem_cons_succ, Act.put, List.setIfInBounds_toArray, List.set_cons_zero, List.set_cons_succ]
            refine wpAnyH_take (i := 23) (v := ?_) rfl (by kernel_rfl) (by kernel_rfl) (by kernel_rfl) (fun _ _ _ h => h) (Or.inl ⟨by rfl, ?_⟩) hHeld ?_
            rotate_left
            · (intro w' hSw; (try dsimp only at hSw); go_simp; try with_reducible rfl)
            simp only [List.getElem_toArray, List.getElem_cons_zero, List.getElem_cons_succ, Act.put, List.setIfInBounds_toArray, List.set_cons_zero, List.set_cons_succ]
            refine wpAnyH_take (i := 24) (v := ?_) rfl (by kernel_rfl) (by kernel_rfl) (by kernel_rfl) (fun _ _ _ h => h) (Or.inl ⟨by rfl, ?_⟩) hHeld ?_
            rotate_left
            · (intro w' hSw; (try dsimp only at hSw); go_simp; try with_reducible rfl)
            simp only [List.getElem_toArray, List.getElem_cons_zero, List.getElem_cons_succ, Act.put, List.setIfInBounds_toArray, List.set_cons_zero, List.set_cons_succ]
            refine wpAnyH_take (i := 25) (v := ?_) rfl (by kernel_rfl) (by kernel_rfl) (by kernel_rfl) (fun _ _ _ h => h) (Or.inl ⟨by rfl, ?_⟩) hHeld ?_
            rotate_left
            · (intro w' hSw; (try dsimp only at hSw); go_simp; try with_reducible rfl)
            simp only [List.getElem_toArray, List.getElem_cons_zero, List.getElem_cons_succ, Act.put, List.setIfInBounds_toArray, List.set_cons_zero, List.set_cons_succ]
            refine wpAnyH_take (i := 26) (v := ?_) rfl (by kernel_rfl) (by kernel_rfl) (by kernel_rfl) (fun _ _ _ h => h) (Or.inl ⟨by rfl, ?_⟩) hHeld ?_
            rotate_left
            · (intro w' hSw; (try dsimp only at hSw); go_simp; try with_reducible rfl)
            simp only [List.getElem_toArray, List.getElem_cons_zero, List.getElem_cons_succ, Act.put, List.setIfInBounds_toArray, List.set_cons_zero, List.set_cons_succ]
            refine wpAnyH_done (by kernel_rfl) ?_ _
            go_wp2_with fail
            go_ret
            exact ⟨by rw [HT.out.1]; simp, G'.out.trans (hHeld.1.mono G'.out.size)⟩
        by_cases q2 : x.kind = 2
        · skip
          have HE := Lib.hid (MK.out.2.2.2.2 q2)
          have HR := Lib.hid (MK.out.1 (by rw [q2]; decide))
          have HT := Lib.hid (MK.out.2.2.1 (by rw [q2]; decide))
          have KE : Hid (∀ U, Below wc.heap.size wc U → Below wc.heap.size wc U ∧ (U.cell? ⟨g, 0, none⟩ = some (.slice a1 n1 c1) ∧ U.cell? ⟨g, 1, none⟩ = some (.slice a2 n2 c2) ∧ U.cell? ⟨g, 2, none⟩ = some (.int .i64 pa.total) ∧ U.cell? ⟨g, 3, none⟩ = some (.bool pa.over)) ∧ (U.cell? ⟨h, 0, none⟩ = some (.slice b1 m1 d1) ∧ U.cell? ⟨h, 1, none⟩ = some (.slice b2 m2 d2) ∧ U.cell? ⟨h, 2, none⟩ = some (.int .i64 pb.total) ∧ U.cell? ⟨h, 3, none⟩ = some (.bool pb.over)) ∧ U.cell? ⟨w.heap.size, 3, none⟩ = some (.string (bt x.elem))) := Lib.hid (fun U hU => ⟨hU, (KB.out.below hU).x, (KB.out.below hU).y, (IX.out.below hU).c.2.2.2.1⟩)
          have HLE : Hid (pa.regs.length ≤ 1000) := Lib.hid (by rw [← HPA.out]; have := MX.out.1; exact Nat.le_trans (vtexts_len l key field 2) (by omega))
          have K10 := Lib.hid (fun (W : World) (v : Value) (h : SeqT W v (pa.regs ++ [x.elem])) => ronceS h (by have := HLE.out; simp; omega))
          rw [← HE.out] at K10
          obtain ⟨m, hm⟩ : ∃ m, pa.regs.length = m := ⟨_, rfl⟩
          have LM := Lib.hid hm
          have LM1 : Hid ((pa.regs ++ [x.elem]).length = m + 1) := Lib.hid (by rw [List.length_append, LM.out]; rfl)
          obtain ⟨mp, hmp⟩ : ∃ m, pb.regs.length = m := ⟨_, rfl⟩
          have LP := Lib.hid hmp
          clear hm hmp
          have SAW := Lib.hid (fun (W : World) (h : Below wc.heap.size wc W) => SA.out.2.below h)
          have SBW := Lib.hid (fun (W : World) (h : Below wc.heap.size wc W) => SB.out.2.below h)
          have SAO := Lib.hid (fun (W : World) (h : Below wc.heap.size wc W) => SA.out.1.below h)
          have SBO := Lib.hid (fun (W : World) (h : Below wc.heap.size wc W) => SB.out.1.below h)
          go_upto_region 11 with fail
          refine wp_region_held_drew (S := fun U => Below wc.heap.size wc U ∧ (U.cell? ⟨g, 0, none⟩ = some (.slice a1 n1 c1) ∧ U.cell? ⟨g, 1, none⟩ = some (.slice a2 n2 c2) ∧ U.cell? ⟨g, 2, none⟩ = some (.int .i64 pa.total) ∧ U.cell? ⟨g, 3, none⟩ = some (.bool pa.over)) ∧ (U.cell? ⟨h, 0, none⟩ = some (.slice b1 m1 d1) ∧ U.cell? ⟨h, 1, none⟩ = some (.slice b2 m2 d2) ∧ U.cell? ⟨h, 2, none⟩ = some (.int .i64 pb.total) ∧ U.cell? ⟨h, 3, none⟩ = some (.bool pb.over)) ∧ U.cell? ⟨w.heap.size, 3, none⟩ = some (.string (bt x.elem))) (by kernel_rfl) ?_ (fun hHeld => ?_)
          · (exact KE.out _ (Below.refl _ _).drew)
          simp only [List.size_toArray, List.length_cons, List.length_nil, Nat.zero_add, Nat.reduceAdd]
          refine wpAnyH_take (i := 0) (v := ?_) rfl (by kernel_rfl) (by kernel_rfl) (by kernel_rfl) (fun _ _ _ h => h) (Or.inl ⟨by rfl, ?_⟩) hHeld ?_
          rotate_left
          · (intro w' hSw; (try dsimp only at hSw); go_simp; try with_reducible rfl)
          simp only [List.getElem_toArray, List.getElem_cons_zero, Act.put, List.setIfInBounds_toArray, List.set_cons_zero, List.set_cons_succ]
          refine wpAnyH_take (i := 1) (v := ?_) rfl (by kernel_rfl) (by kernel_rfl) (by kernel_rfl) (fun _ _ _ h => h) (Or.inl ⟨by rfl, ?_⟩) hHeld ?_
          rotate_left
          · (intro w' hSw; (try dsimp only at hSw); go_simp; try with_reducible rfl)
          simp only [List.getElem_toArray, List.getElem_cons_zero, List.getElem_cons_succ, Act.put, List.setIfInBounds_toArray, List.set_cons_zero, List.set_cons_succ]
          refine wpAnyH_take (i := 3) (v := ?_) rfl (by kernel_rfl) (by kernel_rfl) (by kernel_rfl) (fun _ _ _ h => h) (Or.inl ⟨by rfl, ?_⟩) hHeld ?_
          rotate_left
          · (intro w' hSw; (try dsimp only at hSw); go_simp; try with_reducible rfl)
          simp only [List.getElem_toArray, List.getElem_cons_zero, List.getElem_cons_succ, Act.put, List.setIfInBounds_toArray, List.set_cons_zero, List.set_cons_succ]
          refine wpAnyH_take (i := 4) (v := ?_) rfl (by kernel_rfl) (by kernel_rfl) (by kernel_rfl) (fun _ _ _ h => h) (Or.inl ⟨by rfl, ?_⟩) hHeld ?_
          rotate_left
          · (intro w' hSw; (try dsimp only at hSw); go_simp; try with_reducible rfl)
          simp only [List.getElem_toArray, List.getElem_cons_zero, List.getElem_cons_succ, Act.put, List.setIfInBounds_toArray, List.set_cons_zero, List.set_cons_succ]
          refine wpAnyH_take (i := 6) (v := ?_) rfl (by kernel_rfl) (by kernel_rfl) (by kernel_rfl) (fun _ _ _ h => h) (Or.inl ⟨by rfl, ?_⟩) hHeld ?_
          rotate_left
          · (intro w' hSw; (try dsimp only at hSw); go_simp; try with_reducible rfl)
          simp only [List.getElem_toArray, List.getElem_cons_zero, List.getElem_cons_succ, Act.put, List.setIfInBounds_toArray, List.set_cons_zero, List.set_cons_succ]
          refine wpAnyH_take (i := 7) (v := ?_) rfl (by kernel_rfl) (by kernel_rfl) (by kernel_rfl) (fun _ _ _ h => h) (Or.inl ⟨by rfl, ?_⟩) hHeld ?_
          rotate_left
          · (intro w' hSw; (try dsimp only at hSw); go_simp; try with_reducible rfl)
          simp only [List.getElem_toArray, List.getElem_cons_zero, List.getElem_cons_succ, Act.put, List.setIfInBounds_toArray, List.set_cons_zero, List.set_cons_succ]
          refine wpAnyH_ready (rs := [2, 8]) (by kernel_rfl) (by simp) ?_
          refine AllReadyH.cons rfl (fun K hK => ?_) (AllReadyH.cons rfl (fun K hK => ?_) AllReadyH.nil)
          · go_simp
            refine hK.out _ _ (KE.out _ ((Below.refl _ _).alloc (Nat.le_refl _) _).drew) (fun hHeld => ?_)
            clear hK K
            have OE : OwnsT wc.heap.size ((wc.alloc (.cells #[] 9)).drew) (.slice (some ⟨wc.heap.size, 0, none⟩) 0 0) [] := (OwnsT.empty wc wc.heap.size (Nat.le_refl _)).below (Below.refl _ _).drew (Nat.le_refl _)
            generalize (wc.alloc (.cells #[] 9)).drew = wd at *
            have hlt : wc.heap.size < wd.heap.size := (OE.lt _ rfl).2
            refine wpAnyH_ready (rs := [5, 8]) (by kernel_rfl) (by simp) ?_
            refine AllReadyH.cons rfl (fun K hK => ?_) (AllReadyH.cons rfl (fun K hK => ?_) AllReadyH.nil)
            · refine step_append_texts (by rfl) (.tmp 81) (.tmp 83) (by rfl) wc.heap.size (by rfl) OE (by rfl) (SAW.out _ hHeld.1) (by have := HLE.out; simp; omega) hHeld.1.size ?_
              intro v5 w5 ho5 hg5
              rw [List.nil_append] at ho5
              obtain ⟨a5, k5, rfl, -, -, ho5⟩ := ho5.at m LM.out
              have HB5 := hHeld.1.grown hg5 hHeld.1.size (fun j hj => (OE.lt j hj).1)
              refine hK.out _ _ (KE.out _ HB5) (fun hHeld => ?_)
              clear hK K
              refine wpAnyH_ready (rs := [8]) (by kernel_rfl) (by simp) ?_
              refine AllReadyH.cons rfl (fun K hK => ?_) AllReadyH.nil
              go_simp
              refine hK.out _ _ (KE.out _ (HB5.alloc HB5.size _)) (fun hHeld => ?_)
              clear hK K
              refine wpAnyH_ready (rs := [9]) (by kernel_rfl) (by simp) ?_
              refine AllReadyH.cons rfl (fun K hK => ?_) AllReadyH.nil
              refine step_append_texts (by rfl) (.tmp 84) (.tmp 87) (by rfl) _ (by rfl) (ho5.alloc _) (by rfl) (SeqT.one w5 x.elem) (by have := HLE.out; simp; omega) hHeld.1.size ?_
              intro v9 w9 ho9 hg9
              have HB9 := hHeld.1.grown hg9 hHeld.1.size (fun j hj => (ho5.lt j hj).1)
              refine hK.out _ _ (KE.out _ HB9) (fun hHeld => ?_)
              obtain ⟨a9, k9, rfl, -, -, ho9⟩ := ho9.at (m + 1) LM1.out
              clear hK K
              refine wpAnyH_ready (rs := [10]) (by kernel_rfl) (by simp) ?_
              refine AllReadyH.cons rfl (fun K hK => ?_) AllReadyH.nil
              go_simp
              refine (K10.out _ _ ho9.seq).mono ?_
              rintro e w10 ⟨v10, rfl, hs10, hb⟩
              refine hK.out _ _ (KE.out _ (hHeld.1.trans (hb.mono hHeld.1.size))) (fun hHeld => ?_)
              obtain ⟨a10, k10, rfl, -, -, -, hs10⟩ := hs10.parts
              rw [LP.out] at hs10 ⊢
              clear hK K hb
              refine wpAnyH_ready (rs := [11]) (by kernel_rfl) (by simp) ?_
              refine AllReadyH.cons rfl (fun K hK => ?_) AllReadyH.nil
              go_simp
              refine (rsameTB (SBW.out _ hHeld.1) hs10 (decide_eq_true rfl)).mono ?_
              rintro e w11 ⟨rfl, hb⟩
              refine hK.out _ _ (KE.out _ (hHeld.1.trans (hb.mono hHeld.1.size))) (fun hHeld => ?_)
              clear hK K hb
              refine wpAnyH_take (i := 12) (v := ?_) rfl (by kernel_rfl) (by kernel_rfl) (by kernel_rfl) (fun _ _ _ h => h) (Or.inl ⟨by rfl, ?_⟩) hHeld ?_
              rotate_left
              · (intro w' hSw; (try dsimp only at hSw); go_simp; try with_reducible rfl)
              simp only [List.getElem_toArray, List.getElem_cons_zero, List.getElem_cons_succ, Act.put, List.setIfInBounds_toArray, List.set_cons_zero, List.set_cons_succ]
              refine wpAnyH_take (i := 13) (v := ?_) rfl (by kernel_rfl) (by kernel_rfl) (by kernel_rfl) (fun _ _ _ h => h) (Or.inl ⟨by rfl, ?_⟩) hHeld ?_
              rotate_left
              · (intro w' hSw; (try dsimp only at hSw); go_simp; try with_reducible rfl)
              simp only [List.getElem_toArray, List.getElem_cons_zero, List.getElem_cons_succ, Act.put, List.setIfInBounds_toArray, List.set_cons_zero, List.set_cons_succ]
              refine wpAnyH_take (i := 14) (v := ?_) rfl (by kernel_rfl) (by kernel_rfl) (by kernel_rfl) (fun _ _ _ h => h) (Or.inl ⟨by rfl, ?_⟩) hHeld ?_
              rotate_left
              · (intro w' hSw; (try dsimp only at hSw); go_simp; try with_reducible rfl)
              simp only [List.getElem_toArray, List.getElem_cons_zero, List.getElem_cons_succ, Act.put, List.setIfInBounds_toArray, List.set_cons_zero, List.set_cons_succ]
              refine wpAnyH_take (i := 15) (v := ?_) rfl (by kernel_rfl) (by kernel_rfl) (by kernel_rfl) (fun _ _ _ h => h) (Or.inl ⟨by rfl, ?_⟩) hHeld ?_
              rotate_left
              · (intro w' hSw; (try dsimp only at hSw); go_simp; try with_reducible rfl)
              simp only [List.getElem_toArray, List.getElem_cons_zero, List.getElem_cons_succ, Act.put, List.setIfInBounds_toArray, List.set_cons_zero, List.set_cons_succ]
              refine wpAnyH_take (i := 16) (v := ?_) rfl (by kernel_rfl) (by kernel_rfl) (by kernel_rfl) (fun _ _ _ h => h) (Or.inl ⟨by rfl, ?_⟩) hHeld ?_
              rotate_left
              · (intro w' hSw; (try dsimp only at hSw); go_simp; try with_reducible rfl)
              simp only [List.getElem_toArray, List.getElem_cons_zero, List.getElem_cons_succ, Act.put, List.setIfInBounds_toArray, List.set_cons_zero, List.set_cons_succ]
              refine wpAnyH_ready (rs := [17]) (by kernel_rfl) (by simp) ?_
              refine AllReadyH.cons rfl (fun K hK => ?_) AllReadyH.nil
              go_simp
              refine (rsameTB (SAO.out _ hHeld.1) (SBO.out _ hHeld.1) (decide_eq_true HR.out)).mono ?_
              rintro e w17 ⟨rfl, hb⟩
              refine hK.out _ _ (KE.out _ (hHeld.1.trans (hb.mono hHeld.1.size))) (fun hHeld => ?_)
              clear hK K hb
              refine wpAnyH_take (i := 18) (v := ?_) rfl (by kernel_rfl) (by kernel_rfl) (by kernel_rfl) (fun _ _ _ h => h) (Or.inl ⟨by rfl, ?_⟩) hHeld ?_
              rotate_left
              · (intro w' hSw; (try dsimp only at hSw); go_simp; try with_reducible rfl)
              simp only [List.getElem_toArray, List.getElem_cons_zero, List.getElem_cons_succ, Act.put, List.setIfInBounds_toArray, List.set_cons_zero, List.set_cons_succ]
              refine wpAnyH_take (i := 19) (v := ?_) rfl (by kernel_rfl) (by kernel_rfl) (by kernel_rfl) (fun _ _ _ h => h) (Or.inl ⟨by rfl, ?_⟩) hHeld ?_
              rotate_left
              · (intro w' hSw; (try dsimp only at hSw); go_simp; try with_reducible rfl)
              simp only [List.getElem_toArray, List.getElem_cons_zero, List.getElem_cons_succ, Act.put, List.setIfInBounds_toArray, List.set_cons_zero, List.set_cons_succ]
              refine wpAnyH_take (i := 20) (v := ?_) rfl (by kernel_rfl) (by kernel_rfl) (by kernel_rfl) (fun _ _ _ h => h) (Or.inl ⟨by rfl, ?_⟩) hHeld ?_
              rotate_left
              · (intro w' hSw; (try dsimp only at hSw); go_simp; try with_reducible rfl)
              simp only [List.getElem_toArray, List.getElem_cons_zero, List.getElem_cons_succ, Act.put, List.setIfInBounds_toArray, List.set_cons_zero, List.set_cons_succ]
              refine wpAnyH_take (i := 21) (v := ?_) rfl (by kernel_rfl) (by kernel_rfl) (by kernel_rfl) (fun _ _ _ h => h) (Or.inl ⟨by rfl, ?_⟩) hHeld ?_
              rotate_left
              · (intro w' hSw; (try dsimp only at hSw); go_simp; try with_reducible rfl)
              simp only [List.getElem_toArray, List.getElem_cons_zero, List.getElem_cons_succ, Act.put, List.setIfInBounds_toArray, List.set_cons_zero, List.set_cons_succ]
              refine wpAnyH_take (i := 22) (v := ?_) rfl (by kernel_rfl) (by kernel_rfl) (by kernel_rfl) (fun _ _ _ h => h) (Or.inl ⟨by rfl, ?_⟩) hHeld ?_
              rotate_left
              · (intro w' hSw; (try dsimp only at hSw); go_simp; try with_reducible rfl)
              simp only [List.getElem_toArray, List.getElem_cons_zero, List.getElem_cons_succ, Act.put, List.setIfInBounds_toArray, List.set_cons_zero, List.set_cons_succ]
              refine wpAnyH_take (i := 23) (v := ?_) rfl (by kernel_rfl) (by kernel_rfl) (by kernel_rfl) (fun _ _ _ h => h) (Or.inl ⟨by rfl, ?_⟩) hHeld ?_
              rotate_left
              · (intro w' hSw; (try dsimp only at hSw); go_simp; try with_reducible rfl)
              simp only [List.getElem_toArray, List.getElem_cons_zero, List.getElem_cons_succ, Act.put, List.setIfInBounds_toArray, List.set_cons_zero, List.set_cons_succ]
              refine wpAnyH_take (i := 24) (v := ?_) rfl (by kernel_rfl) (by kernel_rfl) (by kernel_rfl) (fun _ _ _ h => h) (Or.inl ⟨by rfl, ?_⟩) hHeld ?_
              rotate_left
              · (intro w' hSw; (try dsimp only at hSw); go_simp; try with_reducible rfl)
              simp only [List.getElem_toArray, List.getElem_cons_zero, List.getElem_cons_succ, Act.put, List.setIfInBounds_toArray, List.set_cons_zero, List.set_cons_succ]
              refine wpAnyH_take (i := 25) (v := ?_) rfl (by kernel_rfl) (by kernel_rfl) (by kernel_rfl) (fun _ _ _ h => h) (Or.inl ⟨by rfl, ?_⟩) hHeld ?_
              rotate_left
              · (intro w' hSw; (try dsimp only at hSw); go_simp; try with_reducible rfl)
              simp only [List.getElem_toArray, List.getElem_cons_zero, List.getElem_cons_succ, Act.put, List.setIfInBounds_toArray, List.set_cons_zero, List.set_cons_succ]
              refine wpAnyH_take (i := 26) (v := ?_) rfl (by kernel_rfl) (by kernel_rfl) (by kernel_rfl) (fun _ _ _ h => h) (Or.inl ⟨by rfl, ?_⟩) hHeld ?_
              rotate_left
              · (intro w' hSw; (try dsimp only at hSw); go_simp; try with_reducible rfl)
              simp only [List.getElem_toArray, List.getElem_cons_zero, List.getElem_cons_succ, Act.put, List.setIfInBounds_toArray, List.set_cons_zero, List.set_cons_succ]
              refine wpAnyH_done (by kernel_rfl) ?_ _
              go_wp2_with fail
              go_ret
              exact ⟨by rw [HT.out.1]; simp, G'.out.trans (hHeld.1.mono G'.out.size)⟩
            · go_simp
              refine hK.out _ _ (KE.out _ (hHeld.1.alloc hHeld.1.size _)) (fun hHeld => ?_)
              clear hK K
              replace OE := OE.alloc (.cells #[.string (bt x.elem)] 9)
              have S1 := SeqT.one wd x.elem
              unfold tv at S1
              generalize (wd.alloc (.cells #[.string (bt x.elem)] 9)) = we at *
              refine wpAnyH_ready (rs := [5]) (by kernel_rfl) (by simp) ?_
              refine AllReadyH.cons rfl (fun K hK => ?_) AllReadyH.nil
              refine step_append_texts (by rfl) (.tmp 81) (.tmp 83) (by rfl) wc.heap.size (by rfl) OE (by rfl) (SAW.out _ hHeld.1) (by have := HLE.out; simp; omega) hHeld.1.size ?_
              intro v5 w5 ho5 hg5
              rw [List.nil_append] at ho5
              obtain ⟨a5, k5, rfl, -, -, ho5⟩ := ho5.at m LM.out
              have HB5 := hHeld.1.grown hg5 hHeld.1.size (fun j hj => (OE.lt j hj).1)
              refine hK.out _ _ (KE.out _ HB5) (fun hHeld => ?_)
              replace S1 := one_kept S1 hg5 (by simp [Value.ownBlock]; omega)
              clear hK K
              refine wpAnyH_ready (rs := [9]) (by kernel_rfl) (by simp) ?_
              refine AllReadyH.cons rfl (fun K hK => ?_) AllReadyH.nil
              refine step_append_texts (by rfl) (.tmp 84) (.tmp 87) (by rfl) _ (by rfl) (ho5) (by rfl) (S1) (by have := HLE.out; simp; omega) hHeld.1.size ?_
              intro v9 w9 ho9 hg9
              have HB9 := hHeld.1.grown hg9 hHeld.1.size (fun j hj => (ho5.lt j hj).1)
              refine hK.out _ _ (KE.out _ HB9) (fun hHeld => ?_)
              obtain ⟨a9, k9, rfl, -, -, ho9⟩ := ho9.at (m + 1) LM1.out
              clear hK K
              refine wpAnyH_ready (rs := [10]) (by kernel_rfl) (by simp) ?_
              refine AllReadyH.cons rfl (fun K hK => ?_) AllReadyH.nil
              go_simp
              refine (K10.out _ _ ho9.seq).mono ?_
              rintro e w10 ⟨v10, rfl, hs10, hb⟩
              refine hK.out _ _ (KE.out _ (hHeld.1.trans (hb.mono hHeld.1.size))) (fun hHeld => ?_)
              obtain ⟨a10, k10, rfl, -, -, -, hs10⟩ := hs10.parts
              rw [LP.out] at hs10 ⊢
              clear hK K hb
              refine wpAnyH_ready (rs := [11]) (by kernel_rfl) (by simp) ?_
              refine AllReadyH.cons rfl (fun K hK => ?_) AllReadyH.nil
              go_simp
              refine (rsameTB (SBW.out _ hHeld.1) hs10 (decide_eq_true rfl)).mono ?_
              rintro e w11 ⟨rfl, hb⟩
              refine hK.out _ _ (KE.out _ (hHeld.1.trans (hb.mono hHeld.1.size))) (fun hHeld => ?_)
              clear hK K hb
              refine wpAnyH_take (i := 12) (v := ?_) rfl (by kernel_rfl) (by kernel_rfl) (by kernel_rfl) (fun _ _ _ h => h) (Or.inl ⟨by rfl, ?_⟩) hHeld ?_
              rotate_left
              · (intro w' hSw; (try dsimp only at hSw); go_simp; try with_reducible rfl)
              simp only [List.getElem_toArray, List.getElem_cons_zero, List.getElem_cons_succ, Act.put, List.setIfInBounds_toArray, List.set_cons_zero, List.set_cons_succ]
              refine wpAnyH_take (i := 13) (v := ?_) rfl (by kernel_rfl) (by kernel_rfl) (by kernel_rfl) (fun _ _ _ h => h) (Or.inl ⟨by rfl, ?_⟩) hHeld ?_
              rotate_left
              · (intro w' hSw; (try dsimp only at hSw); go_simp; try with_reducible rfl)
              simp only [List.getElem_toArray, List.getElem_cons_zero, List.getElem_cons_succ, Act.put, List.setIfInBounds_toArray, List.set_cons_zero, List.set_cons_succ]
              refine wpAnyH_take (i := 14) (v := ?_) rfl (by kernel_rfl) (by kernel_rfl) (by kernel_rfl) (fun _ _ _ h => h) (Or.inl ⟨by rfl, ?_⟩) hHeld ?_
              rotate_left
              · (intro w' hSw; (try dsimp only at hSw); go_simp; try with_reducible rfl)
              simp only [List.getElem_toArray, List.getElem_cons_zero, List.getElem_cons_succ, Act.put, List.setIfInBounds_toArray, List.set_cons_zero, List.set_cons_succ]
              refine wpAnyH_take (i := 15) (v := ?_) rfl (by kernel_rfl) (by kernel_rfl) (by kernel_rfl) (fun _ _ _ h => h) (Or.inl ⟨by rfl, ?_⟩) hHeld ?_
              rotate_left
              · (intro w' hSw; (try dsimp only at hSw); go_simp; try with_reducible rfl)
              simp only [List.getElem_toArray, List.getElem_cons_zero, List.getElem_cons_succ, Act.put, List.setIfInBounds_toArray, List.set_cons_zero, List.set_cons_succ]
              refine wpAnyH_take (i := 16) (v := ?_) rfl (by kernel_rfl) (by kernel_rfl) (by kernel_rfl) (fun _ _ _ h => h) (Or.inl ⟨by rfl, ?_⟩) hHeld ?_
              rotate_left
              · (intro w' hSw; (try dsimp only at hSw); go_simp; try with_reducible rfl)
              simp only [List.getElem_toArray, List.getElem_cons_zero, List.getElem_cons_succ, Act.put, List.setIfInBounds_toArray, List.set_cons_zero, List.set_cons_succ]
              refine wpAnyH_ready (rs := [17]) (by kernel_rfl) (by simp) ?_
              refine AllReadyH.cons rfl (fun K hK => ?_) AllReadyH.nil
              go_simp
              refine (rsameTB (SAO.out _ hHeld.1) (SBO.out _ hHeld.1) (decide_eq_true HR.out)).mono ?_
              rintro e w17 ⟨rfl, hb⟩
              refine hK.out _ _ (KE.out _ (hHeld.1.trans (hb.mono hHeld.1.size))) (fun hHeld => ?_)
              clear hK K hb
              refine wpAnyH_take (i := 18) (v := ?_) rfl (by kernel_rfl) (by kernel_rfl) (by kernel_rfl) (fun _ _ _ h => h) (Or.inl ⟨by rfl, ?_⟩) hHeld ?_
              rotate_left
              · (intro w' hSw; (try dsimp only at hSw); go_simp; try with_reducible rfl)
              simp only [List.getElem_toArray, List.getElem_cons_zero, List.getElem_cons_succ, Act.put, List.setIfInBounds_toArray, List.set_cons_zero, List.set_cons_succ]
              refine wpAnyH_take (i := 19) (v := ?_) rfl (by kernel_rfl) (by kernel_rfl) (by kernel_rfl) (fun _ _ _ h => h) (Or.inl ⟨by rfl, ?_⟩) hHeld ?_
              rotate_left
              · (intro w' hSw; (try dsimp only at hSw); go_simp; try with_reducible rfl)
              simp only [List.getElem_toArray, List.getElem_cons_zero, List.getElem_cons_succ, Act.put, List.setIfInBounds_toArray, List.set_cons_zero, List.set_cons_succ]
              refine wpAnyH_take (i := 20) (v := ?_) rfl (by kernel_rfl) (by kernel_rfl) (by kernel_rfl) (fun _ _ _ h => h) (Or.inl ⟨by rfl, ?_⟩) hHeld ?_
              rotate_left
              · (intro w' hSw; (try dsimp only at hSw); go_simp; try with_reducible rfl)
              simp only [List.getElem_toArray, List.getElem_cons_zero, List.getElem_cons_succ, Act.put, List.setIfInBounds_toArray, List.set_cons_zero, List.set_cons_succ]
              refine wpAnyH_take (i := 21) (v := ?_) rfl (by kernel_rfl) (by kernel_rfl) (by kernel_rfl) (fun _ _ _ h => h) (Or.inl ⟨by rfl, ?_⟩) hHeld ?_
              rotate_left
              · (intro w' hSw; (try dsimp only at hSw); go_simp; try with_reducible rfl)
              simp only [List.getElem_toArray, List.getElem_cons_zero, List.getElem_cons_succ, Act.put, List.setIfInBounds_toArray, List.set_cons_zero, List.set_cons_succ]
              refine wpAnyH_take (i := 22) (v := ?_) rfl (by kernel_rfl) (by kernel_rfl) (by kernel_rfl) (fun _ _ _ h => h) (Or.inl ⟨by rfl, ?_⟩) hHeld ?_
              rotate_left
              · (intro w' hSw; (try dsimp only at hSw); go_simp; try with_reducible rfl)
              simp only [List.getElem_toArray, List.getElem_cons_zero, List.getElem_cons_succ, Act.put, List.setIfInBounds_toArray, List.set_cons_zero, List.set_cons_succ]
              refine wpAnyH_take (i := 23) (v := ?_) rfl (by kernel_rfl) (by kernel_rfl) (by kernel_rfl) (fun _ _ _ h => h) (Or.inl ⟨by rfl, ?_⟩) hHeld ?_
              rotate_left
              · (intro w' hSw; (try dsimp only at hSw); go_simp; try with_reducible rfl)
              simp only [List.getElem_toArray, List.getElem_cons_zero, List.getElem_cons_succ, Act.put, List.setIfInBounds_toArray, List.set_cons_zero, List.set_cons_succ]
              refine wpAnyH_take (i := 24) (v := ?_) rfl (by kernel_rfl) (by kernel_rfl) (by kernel_rfl) (fun _ _ _ h => h) (Or.inl ⟨by rfl, ?_⟩) hHeld ?_
              rotate_left
              · (intro w' hSw; (try dsimp only at hSw); go_simp; try with_reducible rfl)
              simp only [List.getElem_toArray, List.getElem_cons_zero, List.getElem_cons_succ, Act.put, List.setIfInBounds_toArray, List.set_cons_zero, List.set_cons_succ]
              refine wpAnyH_take (i := 25) (v := ?_) rfl (by kernel_rfl) (by kernel_rfl) (by kernel_rfl) (fun _ _ _ h => h) (Or.inl ⟨by rfl, ?_⟩) hHeld ?_
              rotate_left
              · (intro w' hSw; (try dsimp only at hSw); go_simp; try with_reducible rfl)
              simp only [List.getElem_toArray, List.getElem_cons_zero, List.getElem_cons_succ, Act.put, List.setIfInBounds_toArray, List.set_cons_zero, List.set_cons_succ]
              refine wpAnyH_take (i := 26) (v := ?_) rfl (by kernel_rfl) (by kernel_rfl) (by kernel_rfl) (fun _ _ _ h => h) (Or.inl ⟨by rfl, ?_⟩) hHeld ?_
              rotate_left
              · (intro w' hSw; (try dsimp only at hSw); go_simp; try with_reducible rfl)
              simp only [List.getElem_toArray, List.getElem_cons_zero, List.getElem_cons_succ, Act.put, List.setIfInBounds_toArray, List.set_cons_zero, List.set_cons_succ]
              refine wpAnyH_done (by kernel_rfl) ?_ _
              go_wp2_with fail
              go_ret
              exact ⟨by rw [HT.out.1]; simp, G'.out.trans (hHeld.1.mono G'.out.size)⟩
          · go_simp
            refine hK.out _ _ (KE.out _ ((Below.refl _ _).alloc (Nat.le_refl _) _).drew) (fun hHeld => ?_)
            clear hK K
            have S1 := (SeqT.one wc x.elem).below ((Below.refl _ _).drew)
            unfold tv at S1
            generalize (wc.alloc (.cells #[.string (bt x.elem)] 9)).drew = wd at *
            refine wpAnyH_ready (rs := [2]) (by kernel_rfl) (by simp) ?_
            refine AllReadyH.cons rfl (fun K hK => ?_) AllReadyH.nil
            go_simp
            refine hK.out _ _ (KE.out _ (hHeld.1.alloc hHeld.1.size _)) (fun hHeld => ?_)
            clear hK K
            have hlt : wc.heap.size < wd.heap.size := by obtain ⟨_, _, hv, _, _, _, h3⟩ := S1; simp only [Value.slice.injEq] at hv; obtain ⟨rfl, -, -⟩ := hv; obtain ⟨b, off, he, hc⟩ := h3 (by simp); cases he; exact World.block_lt_of_cell? _ _ (hc 0 (by simp))
            have OE := OwnsT.empty wd wc.heap.size (by omega)
            replace S1 := S1.below_alloc (.cells #[] 9)
            generalize (wd.alloc (.cells #[] 9)) = we at *
            refine wpAnyH_ready (rs := [5]) (by kernel_rfl) (by simp) ?_
            refine AllReadyH.cons rfl (fun K hK => ?_) AllReadyH.nil
            refine step_append_texts (by rfl) (.tmp 81) (.tmp 83) (by rfl) wc.heap.size (by rfl) OE (by rfl) (SAW.out _ hHeld.1) (by have := HLE.out; simp; omega) hHeld.1.size ?_
            intro v5 w5 ho5 hg5
            rw [List.nil_append] at ho5
            obtain ⟨a5, k5, rfl, -, -, ho5⟩ := ho5.at m LM.out
            have HB5 := hHeld.1.grown hg5 hHeld.1.size (fun j hj => (OE.lt j hj).1)
            refine hK.out _ _ (KE.out _ HB5) (fun hHeld => ?_)
            replace S1 := one_kept S1 hg5 (by simp [Value.ownBlock]; omega)
            clear hK K
            refine wpAnyH_ready (rs := [9]) (by kernel_rfl) (by simp) ?_
            refine AllReadyH.cons rfl (fun K hK => ?_) AllReadyH.nil
            refine step_append_texts (by rfl) (.tmp 84) (.tmp 87) (by rfl) _ (by rfl) (ho5) (by rfl) (S1) (by have := HLE.out; simp; omega) hHeld.1.size ?_
            intro v9 w9 ho9 hg9
            have HB9 := hHeld.1.grown hg9 hHeld.1.size (fun j hj => (ho5.lt j hj).1)
            refine hK.out _ _ (KE.out _ HB9) (fun hHeld => ?_)
            obtain ⟨a9, k9, rfl, -, -, ho9⟩ := ho9.at (m + 1) LM1.out
            clear hK K
            refine wpAnyH_ready (rs := [10]) (by kernel_rfl) (by simp) ?_
            refine AllReadyH.cons rfl (fun K hK => ?_) AllReadyH.nil
            go_simp
            refine (K10.out _ _ ho9.seq).mono ?_
            rintro e w10 ⟨v10, rfl, hs10, hb⟩
            refine hK.out _ _ (KE.out _ (hHeld.1.trans (hb.mono hHeld.1.size))) (fun hHeld => ?_)
            obtain ⟨a10, k10, rfl, -, -, -, hs10⟩ := hs10.parts
            rw [LP.out] at hs10 ⊢
            clear hK K hb
            refine wpAnyH_ready (rs := [11]) (by kernel_rfl) (by simp) ?_
            refine AllReadyH.cons rfl (fun K hK => ?_) AllReadyH.nil
            go_simp
            refine (rsameTB (SBW.out _ hHeld.1) hs10 (decide_eq_true rfl)).mono ?_
            rintro e w11 ⟨rfl, hb⟩
            refine hK.out _ _ (KE.out _ (hHeld.1.trans (hb.mono hHeld.1.size))) (fun hHeld => ?_)
            clear hK K hb
            refine wpAnyH_take (i := 12) (v := ?_) rfl (by kernel_rfl) (by kernel_rfl) (by kernel_rfl) (fun _ _ _ h => h) (Or.inl ⟨by rfl, ?_⟩) hHeld ?_
            rotate_left
            · (intro w' hSw; (try dsimp only at hSw); go_simp; try with_reducible rfl)
            simp only [List.getElem_toArray, List.getElem_cons_zero, List.getElem_cons_succ, Act.put, List.setIfInBounds_toArray, List.set_cons_zero, List.set_cons_succ]
            refine wpAnyH_take (i := 13) (v := ?_) rfl (by kernel_rfl) (by kernel_rfl) (by kernel_rfl) (fun _ _ _ h => h) (Or.inl ⟨by rfl, ?_⟩) hHeld ?_
            rotate_left
            · (intro w' hSw; (try dsimp only at hSw); go_simp; try with_reducible rfl)
            simp only [List.getElem_toArray, List.getElem_cons_zero, List.getElem_cons_succ, Act.put, List.setIfInBounds_toArray, List.set_cons_zero, List.set_cons_succ]
            refine wpAnyH_take (i := 14) (v := ?_) rfl (by kernel_rfl) (by kernel_rfl) (by kernel_rfl) (fun _ _ _ h => h) (Or.inl ⟨by rfl, ?_⟩) hHeld ?_
            rotate_left
            · (intro w' hSw; (try dsimp only at hSw); go_simp; try with_reducible rfl)
            simp only [List.getElem_toArray, List.getElem_cons_zero, List.getElem_cons_succ, Act.put, List.setIfInBounds_toArray, List.set_cons_zero, List.set_cons_succ]
            refine wpAnyH_take (i := 15) (v := ?_) rfl (by kernel_rfl) (by kernel_rfl) (by kernel_rfl) (fun _ _ _ h => h) (Or.inl ⟨by rfl, ?_⟩) hHeld ?_
            rotate_left
            · (intro w' hSw; (try dsimp only at hSw); go_simp; try with_reducible rfl)
            simp only [List.getElem_toArray, List.getElem_cons_zero, List.getElem_cons_succ, Act.put, List.setIfInBounds_toArray, List.set_cons_zero, List.set_cons_succ]
            refine wpAnyH_take (i := 16) (v := ?_) rfl (by kernel_rfl) (by kernel_rfl) (by kernel_rfl) (fun _ _ _ h => h) (Or.inl ⟨by rfl, ?_⟩) hHeld ?_
            rotate_left
            · (intro w' hSw; (try dsimp only at hSw); go_simp; try with_reducible rfl)
            simp only [List.getElem_toArray, List.getElem_cons_zero, List.getElem_cons_succ, Act.put, List.setIfInBounds_toArray, List.set_cons_zero, List.set_cons_succ]
            refine wpAnyH_ready (rs := [17]) (by kernel_rfl) (by simp) ?_
            refine AllReadyH.cons rfl (fun K hK => ?_) AllReadyH.nil
            go_simp
            refine (rsameTB (SAO.out _ hHeld.1) (SBO.out _ hHeld.1) (decide_eq_true HR.out)).mono ?_
            rintro e w17 ⟨rfl, hb⟩
            refine hK.out _ _ (KE.out _ (hHeld.1.trans (hb.mono hHeld.1.size))) (fun hHeld => ?_)
            clear hK K hb
            refine wpAnyH_take (i := 18) (v := ?_) rfl (by kernel_rfl) (by kernel_rfl) (by kernel_rfl) (fun _ _ _ h => h) (Or.inl ⟨by rfl, ?_⟩) hHeld ?_
            rotate_left
            · (intro w' hSw; (try dsimp only at hSw); go_simp; try with_reducible rfl)
            simp only [List.getElem_toArray, List.getElem_cons_zero, List.getElem_cons_succ, Act.put, List.setIfInBounds_toArray, List.set_cons_zero, List.set_cons_succ]
            refine wpAnyH_take (i := 19) (v := ?_) rfl (by kernel_rfl) (by kernel_rfl) (by kernel_rfl) (fun _ _ _ h => h) (Or.inl ⟨by rfl, ?_⟩) hHeld ?_
            rotate_left
            · (intro w' hSw; (try dsimp only at hSw); go_simp; try with_reducible rfl)
            simp only [List.getElem_toArray, List.getElem_cons_zero, List.getElem_cons_succ, Act.put, List.setIfInBounds_toArray, List.set_cons_zero, List.set_cons_succ]
            refine wpAnyH_take (i := 20) (v := ?_) rfl (by kernel_rfl) (by kernel_rfl) (by kernel_rfl) (fun _ _ _ h => h) (Or.inl ⟨by rfl, ?_⟩) hHeld ?_
            rotate_left
            · (intro w' hSw; (try dsimp only at hSw); go_simp; try with_reducible rfl)
            simp only [List.getElem_toArray, List.getElem_cons_zero, List.getElem_cons_succ, Act.put, List.setIfInBounds_toArray, List.set_cons_zero, List.set_cons_succ]
            refine wpAnyH_take (i := 21) (v := ?_) rfl (by kernel_rfl) (by kernel_rfl) (by kernel_rfl) (fun _ _ _ h => h) (Or.inl ⟨by rfl, ?_⟩) hHeld ?_
            rotate_left
            · (intro w' hSw; (try dsimp only at hSw); go_simp; try with_reducible rfl)
            simp only [List.getElem_toArray, List.getElem_cons_zero, List.getElem_cons_succ, Act.put, List.setIfInBounds_toArray, List.set_cons_zero, List.set_cons_succ]
            refine wpAnyH_take (i := 22) (v := ?_) rfl (by kernel_rfl) (by kernel_rfl) (by kernel_rfl) (fun _ _ _ h => h) (Or.inl ⟨by rfl, ?_⟩) hHeld ?_
            rotate_left
            · (intro w' hSw; (try dsimp only at hSw); go_simp; try with_reducible rfl)
            simp only [List.getElem_toArray, List.getElem_cons_zero, List.getElem_cons_succ, Act.put, List.setIfInBounds_toArray, List.set_cons_zero, List.set_cons_succ]
            refine wpAnyH_take (i := 23) (v := ?_) rfl (by kernel_rfl) (by kernel_rfl) (by kernel_rfl) (fun _ _ _ h => h) (Or.inl ⟨by rfl, ?_⟩) hHeld ?_
            rotate_left
            · (intro w' hSw; (try dsimp only at hSw); go_simp; try with_reducible rfl)
            simp only [List.getElem_toArray, List.getElem_cons_zero, List.getElem_cons_succ, Act.put, List.setIfInBounds_toArray, List.set_cons_zero, List.set_cons_succ]
            refine wpAnyH_take (i := 24) (v := ?_) rfl (by kernel_rfl) (by kernel_rfl) (by kernel_rfl) (fun _ _ _ h => h) (Or.inl ⟨by rfl, ?_⟩) hHeld ?_
            rotate_left
            · (intro w' hSw; (try dsimp only at hSw); go_simp; try with_reducible rfl)
            simp only [List.getElem_toArray, List.getElem_cons_zero, List.getElem_cons_succ, Act.put, List.setIfInBounds_toArray, List.set_cons_zero, List.set_cons_succ]
            refine wpAnyH_take (i := 25) (v := ?_) rfl (by kernel_rfl) (by kernel_rfl) (by kernel_rfl) (fun _ _ _ h => h) (Or.inl ⟨by rfl, ?_⟩) hHeld ?_
            rotate_left
            · (intro w' hSw; (try dsimp only at hSw); go_simp; try with_reducible rfl)
            simp only [List.getElem_toArray, List.getElem_cons_zero, List.getElem_cons_succ, Act.put, List.setIfInBounds_toArray, List.set_cons_zero, List.set_cons_succ]
            refine wpAnyH_take (i := 26) (v := ?_) rfl (by kernel_rfl) (by kernel_rfl) (by kernel_rfl) (fun _ _ _ h => h) (Or.inl ⟨by rfl, ?_⟩) hHeld ?_
            rotate_left
            · (intro w' hSw; (try dsimp only at hSw); go_simp; try with_reducible rfl)
            simp only [List.getElem_toArray, List.getElem_cons_zero, List.getElem_cons_succ, Act.put, List.setIfInBounds_toArray, List.set_cons_zero, List.set_cons_succ]
            refine wpAnyH_done (by kernel_rfl) ?_ _
            go_wp2_with fail
            go_ret
            exact ⟨by rw [HT.out.1]; simp, G'.out.trans (hHeld.1.mono G'.out.size)⟩
        have HE := Lib.hid (MK.out.1 q1)
        have HR := Lib.hid (MK.out.2.1 q2)
        by_cases q3 : x.kind = 3
        · go_upto_region 12 with fail
          go_wp2_with fail
          refine (rsameTB SA.out.1 SB.out.1 (decide_eq_true HE.out)).mono ?_
          rintro e u7 ⟨rfl, hb⟩
          clear i0 i1 i2 i3 x0 x1 x2 x3 y0 y1 y2 y3
          replace G' := Lib.hid (G'.out.trans (hb.mono G'.out.size))
          replace IX := Lib.hid (IX.out.below hb)
          replace KB := Lib.hid (KB.out.below hb)
          replace KA := Lib.hid (KA.out.below hb)
          replace KC := Lib.hid (KC.out.below hb)
          replace SA := Lib.hid KA.out.seqs
          replace SB := Lib.hid KC.out.seqs
          clear hb
          obtain ⟨i0, i1, i2, i3, i4, i5, i6, i7⟩ := IX.out
          obtain ⟨⟨x0, x1, x2, x3⟩, ⟨y0, y1, y2, y3⟩⟩ := KB.out
          clear i4 i5 i6 i7
          go_wp2_with fail
          refine (rsameTB SA.out.2 SB.out.2 (decide_eq_true HR.out)).mono ?_
          rintro e u8 ⟨rfl, hb⟩
          clear i0 i1 i2 i3 x0 x1 x2 x3 y0 y1 y2 y3
          replace G' := Lib.hid (G'.out.trans (hb.mono G'.out.size))
          replace IX := Lib.hid (IX.out.below hb)
          replace KB := Lib.hid (KB.out.below hb)
          replace KA := Lib.hid (KA.out.below hb)
          replace KC := Lib.hid (KC.out.below hb)
          replace SA := Lib.hid KA.out.seqs
          replace SB := Lib.hid KC.out.seqs
          clear hb
          obtain ⟨i0, i1, i2, i3, i4, i5, i6, i7⟩ := IX.out
          obtain ⟨⟨x0, x1, x2, x3⟩, ⟨y0, y1, y2, y3⟩⟩ := KB.out
          clear i4 i5 i6 i7
          go_wp2_with fail
          go_ret
          exact ⟨rfl, G'.out⟩
        · have HT := Lib.hid (MK.out.2.2.1 q3)
          have HV : Hid (pa = pb) := Lib.hid (by cases pa; cases pb; simp only [PVal.mk.injEq]; exact ⟨HE.out, HR.out, HT.out.1, HT.out.2⟩)
          go_upto_region 12 with fail
          go_wp2_with fail
          refine (rsameTB SA.out.1 SB.out.1 (decide_eq_true HE.out)).mono ?_
          rintro e u7 ⟨rfl, hb⟩
          clear i0 i1 i2 i3 x0 x1 x2 x3 y0 y1 y2 y3
          replace G' := Lib.hid (G'.out.trans (hb.mono G'.out.size))
          replace IX := Lib.hid (IX.out.below hb)
          replace KB := Lib.hid (KB.out.below hb)
          replace KA := Lib.hid (KA.out.below hb)
          replace KC := Lib.hid (KC.out.below hb)
          replace SA := Lib.hid KA.out.seqs
          replace SB := Lib.hid KC.out.seqs
          clear hb
          obtain ⟨i0, i1, i2, i3, i4, i5, i6, i7⟩ := IX.out
          obtain ⟨⟨x0, x1, x2, x3⟩, ⟨y0, y1, y2, y3⟩⟩ := KB.out
          clear i4 i5 i6 i7
          go_wp2_with fail
          refine (rsameTB SA.out.2 SB.out.2 (decide_eq_true HR.out)).mono ?_
          rintro e u8 ⟨rfl, hb⟩
          clear i0 i1 i2 i3 x0 x1 x2 x3 y0 y1 y2 y3
          replace G' := Lib.hid (G'.out.trans (hb.mono G'.out.size))
          replace IX := Lib.hid (IX.out.below hb)
          replace KB := Lib.hid (KB.out.below hb)
          replace KA := Lib.hid (KA.out.below hb)
          replace KC := Lib.hid (KC.out.below hb)
          replace SA := Lib.hid KA.out.seqs
          replace SB := Lib.hid KC.out.seqs
          clear hb
          obtain ⟨i0, i1, i2, i3, i4, i5, i6, i7⟩ := IX.out
          obtain ⟨⟨x0, x1, x2, x3⟩, ⟨y0, y1, y2, y3⟩⟩ := KB.out
          clear i4 i5 i6 i7
          go_wp2_with fail
          refine (vsameB KA.out KC.out (decide_eq_true HV.out)).mono ?_
          rintro e u9 ⟨rfl, hb⟩
          clear i0 i1 i2 i3 x0 x1 x2 x3 y0 y1 y2 y3
          replace G' := Lib.hid (G'.out.trans (hb.mono G'.out.size))
          replace IX := Lib.hid (IX.out.below hb)
          replace KB := Lib.hid (KB.out.below hb)
          replace KA := Lib.hid (KA.out.below hb)
          replace KC := Lib.hid (KC.out.below hb)
          replace SA := Lib.hid KA.out.seqs
          replace SB := Lib.hid KC.out.seqs
          clear hb
          obtain ⟨i0, i1, i2, i3, i4, i5, i6, i7⟩ := IX.out
          obtain ⟨⟨x0, x1, x2, x3⟩, ⟨y0, y1, y2, y3⟩⟩ := KB.out
          clear i4 i5 i6 i7
          go_wp2_with fail
          go_ret
          exact ⟨rfl, G'.out⟩

set_option maxRecDepth 100000 in
theorem lifted (os : Os) (started : os.Started) (H : Type) (enc : TypeId × Value → H) :
    ReturnsInHanded {} Try.checked os 5 .any (Rows.viewMoreSpec.pre6 enc Try.prog Try.f5 Rows.viewMoreRow.domain false) (Rows.viewMoreSpec.post enc Try.prog Try.f5 false true false false) := by
  refine returnsInHanded_of_change (C := Try.checked) own started (by kernel_rfl) Try.func5
    (ChangeSpec.witness6 (enc := enc) (C := Try.checked) false ⟨#[], #[.slice none 0 0, .agg #[.string ByteArray.empty, .string ByteArray.empty, .int .i64 0, .string ByteArray.empty, .int .i64 0, .int .i64 0, .int .i64 0, .int .i64 0], .string ByteArray.empty, .string ByteArray.empty], []⟩ 8 (by kernel_rfl) (by kernel_rfl) (by kernel_rfl) (by kernel_rfl)) ?_
  intro W base args ds gs before hval0 hW hcnd _
  have hval : ∀ (j : Nat) t v, Try.f5.params[j]? = some t → args[j]? = some v → Value.okWide Try.prog W .any base t v := hval0
  have hW' := hW
  obtain ⟨p, q, hA0, hV, rfl, hfz, hnd⟩ := hW
  have hA : DataW.TrodAll enc Try.prog W 0 (fun _ => true) true Try.f5.params.toList args.toList ds p := hA0
  rw [Try.params5] at hA hval
  obtain ⟨v0, vs0, d0, ds0, p0, q0, hargs, rfl, rfl, h0, r0⟩ := trodAll_cons hA
  obtain ⟨v1, vs1, d1, ds1, p1, q1, rfl, rfl, rfl, h1, r1⟩ := trodAll_cons r0
  obtain ⟨v2, vs2, d2, ds2, p2, q2, rfl, rfl, rfl, h2, r2⟩ := trodAll_cons r1
  obtain ⟨v3, vs3, d3, ds3, p3, q3, rfl, rfl, rfl, h3, r3⟩ := trodAll_cons r2
  obtain ⟨rfl, rfl, rfl⟩ := trodAll_nil r3
  obtain rfl : args = #[v0, v1, v2, v3] := by cases args; simp_all
  obtain ⟨rfl, rfl⟩ := trodVars_none hV
  have k0 := h0
  have lt0 : ∀ x ∈ p0, x.block < W.heap.size := by obtain ⟨m, hm⟩ := k0; exact DataW.trod_lt m _ _ _ hm
  have w0 := open0 (hval 0 22 v0 rfl rfl) h0
  have k1 := h1
  have lt1 : ∀ x ∈ p1, x.block < W.heap.size := by obtain ⟨m, hm⟩ := k1; exact DataW.trod_lt m _ _ _ hm
  have w1 := open1 (hval 1 40 v1 rfl rfl) h1
  obtain ⟨a2, rfl, rfl, rfl, w2⟩ := open_string Try.underlying9 (hval 2 9 v2 rfl rfl) h2
  obtain ⟨a3, rfl, rfl, rfl, w3⟩ := open_string Try.underlying9 (hval 3 9 v3 rfl rfl) h3
  clear hA0 hval0
  refine (walk v0 v1 a2 a3 W w0 w1 w2 w3).mono fun e W' ⟨he, bel⟩ => ?_
  subst he
  exact ⟨_, rfl, _, _, _, [], _, [], hW', trodAll_mk1 (shut_bool Try.underlying4 _), (trodAll_cons_mk (Below.trod laidOut (by kernel_rfl) (of_decide_eq_true (by kernel_rfl)) k0 bel lt0) (trodAll_cons_mk (Below.trod laidOut (by kernel_rfl) (of_decide_eq_true (by kernel_rfl)) k1 bel lt1) (trodAll_cons_mk (shut_string Try.underlying9 w2) (trodAll_cons_mk (shut_string Try.underlying9 w3) trodAll_mk0)))), rfl, bel.frame _, fun h => by cases h⟩

theorem over : Rows.viewMoreRow.holds Try.pinned (OpenSpec.ofChange Rows.viewMoreSpec) :=
  OpenClaim.holds_of_wide 5 Try.f5 rfl rfl rfl rfl rfl rfl rfl ⟨rfl, rfl, rfl, rfl, rfl⟩ rfl rfl rfl rfl rfl (by kernel_rfl) Try.func5 (by kernel_rfl)
    (of_decide_eq_true (by kernel_rfl)) (by unfold Func.isWrapper; first | (rw [if_pos (by decide +kernel)]; kernel_rfl) | (rw [if_neg (by decide +kernel)]; exact ⟨rfl, rfl⟩))
    (fun os started H enc _ => lifted os started H enc)

/-- the given statement -/
theorem proved : Rows.ViewMoreSaid := over
#print axioms proved
end Go.Proofs.Ytpkmjddjllpglaa.viewMore
