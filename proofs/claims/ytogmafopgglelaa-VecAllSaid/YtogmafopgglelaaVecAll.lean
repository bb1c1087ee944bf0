/-
  For any two vectors, of which the first 100 numbers count each, any two numbers and any dot the law VecAll answers true: what is asked of them, trimmed and laid together is the document's answer, and they stay as they are. No condition.
  (The frame was written by the guide's proof-skeleton.mjs; turned for a struct by value; the walk is ours.)
-/
import Derived.Test.YtogmafopgglelaaRows
import Derived.WalkKit
import Derived.ProofKit
import Derived.OpenShut
import Derived.ShutString
import Derived.ChangeOld
import Derived.Below
import Derived.Test.YtogmafopgglelaaOpenV
import Derived.Deep.RegionHeld3
namespace Go.Proofs.Ytogmafopgglelaa.vecAll
open Go.ChangeShapes Go.WideShapes Go.ChangeAt Go.RowKit
open Go.ChangeMaps (open_string shut_string)
set_option linter.unusedVariables false

theorem own : ownKnob Try.prog.godebug = none := by kernel_rfl
theorem laidOut : laidOutB Try.prog = true := by kernel_rfl

open Plain

theorem open4 {H : Type} {enc : TypeId × Value → H} {W : World} {r : Reach} {b : Nat} {v : Value} {d : DataW H} {p : List MemPlace} (hv : Value.okWide Try.prog W r b 25 v) (h : DataW.Trod enc Try.prog W 0 (fun _ => true) true 25 v d p) : IsDot v := dot_of_trod hv h

set_option maxRecDepth 100000 in
set_option maxHeartbeats 16000000 in
theorem walk (a0 : Option Addr) (n0 c0 : Nat) (z0 : List Int) (a1 : Option Addr) (n1 c1 : Nat) (z1 : List Int) (x2 x3 : Int) (v4 : Value) (w : World) (w0 : IsRow .i64 w a0 n0 c0 z0) (w1 : IsRow .i64 w a1 n1 c1 z1) (w2 : (Lit.int .i64 x2).wf = true) (w3 : (Lit.int .i64 x3).wf = true) (w4 : IsDot v4) :
    Calls Try.prog 3 #[.slice a0 n0 c0, .slice a1 n1 c1, .int .i64 x2, .int .i64 x3, v4] w fun e w' => e = .returned (.bool true) ∧ Below w.heap.size w w' := by
  obtain ⟨p, q, r, rfl⟩ := w4
  obtain ⟨xs, m0, hl0, s0, f0⟩ := few_of w0
  have Sx := Lib.hid s0
  have Lx := Lib.hid hl0
  have Fx := Lib.hid f0
  obtain ⟨ys, m1, hl1, s1, f1⟩ := few_of w1
  have Sy := Lib.hid s1
  have Ly := Lib.hid hl1
  have Fy := Lib.hid f1
  have G : Hid (Below w.heap.size w (w.alloc (.cells #[.int .i64 p, .int .i64 q, .int .i64 r] 25))) := Lib.hid ((Below.refl _ _).alloc (Nat.le_refl _) _)
  have D := Lib.hid (IsDotB.new w p q r 25)
  replace Sx := Lib.hid (Sx.out.below G.out)
  replace Sy := Lib.hid (Sy.out.below G.out)
  obtain ⟨g, hg⟩ : ∃ g, saysI xs x2 = g := ⟨_, rfl⟩
  have HG := Lib.hid hg
  obtain ⟨e1, he1⟩ : ∃ e, errW x2 x3 = e := ⟨_, rfl⟩
  have HE := Lib.hid he1
  have b1 : (e1 != e1) = false := by simp
  have b2 : (g != g) = false := by simp
  clear w0 w1 w2 w3 s0 f0 hl0 s1 f1 hl1 hg he1
  go_enter Try.func3, Try.ntmps3
  go_wp2_with fail
  refine (awake_any _).mono ?_
  rintro e u2 ⟨rfl, hb⟩
  replace Sx := Lib.hid (Sx.out.below hb)
  replace Sy := Lib.hid (Sy.out.below hb)
  replace D := Lib.hid (D.out.below hb)
  replace G := Lib.hid (G.out.trans (hb.mono G.out.size))
  clear hb
  go_wp2_with fail
  refine (Fx.out _).mono ?_
  rintro e w' ⟨rfl, rfl⟩
  go_wp2_with fail
  refine (Fy.out _).mono ?_
  rintro e w' ⟨rfl, rfl⟩
  go_wp2_with fail
  refine (rcopyS Sx.out Lx.out).mono ?_
  rintro e u3 ⟨v3, rfl, ho, hb⟩
  replace Sx := Lib.hid (Sx.out.below hb)
  replace Sy := Lib.hid (Sy.out.below hb)
  replace D := Lib.hid (D.out.below hb)
  replace G := Lib.hid (G.out.trans (hb.mono G.out.size))
  have SX := Lib.hid ho.seq
  clear ho hb
  go_wp2_with fail
  refine (rcopyS Sy.out Ly.out).mono ?_
  rintro e u4 ⟨v4, rfl, ho, hb⟩
  replace Sx := Lib.hid (Sx.out.below hb)
  replace Sy := Lib.hid (Sy.out.below hb)
  replace D := Lib.hid (D.out.below hb)
  replace SX := Lib.hid (SX.out.below hb)
  replace G := Lib.hid (G.out.trans (hb.mono G.out.size))
  have SY := Lib.hid ho.seq
  clear ho hb
  go_wp2_with fail
  have KW := Lib.hid (withS SX.out Lx.out x2 x3)
  rw [HE.out] at KW
  refine KW.out.mono ?_
  rintro e u5 ⟨v5, rfl, ho, hb⟩
  clear KW
  replace Sx := Lib.hid (Sx.out.below hb)
  replace Sy := Lib.hid (Sy.out.below hb)
  replace D := Lib.hid (D.out.below hb)
  replace SX := Lib.hid (SX.out.below hb)
  replace SY := Lib.hid (SY.out.below hb)
  replace G := Lib.hid (G.out.trans (hb.mono G.out.size))
  have SW := Lib.hid ho
  clear ho hb
  go_wp2_with fail
  have KW := Lib.hid (rwithS Sx.out Lx.out x2 x3)
  rw [HE.out] at KW
  refine KW.out.mono ?_
  rintro e u6 ⟨v6, rfl, ho, hb⟩
  clear KW
  replace Sx := Lib.hid (Sx.out.below hb)
  replace Sy := Lib.hid (Sy.out.below hb)
  replace D := Lib.hid (D.out.below hb)
  replace SX := Lib.hid (SX.out.below hb)
  replace SY := Lib.hid (SY.out.below hb)
  replace SW := Lib.hid (SW.out.below hb)
  replace G := Lib.hid (G.out.trans (hb.mono G.out.size))
  have SU := Lib.hid ho
  clear ho hb
  go_wp2_with fail
  refine (equalB SW.out SU.out rfl).mono ?_
  rintro e u7 ⟨rfl, hb⟩
  replace Sx := Lib.hid (Sx.out.below hb)
  replace Sy := Lib.hid (Sy.out.below hb)
  replace D := Lib.hid (D.out.below hb)
  replace SX := Lib.hid (SX.out.below hb)
  replace SY := Lib.hid (SY.out.below hb)
  replace SW := Lib.hid (SW.out.below hb)
  replace SU := Lib.hid (SU.out.below hb)
  replace G := Lib.hid (G.out.trans (hb.mono G.out.size))
  clear hb
  clear SW
  clear SU
  go_wp2_with fail
  refine (atS SX.out HG.out).mono ?_
  rintro e w' ⟨rfl, rfl⟩
  go_wp2_with fail
  refine (ratS Sx.out HG.out).mono ?_
  rintro e w' ⟨rfl, rfl⟩
  go_wp2_with fail
  refine (trimS SX.out Lx.out).mono ?_
  rintro e u8 ⟨v8, rfl, ho, hb⟩
  replace Sx := Lib.hid (Sx.out.below hb)
  replace Sy := Lib.hid (Sy.out.below hb)
  replace D := Lib.hid (D.out.below hb)
  replace SX := Lib.hid (SX.out.below hb)
  replace SY := Lib.hid (SY.out.below hb)
  replace G := Lib.hid (G.out.trans (hb.mono G.out.size))
  have Ss := Lib.hid ho.seq
  clear ho hb
  go_wp2_with fail
  refine (rtrimS Sx.out Lx.out).mono ?_
  rintro e u9 ⟨v9, rfl, ho, hb⟩
  replace Sx := Lib.hid (Sx.out.below hb)
  replace Sy := Lib.hid (Sy.out.below hb)
  replace D := Lib.hid (D.out.below hb)
  replace SX := Lib.hid (SX.out.below hb)
  replace SY := Lib.hid (SY.out.below hb)
  replace Ss := Lib.hid (Ss.out.below hb)
  replace G := Lib.hid (G.out.trans (hb.mono G.out.size))
  have St := Lib.hid ho.seq
  clear ho hb
  go_wp2_with fail
  refine (equalB Ss.out St.out rfl).mono ?_
  rintro e u10 ⟨rfl, hb⟩
  replace Sx := Lib.hid (Sx.out.below hb)
  replace Sy := Lib.hid (Sy.out.below hb)
  replace D := Lib.hid (D.out.below hb)
  replace SX := Lib.hid (SX.out.below hb)
  replace SY := Lib.hid (SY.out.below hb)
  replace Ss := Lib.hid (Ss.out.below hb)
  replace St := Lib.hid (St.out.below hb)
  replace G := Lib.hid (G.out.trans (hb.mono G.out.size))
  clear hb
  clear Ss
  clear St
  go_wp2_with fail
  refine (joinS SX.out SY.out Lx.out Ly.out).mono ?_
  rintro e u11 ⟨v11, rfl, ho, hb⟩
  replace Sx := Lib.hid (Sx.out.below hb)
  replace Sy := Lib.hid (Sy.out.below hb)
  replace D := Lib.hid (D.out.below hb)
  replace SX := Lib.hid (SX.out.below hb)
  replace SY := Lib.hid (SY.out.below hb)
  replace G := Lib.hid (G.out.trans (hb.mono G.out.size))
  have Ss := Lib.hid ho.seq
  clear ho hb
  go_wp2_with fail
  refine (rjoinS Sx.out Sy.out Lx.out Ly.out).mono ?_
  rintro e u12 ⟨v12, rfl, ho, hb⟩
  replace Sx := Lib.hid (Sx.out.below hb)
  replace Sy := Lib.hid (Sy.out.below hb)
  replace D := Lib.hid (D.out.below hb)
  replace SX := Lib.hid (SX.out.below hb)
  replace SY := Lib.hid (SY.out.below hb)
  replace Ss := Lib.hid (Ss.out.below hb)
  replace G := Lib.hid (G.out.trans (hb.mono G.out.size))
  have St := Lib.hid ho.seq
  clear ho hb
  go_wp2_with fail
  refine (equalB Ss.out St.out rfl).mono ?_
  rintro e u13 ⟨rfl, hb⟩
  replace Sx := Lib.hid (Sx.out.below hb)
  replace Sy := Lib.hid (Sy.out.below hb)
  replace D := Lib.hid (D.out.below hb)
  replace SX := Lib.hid (SX.out.below hb)
  replace SY := Lib.hid (SY.out.below hb)
  replace Ss := Lib.hid (Ss.out.below hb)
  replace St := Lib.hid (St.out.below hb)
  replace G := Lib.hid (G.out.trans (hb.mono G.out.size))
  clear hb
  clear Ss
  clear St
  go_wp2_with fail
  refine (meetS SX.out SY.out Lx.out Ly.out).mono ?_
  rintro e u14 ⟨v14, rfl, ho, hb⟩
  replace Sx := Lib.hid (Sx.out.below hb)
  replace Sy := Lib.hid (Sy.out.below hb)
  replace D := Lib.hid (D.out.below hb)
  replace SX := Lib.hid (SX.out.below hb)
  replace SY := Lib.hid (SY.out.below hb)
  replace G := Lib.hid (G.out.trans (hb.mono G.out.size))
  have Ss := Lib.hid ho.seq
  clear ho hb
  go_wp2_with fail
  refine (rmeetS Sx.out Sy.out Lx.out Ly.out).mono ?_
  rintro e u15 ⟨v15, rfl, ho, hb⟩
  replace Sx := Lib.hid (Sx.out.below hb)
  replace Sy := Lib.hid (Sy.out.below hb)
  replace D := Lib.hid (D.out.below hb)
  replace SX := Lib.hid (SX.out.below hb)
  replace SY := Lib.hid (SY.out.below hb)
  replace Ss := Lib.hid (Ss.out.below hb)
  replace G := Lib.hid (G.out.trans (hb.mono G.out.size))
  have St := Lib.hid ho.seq
  clear ho hb
  go_wp2_with fail
  refine (equalB Ss.out St.out rfl).mono ?_
  rintro e u16 ⟨rfl, hb⟩
  replace Sx := Lib.hid (Sx.out.below hb)
  replace Sy := Lib.hid (Sy.out.below hb)
  replace D := Lib.hid (D.out.below hb)
  replace SX := Lib.hid (SX.out.below hb)
  replace SY := Lib.hid (SY.out.below hb)
  replace Ss := Lib.hid (Ss.out.below hb)
  replace St := Lib.hid (St.out.below hb)
  replace G := Lib.hid (G.out.trans (hb.mono G.out.size))
  clear hb
  clear Ss
  clear St
  obtain ⟨i, hi⟩ : ∃ i, Plain.within xs ys = i := ⟨_, rfl⟩
  have HI := Lib.hid hi
  have b3 : (i != i) = false := by simp
  clear hi
  go_wp2_with fail
  refine (withinR SX.out SY.out Lx.out HI.out).mono ?_
  rintro e w' ⟨rfl, rfl⟩
  go_wp2_with fail
  refine (rwithinR Sx.out Sy.out Lx.out Ly.out HI.out).mono ?_
  rintro e u17 ⟨rfl, hb⟩
  replace Sx := Lib.hid (Sx.out.below hb)
  replace Sy := Lib.hid (Sy.out.below hb)
  replace D := Lib.hid (D.out.below hb)
  replace SX := Lib.hid (SX.out.below hb)
  replace SY := Lib.hid (SY.out.below hb)
  replace G := Lib.hid (G.out.trans (hb.mono G.out.size))
  clear hb
  clear b1 b2 b3
  go_wp2_with fail
  have KE : Hid (∀ u', Below u17.heap.size u17 u' → Below u17.heap.size u17 u' ∧ (u'.cell? ⟨w.heap.size, 0, none⟩ = some (.int .i64 p) ∧ u'.cell? ⟨w.heap.size, 1, none⟩ = some (.int .i64 q) ∧ u'.cell? ⟨w.heap.size, 2, none⟩ = some (.int .i64 r))) := Lib.hid (fun u' h => ⟨h, D.out.below h⟩)
  obtain ⟨t, ht⟩ : ∃ t, saysI xs p = t := ⟨_, rfl⟩
  have K2 : Hid (∀ u', Below u17.heap.size u17 u' → Calls _ _ _ u' _) := Lib.hid (fun u' h => ratS (Sx.out.below h) ht)
  have K3 : Hid (∀ u', Below u17.heap.size u17 u' → Calls _ _ _ u' _) := Lib.hid (fun u' h => equalB (SX.out.below h) (Sx.out.below h) rfl)
  have K4 : Hid (∀ u', Below u17.heap.size u17 u' → Calls _ _ _ u' _) := Lib.hid (fun u' h => equalB (SY.out.below h) (Sy.out.below h) rfl)
  have HT := Lib.hid ht
  clear ht
  by_cases h1 : 1 ≤ q
  · by_cases h2 : q ≤ t
    · have K1 : Hid (∀ u', Below u17.heap.size u17 u' → Calls _ _ _ u' _) := Lib.hid (fun u' h => hasS (p := p) (q := q) (r := r) (b := true) (SX.out.below h) (by rw [HT.out]; simp; omega))
      have d1 : decide (1 ≤ q) = true := decide_eq_true h1
      have d2 : decide (q ≤ t) = true := decide_eq_true h2
      clear h1 h2
      go_region_held3 (fun u' => Below u17.heap.size u17 u' ∧ (u'.cell? ⟨w.heap.size, 0, none⟩ = some (.int .i64 p) ∧ u'.cell? ⟨w.heap.size, 1, none⟩ = some (.int .i64 q) ∧ u'.cell? ⟨w.heap.size, 2, none⟩ = some (.int .i64 r)))
        (first | (exact KE.out _ (Below.refl _ _).drew) | (exact KE.out _ (by assumption : _ ∧ _).1) | (exact KE.out _ (holdV (by assumption) hb)))
        (first
          | (go_at_call 22; (with_reducible refine (K1.out _ (by assumption : _ ∧ _).1).mono ?_); rintro e s1 ⟨rfl, hb⟩)
          | (go_at_call 14; (with_reducible refine (K2.out _ (by assumption : _ ∧ _).1).mono ?_); rintro e s2 ⟨rfl, rfl⟩)
          | (go_at_call 12; (with_reducible refine (K3.out _ (by assumption : _ ∧ _).1).mono ?_); rintro e s3 ⟨rfl, hb⟩)
          | (go_at_call 12; (with_reducible refine (K4.out _ (by assumption : _ ∧ _).1).mono ?_); rintro e s4 ⟨rfl, hb⟩))
      go_wp2_with fail
      have HH := (by assumption : _ ∧ _)
      go_ret
      exact ⟨rfl, G.out.trans (HH.1.mono G.out.size)⟩
    · have K1 : Hid (∀ u', Below u17.heap.size u17 u' → Calls _ _ _ u' _) := Lib.hid (fun u' h => hasS (p := p) (q := q) (r := r) (b := false) (SX.out.below h) (by rw [HT.out]; simp; omega))
      have d1 : decide (1 ≤ q) = true := decide_eq_true h1
      have d2 : decide (q ≤ t) = false := decide_eq_false h2
      clear h1 h2
      go_region_held3 (fun u' => Below u17.heap.size u17 u' ∧ (u'.cell? ⟨w.heap.size, 0, none⟩ = some (.int .i64 p) ∧ u'.cell? ⟨w.heap.size, 1, none⟩ = some (.int .i64 q) ∧ u'.cell? ⟨w.heap.size, 2, none⟩ = some (.int .i64 r)))
        (first | (exact KE.out _ (Below.refl _ _).drew) | (exact KE.out _ (by assumption : _ ∧ _).1) | (exact KE.out _ (holdV (by assumption) hb)))
        (first
          | (go_at_call 22; (with_reducible refine (K1.out _ (by assumption : _ ∧ _).1).mono ?_); rintro e s1 ⟨rfl, hb⟩)
          | (go_at_call 14; (with_reducible refine (K2.out _ (by assumption : _ ∧ _).1).mono ?_); rintro e s2 ⟨rfl, rfl⟩)
          | (go_at_call 12; (with_reducible refine (K3.out _ (by assumption : _ ∧ _).1).mono ?_); rintro e s3 ⟨rfl, hb⟩)
          | (go_at_call 12; (with_reducible refine (K4.out _ (by assumption : _ ∧ _).1).mono ?_); rintro e s4 ⟨rfl, hb⟩))
      go_wp2_with fail
      have HH := (by assumption : _ ∧ _)
      go_ret
      exact ⟨rfl, G.out.trans (HH.1.mono G.out.size)⟩
  · have K1 : Hid (∀ u', Below u17.heap.size u17 u' → Calls _ _ _ u' _) := Lib.hid (fun u' h => hasS (p := p) (q := q) (r := r) (b := false) (SX.out.below h) (by rw [HT.out]; simp; omega))
    have d1 : decide (1 ≤ q) = false := decide_eq_false h1
    clear h1
    refine wp_region_held_drew (S := fun u' => Below u17.heap.size u17 u' ∧ (u'.cell? ⟨w.heap.size, 0, none⟩ = some (.int .i64 p) ∧ u'.cell? ⟨w.heap.size, 1, none⟩ = some (.int .i64 q) ∧ u'.cell? ⟨w.heap.size, 2, none⟩ = some (.int .i64 r))) (by kernel_rfl) ?_ (fun hHeld => ?_)
    · (exact KE.out _ (Below.refl _ _).drew)
    simp only [List.size_toArray, List.length_cons, List.length_nil, Nat.zero_add, Nat.reduceAdd]
    refine wpAnyH_take (i := 0) (v := ?_) rfl (by kernel_rfl) (by kernel_rfl) (by kernel_rfl) (fun _ _ _ h => h) (Or.inl ⟨by rfl, ?_⟩) hHeld ?_
    rotate_left
    · (intro w' hSw; (try dsimp only at hSw); go_simp; try with_reducible rfl)
    simp only [List.getElem_toArray, List.getElem_cons_zero, Act.put, List.setIfInBounds_toArray, List.set_cons_zero, List.set_cons_succ]
    refine wpAnyH_take (i := 1) (v := ?_) rfl (by kernel_rfl) (by kernel_rfl) (by kernel_rfl) (fun _ _ _ h => h) (Or.inl ⟨by rfl, ?_⟩) hHeld ?_
    rotate_left
    · (intro w' hSw; (try dsimp only at hSw); go_simp; try with_reducible rfl)
    simp only [List.getElem_toArray, List.getElem_cons_zero, List.getElem_cons_succ, Act.put, List.setIfInBounds_toArray, List.set_cons_zero, List.set_cons_succ]
    refine wpAnyH_take (i := 3) (v := ?_) rfl (by kernel_rfl) (by kernel_rfl) (by kernel_rfl) (fun _ _ _ h => h) (Or.inl ⟨by rfl, ?_⟩) hHeld ?_
    rotate_left
    · (intro w' hSw; (try dsimp only at hSw); go_simp; try with_reducible rfl)
    simp only [List.getElem_toArray, List.getElem_cons_zero, List.getElem_cons_succ, Act.put, List.setIfInBounds_toArray, List.set_cons_zero, List.set_cons_succ]
    refine wpAnyH_take (i := 4) (v := ?_) rfl (by kernel_rfl) (by kernel_rfl) (by kernel_rfl) (fun _ _ _ h => h) (Or.inl ⟨by rfl, ?_⟩) hHeld ?_
    rotate_left
    · (intro w' hSw; (try dsimp only at hSw); go_simp; try with_reducible rfl)
    simp only [List.getElem_toArray, List.getElem_cons_zero, List.getElem_cons_succ, Act.put, List.setIfInBounds_toArray, List.set_cons_zero, List.set_cons_succ]
    refine wpAnyH_take (i := 5) (v := ?_) rfl (by kernel_rfl) (by kernel_rfl) (by kernel_rfl) (fun _ _ _ h => h) (Or.inl ⟨by rfl, ?_⟩) hHeld ?_
    rotate_left
    · (intro w' hSw; (try dsimp only at hSw); go_simp; try with_reducible rfl)
    simp only [List.getElem_toArray, List.getElem_cons_zero, List.getElem_cons_succ, Act.put, List.setIfInBounds_toArray, List.set_cons_zero, List.set_cons_succ]
    refine wpAnyH_ready (rs := [2]) (by kernel_rfl) (by simp) ?_
    refine AllReadyH.cons rfl (fun K hK => ?_) AllReadyH.nil
    go_simp
    refine (K1.out _ hHeld.1).mono ?_
    rintro e s1 ⟨rfl, hb⟩
    refine hK.out _ _ (KE.out _ (holdV hHeld hb)) (fun hHeld => ?_)
    clear hK K hb
    refine wpAnyH_take (i := 6) (v := ?_) rfl (by kernel_rfl) (by kernel_rfl) (by kernel_rfl) (fun _ _ _ h => h) (Or.inl ⟨by rfl, ?_⟩) hHeld ?_
    rotate_left
    · (intro w' hSw; (try dsimp only at hSw); go_simp; try with_reducible rfl)
    simp only [List.getElem_toArray, List.getElem_cons_zero, List.getElem_cons_succ, Act.put, List.setIfInBounds_toArray, List.set_cons_zero, List.set_cons_succ]
    refine wpAnyH_take (i := 7) (v := undef) rfl (by kernel_rfl) (by kernel_rfl) (by kernel_rfl) (fun _ _ _ h => h) (Or.inr ⟨by rfl, rfl⟩) hHeld ?_
    simp only [List.getElem_toArray, List.getElem_cons_zero, List.getElem_cons_succ, Act.put, List.setIfInBounds_toArray, List.set_cons_zero, List.set_cons_succ]
    refine wpAnyH_take (i := 8) (v := undef) rfl (by kernel_rfl) (by kernel_rfl) (by kernel_rfl) (fun _ _ _ h => h) (Or.inr ⟨by rfl, rfl⟩) hHeld ?_
    simp only [List.getElem_toArray, List.getElem_cons_zero, List.getElem_cons_succ, Act.put, List.setIfInBounds_toArray, List.set_cons_zero, List.set_cons_succ]
    refine wpAnyH_take (i := 9) (v := undef) rfl (by kernel_rfl) (by kernel_rfl) (by kernel_rfl) (fun _ _ _ h => h) (Or.inr ⟨by rfl, rfl⟩) hHeld ?_
    simp only [List.getElem_toArray, List.getElem_cons_zero, List.getElem_cons_succ, Act.put, List.setIfInBounds_toArray, List.set_cons_zero, List.set_cons_succ]
    refine wpAnyH_take (i := 10) (v := undef) rfl (by kernel_rfl) (by kernel_rfl) (by kernel_rfl) (fun _ _ _ h => h) (Or.inr ⟨by rfl, rfl⟩) hHeld ?_
    simp only [List.getElem_toArray, List.getElem_cons_zero, List.getElem_cons_succ, Act.put, List.setIfInBounds_toArray, List.set_cons_zero, List.set_cons_succ]
    refine wpAnyH_take (i := 11) (v := undef) rfl (by kernel_rfl) (by kernel_rfl) (by kernel_rfl) (fun _ _ _ h => h) (Or.inr ⟨by rfl, rfl⟩) hHeld ?_
    simp only [List.getElem_toArray, List.getElem_cons_zero, List.getElem_cons_succ, Act.put, List.setIfInBounds_toArray, List.set_cons_zero, List.set_cons_succ]
    refine wpAnyH_take (i := 12) (v := undef) rfl (by kernel_rfl) (by kernel_rfl) (by kernel_rfl) (fun _ _ _ h => h) (Or.inr ⟨by rfl, rfl⟩) hHeld ?_
    simp only [List.getElem_toArray, List.getElem_cons_zero, List.getElem_cons_succ, Act.put, List.setIfInBounds_toArray, List.set_cons_zero, List.set_cons_succ]
    refine wpAnyH_take (i := 13) (v := undef) rfl (by kernel_rfl) (by kernel_rfl) (by kernel_rfl) (fun _ _ _ h => h) (Or.inr ⟨by rfl, rfl⟩) hHeld ?_
    simp only [List.getElem_toArray, List.getElem_cons_zero, List.getElem_cons_succ, Act.put, List.setIfInBounds_toArray, List.set_cons_zero, List.set_cons_succ]
    refine wpAnyH_take (i := 14) (v := ?_) rfl (by kernel_rfl) (by kernel_rfl) (by kernel_rfl) (fun _ _ _ h => h) (Or.inl ⟨by rfl, ?_⟩) hHeld ?_
    rotate_left
    · (intro w' hSw; (try dsimp only at hSw); go_simp; try with_reducible rfl)
    simp only [List.getElem_toArray, List.getElem_cons_zero, List.getElem_cons_succ, Act.put, List.setIfInBounds_toArray, List.set_cons_zero, List.set_cons_succ]
    refine wpAnyH_take (i := 15) (v := ?_) rfl (by kernel_rfl) (by kernel_rfl) (by kernel_rfl) (fun _ _ _ h => h) (Or.inl ⟨by rfl, ?_⟩) hHeld ?_
    rotate_left
    · (intro w' hSw; (try dsimp only at hSw); go_simp; try with_reducible rfl)
    simp only [List.getElem_toArray, List.getElem_cons_zero, List.getElem_cons_succ, Act.put, List.setIfInBounds_toArray, List.set_cons_zero, List.set_cons_succ]
    refine wpAnyH_take (i := 16) (v := ?_) rfl (by kernel_rfl) (by kernel_rfl) (by kernel_rfl) (fun _ _ _ h => h) (Or.inl ⟨by rfl, ?_⟩) hHeld ?_
    rotate_left
    · (intro w' hSw; (try dsimp only at hSw); go_simp; try with_reducible rfl)
    simp only [List.getElem_toArray, List.getElem_cons_zero, List.getElem_cons_succ, Act.put, List.setIfInBounds_toArray, List.set_cons_zero, List.set_cons_succ]
    refine wpAnyH_take (i := 17) (v := ?_) rfl (by kernel_rfl) (by kernel_rfl) (by kernel_rfl) (fun _ _ _ h => h) (Or.inl ⟨by rfl, ?_⟩) hHeld ?_
    rotate_left
    · (intro w' hSw; (try dsimp only at hSw); go_simp; try with_reducible rfl)
    simp only [List.getElem_toArray, List.getElem_cons_zero, List.getElem_cons_succ, Act.put, List.setIfInBounds_toArray, List.set_cons_zero, List.set_cons_succ]
    refine wpAnyH_take (i := 18) (v := ?_) rfl (by kernel_rfl) (by kernel_rfl) (by kernel_rfl) (fun _ _ _ h => h) (Or.inl ⟨by rfl, ?_⟩) hHeld ?_
    rotate_left
    · (intro w' hSw; (try dsimp only at hSw); go_simp; try with_reducible rfl)
    simp only [List.getElem_toArray, List.getElem_cons_zero, List.getElem_cons_succ, Act.put, List.setIfInBounds_toArray, List.set_cons_zero, List.set_cons_succ]
    refine wpAnyH_ready (rs := [19]) (by kernel_rfl) (by simp) ?_
    refine AllReadyH.cons rfl (fun K hK => ?_) AllReadyH.nil
    go_simp
    refine (K3.out _ hHeld.1).mono ?_
    rintro e s3 ⟨rfl, hb⟩
    refine hK.out _ _ (KE.out _ (holdV hHeld hb)) (fun hHeld => ?_)
    clear hK K hb
    refine wpAnyH_take (i := 20) (v := ?_) rfl (by kernel_rfl) (by kernel_rfl) (by kernel_rfl) (fun _ _ _ h => h) (Or.inl ⟨by rfl, ?_⟩) hHeld ?_
    rotate_left
    · (intro w' hSw; (try dsimp only at hSw); go_simp; try with_reducible rfl)
    simp only [List.getElem_toArray, List.getElem_cons_zero, List.getElem_cons_succ, Act.put, List.setIfInBounds_toArray, List.set_cons_zero, List.set_cons_succ]
    refine wpAnyH_take (i := 21) (v := ?_) rfl (by kernel_rfl) (by kernel_rfl) (by kernel_rfl) (fun _ _ _ h => h) (Or.inl ⟨by rfl, ?_⟩) hHeld ?_
    rotate_left
    · (intro w' hSw; (try dsimp only at hSw); go_simp; try with_reducible rfl)
    simp only [List.getElem_toArray, List.getElem_cons_zero, List.getElem_cons_succ, Act.put, List.setIfInBounds_toArray, List.set_cons_zero, List.set_cons_succ]
    refine wpAnyH_take (i := 22) (v := ?_) rfl (by kernel_rfl) (by kernel_rfl) (by kernel_rfl) (fun _ _ _ h => h) (Or.inl ⟨by rfl, ?_⟩) hHeld ?_
    rotate_left
    · (intro w' hSw; (try dsimp only at hSw); go_simp; try with_reducible rfl)
    simp only [List.getElem_toArray, List.getElem_cons_zero, List.getElem_cons_succ, Act.put, List.setIfInBounds_toArray, List.set_cons_zero, List.set_cons_succ]
    refine wpAnyH_take (i := 23) (v := ?_) rfl (by kernel_rfl) (by kernel_rfl) (by kernel_rfl) (fun _ _ _ h => h) (Or.inl ⟨by rfl, ?_⟩) hHeld ?_
    rotate_left
    · (intro w' hSw; (try dsimp only at hSw); go_simp; try with_reducible rfl)
    simp only [List.getElem_toArray, List.getElem_cons_zero, List.getElem_cons_succ, Act.put, List.setIfInBounds_toArray, List.set_cons_zero, List.set_cons_succ]
    refine wpAnyH_ready (rs := [24]) (by kernel_rfl) (by simp) ?_
    refine AllReadyH.cons rfl (fun K hK => ?_) AllReadyH.nil
    go_simp
    refine (K4.out _ hHeld.1).mono ?_
    rintro e s4 ⟨rfl, hb⟩
    refine hK.out _ _ (KE.out _ (holdV hHeld hb)) (fun hHeld => ?_)
    clear hK K hb
    refine wpAnyH_take (i := 25) (v := ?_) rfl (by kernel_rfl) (by kernel_rfl) (by kernel_rfl) (fun _ _ _ h => h) (Or.inl ⟨by rfl, ?_⟩) hHeld ?_
    rotate_left
    · (intro w' hSw; (try dsimp only at hSw); go_simp; try with_reducible rfl)
    simp only [List.getElem_toArray, List.getElem_cons_zero, List.getElem_cons_succ, Act.put, List.setIfInBounds_toArray, List.set_cons_zero, List.set_cons_succ]
    refine wpAnyH_take (i := 26) (v := ?_) rfl (by kernel_rfl) (by kernel_rfl) (by kernel_rfl) (fun _ _ _ h => h) (Or.inl ⟨by rfl, ?_⟩) hHeld ?_
    rotate_left
    · (intro w' hSw; (try dsimp only at hSw); go_simp; try with_reducible rfl)
    simp only [List.getElem_toArray, List.getElem_cons_zero, List.getElem_cons_succ, Act.put, List.setIfInBounds_toArray, List.set_cons_zero, List.set_cons_succ]
    refine wpAnyH_done (by kernel_rfl) ?_ _
    go_wp2_with fail
    go_ret
    exact ⟨rfl, G.out.trans (hHeld.1.mono G.out.size)⟩

set_option maxRecDepth 100000 in
theorem lifted (os : Os) (started : os.Started) (H : Type) (enc : TypeId × Value → H) :
    ReturnsInHanded {} Try.checked os 3 .any (Rows.vecAllSpec.pre6 enc Try.prog Try.f3 Rows.vecAllRow.domain false) (Rows.vecAllSpec.post enc Try.prog Try.f3 false true false false) := by
  refine returnsInHanded_of_change (C := Try.checked) own started (by kernel_rfl) Try.func3
    (ChangeSpec.witness6 (enc := enc) (C := Try.checked) false ⟨#[], #[.slice none 0 0, .slice none 0 0, .int .i64 0, .int .i64 0, .agg #[.int .i64 0, .int .i64 0, .int .i64 0]], []⟩ 8 (by kernel_rfl) (by kernel_rfl) (by kernel_rfl) (by kernel_rfl)) ?_
  intro W base args ds gs before hval0 hW hcnd _
  have hval : ∀ (j : Nat) t v, Try.f3.params[j]? = some t → args[j]? = some v → Value.okWide Try.prog W .any base t v := hval0
  have hW' := hW
  obtain ⟨p, q, hA0, hV, rfl, hfz, hnd⟩ := hW
  have hA : DataW.TrodAll enc Try.prog W 0 (fun _ => true) true Try.f3.params.toList args.toList ds p := hA0
  rw [Try.params3] at hA hval
  obtain ⟨v0, vs0, d0, ds0, p0, q0, hargs, rfl, rfl, h0, r0⟩ := trodAll_cons hA
  obtain ⟨v1, vs1, d1, ds1, p1, q1, rfl, rfl, rfl, h1, r1⟩ := trodAll_cons r0
  obtain ⟨v2, vs2, d2, ds2, p2, q2, rfl, rfl, rfl, h2, r2⟩ := trodAll_cons r1
  obtain ⟨v3, vs3, d3, ds3, p3, q3, rfl, rfl, rfl, h3, r3⟩ := trodAll_cons r2
  obtain ⟨v4, vs4, d4, ds4, p4, q4, rfl, rfl, rfl, h4, r4⟩ := trodAll_cons r3
  obtain ⟨rfl, rfl, rfl⟩ := trodAll_nil r4
  obtain rfl : args = #[v0, v1, v2, v3, v4] := by cases args; simp_all
  obtain ⟨rfl, rfl⟩ := trodVars_none hV
  obtain ⟨a0, len0, cap0, rfl⟩ := okWide_slice Try.underlying23 (hval 0 23 v0 rfl rfl)
  have k0 := h0
  have lt0 : ∀ x ∈ p0, x.block < W.heap.size := by obtain ⟨m, hm⟩ := k0; exact DataW.trod_lt m _ _ _ hm
  obtain ⟨z0, w0⟩ : ∃ zs, IsRow .i64 W a0 len0 cap0 zs := by
    obtain ⟨fuel, hf⟩ := h0
    rcases open_ints Try.underlying23 Try.underlying3 (by kernel_rfl) hf with ⟨hcs, _⟩ | ⟨x, l, c, zs, hcs, _, hl, hm, hz, _, hcell, hwz⟩
    · simp [Value.cells] at hcs
      obtain ⟨rfl, rfl, rfl⟩ := hcs
      exact ⟨[], .inl ⟨rfl, rfl, rfl, rfl⟩⟩
    · simp [Value.cells] at hcs
      obtain ⟨rfl, rfl, rfl⟩ := hcs
      exact ⟨zs, .inr ⟨_, rfl, hl, hm, by simpa using hz, hcell, hwz⟩⟩
  obtain ⟨a1, len1, cap1, rfl⟩ := okWide_slice Try.underlying23 (hval 1 23 v1 rfl rfl)
  have k1 := h1
  have lt1 : ∀ x ∈ p1, x.block < W.heap.size := by obtain ⟨m, hm⟩ := k1; exact DataW.trod_lt m _ _ _ hm
  obtain ⟨z1, w1⟩ : ∃ zs, IsRow .i64 W a1 len1 cap1 zs := by
    obtain ⟨fuel, hf⟩ := h1
    rcases open_ints Try.underlying23 Try.underlying3 (by kernel_rfl) hf with ⟨hcs, _⟩ | ⟨x, l, c, zs, hcs, _, hl, hm, hz, _, hcell, hwz⟩
    · simp [Value.cells] at hcs
      obtain ⟨rfl, rfl, rfl⟩ := hcs
      exact ⟨[], .inl ⟨rfl, rfl, rfl, rfl⟩⟩
    · simp [Value.cells] at hcs
      obtain ⟨rfl, rfl, rfl⟩ := hcs
      exact ⟨zs, .inr ⟨_, rfl, hl, hm, by simpa using hz, hcell, hwz⟩⟩
  obtain ⟨a2, rfl, rfl, rfl, w2⟩ := open_int Try.underlying3 (hval 2 3 v2 rfl rfl) h2
  obtain ⟨a3, rfl, rfl, rfl, w3⟩ := open_int Try.underlying3 (hval 3 3 v3 rfl rfl) h3
  have k4 := h4
  have lt4 : ∀ x ∈ p4, x.block < W.heap.size := by obtain ⟨m, hm⟩ := k4; exact DataW.trod_lt m _ _ _ hm
  have w4 := open4 (hval 4 25 v4 rfl rfl) h4
  clear hA0 hval0
  refine (walk a0 len0 cap0 z0 a1 len1 cap1 z1 a2 a3 v4 W w0 w1 w2 w3 w4).mono fun e W' ⟨he, bel⟩ => ?_
  subst he
  exact ⟨_, rfl, _, _, _, [], _, [], hW', trodAll_mk1 (shut_bool Try.underlying4 _), (trodAll_cons_mk (Below.trod laidOut (by kernel_rfl) (of_decide_eq_true (by kernel_rfl)) k0 bel lt0) (trodAll_cons_mk (Below.trod laidOut (by kernel_rfl) (of_decide_eq_true (by kernel_rfl)) k1 bel lt1) (trodAll_cons_mk (shut_int Try.underlying3 w2) (trodAll_cons_mk (shut_int Try.underlying3 w3) (trodAll_cons_mk (Below.trod laidOut (by kernel_rfl) (of_decide_eq_true (by kernel_rfl)) k4 bel lt4) trodAll_mk0))))), rfl, bel.frame _, fun h => by cases h⟩

theorem over : Rows.vecAllRow.holds Try.pinned (OpenSpec.ofChange Rows.vecAllSpec) :=
  OpenClaim.holds_of_wide 3 Try.f3 rfl rfl rfl rfl rfl rfl rfl ⟨rfl, rfl, rfl, rfl, rfl⟩ rfl rfl rfl rfl rfl (by kernel_rfl) Try.func3 (by kernel_rfl)
    (of_decide_eq_true (by kernel_rfl)) (by unfold Func.isWrapper; first | (rw [if_pos (by decide +kernel)]; kernel_rfl) | (rw [if_neg (by decide +kernel)]; exact ⟨rfl, rfl⟩))
    (fun os started H enc _ => lifted os started H enc)

/-- the given statement -/
theorem proved : Rows.VecAllSaid := over
#print axioms proved
end Go.Proofs.Ytogmafopgglelaa.vecAll
