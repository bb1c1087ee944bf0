/-
  For any disk and any two numbers the law DiskOnce answers true: of the disk's first 3000 bytes each, down once more nothing more is gone; made fast nothing is gone at all. No condition.
  (The frame was written by the guide's proof-skeleton.mjs, and turned for a struct by value; the walk is ours.)
-/
import Derived.Test.YtldhbhgpdjebaaaRows
import Derived.WalkKit
import Derived.ProofKit
import Derived.OpenShut
import Derived.ShutString
import Derived.ChangeOld
import Derived.Below
import Derived.Test.YtldhbhgpdjebaaaOpenD
import Derived.Lib.MinMax
import Derived.StillTailTactics
namespace Go.Proofs.Ytldhbhgpdjebaaa.diskOnce
open Go.ChangeShapes Go.WideShapes Go.ChangeAt Go.RowKit
open Go.ChangeMaps (open_string shut_string)
set_option linter.unusedVariables false

theorem own : ownKnob Try.prog.godebug = none := by kernel_rfl
theorem laidOut : laidOutB Try.prog = true := by kernel_rfl

open Plain

theorem open0 {H : Type} {enc : TypeId × Value → H} {W : World} {r : Reach} {b : Nat} {v : Value} {d : DataW H} {p : List MemPlace} (hv : Value.okWide Try.prog W r b 24 v) (h : DataW.Trod enc Try.prog W 0 (fun _ => true) true 24 v d p) : IsDisk W v := disk_of_trod hv h

set_option maxRecDepth 100000 in
set_option maxHeartbeats 8000000 in
theorem walk (v0 : Value) (x1 x2 : Int) (w : World) (w0 : IsDisk w v0) (w1 : (Lit.int .i64 x1).wf = true) (w2 : (Lit.int .i64 x2).wf = true) :
    Calls Try.prog 6 #[v0, .int .i64 x1, .int .i64 x2] w fun e w' => e = .returned (.bool true) ∧ Below w.heap.size w w' := by
  obtain ⟨a1, n1, c1, z1, a2, n2, c2, z2, rfl, i1, i2⟩ := w0
  obtain ⟨f, m1, hm1, hl1, sf, hlt1, hc1⟩ := row_cut i1 3000
  obtain ⟨l, m2, hm2, hl2, sl, hlt2, hc2⟩ := row_cut i2 3000
  have M1 : min (n1 : Int) 3000 = (m1 : Int) := by omega
  have M2 : min (n2 : Int) 3000 = (m2 : Int) := by omega
  have B0 : Hid (Below w.heap.size w (w.alloc (.cells #[.slice a1 n1 c1, .slice a2 n2 c2] 24))) := Lib.hid ((Below.refl _ _).alloc (Nat.le_refl _) _)
  have KA := Lib.hid (awake_any (w.alloc (.cells #[.slice a1 n1 c1, .slice a2 n2 c2] 24)))
  have SF := Lib.hid sf
  have SL := Lib.hid sl
  have q1 : (m1 : Int) ≤ c1 := by omega
  have q2 : (m2 : Int) ≤ c2 := by omega
  have q3 : (m1 : Int) ≤ 3000 := by omega
  have q4 : (m2 : Int) ≤ 3000 := by omega
  have q5 : (0 : Int) ≤ m1 := by omega
  have q6 : (0 : Int) ≤ m2 := by omega
  have HL1 := Lib.hid hl1
  have HL2 := Lib.hid hl2
  clear hm1 hm2 hl1 hl2 sf sl hlt1 hlt2 hc1 hc2 i1 i2 w1 w2
  go_enter Try.func6, Try.ntmps6
  go_wp2_with fail
  refine KA.out.mono ?_
  rintro e u1 ⟨rfl, hg1⟩
  have y1 : u1.cell? ⟨w.heap.size, 0, none⟩ = some (.slice a1 n1 c1) := (hg1.cell (by simp)).trans (by simp)
  have y2 : u1.cell? ⟨w.heap.size, 1, none⟩ = some (.slice a2 n2 c2) := (hg1.cell (by simp)).trans (by simp)
  have y3 : u1.frozen? ⟨w.heap.size, 0, none⟩ = false := (hg1.frozen (by simp)).trans (by simp)
  have y4 : u1.frozen? ⟨w.heap.size, 1, none⟩ = false := (hg1.frozen (by simp)).trans (by simp)
  have G1 := Lib.hid (B0.out.trans (hg1.mono B0.out.size))
  clear hg1
  go_wp2_with fail
  go_still_tail 15, (by kernel_rfl)
  obtain ⟨u2, hu⟩ : ∃ u2, u2 = u1.drew := ⟨_, rfl⟩
  have G2 := Lib.hid (G1.out.drew)
  rw [← hu] at G2
  change wpList _ _ _ _ _ u1.drew
  rw [← hu]
  replace y1 : u2.cell? ⟨w.heap.size, 0, none⟩ = some (.slice a1 n1 c1) := by rw [hu]; exact y1
  replace y2 : u2.cell? ⟨w.heap.size, 1, none⟩ = some (.slice a2 n2 c2) := by rw [hu]; exact y2
  replace y3 : u2.frozen? ⟨w.heap.size, 0, none⟩ = false := by rw [hu]; exact y3
  replace y4 : u2.frozen? ⟨w.heap.size, 1, none⟩ = false := by rw [hu]; exact y4
  clear hu
  go_wp2_with fail
  have C3 := stored2' (a := .slice a1 m1 c1) (b := .slice a2 m2 c2) y1 y2 (by simp)
  have G3 := Lib.hid ((G2.out.setCell (by simp) (.slice a1 m1 c1) : Below w.heap.size w (u2.setCell ⟨w.heap.size, 0, none⟩ _)).setCell (p := ⟨w.heap.size, 1, none⟩) (by simp) (.slice a2 m2 c2))
  clear y1 y2 y3 y4
  obtain ⟨k, hk⟩ : ∃ k : Nat, min (max x1 0) (m2 : Int) = (k : Int) := ⟨(min (max x1 0) (m2 : Int)).toNat, by omega⟩
  have KC : Hid (∀ u, Below w.heap.size w u → _) := Lib.hid (fun u (h : Below w.heap.size w u) => crash_any (SF.out.below h) (SL.out.below h) hk (by rw [HL1.out, HL2.out]; omega))
  have HP : Hid ((f ++ l.take k).length = m1 + k) := Lib.hid (by rw [List.length_append, List.length_take, HL1.out, HL2.out]; omega)
  generalize f ++ l.take k = p at *
  generalize (u2.setCell ⟨w.heap.size, 0, none⟩ (.slice a1 m1 c1)).setCell ⟨w.heap.size, 1, none⟩ (.slice a2 m2 c2) = u3 at *
  obtain ⟨mk, hmk⟩ : ∃ mk : Nat, mk = m1 + k := ⟨_, rfl⟩
  rw [← hmk] at HP
  have q7 : (m1 : Int) ≤ mk := by omega
  have q8 : Hid (mk ≤ 6000) := Lib.hid (by omega)
  obtain ⟨C1, C2⟩ := C3
  have z1 := Lib.hid C1
  have z2 := Lib.hid C2
  clear hk hmk C1 C2
  refine (KC.out _ G3.out).mono ?_
  rintro e u4 ⟨v4, x4, rfl, ho4, hx4, hb4⟩
  obtain ⟨a4, c4, rfl, -, -, ho4⟩ := ho4.at mk HP.out
  obtain ⟨a5, c5, rfl, -, -, hx4⟩ := hx4.at 0 rfl
  have r1 : u4.cell? ⟨w.heap.size, 0, none⟩ = some (.slice a1 m1 c1) := (hb4.cell (World.block_lt_of_cell? u3 _ z1.out)).trans z1.out
  have r2 : u4.cell? ⟨w.heap.size, 1, none⟩ = some (.slice a2 m2 c2) := (hb4.cell (World.block_lt_of_cell? u3 _ z2.out)).trans z2.out
  have R1 := Lib.hid r1
  have R2 := Lib.hid r2
  have G4 := Lib.hid (G3.out.trans (hb4.mono G3.out.size))
  have O4 := Lib.hid ho4.seq
  have X4 := Lib.hid hx4.seq
  clear hb4 ho4 hx4 r1 r2 z1 z2
  go_wp2_with fail
  have A5 : Below u4.heap.size u4 (u4.alloc (.cells #[.slice a4 mk c4, .slice a5 0 c5] 24)) := (Below.refl _ _).alloc (Nat.le_refl _) _
  have B1 : (u4.alloc (.cells #[.slice a4 mk c4, .slice a5 0 c5] 24)).cell? ⟨u4.heap.size, 0, none⟩ = some (.slice a4 mk c4) := by simp
  have B2 : (u4.alloc (.cells #[.slice a4 mk c4, .slice a5 0 c5] 24)).cell? ⟨u4.heap.size, 1, none⟩ = some (.slice a5 0 c5) := by simp
  have B3 := (A5.cell (World.block_lt_of_cell? u4 _ R1.out)).trans R1.out
  have B4 := (A5.cell (World.block_lt_of_cell? u4 _ R2.out)).trans R2.out
  have G5 := Lib.hid (G4.out.trans (A5.mono G4.out.size))
  have O5 := Lib.hid (O4.out.below A5)
  have X5 := Lib.hid (X4.out.below A5)
  have Z1 := Lib.hid B1
  have Z2 := Lib.hid B2
  have Z3 := Lib.hid B3
  have Z4 := Lib.hid B4
  clear B1 B2 B3 B4 A5
  generalize u4.alloc (.cells #[.slice a4 mk c4, .slice a5 0 c5] 24) = u5 at *
  have LQ : Hid ((f ++ l).length = m1 + m2) := Lib.hid (by rw [List.length_append, HL1.out, HL2.out])
  have KC1 : Hid (∀ u, Below u5.heap.size u5 u → Calls _ _ _ u (MadeD u p [])) := Lib.hid (fun u (h : Below u5.heap.size u5 u) => by have := crash_any (keep := x2) (k := 0) (O5.out.below h) (X5.out.below h) (by omega) (by rw [HP.out]; have := q8.out; simp; omega); simpa using this)
  have KX : Hid (∀ u, Below u5.heap.size u5 u → Seq u (.slice a4 mk c4) p ∧ Seq u (.slice a5 0 c5) []) := Lib.hid (fun u h => ⟨O5.out.below h, X5.out.below h⟩)
  have KS : Hid (∀ u, Below u5.heap.size u5 u → _) := Lib.hid (fun u (h : Below u5.heap.size u5 u) => sync_any ((SF.out.below G5.out).below h) ((SL.out.below G5.out).below h) (by rw [HL1.out, HL2.out]; omega))
  generalize f ++ l = q at *
  have KC2 : Hid (∀ u a n c a' c', Seq u (.slice a n c) q → Seq u (.slice a' 0 c') [] → Calls _ _ _ u (MadeD u q [])) := Lib.hid (fun u a n c a' c' h h' => by have := crash_any (keep := x1) (k := 0) h h' (by omega) (by rw [LQ.out]; simp; omega); simpa using this)
  have KL : Hid (∀ u, Below u5.heap.size u5 u → Calls _ _ _ u (Made u p)) := Lib.hid (fun u h => by have := all_any (KX.out u h).1 (KX.out u h).2 (by rw [HP.out]; have := q8.out; simp; omega); simpa using this)
  go_region_held3 (fun w' => Below u5.heap.size u5 w' ∧ (w'.cell? ⟨u4.heap.size, 0, none⟩ = some (.slice a4 mk c4) ∧ w'.cell? ⟨u4.heap.size, 1, none⟩ = some (.slice a5 0 c5)) ∧ (w'.cell? ⟨w.heap.size, 0, none⟩ = some (.slice a1 m1 c1) ∧ w'.cell? ⟨w.heap.size, 1, none⟩ = some (.slice a2 m2 c2)))
    (first | (exact ⟨(Below.refl _ _).drew, ⟨Z1.out, Z2.out⟩, ⟨Z3.out, Z4.out⟩⟩) | (exact keepD (by assumption) hb))
    (first
      | (go_at_call 12; (with_reducible refine (KC1.out _ (by assumption : _ ∧ _).1).mono ?_); rintro e u6 ⟨v6, x6, rfl, ho6, hx6, hb⟩; obtain ⟨a6, c6, rfl, -, -, ho6⟩ := ho6.at mk HP.out; obtain ⟨b6, d6, rfl, -, -, hx6⟩ := hx6.at 0 rfl)
      | (go_at_call 11; (with_reducible refine (sameD ho6.seq hx6.seq (KX.out _ (by assumption : _ ∧ _).1).1 (KX.out _ (by assumption : _ ∧ _).1).2).mono ?_); rintro e u7 ⟨rfl, hb⟩)
      | (go_at_call 14; (with_reducible refine (KS.out _ (by assumption : _ ∧ _).1).mono ?_); rintro e u8 ⟨v8, x8, rfl, ho8, hx8, hb⟩; obtain ⟨a8, c8, rfl, -, -, ho8⟩ := ho8.at (m1 + m2) LQ.out; obtain ⟨b8, d8, rfl, -, -, hx8⟩ := hx8.at 0 rfl)
      | (go_at_call 12; (with_reducible refine (KC2.out _ _ _ _ _ _ ho8.seq hx8.seq).mono ?_); rintro e u9 ⟨v9, x9, rfl, ho9, hx9, hb⟩; obtain ⟨a9, c9, rfl, -, -, ho9⟩ := ho9.at (m1 + m2) LQ.out; obtain ⟨b9, d9, rfl, -, -, hx9⟩ := hx9.at 0 rfl)
      | (go_at_call 11; (with_reducible refine (sameD (ho9.seq.below hb) (hx9.seq.below hb) ho8.seq hx8.seq).mono ?_); rintro e u10 ⟨rfl, hb⟩)
      | (go_at_call 19; (with_reducible refine (KL.out _ (by assumption : _ ∧ _).1).mono ?_); rintro e u11 ⟨v11, rfl, ho11, hb⟩; obtain ⟨a11, c11, rfl, -, -, ho11⟩ := ho11.at mk HP.out))
  go_wp2_with fail
  have HH := (by assumption : _ ∧ _)
  go_ret
  exact ⟨rfl, G5.out.trans (HH.1.mono G5.out.size)⟩

set_option maxRecDepth 100000 in
theorem lifted (os : Os) (started : os.Started) (H : Type) (enc : TypeId × Value → H) :
    ReturnsInHanded {} Try.checked os 6 .any (Rows.diskOnceSpec.pre6 enc Try.prog Try.f6 Rows.diskOnceRow.domain false) (Rows.diskOnceSpec.post enc Try.prog Try.f6 false true false false) := by
  refine returnsInHanded_of_change (C := Try.checked) own started (by kernel_rfl) Try.func6
    (ChangeSpec.witness6 (enc := enc) (C := Try.checked) false ⟨#[], #[.agg #[.slice none 0 0, .slice none 0 0], .int .i64 0, .int .i64 0], []⟩ 8 (by kernel_rfl) (by kernel_rfl) (by kernel_rfl) (by kernel_rfl)) ?_
  intro W base args ds gs before hval0 hW hcnd _
  have hval : ∀ (j : Nat) t v, Try.f6.params[j]? = some t → args[j]? = some v → Value.okWide Try.prog W .any base t v := hval0
  have hW' := hW
  obtain ⟨p, q, hA0, hV, rfl, hfz, hnd⟩ := hW
  have hA : DataW.TrodAll enc Try.prog W 0 (fun _ => true) true Try.f6.params.toList args.toList ds p := hA0
  rw [Try.params6] at hA hval
  obtain ⟨v0, vs0, d0, ds0, p0, q0, hargs, rfl, rfl, h0, r0⟩ := trodAll_cons hA
  obtain ⟨v1, vs1, d1, ds1, p1, q1, rfl, rfl, rfl, h1, r1⟩ := trodAll_cons r0
  obtain ⟨v2, vs2, d2, ds2, p2, q2, rfl, rfl, rfl, h2, r2⟩ := trodAll_cons r1
  obtain ⟨rfl, rfl, rfl⟩ := trodAll_nil r2
  obtain rfl : args = #[v0, v1, v2] := by cases args; simp_all
  obtain ⟨rfl, rfl⟩ := trodVars_none hV
  have k0 := h0
  have lt0 : ∀ x ∈ p0, x.block < W.heap.size := by obtain ⟨m, hm⟩ := k0; exact DataW.trod_lt m _ _ _ hm
  have w0 := open0 (hval 0 24 v0 rfl rfl) h0
  obtain ⟨a1, rfl, rfl, rfl, w1⟩ := open_int Try.underlying3 (hval 1 3 v1 rfl rfl) h1
  obtain ⟨a2, rfl, rfl, rfl, w2⟩ := open_int Try.underlying3 (hval 2 3 v2 rfl rfl) h2
  clear hA0 hval0
  refine (walk v0 a1 a2 W w0 w1 w2).mono fun e W' ⟨he, bel⟩ => ?_
  subst he
  exact ⟨_, rfl, _, _, _, [], _, [], hW', trodAll_mk1 (shut_bool Try.underlying4 _), (trodAll_cons_mk (Below.trod laidOut (by kernel_rfl) (of_decide_eq_true (by kernel_rfl)) k0 bel lt0) (trodAll_cons_mk (shut_int Try.underlying3 w1) (trodAll_cons_mk (shut_int Try.underlying3 w2) trodAll_mk0))), rfl, bel.frame _, fun h => by cases h⟩

theorem over : Rows.diskOnceRow.holds Try.pinned (OpenSpec.ofChange Rows.diskOnceSpec) :=
  OpenClaim.holds_of_wide 6 Try.f6 rfl rfl rfl rfl rfl rfl rfl ⟨rfl, rfl, rfl, rfl, rfl⟩ rfl rfl rfl rfl rfl (by kernel_rfl) Try.func6 (by kernel_rfl)
    (of_decide_eq_true (by kernel_rfl)) (by unfold Func.isWrapper; first | (rw [if_pos (by decide +kernel)]; kernel_rfl) | (rw [if_neg (by decide +kernel)]; exact ⟨rfl, rfl⟩))
    (fun os started H enc _ => lifted os started H enc)

/-- the given statement -/
theorem proved : Rows.DiskOnceSaid := over
#print axioms proved
end Go.Proofs.Ytldhbhgpdjebaaa.diskOnce
