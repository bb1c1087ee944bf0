/-
  For any disk, any bytes and any two numbers the law DiskAll answers true: of their first 3000 bytes each, whatever is done with the disk the answer is the document's, and the disk that was handed in stays. No condition.
  (The frame was written by the guide's proof-skeleton.mjs, and turned for a struct by value; the walk is ours.)
-/
import Derived.Test.YtldhbhgpdjebaaaRows
import Derived.WalkKit
import Derived.ProofKit
import Derived.OpenShut
import Derived.ShutString
import Derived.ChangeOld
import Derived.Below
import Derived.Test.YtldhbhgpdjebaaaOpenD
import Derived.Lib.MinMax
import Derived.StillTailTactics
namespace Go.Proofs.Ytldhbhgpdjebaaa.diskAll
open Go.ChangeShapes Go.WideShapes Go.ChangeAt Go.RowKit
open Go.ChangeMaps (open_string shut_string)
set_option linter.unusedVariables false

theorem own : ownKnob Try.prog.godebug = none := by kernel_rfl
theorem laidOut : laidOutB Try.prog = true := by kernel_rfl

open Plain

theorem open0 {H : Type} {enc : TypeId × Value → H} {W : World} {r : Reach} {b : Nat} {v : Value} {d : DataW H} {p : List MemPlace} (hv : Value.okWide Try.prog W r b 24 v) (h : DataW.Trod enc Try.prog W 0 (fun _ => true) true 24 v d p) : IsDisk W v := disk_of_trod hv h

set_option maxRecDepth 100000 in
set_option maxHeartbeats 16000000 in
theorem walk (v0 : Value) (a3 : Option Addr) (n3 c3 : Nat) (z3 : List Int) (x2 x3 : Int) (w : World) (w0 : IsDisk w v0) (w1 : IsRow .u8 w a3 n3 c3 z3) (w2 : (Lit.int .i64 x2).wf = true) (w3 : (Lit.int .i64 x3).wf = true) :
    Calls Try.prog 3 #[v0, .slice a3 n3 c3, .int .i64 x2, .int .i64 x3] w fun e w' => e = .returned (.bool true) ∧ Below w.heap.size w w' := by
  obtain ⟨a1, n1, c1, z1, a2, n2, c2, z2, rfl, i1, i2⟩ := w0
  obtain ⟨f, m1, hm1, hl1, sf, hlt1, hc1⟩ := row_cut i1 3000
  obtain ⟨l, m2, hm2, hl2, sl, hlt2, hc2⟩ := row_cut i2 3000
  obtain ⟨b, m3, hm3, hl3, sb', hlt3, hc3⟩ := row_cut w1 3000
  have M1 : min (n1 : Int) 3000 = (m1 : Int) := by omega
  have M2 : min (n2 : Int) 3000 = (m2 : Int) := by omega
  have M3 : min (n3 : Int) 3000 = (m3 : Int) := by omega
  have B0 : Hid (Below w.heap.size w (w.alloc (.cells #[.slice a1 n1 c1, .slice a2 n2 c2] 24))) := Lib.hid ((Below.refl _ _).alloc (Nat.le_refl _) _)
  have KA := Lib.hid (awake_any (w.alloc (.cells #[.slice a1 n1 c1, .slice a2 n2 c2] 24)))
  have SF := Lib.hid sf
  have SL := Lib.hid sl
  have SB := Lib.hid sb'
  have q1 : (m1 : Int) ≤ c1 := by omega
  have q2 : (m2 : Int) ≤ c2 := by omega
  have q3 : (m1 : Int) ≤ 3000 := by omega
  have q4 : (m2 : Int) ≤ 3000 := by omega
  have q5 : (0 : Int) ≤ m1 := by omega
  have q6 : (0 : Int) ≤ m2 := by omega
  have q7 : (m3 : Int) ≤ c3 := by omega
  have q8 : (m3 : Int) ≤ 3000 := by omega
  have q9 : (0 : Int) ≤ m3 := by omega
  have q10 : (n3 : Int) ≤ c3 := by omega
  have HL1 := Lib.hid hl1
  have HL2 := Lib.hid hl2
  have HL3 := Lib.hid hl3
  have LB := Lib.hid (show (l ++ b).length = m2 + m3 by rw [List.length_append, hl2, hl3])
  have W3 := Lib.hid w3
  clear hm1 hm2 hm3 hl1 hl2 hl3 sf sl sb' hlt1 hlt2 hlt3 hc1 hc2 hc3 i1 i2 w1 w2 w3
  go_enter Try.func3, Try.ntmps3
  go_wp2_with fail
  refine KA.out.mono ?_
  rintro e u1 ⟨rfl, hg1⟩
  have I1 := Lib.hid ((IsBox.new 24 w (.slice a1 n1 c1) (.slice a2 n2 c2)).below hg1)
  have G1 := Lib.hid (B0.out.trans (hg1.mono B0.out.size))
  obtain ⟨y1, y2⟩ := I1.out.cells
  obtain ⟨y3, y4⟩ := I1.out.free
  clear hg1
  go_wp2_with fail
  go_still_tail 15, (by kernel_rfl)
  obtain ⟨u2, hu⟩ : ∃ u2, u2 = u1.drew := ⟨_, rfl⟩
  have G2 := Lib.hid (G1.out.drew)
  have I2 := Lib.hid (I1.out.below ((Below.refl _ _).drew))
  rw [← hu] at G2 I2
  change wpList _ _ _ _ _ u1.drew
  rw [← hu]
  clear hu y1 y2 y3 y4
  obtain ⟨y1, y2⟩ := I2.out.cells
  obtain ⟨y3, y4⟩ := I2.out.free
  go_wp2_with fail
  have I3 := Lib.hid (I2.out.set (.slice a1 m1 c1) (.slice a2 m2 c2))
  have G3 := Lib.hid (below_set G2.out (Nat.le_refl _) (.slice a1 m1 c1) (.slice a2 m2 c2))
  clear y1 y2 y3 y4
  have KC : Hid (∀ u, Below w.heap.size w u → Calls _ _ _ u (MadeD u f l)) := Lib.hid (fun u (h : Below w.heap.size w u) => copyD_any (SF.out.below h) (SL.out.below h) (by rw [HL1.out]; omega) (by rw [HL2.out]; omega))
  generalize (u2.setCell ⟨w.heap.size, 0, none⟩ (.slice a1 m1 c1)).setCell ⟨w.heap.size, 1, none⟩ (.slice a2 m2 c2) = u3 at *
  refine (KC.out _ G3.out).mono ?_
  rintro e u4 ⟨v4, x4, rfl, ho4, hx4, hb4⟩
  obtain ⟨a4, c4, rfl, -, -, ho4⟩ := ho4.at m1 HL1.out
  obtain ⟨a5, c5, rfl, -, -, hx4⟩ := hx4.at m2 HL2.out
  have G4 := Lib.hid (G3.out.trans (hb4.mono G3.out.size))
  have A4 : Below u4.heap.size u4 (u4.alloc (.cells #[.slice a4 m1 c4, .slice a5 m2 c5] 24)) := (Below.refl _ _).alloc (Nat.le_refl _) _
  have G5 := Lib.hid (G4.out.trans (A4.mono G4.out.size))
  have O5 := Lib.hid (ho4.seq.below A4)
  have X5 := Lib.hid (hx4.seq.below A4)
  have I5 := Lib.hid ((I3.out.below hb4).below A4)
  have J5 := Lib.hid (IsBox.new 24 u4 (.slice a4 m1 c4) (.slice a5 m2 c5))
  clear ho4 hx4 hb4 A4
  go_wp2_with fail
  generalize u4.alloc (.cells #[.slice a4 m1 c4, .slice a5 m2 c5] 24) = u5 at *
  have KW : Hid (∀ u, Below u5.heap.size u5 u → Calls _ _ _ u (MadeDN u f (l ++ b) 0)) := Lib.hid (fun u (h : Below u5.heap.size u5 u) => write_ok (O5.out.below h) (X5.out.below h) ((SB.out.below G5.out).below h) (by rw [HL1.out, HL2.out, HL3.out]; omega))
  refine (KW.out _ (Below.refl _ _)).mono ?_
  rintro e u6 ⟨v6, x6, rfl, ho6, hx6, hb6⟩
  obtain ⟨a6, c6, rfl, -, -, ho6⟩ := ho6.at m1 HL1.out
  obtain ⟨b6, d6, rfl, -, -, hx6⟩ := hx6.at (m2 + m3) LB.out
  have A6 : Below u6.heap.size u6 (u6.alloc (.cells #[.slice a6 m1 c6, .slice b6 (m2 + m3) d6] 24)) := (Below.refl _ _).alloc (Nat.le_refl _) _
  have A5 := hb6.trans (A6.mono hb6.size)
  have G7 := Lib.hid (G5.out.trans (A5.mono G5.out.size))
  have O7 := Lib.hid (O5.out.below A5)
  have X7 := Lib.hid (X5.out.below A5)
  have P7 := Lib.hid (ho6.seq.below A6)
  have Q7 := Lib.hid (hx6.seq.below A6)
  have I7 := Lib.hid (I5.out.below A5)
  have J7 := Lib.hid (J5.out.below A5)
  have L7 := Lib.hid (IsBox.new 24 u6 (.slice a6 m1 c6) (.slice b6 (m2 + m3) d6))
  obtain ⟨y1, y2⟩ := I7.out.cells
  have E46 := Lib.hid (Nat.lt_of_lt_of_le J5.out.lt hb6.size)
  have E06 := Lib.hid (Nat.lt_of_lt_of_le I5.out.lt hb6.size)
  clear ho6 hx6 hb6 A6 A5
  go_wp2_with fail
  generalize u6.alloc (.cells #[.slice a6 m1 c6, .slice b6 (m2 + m3) d6] 24) = u7 at *
  clear y1 y2
  have KR : Hid (∀ u, Below u7.heap.size u7 u → _) := Lib.hid (fun u (h : Below u7.heap.size u7 u) => rwrite_ok ((SF.out.below G7.out).below h) ((SL.out.below G7.out).below h) ((SB.out.below G7.out).below h) (by rw [HL1.out, HL2.out, HL3.out]; omega))
  refine (KR.out _ (Below.refl _ _)).mono ?_
  rintro e u8 ⟨x8, rfl, hx8, hb8⟩
  obtain ⟨b8, d8, rfl, -, -, hx8⟩ := hx8.at (m2 + m3) LB.out
  have A8 : Below u8.heap.size u8 (u8.alloc (.cells #[.slice a1 m1 c1, .slice b8 (m2 + m3) d8] 24)) := (Below.refl _ _).alloc (Nat.le_refl _) _
  have A7 := hb8.trans (A8.mono hb8.size)
  have G9 := Lib.hid (G7.out.trans (A7.mono G7.out.size))
  have O9 := Lib.hid (O7.out.below A7)
  have X9 := Lib.hid (X7.out.below A7)
  have P9 := Lib.hid (P7.out.below A7)
  have Q9 := Lib.hid (Q7.out.below A7)
  have R9 := Lib.hid (hx8.seq.below A8)
  have I9 := Lib.hid (I7.out.below A7)
  have J9 := Lib.hid (J7.out.below A7)
  have L9 := Lib.hid (L7.out.below A7)
  have N9 := Lib.hid (IsBox.new 24 u8 (.slice a1 m1 c1) (.slice b8 (m2 + m3) d8))
  have E68 := Lib.hid (Nat.lt_of_lt_of_le L7.out.lt hb8.size)
  clear hx8 hb8 A8 A7
  go_wp2_with fail
  generalize u8.alloc (.cells #[.slice a1 m1 c1, .slice b8 (m2 + m3) d8] 24) = u9 at *
  obtain ⟨k, hk⟩ : ∃ k : Nat, min (max x2 0) (m2 : Int) = (k : Int) := ⟨(min (max x2 0) (m2 : Int)).toNat, by omega⟩
  have SF9 := Lib.hid (SF.out.below G9.out)
  have SL9 := Lib.hid (SL.out.below G9.out)
  have SB9 := Lib.hid (SB.out.below G9.out)
  have HP : Hid ((f ++ l.take k).length = m1 + k) := Lib.hid (by rw [List.length_append, List.length_take, HL1.out, HL2.out]; omega)
  have HQ : Hid ((f ++ l).length = m1 + m2) := Lib.hid (by rw [List.length_append, HL1.out, HL2.out])
  have KX : Hid (∀ u, Below u9.heap.size u9 u → Calls _ _ _ u (fun e w' => e = .returned (.bool true) ∧ Below u.heap.size u w')) := Lib.hid (fun u h => sameD (P9.out.below h) (Q9.out.below h) (SF9.out.below h) (R9.out.below h))
  have KC1 : Hid (∀ u, Below u9.heap.size u9 u → Calls _ _ _ u (MadeD u (f ++ l.take k) [])) := Lib.hid (fun u h => crash_any (O9.out.below h) (X9.out.below h) hk (by rw [HL1.out, HL2.out]; omega))
  have KC2 : Hid (∀ u, Below u9.heap.size u9 u → Calls _ _ _ u (MadeD u (f ++ l.take k) [])) := Lib.hid (fun u h => rcrash_any (SF9.out.below h) (SL9.out.below h) (by omega) (by omega) hk)
  have KS : Hid (∀ u, Below u9.heap.size u9 u → Calls _ _ _ u (MadeD u (f ++ l) [])) := Lib.hid (fun u h => sync_any (O9.out.below h) (X9.out.below h) (by rw [HL1.out, HL2.out]; omega))
  have KZ : Hid (∀ u, Calls _ _ _ u _) := Lib.hid (fun u => rSize_any a1 a2 m1 c1 m2 c2 u (by omega) (by omega))
  have KF : Hid (∀ u (n : Nat), Below u9.heap.size u9 u → n ≤ m1 + m2 → Calls _ _ _ u (MadeD u ((f ++ l).take n) [])) := Lib.hid (fun u n h hn => first_any (SF9.out.below h) (SL9.out.below h) (by omega) (by omega) hn)
  have KF2 : Hid (∀ u, Below u9.heap.size u9 u → Calls Try.prog 15 #[.agg #[.slice a1 m1 c1, .slice a2 m2 c2], .int .i64 ((m1 : Int) + m2)] u (MadeD u (f ++ l) [])) := Lib.hid (fun u h => by have := KF.out u (m1 + m2) h (Nat.le_refl _); rw [← HQ.out, List.take_length, HQ.out] at this; exact this)
  have KE : Hid (∀ u', Below u9.heap.size u9 u' → Below u9.heap.size u9 u' ∧ (((u'.cell? ⟨w.heap.size, 0, none⟩ = some (.slice a1 m1 c1) ∧ u'.cell? ⟨w.heap.size, 1, none⟩ = some (.slice a2 m2 c2)) ∧ (u'.cell? ⟨u4.heap.size, 0, none⟩ = some (.slice a4 m1 c4) ∧ u'.cell? ⟨u4.heap.size, 1, none⟩ = some (.slice a5 m2 c5))) ∧
      ((u'.cell? ⟨u6.heap.size, 0, none⟩ = some (.slice a6 m1 c6) ∧ u'.cell? ⟨u6.heap.size, 1, none⟩ = some (.slice b6 (m2 + m3) d6)) ∧ (u'.cell? ⟨u8.heap.size, 0, none⟩ = some (.slice a1 m1 c1) ∧ u'.cell? ⟨u8.heap.size, 1, none⟩ = some (.slice b8 (m2 + m3) d8))))) :=
    Lib.hid (fun u' h => ⟨h, ⟨(I9.out.below h).cells, (J9.out.below h).cells⟩, ⟨(L9.out.below h).cells, (N9.out.below h).cells⟩⟩)
  have KU1 : Hid (∀ u, Below u9.heap.size u9 u → (x3 < 0 ∨ (m1 : Int) + m2 < x3) → Calls _ _ _ u _) := Lib.hid (fun u h hn => cut_no (a1 := a4) (a2 := a5) (n1 := m1) (c1 := c4) (n2 := m2) (c2 := c5) (n := x3) (w := u) (by omega) (by omega) hn)
  have KU2 : Hid (∀ u (n : Nat), Below u9.heap.size u9 u → n ≤ m1 + m2 → Calls _ _ _ u (MadeDN u ((f ++ l).take n) [] 0)) := Lib.hid (fun u n h hn => cut_ok (O9.out.below h) (X9.out.below h) (by omega) (by omega) hn)
  clear hk
  generalize f ++ l.take k = p at *
  generalize hfl : f ++ l = q at *
  have HFL := Lib.hid hfl
  clear hfl
  generalize l ++ b = lb at *
  go_region_held3 (fun u' => Below u9.heap.size u9 u' ∧ (((u'.cell? ⟨w.heap.size, 0, none⟩ = some (.slice a1 m1 c1) ∧ u'.cell? ⟨w.heap.size, 1, none⟩ = some (.slice a2 m2 c2)) ∧ (u'.cell? ⟨u4.heap.size, 0, none⟩ = some (.slice a4 m1 c4) ∧ u'.cell? ⟨u4.heap.size, 1, none⟩ = some (.slice a5 m2 c5))) ∧
      ((u'.cell? ⟨u6.heap.size, 0, none⟩ = some (.slice a6 m1 c6) ∧ u'.cell? ⟨u6.heap.size, 1, none⟩ = some (.slice b6 (m2 + m3) d6)) ∧ (u'.cell? ⟨u8.heap.size, 0, none⟩ = some (.slice a1 m1 c1) ∧ u'.cell? ⟨u8.heap.size, 1, none⟩ = some (.slice b8 (m2 + m3) d8)))))
    (first | (exact KE.out _ (Below.refl _ _).drew) | (exact KE.out _ (hold (by assumption) hb)))
    (first
      | (go_at_call 11; (with_reducible refine (KX.out _ (by assumption : _ ∧ _).1).mono ?_); rintro e s1 ⟨rfl, hb⟩)
      | (go_at_call 12; (with_reducible refine (KC1.out _ (by assumption : _ ∧ _).1).mono ?_); rintro e s2 ⟨v2, x2, rfl, ho2, hx2, hb⟩; obtain ⟨e2, f2, rfl, -, -, ho2⟩ := ho2.at (m1 + k) HP.out; obtain ⟨g2, h2, rfl, -, -, hx2⟩ := hx2.at 0 rfl)
      | (go_at_call 13; (with_reducible refine (KC2.out _ (by assumption : _ ∧ _).1).mono ?_); rintro e s3 ⟨v3, x3, rfl, ho3, hx3, hb⟩; obtain ⟨e3, f3, rfl, -, -, ho3⟩ := ho3.at (m1 + k) HP.out; obtain ⟨g3, h3, rfl, -, -, hx3⟩ := hx3.at 0 rfl)
      | (go_at_call 11; (with_reducible refine (sameD (ho2.seq.below hb) (hx2.seq.below hb) ho3.seq hx3.seq).mono ?_); rintro e s4 ⟨rfl, hb⟩)
      | (go_at_call 14; (with_reducible refine (KS.out _ (by assumption : _ ∧ _).1).mono ?_); rintro e s5 ⟨v5, x5, rfl, ho5, hx5, hb⟩; obtain ⟨e5, f5, rfl, -, -, ho5⟩ := ho5.at (m1 + m2) HQ.out; obtain ⟨g5, h5, rfl, -, -, hx5⟩ := hx5.at 0 rfl)
      | (go_at_call 16; (with_reducible refine (KZ.out _).mono ?_); rintro e s6 ⟨rfl, hb⟩; have hb6 := hb)
      | (go_at_call 15; (with_reducible refine (KF2.out _ (by assumption : _ ∧ _).1).mono ?_); rintro e s7 ⟨v7, x7, rfl, ho7, hx7, hb⟩; obtain ⟨e7, f7, rfl, -, -, ho7⟩ := ho7.at (m1 + m2) HQ.out; obtain ⟨g7, h7, rfl, -, -, hx7⟩ := hx7.at 0 rfl)
      | (go_at_call 11; (with_reducible refine (sameD ((ho5.seq.below hb6).below hb) ((hx5.seq.below hb6).below hb) ho7.seq hx7.seq).mono ?_); rintro e s8 ⟨rfl, hb⟩))
  have HH := (by assumption : _ ∧ _)
  have G10 := Lib.hid HH.1
  clear HH
  clear ho2 hx2 ho3 hx3 ho5 hx5 ho7 hx7 hb6 hb
  obtain ⟨y1, y2⟩ := (J9.out.below G10.out).cells
  have W3' := i64_in W3.out
  by_cases hin : 0 ≤ x3 ∧ x3 ≤ (m1 : Int) + m2
  · obtain ⟨h0, h1⟩ := hin
    obtain ⟨n, rfl⟩ := Int.eq_ofNat_of_zero_le h0
    have hn : Hid (n ≤ m1 + m2) := Lib.hid (by omega)
    have hd : decide ((n : Int) < 0) = false := by simp
    clear W3'
    have HT : Hid ((q.take n).length = n) := Lib.hid (by rw [List.length_take, HQ.out]; have := hn.out; omega)
    go_wp2_with fail
    refine (KU2.out _ n G10.out hn.out).mono ?_
    rintro e s9 ⟨v9, x9, rfl, ho9, hx9, hb9⟩
    obtain ⟨e9, f9, rfl, -, -, ho9⟩ := ho9.at n HT.out
    obtain ⟨g9, h9, rfl, -, -, hx9⟩ := hx9.at 0 rfl
    have C9 := Lib.hid (G10.out.trans (hb9.mono G10.out.size))
    have O10 := Lib.hid ho9.seq
    have X10 := Lib.hid hx9.seq
    clear y1 y2 ho9 hx9 hb9
    obtain ⟨y1, y2⟩ := (L9.out.below C9.out).cells
    obtain ⟨y3, y4⟩ := (L9.out.below C9.out).free
    have Z0 := Lib.hid (IsBox.set (L9.out.below C9.out) (.slice e9 n f9) (.slice g9 0 h9))
    have Z1 := Lib.hid (IsBox.other (I9.out.below C9.out) (.slice e9 n f9) (.slice g9 0 h9) (Nat.ne_of_lt E06.out))
    have Z2 := Lib.hid (IsBox.other (J9.out.below C9.out) (.slice e9 n f9) (.slice g9 0 h9) (Nat.ne_of_lt E46.out))
    have Z3 := Lib.hid ((O9.out.below C9.out).setBox (L9.out.below C9.out) (.slice e9 n f9) (.slice g9 0 h9))
    have Z4 := Lib.hid ((X9.out.below C9.out).setBox (L9.out.below C9.out) (.slice e9 n f9) (.slice g9 0 h9))
    have Z5 := Lib.hid (below_set (G9.out.trans (C9.out.mono G9.out.size)) (Nat.le_of_lt E06.out) (.slice e9 n f9) (.slice g9 0 h9))
    have Z6 := Lib.hid (O10.out.setBox (L9.out.below C9.out) (.slice e9 n f9) (.slice g9 0 h9))
    have Z7 := Lib.hid (X10.out.setBox (L9.out.below C9.out) (.slice e9 n f9) (.slice g9 0 h9))
    obtain ⟨i1, i2⟩ := Z1.out.cells
    go_wp2_with fail
    clear y1 y2 y3 y4 i1 i2
    have KFn : Hid (∀ u, Below w.heap.size w u → Calls _ _ _ u (MadeD u (q.take n) [])) := Lib.hid (fun u h => by have := first_any (n := n) (SF.out.below h) (SL.out.below h) (by omega) (by omega) hn.out; rw [HFL.out] at this; exact this)
    generalize (s9.setCell ⟨u6.heap.size, 0, none⟩ (.slice e9 n f9)).setCell ⟨u6.heap.size, 1, none⟩ (.slice g9 0 h9) = s10 at *
    refine (KZ.out _).mono ?_
    rintro e s11 ⟨rfl, hb11⟩
    have Y0 := Lib.hid (Z0.out.below hb11)
    have Y1 := Lib.hid (Z1.out.below hb11)
    have Y2 := Lib.hid (Z2.out.below hb11)
    have Y3 := Lib.hid (Z3.out.below hb11)
    have Y4 := Lib.hid (Z4.out.below hb11)
    have Y5 := Lib.hid (Z5.out.trans (hb11.mono Z5.out.size))
    have Y6 := Lib.hid (Z6.out.below hb11)
    have Y7 := Lib.hid (Z7.out.below hb11)
    clear hb11
    go_wp2_with fail
    have KE3 : Hid (∀ u', Below s11.heap.size s11 u' → Below s11.heap.size s11 u' ∧ ((u'.cell? ⟨w.heap.size, 0, none⟩ = some (.slice a1 m1 c1) ∧ u'.cell? ⟨w.heap.size, 1, none⟩ = some (.slice a2 m2 c2)) ∧ (u'.cell? ⟨u6.heap.size, 0, none⟩ = some (.slice e9 n f9) ∧ u'.cell? ⟨u6.heap.size, 1, none⟩ = some (.slice g9 0 h9)))) :=
      Lib.hid (fun u' h => ⟨h, (Y1.out.below h).cells, (Y0.out.below h).cells⟩)
    go_region_held3 (fun u' => Below s11.heap.size s11 u' ∧ ((u'.cell? ⟨w.heap.size, 0, none⟩ = some (.slice a1 m1 c1) ∧ u'.cell? ⟨w.heap.size, 1, none⟩ = some (.slice a2 m2 c2)) ∧ (u'.cell? ⟨u6.heap.size, 0, none⟩ = some (.slice e9 n f9) ∧ u'.cell? ⟨u6.heap.size, 1, none⟩ = some (.slice g9 0 h9))))
      (first | (exact KE3.out _ (Below.refl _ _).drew) | (exact KE3.out _ (hold (by assumption) hb)))
      (first
        | (go_at_call 15; have B12 := (by assumption : _ ∧ _).1; (with_reducible refine (KFn.out _ (Y5.out.trans (B12.mono Y5.out.size))).mono ?_); rintro e s12 ⟨v12, x12, rfl, ho12, hx12, hb⟩; have B13 := B12.trans (hb.mono B12.size); obtain ⟨e12, f12, rfl, -, -, ho12⟩ := ho12.at n HT.out; obtain ⟨g12, h12, rfl, -, -, hx12⟩ := hx12.at 0 rfl)
        | (go_at_call 11; (with_reducible refine (sameD (Y6.out.below B13) (Y7.out.below B13) ho12.seq hx12.seq).mono ?_); rintro e sT ⟨rfl, hb⟩))
    have BT := (by assumption : _ ∧ _).1
    have gT := Y5.out.trans (BT.mono Y5.out.size)
    have oT := Y3.out.below BT
    have xT := Y4.out.below BT
    have iT := Y1.out.below BT
    have jT := Y2.out.below BT
    clear BT B12 B13 ho12 hx12 hb
    go_wp2_with fail
    have GT := Lib.hid gT
    have OT := Lib.hid oT
    have XT := Lib.hid xT
    have IT := Lib.hid iT
    have JT := Lib.hid jT
    clear gT oT xT iT jT
    have FT := Lib.hid (SF.out.below GT.out)
    have LT := Lib.hid (SL.out.below GT.out)
    have HQ2 : Hid ((f ++ l).length = m1 + m2) := Lib.hid (by rw [HFL.out]; exact HQ.out)
    have LA : Hid (f.length + l.length ≤ 1073741824) := Lib.hid (by rw [HL1.out, HL2.out]; omega)
    have K1 : Hid (∀ u, Below sT.heap.size sT u → Calls _ _ _ u (Made u (f ++ l))) := Lib.hid (fun u h => all_any (OT.out.below h) (XT.out.below h) (by rw [HL1.out, HL2.out]; omega))
    have K2 : Hid (∀ u, Below sT.heap.size sT u → Calls _ _ _ u (Made u f)) := Lib.hid (fun u h => copy_any (FT.out.below h) (by rw [HL1.out]; omega))
    have K3 : Hid (∀ u, Below sT.heap.size sT u → Seq u (.slice a2 m2 c2) l) := Lib.hid (fun u h => LT.out.below h)
    have K4 : Hid (∀ u, Below sT.heap.size sT u → Calls _ _ _ u (fun e w' => e = .returned (.bool true) ∧ Below u.heap.size u w')) := Lib.hid (fun u h => sameD (OT.out.below h) (XT.out.below h) (FT.out.below h) (LT.out.below h))
    have KE2 : Hid (∀ u', Below sT.heap.size sT u' → Below sT.heap.size sT u' ∧ ((u'.cell? ⟨w.heap.size, 0, none⟩ = some (.slice a1 m1 c1) ∧ u'.cell? ⟨w.heap.size, 1, none⟩ = some (.slice a2 m2 c2)) ∧ (u'.cell? ⟨u4.heap.size, 0, none⟩ = some (.slice a4 m1 c4) ∧ u'.cell? ⟨u4.heap.size, 1, none⟩ = some (.slice a5 m2 c5)))) :=
      Lib.hid (fun u' h => ⟨h, (IT.out.below h).cells, (JT.out.below h).cells⟩)
    go_region_held3 (fun u' => Below sT.heap.size sT u' ∧ ((u'.cell? ⟨w.heap.size, 0, none⟩ = some (.slice a1 m1 c1) ∧ u'.cell? ⟨w.heap.size, 1, none⟩ = some (.slice a2 m2 c2)) ∧ (u'.cell? ⟨u4.heap.size, 0, none⟩ = some (.slice a4 m1 c4) ∧ u'.cell? ⟨u4.heap.size, 1, none⟩ = some (.slice a5 m2 c5))))
      (first | (exact KE2.out _ (Below.refl _ _).drew) | (exact KE2.out _ (hold (by assumption) hb)) | (exact KE2.out _ (holdN (by assumption) hbn)))
      (first
        | (go_at_call 19; (with_reducible refine (K1.out _ (by assumption : _ ∧ _).1).mono ?_); rintro e t1 ⟨v1, rfl, ho1, hb⟩; obtain ⟨e1, f1, rfl, -, -, ho1⟩ := ho1.at (m1 + m2) HQ2.out)
        | (go_at_call 20; have hz1 := held_size (by assumption); (with_reducible refine (K2.out _ (by assumption : _ ∧ _).1).mono ?_); rintro e t2 ⟨v2, rfl, ho2, hb⟩; have hb12 := hb; obtain ⟨e2, f2, rfl, -, -, ho2⟩ := ho2.at m1 HL1.out)
        | (refine step_append_seq (by rfl) _ _ (by rfl) t1.heap.size (by rfl) ho2 (by rfl) (K3.out _ (by assumption : _ ∧ _).1) (by exact LA.out) hb12.size ?_; intro v3 t3 ho3 hg3; have hb23 := (Below.refl t1.heap.size t2).grown hg3 hb12.size (fun j hj => (ho2.lt j hj).1); have hbn := hb23.mono hz1; have hb13 := hb12.trans hb23; obtain ⟨e3, f3, rfl, -, -, ho3⟩ := ho3.at (m1 + m2) HQ2.out)
        | (go_at_call 18; (with_reducible refine (sameB (ho1.seq.below hb13) ho3.seq).mono ?_); rintro e t4 ⟨rfl, hb⟩)
        | (go_at_call 11; (with_reducible refine (K4.out _ (by assumption : _ ∧ _).1).mono ?_); rintro e t5 ⟨rfl, hb⟩))
    go_wp2_with fail
    have HH := (by assumption : _ ∧ _)
    go_ret
    exact ⟨rfl, GT.out.trans (HH.1.mono GT.out.size)⟩
  · have hout : x3 < 0 ∨ (m1 : Int) + m2 < x3 := by omega
    have KU := Lib.hid (KU1.out _ G10.out hout)
    go_wp2_with fail
    refine KU.out.mono ?_
    rintro e s9 ⟨rfl, hb9⟩
    have C9 := Lib.hid (G10.out.trans (hb9.mono G10.out.size))
    clear y1 y2 hb9
    obtain ⟨y1, y2⟩ := (L9.out.below C9.out).cells
    obtain ⟨y3, y4⟩ := (L9.out.below C9.out).free
    have Z0 := Lib.hid (IsBox.set (L9.out.below C9.out) (.slice none 0 0) (.slice none 0 0))
    have Z1 := Lib.hid (IsBox.other (I9.out.below C9.out) (.slice none 0 0) (.slice none 0 0) (Nat.ne_of_lt E06.out))
    have Z2 := Lib.hid (IsBox.other (J9.out.below C9.out) (.slice none 0 0) (.slice none 0 0) (Nat.ne_of_lt E46.out))
    have Z3 := Lib.hid ((O9.out.below C9.out).setBox (L9.out.below C9.out) (.slice none 0 0) (.slice none 0 0))
    have Z4 := Lib.hid ((X9.out.below C9.out).setBox (L9.out.below C9.out) (.slice none 0 0) (.slice none 0 0))
    have Z5 := Lib.hid (below_set (G9.out.trans (C9.out.mono G9.out.size)) (Nat.le_of_lt E06.out) (.slice none 0 0) (.slice none 0 0))
    obtain ⟨i1, i2⟩ := Z1.out.cells
    obtain ⟨i3, i4⟩ := Z0.out.cells
    by_cases hneg : x3 < 0
    · have hd : decide (x3 < 0) = true := by simpa using hneg
      clear hout hin
      go_wp2_with fail
      clear y1 y2 y3 y4 i1 i2 i3 i4
      generalize (s9.setCell ⟨u6.heap.size, 0, none⟩ (.slice none 0 0)).setCell ⟨u6.heap.size, 1, none⟩ (.slice none 0 0) = s10 at *
      refine (sameD (Seq.nil _) (Seq.nil _) (Seq.nil _) (Seq.nil _)).mono ?_
      rintro e sT ⟨rfl, hbT⟩
      have gT := Z5.out.trans (hbT.mono Z5.out.size)
      have oT := Z3.out.below hbT
      have xT := Z4.out.below hbT
      have iT := Z1.out.below hbT
      have jT := Z2.out.below hbT
      clear hbT
      go_wp2_with fail
      have GT := Lib.hid gT
      have OT := Lib.hid oT
      have XT := Lib.hid xT
      have IT := Lib.hid iT
      have JT := Lib.hid jT
      clear gT oT xT iT jT
      have FT := Lib.hid (SF.out.below GT.out)
      have LT := Lib.hid (SL.out.below GT.out)
      have HQ2 : Hid ((f ++ l).length = m1 + m2) := Lib.hid (by rw [HFL.out]; exact HQ.out)
      have LA : Hid (f.length + l.length ≤ 1073741824) := Lib.hid (by rw [HL1.out, HL2.out]; omega)
      have K1 : Hid (∀ u, Below sT.heap.size sT u → Calls _ _ _ u (Made u (f ++ l))) := Lib.hid (fun u h => all_any (OT.out.below h) (XT.out.below h) (by rw [HL1.out, HL2.out]; omega))
      have K2 : Hid (∀ u, Below sT.heap.size sT u → Calls _ _ _ u (Made u f)) := Lib.hid (fun u h => copy_any (FT.out.below h) (by rw [HL1.out]; omega))
      have K3 : Hid (∀ u, Below sT.heap.size sT u → Seq u (.slice a2 m2 c2) l) := Lib.hid (fun u h => LT.out.below h)
      have K4 : Hid (∀ u, Below sT.heap.size sT u → Calls _ _ _ u (fun e w' => e = .returned (.bool true) ∧ Below u.heap.size u w')) := Lib.hid (fun u h => sameD (OT.out.below h) (XT.out.below h) (FT.out.below h) (LT.out.below h))
      have KE2 : Hid (∀ u', Below sT.heap.size sT u' → Below sT.heap.size sT u' ∧ ((u'.cell? ⟨w.heap.size, 0, none⟩ = some (.slice a1 m1 c1) ∧ u'.cell? ⟨w.heap.size, 1, none⟩ = some (.slice a2 m2 c2)) ∧ (u'.cell? ⟨u4.heap.size, 0, none⟩ = some (.slice a4 m1 c4) ∧ u'.cell? ⟨u4.heap.size, 1, none⟩ = some (.slice a5 m2 c5)))) :=
        Lib.hid (fun u' h => ⟨h, (IT.out.below h).cells, (JT.out.below h).cells⟩)
      go_region_held3 (fun u' => Below sT.heap.size sT u' ∧ ((u'.cell? ⟨w.heap.size, 0, none⟩ = some (.slice a1 m1 c1) ∧ u'.cell? ⟨w.heap.size, 1, none⟩ = some (.slice a2 m2 c2)) ∧ (u'.cell? ⟨u4.heap.size, 0, none⟩ = some (.slice a4 m1 c4) ∧ u'.cell? ⟨u4.heap.size, 1, none⟩ = some (.slice a5 m2 c5))))
        (first | (exact KE2.out _ (Below.refl _ _).drew) | (exact KE2.out _ (hold (by assumption) hb)) | (exact KE2.out _ (holdN (by assumption) hbn)))
        (first
          | (go_at_call 19; (with_reducible refine (K1.out _ (by assumption : _ ∧ _).1).mono ?_); rintro e t1 ⟨v1, rfl, ho1, hb⟩; obtain ⟨e1, f1, rfl, -, -, ho1⟩ := ho1.at (m1 + m2) HQ2.out)
          | (go_at_call 20; have hz1 := held_size (by assumption); (with_reducible refine (K2.out _ (by assumption : _ ∧ _).1).mono ?_); rintro e t2 ⟨v2, rfl, ho2, hb⟩; have hb12 := hb; obtain ⟨e2, f2, rfl, -, -, ho2⟩ := ho2.at m1 HL1.out)
          | (refine step_append_seq (by rfl) _ _ (by rfl) t1.heap.size (by rfl) ho2 (by rfl) (K3.out _ (by assumption : _ ∧ _).1) (by exact LA.out) hb12.size ?_; intro v3 t3 ho3 hg3; have hb23 := (Below.refl t1.heap.size t2).grown hg3 hb12.size (fun j hj => (ho2.lt j hj).1); have hbn := hb23.mono hz1; have hb13 := hb12.trans hb23; obtain ⟨e3, f3, rfl, -, -, ho3⟩ := ho3.at (m1 + m2) HQ2.out)
          | (go_at_call 18; (with_reducible refine (sameB (ho1.seq.below hb13) ho3.seq).mono ?_); rintro e t4 ⟨rfl, hb⟩)
          | (go_at_call 11; (with_reducible refine (K4.out _ (by assumption : _ ∧ _).1).mono ?_); rintro e t5 ⟨rfl, hb⟩))
      go_wp2_with fail
      have HH := (by assumption : _ ∧ _)
      go_ret
      exact ⟨rfl, GT.out.trans (HH.1.mono GT.out.size)⟩
    · have hd : decide (x3 < 0) = false := by simpa using hneg
      have hbig : (m1 : Int) + m2 < x3 := by omega
      clear hout hin
      go_wp2_with fail
      clear y1 y2 y3 y4 i1 i2 i3 i4
      generalize (s9.setCell ⟨u6.heap.size, 0, none⟩ (.slice none 0 0)).setCell ⟨u6.heap.size, 1, none⟩ (.slice none 0 0) = s10 at *
      refine (KZ.out _).mono ?_
      rintro e s11 ⟨rfl, hb11⟩
      obtain ⟨i3, i4⟩ := (Z0.out.below hb11).cells
      go_wp2_with fail
      refine (sameD (Seq.nil _) (Seq.nil _) (Seq.nil _) (Seq.nil _)).mono ?_
      rintro e sT ⟨rfl, hbT1⟩
      have hbT := hb11.trans (hbT1.mono hb11.size)
      have gT := Z5.out.trans (hbT.mono Z5.out.size)
      have oT := Z3.out.below hbT
      have xT := Z4.out.below hbT
      have iT := Z1.out.below hbT
      have jT := Z2.out.below hbT
      clear hbT hbT1 hb11 i3 i4
      go_wp2_with fail
      have GT := Lib.hid gT
      have OT := Lib.hid oT
      have XT := Lib.hid xT
      have IT := Lib.hid iT
      have JT := Lib.hid jT
      clear gT oT xT iT jT
      have FT := Lib.hid (SF.out.below GT.out)
      have LT := Lib.hid (SL.out.below GT.out)
      have HQ2 : Hid ((f ++ l).length = m1 + m2) := Lib.hid (by rw [HFL.out]; exact HQ.out)
      have LA : Hid (f.length + l.length ≤ 1073741824) := Lib.hid (by rw [HL1.out, HL2.out]; omega)
      have K1 : Hid (∀ u, Below sT.heap.size sT u → Calls _ _ _ u (Made u (f ++ l))) := Lib.hid (fun u h => all_any (OT.out.below h) (XT.out.below h) (by rw [HL1.out, HL2.out]; omega))
      have K2 : Hid (∀ u, Below sT.heap.size sT u → Calls _ _ _ u (Made u f)) := Lib.hid (fun u h => copy_any (FT.out.below h) (by rw [HL1.out]; omega))
      have K3 : Hid (∀ u, Below sT.heap.size sT u → Seq u (.slice a2 m2 c2) l) := Lib.hid (fun u h => LT.out.below h)
      have K4 : Hid (∀ u, Below sT.heap.size sT u → Calls _ _ _ u (fun e w' => e = .returned (.bool true) ∧ Below u.heap.size u w')) := Lib.hid (fun u h => sameD (OT.out.below h) (XT.out.below h) (FT.out.below h) (LT.out.below h))
      have KE2 : Hid (∀ u', Below sT.heap.size sT u' → Below sT.heap.size sT u' ∧ ((u'.cell? ⟨w.heap.size, 0, none⟩ = some (.slice a1 m1 c1) ∧ u'.cell? ⟨w.heap.size, 1, none⟩ = some (.slice a2 m2 c2)) ∧ (u'.cell? ⟨u4.heap.size, 0, none⟩ = some (.slice a4 m1 c4) ∧ u'.cell? ⟨u4.heap.size, 1, none⟩ = some (.slice a5 m2 c5)))) :=
        Lib.hid (fun u' h => ⟨h, (IT.out.below h).cells, (JT.out.below h).cells⟩)
      go_region_held3 (fun u' => Below sT.heap.size sT u' ∧ ((u'.cell? ⟨w.heap.size, 0, none⟩ = some (.slice a1 m1 c1) ∧ u'.cell? ⟨w.heap.size, 1, none⟩ = some (.slice a2 m2 c2)) ∧ (u'.cell? ⟨u4.heap.size, 0, none⟩ = some (.slice a4 m1 c4) ∧ u'.cell? ⟨u4.heap.size, 1, none⟩ = some (.slice a5 m2 c5))))
        (first | (exact KE2.out _ (Below.refl _ _).drew) | (exact KE2.out _ (hold (by assumption) hb)) | (exact KE2.out _ (holdN (by assumption) hbn)))
        (first
          | (go_at_call 19; (with_reducible refine (K1.out _ (by assumption : _ ∧ _).1).mono ?_); rintro e t1 ⟨v1, rfl, ho1, hb⟩; obtain ⟨e1, f1, rfl, -, -, ho1⟩ := ho1.at (m1 + m2) HQ2.out)
          | (go_at_call 20; have hz1 := held_size (by assumption); (with_reducible refine (K2.out _ (by assumption : _ ∧ _).1).mono ?_); rintro e t2 ⟨v2, rfl, ho2, hb⟩; have hb12 := hb; obtain ⟨e2, f2, rfl, -, -, ho2⟩ := ho2.at m1 HL1.out)
          | (refine step_append_seq (by rfl) _ _ (by rfl) t1.heap.size (by rfl) ho2 (by rfl) (K3.out _ (by assumption : _ ∧ _).1) (by exact LA.out) hb12.size ?_; intro v3 t3 ho3 hg3; have hb23 := (Below.refl t1.heap.size t2).grown hg3 hb12.size (fun j hj => (ho2.lt j hj).1); have hbn := hb23.mono hz1; have hb13 := hb12.trans hb23; obtain ⟨e3, f3, rfl, -, -, ho3⟩ := ho3.at (m1 + m2) HQ2.out)
          | (go_at_call 18; (with_reducible refine (sameB (ho1.seq.below hb13) ho3.seq).mono ?_); rintro e t4 ⟨rfl, hb⟩)
          | (go_at_call 11; (with_reducible refine (K4.out _ (by assumption : _ ∧ _).1).mono ?_); rintro e t5 ⟨rfl, hb⟩))
      go_wp2_with fail
      have HH := (by assumption : _ ∧ _)
      go_ret
      exact ⟨rfl, GT.out.trans (HH.1.mono GT.out.size)⟩

set_option maxRecDepth 100000 in
theorem lifted (os : Os) (started : os.Started) (H : Type) (enc : TypeId × Value → H) :
    ReturnsInHanded {} Try.checked os 3 .any (Rows.diskAllSpec.pre6 enc Try.prog Try.f3 Rows.diskAllRow.domain false) (Rows.diskAllSpec.post enc Try.prog Try.f3 false true false false) := by
  refine returnsInHanded_of_change (C := Try.checked) own started (by kernel_rfl) Try.func3
    (ChangeSpec.witness6 (enc := enc) (C := Try.checked) false ⟨#[], #[.agg #[.slice none 0 0, .slice none 0 0], .slice none 0 0, .int .i64 0, .int .i64 0], []⟩ 8 (by kernel_rfl) (by kernel_rfl) (by kernel_rfl) (by kernel_rfl)) ?_
  intro W base args ds gs before hval0 hW hcnd _
  have hval : ∀ (j : Nat) t v, Try.f3.params[j]? = some t → args[j]? = some v → Value.okWide Try.prog W .any base t v := hval0
  have hW' := hW
  obtain ⟨p, q, hA0, hV, rfl, hfz, hnd⟩ := hW
  have hA : DataW.TrodAll enc Try.prog W 0 (fun _ => true) true Try.f3.params.toList args.toList ds p := hA0
  rw [Try.params3] at hA hval
  obtain ⟨v0, vs0, d0, ds0, p0, q0, hargs, rfl, rfl, h0, r0⟩ := trodAll_cons hA
  obtain ⟨v1, vs1, d1, ds1, p1, q1, rfl, rfl, rfl, h1, r1⟩ := trodAll_cons r0
  obtain ⟨v2, vs2, d2, ds2, p2, q2, rfl, rfl, rfl, h2, r2⟩ := trodAll_cons r1
  obtain ⟨v3, vs3, d3, ds3, p3, q3, rfl, rfl, rfl, h3, r3⟩ := trodAll_cons r2
  obtain ⟨rfl, rfl, rfl⟩ := trodAll_nil r3
  obtain rfl : args = #[v0, v1, v2, v3] := by cases args; simp_all
  obtain ⟨rfl, rfl⟩ := trodVars_none hV
  have k0 := h0
  have lt0 : ∀ x ∈ p0, x.block < W.heap.size := by obtain ⟨m, hm⟩ := k0; exact DataW.trod_lt m _ _ _ hm
  have w0 := open0 (hval 0 24 v0 rfl rfl) h0
  obtain ⟨a1, len1, cap1, rfl⟩ := okWide_slice Try.underlying22 (hval 1 22 v1 rfl rfl)
  have k1 := h1
  have lt1 : ∀ x ∈ p1, x.block < W.heap.size := by obtain ⟨m, hm⟩ := k1; exact DataW.trod_lt m _ _ _ hm
  obtain ⟨z1, w1⟩ : ∃ zs, IsRow .u8 W a1 len1 cap1 zs := by
    obtain ⟨fuel, hf⟩ := h1
    rcases open_ints Try.underlying22 Try.underlying5 (by kernel_rfl) hf with ⟨hcs, _⟩ | ⟨x, l, c, zs, hcs, _, hl, hm, hz, _, hcell, hwz⟩
    · simp [Value.cells] at hcs
      obtain ⟨rfl, rfl, rfl⟩ := hcs
      exact ⟨[], .inl ⟨rfl, rfl, rfl, rfl⟩⟩
    · simp [Value.cells] at hcs
      obtain ⟨rfl, rfl, rfl⟩ := hcs
      exact ⟨zs, .inr ⟨_, rfl, hl, hm, by simpa using hz, hcell, hwz⟩⟩
  obtain ⟨a2, rfl, rfl, rfl, w2⟩ := open_int Try.underlying3 (hval 2 3 v2 rfl rfl) h2
  obtain ⟨a3, rfl, rfl, rfl, w3⟩ := open_int Try.underlying3 (hval 3 3 v3 rfl rfl) h3
  clear hA0 hval0
  refine (walk v0 a1 len1 cap1 z1 a2 a3 W w0 w1 w2 w3).mono fun e W' ⟨he, bel⟩ => ?_
  subst he
  exact ⟨_, rfl, _, _, _, [], _, [], hW', trodAll_mk1 (shut_bool Try.underlying4 _), (trodAll_cons_mk (Below.trod laidOut (by kernel_rfl) (of_decide_eq_true (by kernel_rfl)) k0 bel lt0) (trodAll_cons_mk (Below.trod laidOut (by kernel_rfl) (of_decide_eq_true (by kernel_rfl)) k1 bel lt1) (trodAll_cons_mk (shut_int Try.underlying3 w2) (trodAll_cons_mk (shut_int Try.underlying3 w3) trodAll_mk0)))), rfl, bel.frame _, fun h => by cases h⟩

theorem over : Rows.diskAllRow.holds Try.pinned (OpenSpec.ofChange Rows.diskAllSpec) :=
  OpenClaim.holds_of_wide 3 Try.f3 rfl rfl rfl rfl rfl rfl rfl ⟨rfl, rfl, rfl, rfl, rfl⟩ rfl rfl rfl rfl rfl (by kernel_rfl) Try.func3 (by kernel_rfl)
    (of_decide_eq_true (by kernel_rfl)) (by unfold Func.isWrapper; first | (rw [if_pos (by decide +kernel)]; kernel_rfl) | (rw [if_neg (by decide +kernel)]; exact ⟨rfl, rfl⟩))
    (fun os started H enc _ => lifted os started H enc)

/-- the given statement -/
theorem proved : Rows.DiskAllSaid := over
#print axioms proved
end Go.Proofs.Ytldhbhgpdjebaaa.diskAll
