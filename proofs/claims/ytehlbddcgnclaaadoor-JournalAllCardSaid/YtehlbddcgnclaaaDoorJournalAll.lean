/-
  For any disk and any bytes the law JournalAll answers true: of their first 3000 bytes each, a record is appended to the disk, and the disk is opened, as the document says, and the disk that was handed in stays. Conditions: the package variable crc.halves holds what the program's text lays (the card ties it).
  (The frame was written by the guide's proof-skeleton.mjs, and turned for a struct by value; the walk is ours.)
-/
import Derived.Test.YtehlbddcgnclaaaDoorRows
import Derived.WalkKit
import Derived.ProofKit
import Derived.OpenShut
import Derived.ShutString
import Derived.ChangeOld
import Derived.Below
import Derived.Test.YtehlbddcgnclaaaDoorOpenD
import Derived.Test.YtehlbddcgnclaaaDoorAwakeJ
import Derived.Test.YtehlbddcgnclaaaDoorRefS
import Derived.Lib.MinMax
import Derived.StillTailTactics
import Derived.Deep.DeepCutAuto
import Derived.LaidMore
import Derived.Stop.Joined
import Derived.SevenTiedAt
import Derived.Test.YtehlbddcgnclaaaDoorLaid
namespace Go.Proofs.YtehlbddcgnclaaaDoor.journalAll
open Go.ChangeShapes Go.WideShapes Go.ChangeAt Go.RowKit
open Go.ChangeMaps (open_string shut_string)
set_option linter.unusedVariables false

open Plain

theorem open0 {H : Type} {enc : TypeId × Value → H} {W : World} {r : Reach} {b : Nat} {v : Value} {d : DataW H} {p : List MemPlace} (hv : Value.okWide Tryd.prog W r b 24 v) (h : DataW.Trod enc Tryd.prog W 0 (fun _ => true) true 24 v d p) : IsDisk W v := disk_of_trod hv h

theorem refScan_of {v : Value} {xs : Bytes} {w : World} (hs : Seq w v xs) (hlen : xs.length ≤ 6000) {ls : List Bytes} {k : Nat} (h : Scans xs ls k) :
    Calls Tryd.prog 14 #[v] w (ScanK ls k w) := by
  refine (refScan_any hs hlen).mono ?_
  rintro e w' ⟨v, ls', k', rfl, hS, ho, hb⟩
  obtain ⟨rfl, rfl⟩ := Scans.fix h hS
  exact ⟨v, rfl, ho, hb⟩

theorem held_grown {w u u' : World} {R : Prop} {row : Option Nat} (h : Below w.heap.size w u ∧ R) (hg : u.grownBy u' row) (hr : ∀ k, row = some k → w.heap.size ≤ k) : Below w.heap.size w u' := h.1.grown hg h.1.size hr
theorem held_low {w u : World} {R : Prop} (h : Below w.heap.size w u ∧ R) : Below w.heap.size w u := h.1
/-- what the document's own Write left in the variable g8 -/
def Wrote (s1 : World) (g8 : Nat) (X Y : Value) (lb : Bytes) (wy : World) : Prop := Below s1.heap.size s1 wy ∧ IsBox 24 wy g8 X Y ∧ Seq wy Y lb

set_option maxRecDepth 100000 in
set_option maxHeartbeats 16000000 in
theorem walk (v0 : Value) (a3 : Option Addr) (n3 c3 : Nat) (z3 : List Int) (w : World) (w0 : IsDisk w v0) (w1 : IsRow .u8 w a3 n3 c3 z3) (hT : HasTab w) :
    Calls Tryd.prog 3 #[v0, .slice a3 n3 c3] w fun e w' => e = .returned (.bool true) ∧ Below w.heap.size w w' := by
  obtain ⟨a1, n1, c1, z1, a2, n2, c2, z2, rfl, i1, i2⟩ := w0
  obtain ⟨f, m1, hm1, hl1, sf, hlt1, hc1⟩ := row_cut i1 3000
  obtain ⟨l, m2, hm2, hl2, sl, hlt2, hc2⟩ := row_cut i2 3000
  obtain ⟨p, m3, hm3, hl3, sp, hlt3, hc3⟩ := row_cut w1 3000
  have M1 : min (n1 : Int) 3000 = (m1 : Int) := by omega
  have M2 : min (n2 : Int) 3000 = (m2 : Int) := by omega
  have M3 : min (n3 : Int) 3000 = (m3 : Int) := by omega
  have HT := Lib.hid hT
  have B0 : Hid (Below w.heap.size w (w.alloc (.cells #[.slice a1 n1 c1, .slice a2 n2 c2] 24))) := Lib.hid ((Below.refl _ _).alloc (Nat.le_refl _) _)
  have KA := Lib.hid (awake_any (w.alloc (.cells #[.slice a1 n1 c1, .slice a2 n2 c2] 24)) (hT.below B0.out))
  have SF := Lib.hid sf
  have SL := Lib.hid sl
  have SP := Lib.hid sp
  have q1 : (m1 : Int) ≤ c1 := by omega
  have q2 : (m2 : Int) ≤ c2 := by omega
  have q3 : (m1 : Int) ≤ 3000 := by omega
  have q4 : (m2 : Int) ≤ 3000 := by omega
  have q5 : (0 : Int) ≤ m1 := by omega
  have q6 : (0 : Int) ≤ m2 := by omega
  have q7 : (m3 : Int) ≤ c3 := by omega
  have q8 : (m3 : Int) ≤ 3000 := by omega
  have q9 : (0 : Int) ≤ m3 := by omega
  have HL1 := Lib.hid hl1
  have HL2 := Lib.hid hl2
  have HL3 := Lib.hid hl3
  have LIM : Hid (m1 ≤ 3000 ∧ m2 ≤ 3000 ∧ m3 ≤ 3000) := Lib.hid ⟨hlt1, hlt2, hlt3⟩
  have LP : Hid ((frm p).length = 8 + m3) := Lib.hid (by rw [frm_len, hl3])
  clear hm1 hm2 hm3 hl1 hl2 hl3 sf sl sp hlt1 hlt2 hlt3 hc1 hc2 hc3 i1 i2 w1 hT
  go_enter Tryd.func3, Tryd.ntmps3
  go_wp2_with fail
  refine KA.out.mono ?_
  rintro e u1 ⟨rfl, hg1⟩
  have I1 := Lib.hid ((IsBox.new 24 w (.slice a1 n1 c1) (.slice a2 n2 c2)).below hg1)
  have G1 := Lib.hid (B0.out.trans (hg1.mono B0.out.size))
  obtain ⟨y1, y2⟩ := I1.out.cells
  obtain ⟨y3, y4⟩ := I1.out.free
  clear hg1
  go_wp2_with fail
  go_still_tail 15, (by kernel_rfl)
  obtain ⟨u2, hu⟩ : ∃ u2, u2 = u1.drew := ⟨_, rfl⟩
  have G2 := Lib.hid (G1.out.drew)
  have I2 := Lib.hid (I1.out.below ((Below.refl _ _).drew))
  rw [← hu] at G2 I2
  change wpList _ _ _ _ _ u1.drew
  rw [← hu]
  clear hu y1 y2 y3 y4
  obtain ⟨y1, y2⟩ := I2.out.cells
  obtain ⟨y3, y4⟩ := I2.out.free
  go_wp2_with fail
  have I3 := Lib.hid (I2.out.set (.slice a1 m1 c1) (.slice a2 m2 c2))
  have G3 := Lib.hid (below_set G2.out (Nat.le_refl _) (.slice a1 m1 c1) (.slice a2 m2 c2))
  clear y1 y2 y3 y4
  have KC : Hid (∀ u, Below w.heap.size w u → Calls _ _ _ u (MadeD u f l)) := Lib.hid (fun u (h : Below w.heap.size w u) => copyD_any (SF.out.below h) (SL.out.below h) (by have := LIM.out; rw [HL1.out]; omega) (by have := LIM.out; rw [HL2.out]; omega))
  generalize (u2.setCell ⟨w.heap.size, 0, none⟩ (.slice a1 m1 c1)).setCell ⟨w.heap.size, 1, none⟩ (.slice a2 m2 c2) = u3 at *
  refine (KC.out _ G3.out).mono ?_
  rintro e u4 ⟨v4, x4, rfl, ho4, hx4, hb4⟩
  obtain ⟨a4, c4, rfl, -, -, ho4⟩ := ho4.at m1 HL1.out
  obtain ⟨a5, c5, rfl, -, -, hx4⟩ := hx4.at m2 HL2.out
  have A4 : Below u4.heap.size u4 (u4.alloc (.cells #[.slice a4 m1 c4, .slice a5 m2 c5] 24)) := (Below.refl _ _).alloc (Nat.le_refl _) _
  have A3 := hb4.trans (A4.mono hb4.size)
  have G5 := Lib.hid (G3.out.trans (A3.mono G3.out.size))
  have O5 := Lib.hid (ho4.seq.below A4)
  have X5 := Lib.hid (hx4.seq.below A4)
  have I5 := Lib.hid (I3.out.below A3)
  have J5 := Lib.hid (IsBox.new 24 u4 (.slice a4 m1 c4) (.slice a5 m2 c5))
  clear ho4 hx4 hb4 A4 A3
  go_wp2_with fail
  generalize u4.alloc (.cells #[.slice a4 m1 c4, .slice a5 m2 c5] 24) = u5 at *
  have LB : Hid ((l ++ frm p).length = m2 + (8 + m3)) := Lib.hid (by rw [List.length_append, HL2.out, LP.out])
  refine (append_ok O5.out X5.out (SP.out.below G5.out) (HT.out.below G5.out) (by have := LIM.out; rw [HL3.out]; omega) (by have := LIM.out; rw [HL1.out, HL2.out, HL3.out]; omega)).mono ?_
  rintro e u6 ⟨v6, x6, rfl, ho6, hx6, hb6⟩
  obtain ⟨a6, c6, rfl, -, -, ho6⟩ := ho6.at m1 HL1.out
  obtain ⟨b6, d6, rfl, -, -, hx6⟩ := hx6.at (m2 + (8 + m3)) LB.out
  have A6 : Below u6.heap.size u6 (u6.alloc (.cells #[.slice a6 m1 c6, .slice b6 (m2 + (8 + m3)) d6] 24)) := (Below.refl _ _).alloc (Nat.le_refl _) _
  have A5 := hb6.trans (A6.mono hb6.size)
  have G7 := Lib.hid (G5.out.trans (A5.mono G5.out.size))
  have O7 := Lib.hid (O5.out.below A5)
  have X7 := Lib.hid (X5.out.below A5)
  have P7 := Lib.hid (ho6.seq.below A6)
  have Q7 := Lib.hid (hx6.seq.below A6)
  have I7 := Lib.hid (I5.out.below A5)
  have J7 := Lib.hid (J5.out.below A5)
  have L7 := Lib.hid (IsBox.new 24 u6 (.slice a6 m1 c6) (.slice b6 (m2 + (8 + m3)) d6))
  clear ho6 hx6 hb6 A6 A5 I5 J5 O5 X5 I3
  go_wp2_with fail
  generalize u6.alloc (.cells #[.slice a6 m1 c6, .slice b6 (m2 + (8 + m3)) d6] 24) = s1 at *
  obtain ⟨y1, y2⟩ := I7.out.cells
  have KF : Hid (∀ u, Below s1.heap.size s1 u → Calls _ _ _ u (Made u (frm p))) := Lib.hid (fun u (h : Below s1.heap.size s1 u) => refFrame_any ((SP.out.below G7.out).below h) (by have := LIM.out; rw [HL3.out]; omega))
  have KW : Hid (∀ u (x : Option Addr) (c : Nat), Below s1.heap.size s1 u → Seq u (.slice x (8 + m3) c) (frm p) → _) := Lib.hid (fun u x c (h : Below s1.heap.size s1 u) (hx : Seq u (.slice x (8 + m3) c) (frm p)) => rwrite_ok ((SF.out.below G7.out).below h) ((SL.out.below G7.out).below h) hx (by have := LIM.out; rw [HL1.out, HL2.out, LP.out]; omega))
  have KE : Hid (∀ u', Below s1.heap.size s1 u' → Below s1.heap.size s1 u' ∧ (u'.cell? ⟨w.heap.size, 0, none⟩ = some (.slice a1 m1 c1) ∧ u'.cell? ⟨w.heap.size, 1, none⟩ = some (.slice a2 m2 c2))) :=
    Lib.hid (fun u' h => ⟨h, (I7.out.below h).cells⟩)
  go_cut [8, 9] (fun s8 s9 wy => ∃ (g8 : Nat) (y : Option Addr) (cy : Nat), s8 = .pointer (some ⟨g8, 0, none⟩) ∧ s9 = .int .i64 0 ∧ Wrote s1 g8 (.slice a1 m1 c1) (.slice y (m2 + (8 + m3)) cy) (l ++ frm p) wy)
  case first =>
    go_region_held3 (fun u' => Below s1.heap.size s1 u' ∧ (u'.cell? ⟨w.heap.size, 0, none⟩ = some (.slice a1 m1 c1) ∧ u'.cell? ⟨w.heap.size, 1, none⟩ = some (.slice a2 m2 c2)))
      (first | assumption | (exact KE.out _ (Below.refl _ _).drew) | (exact KE.out _ (hold (by assumption) hb)) | (exact KE.out _ (holdA hk _)) | (exact KE.out _ (holdA (by assumption) _)) | (exact KE.out _ (below_set hk.1 hk2.1.size _ _)) | (exact KE.out _ (below_set hk.1 (Nat.le_refl _) _ _)))
      (first
        | (go_at_call 11; (with_reducible refine (KF.out _ (by assumption : _ ∧ _).1).mono ?_); rintro e s2 ⟨v2, rfl, ho2, hb⟩; have hk2 := KE.out _ (hold (by assumption) hb); have hbx1 : IsBox 24 s2 s1.heap.size (.slice none 0 0) (.slice none 0 0) := (hb.block _ (by simp)).trans (by exact heap_alloc_new s1 _); obtain ⟨e2, f2, rfl, -, -, ho2⟩ := ho2.at (8 + m3) LP.out; have hs2 := ho2.seq)
        | (go_at_call 11; (with_reducible refine (KF.out _ (by assumption : _ ∧ _).1).mono ?_); rintro e s2 ⟨v2, rfl, ho2, hb⟩; have hk2 := KE.out _ (hold (by assumption) hb); obtain ⟨e2, f2, rfl, -, -, ho2⟩ := ho2.at (8 + m3) LP.out; have hs2 := ho2.seq)
        | (go_at_call 10; have hbx1' := hbx1; (with_reducible refine (KW.out _ _ _ (by assumption : _ ∧ _).1 hs2).mono ?_); rintro e s3 ⟨x3, rfl, hx3, hb⟩; have hk := KE.out _ (hold (by assumption) hb); have hbx := hbx1'.below hb; obtain ⟨y3, y4⟩ := hbx.cells; obtain ⟨y5, y6⟩ := hbx.free; obtain ⟨g2, h2, rfl, -, -, hx3⟩ := hx3.at (m2 + (8 + m3)) LB.out)
        | (go_at_call 10; (with_reducible refine (KW.out _ _ _ (by assumption : _ ∧ _).1 (hs2.below_alloc _)).mono ?_); rintro e s3 ⟨x3, rfl, hx3, hb⟩; have hk := KE.out _ (hold (by assumption) hb); have hbx : IsBox 24 s3 s2.heap.size (.slice none 0 0) (.slice none 0 0) := (hb.block _ (by simp)).trans (by exact heap_alloc_new s2 _); obtain ⟨y3, y4⟩ := hbx.cells; obtain ⟨y5, y6⟩ := hbx.free; obtain ⟨g2, h2, rfl, -, -, hx3⟩ := hx3.at (m2 + (8 + m3)) LB.out)
        | (go_at_call 10; (with_reducible refine (KW.out _ _ _ (by assumption : _ ∧ _).1 hs2).mono ?_); rintro e s3 ⟨x3, rfl, hx3, hb⟩; have hk := KE.out _ (hold (by assumption) hb); obtain ⟨g2, h2, rfl, -, -, hx3⟩ := hx3.at (m2 + (8 + m3)) LB.out))
    all_goals (go_wp2_with fail; go_meet)
    · exact ⟨_, g2, h2, rfl, rfl, hk.1.alloc hk.1.size _, IsBox.new _ _ _ _, hx3.seq.below_alloc _⟩
    · exact ⟨_, g2, h2, rfl, rfl, below_set hk.1 hk2.1.size _ _, hbx.set _ _, hx3.seq.setBox hbx _ _⟩
    · exact ⟨_, g2, h2, rfl, rfl, below_set hk.1 (Nat.le_refl _) _ _, hbx.set _ _, hx3.seq.setBox hbx _ _⟩
  case rest =>
    obtain ⟨g8, y, cy, rfl, rfl, hW1, hW2, hW3⟩ := hcut
    have G8 := Lib.hid (G7.out.trans (hW1.mono G7.out.size))
    have O8 := Lib.hid (O7.out.below hW1)
    have X8 := Lib.hid (X7.out.below hW1)
    have I8 := Lib.hid (I7.out.below hW1)
    have J8 := Lib.hid (J7.out.below hW1)
    have L8 := Lib.hid (L7.out.below hW1)
    have N8 := Lib.hid hW2
    have K8 : Hid (Calls _ _ _ wc (fun e w' => e = .returned (.bool true) ∧ Below wc.heap.size wc w')) := Lib.hid (sameD (P7.out.below hW1) (Q7.out.below hW1) (SF.out.below G8.out) hW3)
    clear y1 y2 hW1 hW2 hW3 O7 X7 P7 Q7 I7 J7 L7 KF KW KE
    obtain ⟨y1, y2⟩ := L8.out.cells
    obtain ⟨y3, y4⟩ := N8.out.cells
    go_wp2_with fail
    refine K8.out.mono ?_
    rintro e s4 ⟨rfl, hb4⟩
    have G9 := Lib.hid (G8.out.trans (hb4.mono G8.out.size))
    have O9 := Lib.hid (O8.out.below hb4)
    have X9 := Lib.hid (X8.out.below hb4)
    have I9 := Lib.hid (I8.out.below hb4)
    have J9 := Lib.hid (J8.out.below hb4)
    clear y1 y2 y3 y4 hb4 O8 X8 I8 J8 L8 N8 K8
    obtain ⟨y1, y2⟩ := J9.out.cells
    go_wp2_with fail
    refine (open_any O9.out X9.out (HT.out.below G9.out) (by have := LIM.out; rw [HL1.out]; omega) (by have := LIM.out; rw [HL2.out]; omega)).mono ?_
    rintro e s5 ⟨v5, d5, x5, ls, k, rfl, hS, ho5, hd5, hx5, hb5⟩
    obtain ⟨t1, t2, t3, t4⟩ := scans_taken hS
    have TK := Lib.hid t1
    have SC := Lib.hid hS
    have KL : Hid (k ≤ m1 + m2) := Lib.hid (by rw [List.length_append, HL1.out, HL2.out] at t2; exact t2)
    obtain ⟨z, hz⟩ : ∃ z, z = (flatF ls).length := ⟨_, rfl⟩
    have LZ := Lib.hid hz.symm
    obtain ⟨a7, c7, rfl, -, -, hd5⟩ := hd5.at z LZ.out
    obtain ⟨a8, c8, rfl, -, -, hx5⟩ := hx5.at 0 rfl
    obtain ⟨a9, c9, rfl, -, -, -, -⟩ := ho5.seqR.parts
    have A5 : Below s5.heap.size s5 (s5.alloc (.cells #[.slice a7 z c7, .slice a8 0 c8] 24)) := (Below.refl _ _).alloc (Nat.le_refl _) _
    have A4 := hb5.trans (A5.mono hb5.size)
    have G10 := Lib.hid (G9.out.trans (A4.mono G9.out.size))
    have O10 := Lib.hid (O9.out.below A4)
    have X10 := Lib.hid (X9.out.below A4)
    have I10 := Lib.hid (I9.out.below A4)
    have J10 := Lib.hid (J9.out.below A4)
    have R10 := Lib.hid (ho5.seqR.below A5)
    have P10 := Lib.hid (hd5.seq.below A5)
    have Q10 := Lib.hid (hx5.seq.below A5)
    have L10 := Lib.hid (IsBox.new 24 s5 (.slice a7 z c7) (.slice a8 0 c8))
    clear y1 y2 t1 t2 t3 t4 hz hS ho5 hd5 hx5 hb5 A5 A4 O9 X9 I9 J9
    have hll : Hid (k ≤ m1 + m2 ∧ m1 + m2 ≤ 6000) := Lib.hid ⟨KL.out, by have := LIM.out; omega⟩
    have hki : (k : Int) ≤ 6000 := by have := hll.out; omega
    generalize hln : ls.length = ln at *
    have HLN := Lib.hid hln
    clear hln
    go_wp2_with fail
    generalize s5.alloc (.cells #[.slice a7 z c7, .slice a8 0 c8] 24) = s6 at *
    have KC2 : Hid (∀ u, Below s6.heap.size s6 u → Calls _ _ _ u (Made u f)) := Lib.hid (fun u h => copy_any ((SF.out.below G10.out).below h) (by have := LIM.out; rw [HL1.out]; omega))
    have KQ : Hid (∀ u, Below s6.heap.size s6 u → Seq u (.slice a2 m2 c2) l) := Lib.hid (fun u h => (SL.out.below G10.out).below h)
    have LQ : Hid ((f ++ l).length = m1 + m2) := Lib.hid (by rw [List.length_append, HL1.out, HL2.out])
    have LA : Hid (f.length + l.length ≤ 1073741824) := Lib.hid (by rw [HL1.out, HL2.out]; have := hll.out; omega)
    have KE : Hid (∀ u', Below s6.heap.size s6 u' → Below s6.heap.size s6 u' ∧ (u'.cell? ⟨w.heap.size, 0, none⟩ = some (.slice a1 m1 c1) ∧ u'.cell? ⟨w.heap.size, 1, none⟩ = some (.slice a2 m2 c2))) :=
      Lib.hid (fun u' h => ⟨h, (I10.out.below h).cells⟩)
    go_region_held3 (fun u' => Below s6.heap.size s6 u' ∧ (u'.cell? ⟨w.heap.size, 0, none⟩ = some (.slice a1 m1 c1) ∧ u'.cell? ⟨w.heap.size, 1, none⟩ = some (.slice a2 m2 c2)))
      (first | assumption | (exact KE.out _ (Below.refl _ _).drew) | (exact KE.out _ (hold (by assumption) hb)) | (exact KE.out _ hbn))
      (first
        | (go_at_call 15; have hz1 := held_size (by assumption); (with_reducible refine (KC2.out _ (by assumption : _ ∧ _).1).mono ?_); rintro e t2 ⟨v2, rfl, ho2, hb⟩; obtain ⟨e2, f2, rfl, -, -, ho2⟩ := ho2.at m1 HL1.out)
        | (refine step_append_seq (by rfl) _ _ (by rfl) s6.heap.size (by rfl) (ho2.mono hz1) (by rfl) (KQ.out _ (by assumption : _ ∧ _).1) (by exact LA.out) (held_size (by assumption)) ?_; intro v3 t3 ho3 hg3; have hbn := held_grown (by assumption) hg3 (fun j hj => ((ho2.mono hz1).lt j hj).1); obtain ⟨e3, f3, rfl, -, -, ho3⟩ := ho3.at (m1 + m2) LQ.out)
        | (go_at_call 14; (with_reducible refine (refScan_of ho3.seq (by rw [LQ.out]; exact hll.out.2) SC.out).mono ?_); rintro e t4 ⟨v4, rfl, ho4, hb⟩))
    have BT := (by assumption : _ ∧ _).1
    have hbT := BT
    have gT := G10.out.trans (hbT.mono G10.out.size)
    have rT := R10.out.below hbT
    have pT := P10.out.below hbT
    have qT := Q10.out.below hbT
    have oT := O10.out.below hbT
    have xT := X10.out.below hbT
    have iT := I10.out.below hbT
    have jT := J10.out.below hbT
    have lT := L10.out.below hbT
    have sT := ho4.seqR
    clear BT hbT ho2 ho3 hg3 hbn ho4 hb
    go_wp2_with fail
    have GT := Lib.hid gT
    have RT := Lib.hid rT
    have PT := Lib.hid pT
    have QT := Lib.hid qT
    have OT := Lib.hid oT
    have XT := Lib.hid xT
    have IT := Lib.hid iT
    have JT := Lib.hid jT
    have LT := Lib.hid lT
    have ST := Lib.hid sT
    clear gT rT pT qT oT xT iT jT lT sT KC2 KQ KE
    have FT := Lib.hid (SF.out.below GT.out)
    have MT := Lib.hid (SL.out.below GT.out)
    have K1 : Hid (∀ u, Below t4.heap.size t4 u → Calls _ _ _ u (fun e w' => e = .returned (.bool true) ∧ Below u.heap.size u w')) := Lib.hid (fun u h => rowsB (RT.out.below h) (ST.out.below h))
    have K2 : Hid (∀ u, Below t4.heap.size t4 u → Calls _ _ _ u (MadeD u (flatF ls) [])) := Lib.hid (fun u h => by
      have := first_any (n := k) (FT.out.below h) (MT.out.below h) (by have := hll.out; omega) (by have := hll.out; omega) hll.out.1
      rw [TK.out] at this
      exact this)
    have K3 : Hid (∀ u, Below t4.heap.size t4 u → Calls _ _ _ u (fun e w' => e = .returned (.bool true) ∧ Below u.heap.size u w')) := Lib.hid (fun u h => sameD (OT.out.below h) (XT.out.below h) (FT.out.below h) (MT.out.below h))
    have KE : Hid (∀ u', Below t4.heap.size t4 u' → Below t4.heap.size t4 u' ∧ ((u'.cell? ⟨w.heap.size, 0, none⟩ = some (.slice a1 m1 c1) ∧ u'.cell? ⟨w.heap.size, 1, none⟩ = some (.slice a2 m2 c2)) ∧ (u'.cell? ⟨u4.heap.size, 0, none⟩ = some (.slice a4 m1 c4) ∧ u'.cell? ⟨u4.heap.size, 1, none⟩ = some (.slice a5 m2 c5)) ∧ (u'.cell? ⟨s5.heap.size, 0, none⟩ = some (.slice a7 z c7) ∧ u'.cell? ⟨s5.heap.size, 1, none⟩ = some (.slice a8 0 c8)))) :=
      Lib.hid (fun u' h => ⟨h, (IT.out.below h).cells, (JT.out.below h).cells, (LT.out.below h).cells⟩)
    go_region_held3 (fun u' => Below t4.heap.size t4 u' ∧ ((u'.cell? ⟨w.heap.size, 0, none⟩ = some (.slice a1 m1 c1) ∧ u'.cell? ⟨w.heap.size, 1, none⟩ = some (.slice a2 m2 c2)) ∧ (u'.cell? ⟨u4.heap.size, 0, none⟩ = some (.slice a4 m1 c4) ∧ u'.cell? ⟨u4.heap.size, 1, none⟩ = some (.slice a5 m2 c5)) ∧ (u'.cell? ⟨s5.heap.size, 0, none⟩ = some (.slice a7 z c7) ∧ u'.cell? ⟨s5.heap.size, 1, none⟩ = some (.slice a8 0 c8))))
      (first | (exact KE.out _ (Below.refl _ _).drew) | (exact KE.out _ (hold (by assumption) hb)))
      (first
        | (go_at_call 16; (with_reducible refine (K1.out _ (by assumption : _ ∧ _).1).mono ?_); rintro e s7 ⟨rfl, hb⟩)
        | (go_at_call 17; have hB8 := held_low (by assumption); (with_reducible refine (K2.out _ (by assumption : _ ∧ _).1).mono ?_); rintro e s8 ⟨v8, x8, rfl, ho8, hx8, hb⟩; have hB9 := hB8.trans (hb.mono hB8.size); obtain ⟨e8, f8, rfl, -, -, ho8⟩ := ho8.at z LZ.out; obtain ⟨g9, h8, rfl, -, -, hx8⟩ := hx8.at 0 rfl)
        | (go_at_call 12; (with_reducible refine (sameD (PT.out.below hB9) (QT.out.below hB9) ho8.seq hx8.seq).mono ?_); rintro e s9 ⟨rfl, hb⟩)
        | (go_at_call 12; (with_reducible refine (K3.out _ (by assumption : _ ∧ _).1).mono ?_); rintro e s9 ⟨rfl, hb⟩))
    go_wp2_with fail
    have HH := (by assumption : _ ∧ _)
    go_ret
    exact ⟨rfl, GT.out.trans (HH.1.mono GT.out.size)⟩

set_option maxRecDepth 100000 in
theorem lifted (os : Os) (started : os.Started) (H : Type) (enc : TypeId × Value → H) :
    ReturnsInHanded {} Tryd.checked os 3 .any (fun w args => (Rows.journalAllSpec.pre enc Tryd.prog Tryd.f3 [] false w args ∧ laidMetH Tryd.prog laid1 w) ∧ sizedMet enc Tryd.prog Tryd.f3 (OpenSpec.ofChange Rows.journalAllSpec) false w args)
      (Rows.journalAllSpec.post enc Tryd.prog Tryd.f3 false true false false) := by
  refine returnsInHanded_of_change_and (C := Tryd.checked) (X := fun w _ => laidMetH Tryd.prog laid1 w) (fun _ _ _ hh h => h.of_heap hh) own started (by kernel_rfl) Tryd.func3
    (ChangeSpec.witness_shaped (enc := enc) (C := Tryd.checked) (os := os) (X := fun w _ => laidMetH Tryd.prog laid1 w) false (World.doorLaid Tryd.prog 400 os) #[.agg #[.slice none 0 0, .slice none 0 0], .slice none 0 0] 8 rfl (World.shaped_of_RefB (by kernel_rfl) (by kernel_rfl)) (by kernel_rfl) (by kernel_rfl) (by kernel_rfl) (door_met os _)) ?_
  intro W base args ds gs before hval0 hW _ _ hL _
  have hval : ∀ (j : Nat) t v, Tryd.f3.params[j]? = some t → args[j]? = some v → Value.okWide Tryd.prog W .any base t v := hval0
  have hW' := hW
  obtain ⟨p, q, hA0, hV, rfl, hfz, hnd⟩ := hW
  have hA : DataW.TrodAll enc Tryd.prog W 0 (fun _ => true) true Tryd.f3.params.toList args.toList ds p := hA0
  rw [Tryd.params3] at hA hval
  obtain ⟨v0, vs0, d0, ds0, p0, q0, hargs, rfl, rfl, h0, r0⟩ := trodAll_cons hA
  obtain ⟨v1, vs1, d1, ds1, p1, q1, rfl, rfl, rfl, h1, r1⟩ := trodAll_cons r0
  obtain ⟨rfl, rfl, rfl⟩ := trodAll_nil r1
  obtain rfl : args = #[v0, v1] := by cases args; simp_all
  obtain ⟨rfl, rfl⟩ := trodVars_none hV
  have k0 := h0
  have lt0 : ∀ x ∈ p0, x.block < W.heap.size := by obtain ⟨m, hm⟩ := k0; exact DataW.trod_lt m _ _ _ hm
  have w0 := open0 (hval 0 24 v0 rfl rfl) h0
  obtain ⟨a1, len1, cap1, rfl⟩ := okWide_slice Tryd.underlying22 (hval 1 22 v1 rfl rfl)
  have k1 := h1
  have lt1 : ∀ x ∈ p1, x.block < W.heap.size := by obtain ⟨m, hm⟩ := k1; exact DataW.trod_lt m _ _ _ hm
  obtain ⟨z1, w1⟩ : ∃ zs, IsRow .u8 W a1 len1 cap1 zs := by
    obtain ⟨fuel, hf⟩ := h1
    rcases open_ints Tryd.underlying22 Tryd.underlying5 (by kernel_rfl) hf with ⟨hcs, _⟩ | ⟨x, l, c, zs, hcs, _, hl, hm, hz, _, hcell, hwz⟩
    · simp [Value.cells] at hcs
      obtain ⟨rfl, rfl, rfl⟩ := hcs
      exact ⟨[], .inl ⟨rfl, rfl, rfl, rfl⟩⟩
    · simp [Value.cells] at hcs
      obtain ⟨rfl, rfl, rfl⟩ := hcs
      exact ⟨zs, .inr ⟨_, rfl, hl, hm, by simpa using hz, hcell, hwz⟩⟩
  clear hA0 hval0
  refine (walk v0 a1 len1 cap1 z1 W w0 w1 (of_laid hL)).mono fun e W' ⟨he, bel⟩ => ?_
  subst he
  exact ⟨_, rfl, _, _, _, [], _, [], hW', trodAll_mk1 (shut_bool Tryd.underlying4 _), (trodAll_cons_mk (Below.trod laidOut (by kernel_rfl) (of_decide_eq_true (by kernel_rfl)) k0 bel lt0) (trodAll_cons_mk (Below.trod laidOut (by kernel_rfl) (of_decide_eq_true (by kernel_rfl)) k1 bel lt1) trodAll_mk0)), rfl, bel.frame _, fun h => by cases h⟩

theorem over : Rows.journalAllRow.holds Tryd.pinned (OpenSpec.ofChange Rows.journalAllSpec) :=
  OpenClaim.holds_of_wide 3 Tryd.f3 rfl rfl rfl rfl rfl rfl rfl ⟨rfl, rfl, rfl, rfl, rfl⟩ rfl rfl rfl rfl rfl (by kernel_rfl) Tryd.func3 (by kernel_rfl)
    (of_decide_eq_true (by kernel_rfl)) (by unfold Func.isWrapper; first | (rw [if_pos (by decide +kernel)]; kernel_rfl) | (rw [if_neg (by decide +kernel)]; exact ⟨rfl, rfl⟩))
    (fun os started H enc _ => lifted os started H enc)

/-- the tied card: the given statement -/
theorem proved : Rows.JournalAllCardSaid :=
  Claim7.holds_tied_plain_at .later [] [.data] true (true, "a427ed33cc0ea91030093835fd4bde5cbe54613f3f0df61ccbee41e16516e237") false
    over (fun _ h => by cases h) (by kernel_rfl) (fun _ h => by cases h) journalAll_row_tie rfl ⟨rfl, rfl⟩ (by kernel_rfl) rfl
    (fun f fn hf hfn => by
      obtain rfl : f = 3 := Option.some.inj ((show Tryd.prog.funcNamed "buttery/butterylaw06.JournalAll" = some 3 by kernel_rfl).symm.trans hf) |>.symm
      obtain rfl : fn = Tryd.f3 := (Option.some.inj (Tryd.func3.symm.trans hfn)).symm
      exact ⟨by kernel_rfl, fun j t ht => by
        rw [Tryd.params3] at ht
        have hm : t ∈ [24, 22] := by simpa using Array.mem_of_getElem? ht
        have hall : ([24, 22].all fun u => !Tryd.prog.wantsStandIn u) = true := by kernel_rfl
        exact (show Tryd.prog.wantsStandIn t = false by simpa using List.all_eq_true.1 hall t hm)⟩)
    (by kernel_rfl)
#print axioms proved
end Go.Proofs.YtehlbddcgnclaaaDoor.journalAll
