/-
  For any list of steps the law JournalKeeps answers true: of its first 60 steps, of 100 bytes each, behind any crash a beginning of the records is there, with all that were made fast, and opened again it is the same. Conditions: the package variable crc.halves holds what the program's text lays (the card ties it).
  (The frame was written by the guide's proof-skeleton.mjs, and turned for a slice of structs; the walk is ours.)
-/
import Derived.Test.YtehlbddcgnclaaaDoorRows
import Derived.WalkKit
import Derived.ProofKit
import Derived.OpenShut
import Derived.ShutString
import Derived.ChangeOld
import Derived.Below
import Derived.Test.YtehlbddcgnclaaaDoorOpsJ
import Derived.Test.YtehlbddcgnclaaaDoorAwakeJ
import Derived.Test.YtehlbddcgnclaaaDoorRowsSame
import Derived.Test.YtehlbddcgnclaaaDoorCutRow
import Derived.Lib.MinMax
import Derived.Deep.DeepCutAuto
import Derived.Deep.Cut
import Derived.LaidMore
import Derived.Stop.Joined
import Derived.SevenTiedAt
import Derived.Test.YtehlbddcgnclaaaDoorLaid
namespace Go.Proofs.YtehlbddcgnclaaaDoor.journalKeeps
open Go.ChangeShapes Go.WideShapes Go.ChangeAt Go.RowKit
open Go.ChangeMaps (open_string shut_string)
set_option linter.unusedVariables false

open Plain

theorem open0 {H : Type} {enc : TypeId × Value → H} {W : World} {r : Reach} {b : Nat} {v : Value} {d : DataW H} {p : List MemPlace} (hv : Value.okWide Tryd.prog W r b 42 v) (h : DataW.Trod enc Tryd.prog W 0 (fun _ => true) true 42 v d p) : IsOps W v := ops_of_trod hv h

/-- the disk in the variable g, and all that was appended, behind k steps -/
def Kept (w : World) (g k fast : Nat) (al : Value) (wr : World) : Prop := ∃ (A : List Bytes) (f l : Bytes) (a1 : Option Addr) (n1 c1 : Nat) (a2 : Option Addr) (n2 c2 : Nat) (vs : List Value),
  Below w.heap.size w wr ∧ IsBox 24 wr g (.slice a1 n1 c1) (.slice a2 n2 c2) ∧ Owns w.heap.size wr (.slice a1 n1 c1) f ∧ Owns w.heap.size wr (.slice a2 n2 c2) l ∧ Keeps A fast f l ∧ sizeF A ≤ 108 * k ∧ A.length ≤ k ∧ k ≤ 60 ∧
  vs.length = A.length ∧ CutV w.heap.size wr al vs ∧ ∀ j u, vs[j]? = some u → Seq w u (A.getD j [])

set_option maxRecDepth 100000 in
set_option maxHeartbeats 16000000 in
theorem walk (v0 : Value) (w : World) (w0 : IsOps w v0) (hT : HasTab w) :
    Calls Tryd.prog 4 #[v0] w fun e w' => e = .returned (.bool true) ∧ Below w.heap.size w w' := by
  obtain ⟨a, n, c, rfl, hnc, hcm, hops⟩ := w0
  have hm : maxLen = 9223372036854775807 := rfl
  rw [hm] at hcm
  have KA := Lib.hid (awake_any w hT)
  have HT := Lib.hid hT
  have OPS := Lib.hid hops
  have hni : (n : Int) ≤ c := by omega
  have hci : (c : Int) ≤ 9223372036854775807 := by omega
  clear hm hops hT
  go_enter Tryd.func4, Tryd.ntmps4
  go_wp2_with fail
  refine KA.out.mono ?_
  rintro e wa ⟨rfl, hg1⟩
  have G1 := Lib.hid hg1
  clear hg1
  go_wp2_with fail
  go_loopw [4, 5, 6] (fun al fa i wr => ∃ k fast : Nat, k ≤ n ∧ i = .int .i64 k ∧ fa = .int .i64 fast ∧ Kept w wa.heap.size k fast al wr) (fun _ _ i _ => n - (intOf i).toNat)
  case atStart => exact ⟨0, 0, Nat.zero_le _, rfl, rfl, [], [], [], none, 0, 0, none, 0, 0, [], G1.out.alloc G1.out.size _, IsBox.new _ _ _ _, Owns.nil _ _, Owns.nil _ _, Keeps.nil, Nat.zero_le _, Nat.le_refl _, by omega, rfl, CutV.nil _ _, fun j u h => by simp at h⟩
  case round =>
    obtain ⟨k, fast, hk, rfl, rfl, A, f, l, a1, n1, c1, a2, n2, c2, vs, hB, hI, hf, hl, hK, hsz, hAl, hk60, hvl, hcv, hel⟩ := hrel
    obtain ⟨aa, ca, rfl, hca, hca2, -, hcv⟩ := hcv.parts
    obtain ⟨na, hna⟩ : ∃ na, na = vs.length := ⟨_, rfl⟩
    rw [← hna] at hca hcv ⊢
    have NA : Hid (na = vs.length ∧ vs.length = A.length) := Lib.hid ⟨hna, hvl⟩
    have hall := hK.all
    have hfl : f.length + l.length = sizeF A := by rw [← flatF_len, ← hall, List.length_append]
    have d1 := hf.seq.dims
    have d2 := hl.seq.dims
    have GB := Lib.hid hB
    have I0 := Lib.hid hI
    have OF := Lib.hid hf
    have OL := Lib.hid hl
    have KK := Lib.hid hK
    have SZ := Lib.hid (show sizeF A ≤ 108 * k ∧ sizeF A ≤ 6480 ∧ f.length + l.length = sizeF A from ⟨hsz, by omega, hfl⟩)
    have CV := Lib.hid hcv
    have EL := Lib.hid hel
    have LF : Hid (f.length = n1) := Lib.hid d1.1
    have LL : Hid (l.length = n2) := Lib.hid d2.1
    have hn1 : (n1 : Int) ≤ 6480 := by omega
    have hn2 : (n2 : Int) ≤ 6480 := by omega
    have DC1 : (n1 : Int) ≤ c1 := by omega
    have DC2 : (n2 : Int) ≤ c2 := by omega
    have ki : (k : Int) ≤ 60 := by omega
    have nai : (na : Int) ≤ k := by omega
    have nac : (na : Int) ≤ ca := by omega
    have HFA : Hid (fast ≤ na) := Lib.hid (by have := hK.2.2.1; omega)
    have HNK : Hid (A.length ≤ k) := Lib.hid hAl
    clear hB hI hf hl hK hsz hAl hvl hcv hel hna hall hfl d1 d2 hca
    by_cases hin : k < n ∧ k < 60
    · obtain ⟨hkn, hk6⟩ := hin
      have hkni : (k : Int) < n := by omega
      have hk6i : (k : Int) < 60 := by omega
      obtain ⟨b, o, rfl, hel⟩ := OPS.out (by omega)
      obtain ⟨d, kp, a3, n3, c3, z3, e0, e1, e2, wd, wk, hrow⟩ := hel k hkn
      have hbw : b < w.heap.size := World.block_lt_of_cell? w _ e0
      have E0 : wr.cell? ⟨b, o + k * 3, none⟩ = some (.int .i64 d) := (GB.out.cell (p := ⟨b, o + (k * 3 + 0), none⟩) hbw).trans e0
      have E1 : wr.cell? ⟨b, o + k * 3 + 1, none⟩ = some (.int .i64 kp) := (GB.out.cell (p := ⟨b, o + (k * 3 + 1), none⟩) hbw).trans e1
      have E2 : wr.cell? ⟨b, o + k * 3 + 2, none⟩ = some (.slice a3 n3 c3) := (GB.out.cell (p := ⟨b, o + (k * 3 + 2), none⟩) hbw).trans e2
      obtain ⟨p, m3, hm3, hl3, sp, hlt3, hc3⟩ := row_cut hrow 100
      have M3 : min (n3 : Int) 100 = (m3 : Int) := by omega
      have q1 : (m3 : Int) ≤ c3 := by omega
      have q2 : (m3 : Int) ≤ 100 := by omega
      have q3 : (0 : Int) ≤ m3 := by omega
      have LP := Lib.hid hl3
      have LM : Hid (m3 ≤ 100) := Lib.hid hlt3
      have SP := Lib.hid sp
      clear e0 e1 e2 hel hrow hm3 hl3 sp hlt3 hc3
      have A0 : Below wr.heap.size wr (wr.alloc (.cells #[.int .i64 d, .int .i64 kp, .slice a3 n3 c3] 44)) := (Below.refl _ _).alloc (Nat.le_refl _) _
      have GB1 := Lib.hid (GB.out.trans (A0.mono GB.out.size))
      have I1 := Lib.hid (I0.out.below A0)
      have OF1 := Lib.hid (OF.out.below A0 (Nat.le_refl _))
      have OL1 := Lib.hid (OL.out.below A0 (Nat.le_refl _))
      have CV1 := Lib.hid (CV.out.below A0 (Nat.le_refl _))
      have T1 := Lib.hid (Blk.new wr #[.int .i64 d, .int .i64 kp, .slice a3 n3 c3] 44)
      clear A0
      go_upto_region 10 with fail
      clear E0 E1 E2 OF OL I0 CV GB
      generalize wr.alloc (.cells #[.int .i64 d, .int .i64 kp, .slice a3 n3 c3] 44) = s0 at *
      obtain ⟨y1, y2⟩ := I1.out.cells
      have z0 := T1.out.cell 0 (.int .i64 d) rfl
      have z1 := T1.out.cell 1 (.int .i64 kp) rfl
      have z2 := T1.out.cell 2 (.slice a3 n3 c3) rfl
      have r0 : 0 ≤ IntKind.u64.wrap d := by simp [IntKind.wrap, IntKind.signed, IntKind.bits]; omega
      go_wp2_with fail
      · clear z0 z1 z2 r0 y1 y2
        have LLB : Hid ((l ++ frm p).length = n2 + (8 + m3)) := Lib.hid (by rw [List.length_append, frm_len, LL.out, LP.out])
        refine (append_ok OF1.out.seq OL1.out.seq (SP.out.below GB1.out) (HT.out.below GB1.out) (by have := LM.out; rw [LP.out]; omega) (by have := SZ.out; have := LM.out; rw [LP.out]; omega)).mono ?_
        rintro e s1 ⟨v1, x1, rfl, ho1, hx1, hb1⟩
        obtain ⟨e1, f1, rfl, -, -, ho1⟩ := ho1.at n1 LF.out
        obtain ⟨g1, h1, rfl, -, -, hx1⟩ := hx1.at (n2 + (8 + m3)) LLB.out
        have A1 : Below s1.heap.size s1 (s1.alloc (.cells #[.slice e1 n1 f1, .slice g1 (n2 + (8 + m3)) h1] 24)) := (Below.refl _ _).alloc (Nat.le_refl _) _
        have B1 := hb1.trans (A1.mono hb1.size)
        have I2 := Lib.hid (I1.out.below B1)
        have GB2 := Lib.hid (GB1.out.trans (B1.mono GB1.out.size))
        have CV2 := Lib.hid (CV1.out.below B1 (Nat.le_refl _))
        have OF2 := Lib.hid ((ho1.mono GB1.out.size).below A1 (Nat.le_refl _))
        have OL2 := Lib.hid ((hx1.mono GB1.out.size).below A1 (Nat.le_refl _))
        have N2 := Lib.hid (IsBox.new 24 s1 (.slice e1 n1 f1) (.slice g1 (n2 + (8 + m3)) h1))
        clear ho1 hx1 hb1 A1 B1 I1 CV1 OF1 OL1
        go_upto_region 22 with fail
        generalize s1.alloc (.cells #[.slice e1 n1 f1, .slice g1 (n2 + (8 + m3)) h1] 24) = s2 at *
        obtain ⟨y1, y2⟩ := I2.out.cells
        obtain ⟨y3, y4⟩ := I2.out.free
        obtain ⟨y5, y6⟩ := N2.out.cells
        have I3 := Lib.hid (I2.out.set (.slice e1 n1 f1) (.slice g1 (n2 + (8 + m3)) h1))
        have GB3 := Lib.hid (below_set GB2.out G1.out.size (.slice e1 n1 f1) (.slice g1 (n2 + (8 + m3)) h1))
        have OF3 := Lib.hid (OF2.out.setBox I2.out (by decide) (.slice e1 n1 f1) (.slice g1 (n2 + (8 + m3)) h1))
        have OL3 := Lib.hid (OL2.out.setBox I2.out (by decide) (.slice e1 n1 f1) (.slice g1 (n2 + (8 + m3)) h1))
        have CV3 := Lib.hid (CV2.out.setBox I2.out (by decide) (.slice e1 n1 f1) (.slice g1 (n2 + (8 + m3)) h1))
        go_upto_region 23 with fail
        clear y1 y2 y3 y4 y5 y6
        generalize (s2.setCell ⟨wa.heap.size, 0, none⟩ (.slice e1 n1 f1)).setCell ⟨wa.heap.size, 1, none⟩ (.slice g1 (n2 + (8 + m3)) h1) = s3 at *
        have A3 : Hid (Below s3.heap.size s3 (s3.alloc (.cells #[.slice a3 m3 c3] 22))) := Lib.hid ((Below.refl _ _).alloc (Nat.le_refl _) _)
        have CV4 := Lib.hid (CV3.out.below A3.out (Nat.le_refl _))
        go_wp2_with (at_builtin; refine wpList_append_cut (by rfl) (.tmp 68) (.tmp 70) rfl w.heap.size rfl CV4.out rfl (rowOf_one _ _ _) (by simp) (one_cell _ _ _) (by have := NA.out; have := HNK.out; simp; omega) (by have := GB3.out.size; simp; omega) ?_)
        intro v4 s4 hc4 hg4
        have I5 := Lib.hid ((I3.out.below A3.out).grownC CV4.out hg4 (by decide))
        have OF5 := Lib.hid ((OF3.out.below A3.out (Nat.le_refl _)).keptC CV4.out hg4)
        have OL5 := Lib.hid ((OL3.out.below A3.out (Nat.le_refl _)).keptC CV4.out hg4)
        have GB5 := Lib.hid ((GB3.out.alloc GB3.out.size _).grown hg4 (by have := GB3.out.size; simp; omega) CV4.out.lt)
        have CV5 := Lib.hid hc4
        clear hc4 hg4
        go_wp2_with fail
        go_roundw
        case rel => exact ⟨k + 1, fast, by omega, by go_num, rfl, A ++ [p], f, l ++ frm p, e1, n1, f1, g1, n2 + (8 + m3), h1, vs ++ [.slice a3 m3 c3], GB5.out, I5.out, OF5.out, OL5.out, KK.out.push (by have := LM.out; rw [LP.out]; omega), (by have := SZ.out; have := LM.out; rw [sizeF_push, LP.out]; omega), (by have := HNK.out; simp; omega), by omega, (by have := NA.out; simp; omega), CV5.out, el_push NA.out.2 EL.out SP.out⟩
        case measure => simp [intOf]; omega
      · clear z0 z1 z2 r0 y1 y2
        have LLB : Hid ((l ++ frm p).length = n2 + (8 + m3)) := Lib.hid (by rw [List.length_append, frm_len, LL.out, LP.out])
        refine (append_ok OF1.out.seq OL1.out.seq (SP.out.below GB1.out) (HT.out.below GB1.out) (by have := LM.out; rw [LP.out]; omega) (by have := SZ.out; have := LM.out; rw [LP.out]; omega)).mono ?_
        rintro e s1 ⟨v1, x1, rfl, ho1, hx1, hb1⟩
        obtain ⟨e1, f1, rfl, -, -, ho1⟩ := ho1.at n1 LF.out
        obtain ⟨g1, h1, rfl, -, -, hx1⟩ := hx1.at (n2 + (8 + m3)) LLB.out
        have A1 : Below s1.heap.size s1 (s1.alloc (.cells #[.slice e1 n1 f1, .slice g1 (n2 + (8 + m3)) h1] 24)) := (Below.refl _ _).alloc (Nat.le_refl _) _
        have B1 := hb1.trans (A1.mono hb1.size)
        have I2 := Lib.hid (I1.out.below B1)
        have GB2 := Lib.hid (GB1.out.trans (B1.mono GB1.out.size))
        have CV2 := Lib.hid (CV1.out.below B1 (Nat.le_refl _))
        have OF2 := Lib.hid ((ho1.mono GB1.out.size).below A1 (Nat.le_refl _))
        have OL2 := Lib.hid ((hx1.mono GB1.out.size).below A1 (Nat.le_refl _))
        have N2 := Lib.hid (IsBox.new 24 s1 (.slice e1 n1 f1) (.slice g1 (n2 + (8 + m3)) h1))
        clear ho1 hx1 hb1 A1 B1 I1 CV1 OF1 OL1
        go_upto_region 22 with fail
        generalize s1.alloc (.cells #[.slice e1 n1 f1, .slice g1 (n2 + (8 + m3)) h1] 24) = s2 at *
        obtain ⟨y1, y2⟩ := I2.out.cells
        obtain ⟨y3, y4⟩ := I2.out.free
        obtain ⟨y5, y6⟩ := N2.out.cells
        have I3 := Lib.hid (I2.out.set (.slice e1 n1 f1) (.slice g1 (n2 + (8 + m3)) h1))
        have GB3 := Lib.hid (below_set GB2.out G1.out.size (.slice e1 n1 f1) (.slice g1 (n2 + (8 + m3)) h1))
        have OF3 := Lib.hid (OF2.out.setBox I2.out (by decide) (.slice e1 n1 f1) (.slice g1 (n2 + (8 + m3)) h1))
        have OL3 := Lib.hid (OL2.out.setBox I2.out (by decide) (.slice e1 n1 f1) (.slice g1 (n2 + (8 + m3)) h1))
        have CV3 := Lib.hid (CV2.out.setBox I2.out (by decide) (.slice e1 n1 f1) (.slice g1 (n2 + (8 + m3)) h1))
        go_upto_region 23 with fail
        clear y1 y2 y3 y4 y5 y6
        generalize (s2.setCell ⟨wa.heap.size, 0, none⟩ (.slice e1 n1 f1)).setCell ⟨wa.heap.size, 1, none⟩ (.slice g1 (n2 + (8 + m3)) h1) = s3 at *
        have A3 : Hid (Below s3.heap.size s3 (s3.alloc (.cells #[.slice a3 m3 c3] 22))) := Lib.hid ((Below.refl _ _).alloc (Nat.le_refl _) _)
        have CV4 := Lib.hid (CV3.out.below A3.out (Nat.le_refl _))
        go_wp2_with (at_builtin; refine wpList_append_cut (by rfl) (.tmp 68) (.tmp 70) rfl w.heap.size rfl CV4.out rfl (rowOf_one _ _ _) (by simp) (one_cell _ _ _) (by have := NA.out; have := HNK.out; simp; omega) (by have := GB3.out.size; simp; omega) ?_)
        intro v4 s4 hc4 hg4
        have I5 := Lib.hid ((I3.out.below A3.out).grownC CV4.out hg4 (by decide))
        have OF5 := Lib.hid ((OF3.out.below A3.out (Nat.le_refl _)).keptC CV4.out hg4)
        have OL5 := Lib.hid ((OL3.out.below A3.out (Nat.le_refl _)).keptC CV4.out hg4)
        have GB5 := Lib.hid ((GB3.out.alloc GB3.out.size _).grown hg4 (by have := GB3.out.size; simp; omega) CV4.out.lt)
        have CV5 := Lib.hid hc4
        clear hc4 hg4
        go_wp2_with fail
        go_roundw
        case rel => exact ⟨k + 1, fast, by omega, by go_num, rfl, A ++ [p], f, l ++ frm p, e1, n1, f1, g1, n2 + (8 + m3), h1, vs ++ [.slice a3 m3 c3], GB5.out, I5.out, OF5.out, OL5.out, KK.out.push (by have := LM.out; rw [LP.out]; omega), (by have := SZ.out; have := LM.out; rw [sizeF_push, LP.out]; omega), (by have := HNK.out; simp; omega), by omega, (by have := NA.out; simp; omega), CV5.out, el_push NA.out.2 EL.out SP.out⟩
        case measure => simp [intOf]; omega
      · clear z0 z1 z2 r0 y1 y2
        have LQ : Hid ((f ++ l).length = n1 + n2) := Lib.hid (by rw [List.length_append, LF.out, LL.out])
        refine (sync_any OF1.out.seq OL1.out.seq (by have := SZ.out; omega)).mono ?_
        rintro e s1 ⟨v1, x1, rfl, ho1, hx1, hb1⟩
        obtain ⟨e1, f1, rfl, -, -, ho1⟩ := ho1.at (n1 + n2) LQ.out
        obtain ⟨g1, h1, rfl, -, -, hx1⟩ := hx1.at 0 rfl
        have I2 := Lib.hid (I1.out.below hb1)
        have GB2 := Lib.hid (GB1.out.trans (hb1.mono GB1.out.size))
        have I3 := Lib.hid (I2.out.set (.slice e1 (n1 + n2) f1) (.slice g1 0 h1))
        have GB3 := Lib.hid (below_set GB2.out G1.out.size (.slice e1 (n1 + n2) f1) (.slice g1 0 h1))
        have OF3 := Lib.hid ((ho1.mono GB1.out.size).setBox I2.out (by decide) (.slice e1 (n1 + n2) f1) (.slice g1 0 h1))
        have OL3 := Lib.hid ((hx1.mono GB1.out.size).setBox I2.out (by decide) (.slice e1 (n1 + n2) f1) (.slice g1 0 h1))
        have CV3 := Lib.hid ((CV1.out.below hb1 (Nat.le_refl _)).setBox I2.out (by decide) (.slice e1 (n1 + n2) f1) (.slice g1 0 h1))
        obtain ⟨y1, y2⟩ := I2.out.cells
        obtain ⟨y3, y4⟩ := I2.out.free
        clear ho1 hx1 hb1
        go_wp2_with fail
        go_roundw
        case rel => exact ⟨k + 1, na, by omega, by go_num, rfl, A, f ++ l, [], e1, n1 + n2, f1, g1, 0, h1, vs, GB3.out, I3.out, OF3.out, OL3.out, (by rw [NA.out.1, NA.out.2]; exact KK.out.sync), (by have := SZ.out; omega), (by have := HNK.out; omega), by omega, NA.out.2, CV3.out, EL.out⟩
        case measure => simp [intOf]; omega
      · obtain ⟨kk, hkk⟩ : ∃ kk : Nat, min (max kp 0) (n2 : Int) = (kk : Int) := ⟨(min (max kp 0) (n2 : Int)).toNat, by omega⟩
        obtain ⟨m, hm1, hm2, hsc⟩ := KK.out.crash (k := kk)
        have SC := Lib.hid hsc
        have LT : Hid ((A.take m).length = m) := Lib.hid (by rw [List.length_take]; omega)
        have HMA : Hid (m ≤ A.length) := Lib.hid hm2
        have LPk : Hid ((f ++ l.take kk).length = n1 + kk) := Lib.hid (by rw [List.length_append, List.length_take, LF.out, LL.out]; omega)
        have SMA := Lib.hid (small_take KK.out.2.2.2 m)
        have hmn : m ≤ na := by have := NA.out; omega
        have hmc : (m : Int) ≤ ca := by omega
        have hmk : (m : Int) ≤ 60 := by omega
        have hnk : (kk : Int) ≤ n2 := by omega
        have SZT : Hid (sizeF (A.take m) ≤ sizeF A) := Lib.hid (sizeF_take A m)
        have KC : Hid (Calls _ _ _ s0 (MadeD s0 (f ++ l.take kk) [])) := Lib.hid (crash_any OF1.out.seq OL1.out.seq hkk (by have := SZ.out; omega))
        clear z0 z1 z2 r0 y1 y2 hkk hsc hm2
        generalize f ++ l.take kk = q at *
        refine KC.out.mono ?_
        rintro e s1 ⟨v1, x1, rfl, ho1, hx1, hb1⟩
        obtain ⟨e1, f1, rfl, -, -, ho1⟩ := ho1.at (n1 + kk) LPk.out
        obtain ⟨g1, h1, rfl, -, -, hx1⟩ := hx1.at 0 rfl
        have I2 := Lib.hid (I1.out.below hb1)
        have GB2 := Lib.hid (GB1.out.trans (hb1.mono GB1.out.size))
        have I3 := Lib.hid (I2.out.set (.slice e1 (n1 + kk) f1) (.slice g1 0 h1))
        have GB3 := Lib.hid (below_set GB2.out G1.out.size (.slice e1 (n1 + kk) f1) (.slice g1 0 h1))
        have OF3 := Lib.hid (ho1.setBox I2.out (by decide) (.slice e1 (n1 + kk) f1) (.slice g1 0 h1))
        have OL3 := Lib.hid (hx1.setBox I2.out (by decide) (.slice e1 (n1 + kk) f1) (.slice g1 0 h1))
        have CV3 := Lib.hid ((CV1.out.below hb1 (Nat.le_refl _)).setBox I2.out (by decide) (.slice e1 (n1 + kk) f1) (.slice g1 0 h1))
        obtain ⟨y1, y2⟩ := I2.out.cells
        obtain ⟨y3, y4⟩ := I2.out.free
        clear ho1 hx1 hb1 KC
        go_upto_region 29 with fail
        clear y1 y2 y3 y4
        generalize (s1.setCell ⟨wa.heap.size, 0, none⟩ (.slice e1 (n1 + kk) f1)).setCell ⟨wa.heap.size, 1, none⟩ (.slice g1 0 h1) = s2 at *
        obtain ⟨y1, y2⟩ := I3.out.cells
        have KO : Hid (Calls _ _ _ s2 (OpenK (A.take m) s2)) := Lib.hid (open_of OF3.out.seq OL3.out.seq (HT.out.below GB3.out) (by rw [LPk.out]; omega) (by simp) (by rw [List.append_nil]; exact SC.out))
        go_wp2_with fail
        refine KO.out.mono ?_
        rintro e s3 ⟨v3, d3, x3, rfl, ho3, hd3, hx3, hb3⟩
        obtain ⟨z, hz⟩ : ∃ z, z = (flatF (A.take m)).length := ⟨_, rfl⟩
        have LZ := Lib.hid hz.symm
        have LZ2 : Hid ((flatF (A.take m)).length ≤ 6480) := Lib.hid (by rw [flatF_len]; have := SZT.out; have := SZ.out; omega)
        obtain ⟨a7, c7, rfl, -, -, hd3⟩ := hd3.at z LZ.out
        obtain ⟨a8, c8, rfl, -, -, hx3⟩ := hx3.at 0 rfl
        obtain ⟨a9, c9, hv9, -, -, -, -⟩ := ho3.seqR.parts
        rw [LT.out] at hv9
        subst hv9
        have A3 : Below s3.heap.size s3 (s3.alloc (.cells #[.slice a7 z c7, .slice a8 0 c8] 24)) := (Below.refl _ _).alloc (Nat.le_refl _) _
        have B3 := hb3.trans (A3.mono hb3.size)
        have GB4 := Lib.hid (GB3.out.trans (B3.mono GB3.out.size))
        have I4 := Lib.hid (I3.out.below B3)
        have CV4 := Lib.hid (CV3.out.below B3 (Nat.le_refl _))
        have OF4 := Lib.hid ((hd3.mono GB3.out.size).below A3 (Nat.le_refl _))
        have OL4 := Lib.hid ((hx3.mono GB3.out.size).below A3 (Nat.le_refl _))
        have R4 := Lib.hid (ho3.seqR.below A3)
        have N4 := Lib.hid (IsBox.new 24 s3 (.slice a7 z c7) (.slice a8 0 c8))
        clear hz y1 y2 ho3 hd3 hx3 hb3 A3 B3 KO OF3 OL3 I3 I2 CV3
        go_upto_region 30 with fail
        generalize s3.alloc (.cells #[.slice a7 z c7, .slice a8 0 c8] 24) = s4 at *
        obtain ⟨y1, y2⟩ := N4.out.cells
        have KO : Hid (Calls _ _ _ s4 (OpenK (A.take m) s4)) := Lib.hid (open_of OF4.out.seq OL4.out.seq (HT.out.below GB4.out) (by have := LZ2.out; omega) (by simp) (by rw [List.append_nil]; exact scans_all SMA.out))
        go_wp2_with fail
        refine KO.out.mono ?_
        rintro e s5 ⟨v5, d5, x5, rfl, ho5, hd5, hx5, hb5⟩
        obtain ⟨a10, c10, rfl, -, -, hd5⟩ := hd5.at z LZ.out
        obtain ⟨a11, c11, rfl, -, -, hx5⟩ := hx5.at 0 rfl
        obtain ⟨a12, c12, hv12, -, -, -, -⟩ := ho5.seqR.parts
        rw [LT.out] at hv12
        subst hv12
        have A5 : Below s5.heap.size s5 (s5.alloc (.cells #[.slice a10 z c10, .slice a11 0 c11] 24)) := (Below.refl _ _).alloc (Nat.le_refl _) _
        have B5 := hb5.trans (A5.mono hb5.size)
        have GB6 := Lib.hid (GB4.out.trans (B5.mono GB4.out.size))
        have I6 := Lib.hid (I4.out.below B5)
        have N6 := Lib.hid (N4.out.below B5)
        have CV6 := Lib.hid (CV4.out.below B5 (Nat.le_refl _))
        have OF6 := Lib.hid (OF4.out.below B5 (Nat.le_refl _))
        have OL6 := Lib.hid (OL4.out.below B5 (Nat.le_refl _))
        have R6 := Lib.hid (R4.out.below B5)
        have P6 := Lib.hid (hd5.seq.below A5)
        have Q6 := Lib.hid (hx5.seq.below A5)
        have S6 := Lib.hid (ho5.seqR.below A5)
        have M6 := Lib.hid (IsBox.new 24 s5 (.slice a10 z c10) (.slice a11 0 c11))
        clear y1 y2 ho5 hd5 hx5 hb5 A5 B5 KO OF4 OL4 I4 CV4 R4 N4
        go_upto_region 31 with fail
        generalize s5.alloc (.cells #[.slice a10 z c10, .slice a11 0 c11] 24) = s6 at *
        have CT := Lib.hid ((CV6.out.seqR NA.out.2 GB6.out EL.out).first m HMA.out)
        go_wp2_with fail
        refine (rowsB R6.out CT.out).mono ?_
        rintro e s7 ⟨rfl, hb7⟩
        have R7 := Lib.hid (R6.out.below hb7)
        have S7 := Lib.hid (S6.out.below hb7)
        have B7 := Lib.hid hb7
        clear hb7
        go_wp2_with fail
        refine (rowsB R7.out S7.out).mono ?_
        rintro e s8 ⟨rfl, hb8⟩
        have B8 := Lib.hid (B7.out.trans (hb8.mono B7.out.size))
        clear hb8
        obtain ⟨y1, y2⟩ := (N6.out.below B8.out).cells
        obtain ⟨y3, y4⟩ := (M6.out.below B8.out).cells
        have KD : Hid (Calls _ _ _ s8 (fun e w' => e = .returned (.bool true) ∧ Below s8.heap.size s8 w')) := Lib.hid (sameD (OF6.out.seq.below B8.out) (OL6.out.seq.below B8.out) (P6.out.below B8.out) (Q6.out.below B8.out))
        go_wp2_with fail
        refine KD.out.mono ?_
        rintro e s9 ⟨rfl, hb9⟩
        have B9 := B8.out.trans (hb9.mono B8.out.size)
        have I9 := Lib.hid (I6.out.below B9)
        have GB9 := Lib.hid (below_set (GB6.out.trans (B9.mono GB6.out.size)) G1.out.size (.slice a7 z c7) (.slice a8 0 c8))
        have OF9 := Lib.hid ((OF6.out.below B9 (Nat.le_refl _)).setBox I9.out (by decide) (.slice a7 z c7) (.slice a8 0 c8))
        have OL9 := Lib.hid ((OL6.out.below B9 (Nat.le_refl _)).setBox I9.out (by decide) (.slice a7 z c7) (.slice a8 0 c8))
        have CV9 := Lib.hid (((CV6.out.below B9 (Nat.le_refl _)).first m (by have := NA.out; omega)).setBox I9.out (by decide) (.slice a7 z c7) (.slice a8 0 c8))
        have J9 := Lib.hid (I9.out.set (.slice a7 z c7) (.slice a8 0 c8))
        clear y1 y2 y3 y4
        obtain ⟨y1, y2⟩ := (N6.out.below B9).cells
        obtain ⟨y3, y4⟩ := I9.out.cells
        obtain ⟨y5, y6⟩ := I9.out.free
        clear B9 hb9 KD
        go_wp2_with fail
        go_roundw
        case rel => exact ⟨k + 1, m, by omega, by go_num, rfl, A.take m, flatF (A.take m), [], a7, z, c7, a8, 0, c8, vs.take m, GB9.out, J9.out, OF9.out, OL9.out, (by have := Keeps.opened SMA.out; rw [LT.out] at this; exact this), (by have := SZ.out; have := SZT.out; omega), (by rw [LT.out]; omega), by omega, (by have := NA.out; rw [LT.out, List.length_take]; omega), CV9.out, el_take EL.out m⟩
        case measure => simp [intOf]; omega
      · clear z0 z1 z2 r0 y1 y2
        have LA : Hid (A.length = na) := Lib.hid (by have := NA.out; omega)
        have KO : Hid (Calls _ _ _ s0 (OpenK A s0)) := Lib.hid (open_of OF1.out.seq OL1.out.seq (HT.out.below GB1.out) (by have := SZ.out; omega) (by have := SZ.out; omega) KK.out.scans)
        have SMA := Lib.hid KK.out.2.2.2
        refine KO.out.mono ?_
        rintro e s3 ⟨v3, d3, x3, rfl, ho3, hd3, hx3, hb3⟩
        obtain ⟨z, hz⟩ : ∃ z, z = (flatF A).length := ⟨_, rfl⟩
        have LZ := Lib.hid hz.symm
        obtain ⟨a7, c7, rfl, -, -, hd3⟩ := hd3.at z LZ.out
        obtain ⟨a8, c8, rfl, -, -, hx3⟩ := hx3.at 0 rfl
        obtain ⟨a9, c9, hv9, -, -, -, -⟩ := ho3.seqR.parts
        rw [LA.out] at hv9
        subst hv9
        have A3 : Below s3.heap.size s3 (s3.alloc (.cells #[.slice a7 z c7, .slice a8 0 c8] 24)) := (Below.refl _ _).alloc (Nat.le_refl _) _
        have B3 := hb3.trans (A3.mono hb3.size)
        have GB4 := Lib.hid (GB1.out.trans (B3.mono GB1.out.size))
        have I4 := Lib.hid (I1.out.below B3)
        have CV4 := Lib.hid (CV1.out.below B3 (Nat.le_refl _))
        have OF4 := Lib.hid ((hd3.mono GB1.out.size).below A3 (Nat.le_refl _))
        have OL4 := Lib.hid ((hx3.mono GB1.out.size).below A3 (Nat.le_refl _))
        have R4 := Lib.hid (ho3.seqR.below A3)
        have N4 := Lib.hid (IsBox.new 24 s3 (.slice a7 z c7) (.slice a8 0 c8))
        clear hz ho3 hd3 hx3 hb3 A3 B3 KO OF1 OL1 I1 CV1
        go_upto_region 12 with fail
        generalize s3.alloc (.cells #[.slice a7 z c7, .slice a8 0 c8] 24) = s4 at *
        have CT := Lib.hid (CV4.out.seqR NA.out.2 GB4.out EL.out)
        go_wp2_with fail
        refine (rowsB R4.out CT.out).mono ?_
        rintro e s9 ⟨rfl, B9⟩
        have I9 := Lib.hid (I4.out.below B9)
        have GB9 := Lib.hid (below_set (GB4.out.trans (B9.mono GB4.out.size)) G1.out.size (.slice a7 z c7) (.slice a8 0 c8))
        have OF9 := Lib.hid ((OF4.out.below B9 (Nat.le_refl _)).setBox I9.out (by decide) (.slice a7 z c7) (.slice a8 0 c8))
        have OL9 := Lib.hid ((OL4.out.below B9 (Nat.le_refl _)).setBox I9.out (by decide) (.slice a7 z c7) (.slice a8 0 c8))
        have CV9 := Lib.hid ((CV4.out.below B9 (Nat.le_refl _)).setBox I9.out (by decide) (.slice a7 z c7) (.slice a8 0 c8))
        have J9 := Lib.hid (I9.out.set (.slice a7 z c7) (.slice a8 0 c8))
        obtain ⟨y1, y2⟩ := (N4.out.below B9).cells
        obtain ⟨y3, y4⟩ := I9.out.cells
        obtain ⟨y5, y6⟩ := I9.out.free
        clear B9
        go_wp2_with fail
        go_roundw
        case rel => exact ⟨k + 1, na, by omega, by go_num, rfl, A, flatF A, [], a7, z, c7, a8, 0, c8, vs, GB9.out, J9.out, OF9.out, OL9.out, (by have := Keeps.opened SMA.out; rw [LA.out] at this; exact this), (by have := SZ.out; omega), (by have := HNK.out; omega), by omega, NA.out.2, CV9.out, EL.out⟩
        case measure => simp [intOf]; omega
    · by_cases hx2 : n ≤ k
      · have hxi : (n : Int) ≤ k := by omega
        clear hin
        go_wp2_with fail
        go_ret
        exact ⟨rfl, GB.out⟩
      · have hkn : (k : Int) < n := by omega
        have hk6 : (60 : Int) ≤ k := by omega
        clear hin
        go_wp2_with fail
        go_ret
        exact ⟨rfl, GB.out⟩

set_option maxRecDepth 100000 in
theorem lifted (os : Os) (started : os.Started) (H : Type) (enc : TypeId × Value → H) :
    ReturnsInHanded {} Tryd.checked os 4 .any (fun w args => (Rows.journalKeepsSpec.pre enc Tryd.prog Tryd.f4 [] false w args ∧ laidMetH Tryd.prog laid1 w) ∧ sizedMet enc Tryd.prog Tryd.f4 (OpenSpec.ofChange Rows.journalKeepsSpec) false w args)
      (Rows.journalKeepsSpec.post enc Tryd.prog Tryd.f4 false true false false) := by
  refine returnsInHanded_of_change_and (C := Tryd.checked) (X := fun w _ => laidMetH Tryd.prog laid1 w) (fun _ _ _ hh h => h.of_heap hh) own started (by kernel_rfl) Tryd.func4
    (ChangeSpec.witness_shaped (enc := enc) (C := Tryd.checked) (os := os) (X := fun w _ => laidMetH Tryd.prog laid1 w) false (World.doorLaid Tryd.prog 400 os) #[.slice none 0 0] 8 rfl (World.shaped_of_RefB (by kernel_rfl) (by kernel_rfl)) (by kernel_rfl) (by kernel_rfl) (by kernel_rfl) (door_met os _)) ?_
  intro W base args ds gs before hval0 hW _ _ hL _
  have hval : ∀ (j : Nat) t v, Tryd.f4.params[j]? = some t → args[j]? = some v → Value.okWide Tryd.prog W .any base t v := hval0
  have hW' := hW
  obtain ⟨p, q, hA0, hV, rfl, hfz, hnd⟩ := hW
  have hA : DataW.TrodAll enc Tryd.prog W 0 (fun _ => true) true Tryd.f4.params.toList args.toList ds p := hA0
  rw [Tryd.params4] at hA hval
  obtain ⟨v0, vs0, d0, ds0, p0, q0, hargs, rfl, rfl, h0, r0⟩ := trodAll_cons hA
  obtain ⟨rfl, rfl, rfl⟩ := trodAll_nil r0
  obtain rfl : args = #[v0] := by cases args; simp_all
  obtain ⟨rfl, rfl⟩ := trodVars_none hV
  have k0 := h0
  have lt0 : ∀ x ∈ p0, x.block < W.heap.size := by obtain ⟨m, hm⟩ := k0; exact DataW.trod_lt m _ _ _ hm
  have w0 := open0 (hval 0 42 v0 rfl rfl) h0
  clear hA0 hval0
  refine (walk v0 W w0 (of_laid hL)).mono fun e W' ⟨he, bel⟩ => ?_
  subst he
  exact ⟨_, rfl, _, _, _, [], _, [], hW', trodAll_mk1 (shut_bool Tryd.underlying4 _), (trodAll_cons_mk (Below.trod laidOut (by kernel_rfl) (of_decide_eq_true (by kernel_rfl)) k0 bel lt0) trodAll_mk0), rfl, bel.frame _, fun h => by cases h⟩

theorem over : Rows.journalKeepsRow.holds Tryd.pinned (OpenSpec.ofChange Rows.journalKeepsSpec) :=
  OpenClaim.holds_of_wide 4 Tryd.f4 rfl rfl rfl rfl rfl rfl rfl ⟨rfl, rfl, rfl, rfl, rfl⟩ rfl rfl rfl rfl rfl (by kernel_rfl) Tryd.func4 (by kernel_rfl)
    (of_decide_eq_true (by kernel_rfl)) (by unfold Func.isWrapper; first | (rw [if_pos (by decide +kernel)]; kernel_rfl) | (rw [if_neg (by decide +kernel)]; exact ⟨rfl, rfl⟩))
    (fun os started H enc _ => lifted os started H enc)

/-- the tied card: the given statement -/
theorem proved : Rows.JournalKeepsCardSaid :=
  Claim7.holds_tied_plain_at .later [] [.data] true (true, "a427ed33cc0ea91030093835fd4bde5cbe54613f3f0df61ccbee41e16516e237") false
    over (fun _ h => by cases h) (by kernel_rfl) (fun _ h => by cases h) journalKeeps_row_tie rfl ⟨rfl, rfl⟩ (by kernel_rfl) rfl
    (fun f fn hf hfn => by
      obtain rfl : f = 4 := Option.some.inj ((show Tryd.prog.funcNamed "buttery/butterylaw06.JournalKeeps" = some 4 by kernel_rfl).symm.trans hf) |>.symm
      obtain rfl : fn = Tryd.f4 := (Option.some.inj (Tryd.func4.symm.trans hfn)).symm
      exact ⟨by kernel_rfl, fun j t ht => by
        rw [Tryd.params4] at ht
        have hm : t ∈ [42] := by simpa using Array.mem_of_getElem? ht
        have hall : ([42].all fun u => !Tryd.prog.wantsStandIn u) = true := by kernel_rfl
        exact (show Tryd.prog.wantsStandIn t = false by simpa using List.all_eq_true.1 hall t hm)⟩)
    (by kernel_rfl)
#print axioms proved
end Go.Proofs.YtehlbddcgnclaaaDoor.journalKeeps
