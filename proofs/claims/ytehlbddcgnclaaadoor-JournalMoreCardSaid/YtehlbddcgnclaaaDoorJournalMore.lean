/-
  For any disk, any bytes and any number the law JournalMore answers true: of their first 3000 bytes each, a record that is appended to the opened journal, and made fast, is the last one that is found, whatever goes down then. Conditions: the package variable crc.halves holds what the program's text lays (the card ties it).
  (The frame was written by the guide's proof-skeleton.mjs, and turned for a struct by value; the walk is ours.)
-/
import Derived.Test.YtehlbddcgnclaaaDoorRows
import Derived.WalkKit
import Derived.ProofKit
import Derived.OpenShut
import Derived.ShutString
import Derived.ChangeOld
import Derived.Below
import Derived.Test.YtehlbddcgnclaaaDoorOpenD
import Derived.Test.YtehlbddcgnclaaaDoorAwakeJ
import Derived.Lib.MinMax
import Derived.StillTailTactics
import Derived.Deep.Cut
import Derived.LaidMore
import Derived.Stop.Joined
import Derived.SevenTiedAt
import Derived.Test.YtehlbddcgnclaaaDoorLaid
namespace Go.Proofs.YtehlbddcgnclaaaDoor.journalMore
open Go.ChangeShapes Go.WideShapes Go.ChangeAt Go.RowKit
open Go.ChangeMaps (open_string shut_string)
set_option linter.unusedVariables false

open Plain

theorem open0 {H : Type} {enc : TypeId × Value → H} {W : World} {r : Reach} {b : Nat} {v : Value} {d : DataW H} {p : List MemPlace} (hv : Value.okWide Tryd.prog W r b 24 v) (h : DataW.Trod enc Tryd.prog W 0 (fun _ => true) true 24 v d p) : IsDisk W v := disk_of_trod hv h

set_option maxRecDepth 100000 in
set_option maxHeartbeats 16000000 in
theorem walk (v0 : Value) (a3 : Option Addr) (n3 c3 : Nat) (z3 : List Int) (x2 : Int) (w : World) (w0 : IsDisk w v0) (w1 : IsRow .u8 w a3 n3 c3 z3) (w2 : (Lit.int .i64 x2).wf = true) (hT : HasTab w) :
    Calls Tryd.prog 6 #[v0, .slice a3 n3 c3, .int .i64 x2] w fun e w' => e = .returned (.bool true) ∧ Below w.heap.size w w' := by
  obtain ⟨a1, n1, c1, z1, a2, n2, c2, z2, rfl, i1, i2⟩ := w0
  obtain ⟨f, m1, hm1, hl1, sf, hlt1, hc1⟩ := row_cut i1 3000
  obtain ⟨l, m2, hm2, hl2, sl, hlt2, hc2⟩ := row_cut i2 3000
  obtain ⟨p, m3, hm3, hl3, sp, hlt3, hc3⟩ := row_cut w1 3000
  have M1 : min (n1 : Int) 3000 = (m1 : Int) := by omega
  have M2 : min (n2 : Int) 3000 = (m2 : Int) := by omega
  have M3 : min (n3 : Int) 3000 = (m3 : Int) := by omega
  have HT := Lib.hid hT
  have B0 : Hid (Below w.heap.size w (w.alloc (.cells #[.slice a1 n1 c1, .slice a2 n2 c2] 24))) := Lib.hid ((Below.refl _ _).alloc (Nat.le_refl _) _)
  have KA := Lib.hid (awake_any (w.alloc (.cells #[.slice a1 n1 c1, .slice a2 n2 c2] 24)) (hT.below B0.out))
  have SF := Lib.hid sf
  have SL := Lib.hid sl
  have SP := Lib.hid sp
  have q1 : (m1 : Int) ≤ c1 := by omega
  have q2 : (m2 : Int) ≤ c2 := by omega
  have q3 : (m1 : Int) ≤ 3000 := by omega
  have q4 : (m2 : Int) ≤ 3000 := by omega
  have q5 : (0 : Int) ≤ m1 := by omega
  have q6 : (0 : Int) ≤ m2 := by omega
  have q7 : (m3 : Int) ≤ c3 := by omega
  have q8 : (m3 : Int) ≤ 3000 := by omega
  have q9 : (0 : Int) ≤ m3 := by omega
  have HL1 := Lib.hid hl1
  have HL2 := Lib.hid hl2
  have HL3 := Lib.hid hl3
  have LIM : Hid (m1 ≤ 3000 ∧ m2 ≤ 3000 ∧ m3 ≤ 3000) := Lib.hid ⟨hlt1, hlt2, hlt3⟩
  have LP : Hid ((frm p).length = 8 + m3) := Lib.hid (by rw [frm_len, hl3])
  clear hm1 hm2 hm3 hl1 hl2 hl3 sf sl sp hlt1 hlt2 hlt3 hc1 hc2 hc3 i1 i2 w1 w2 hT
  go_enter Tryd.func6, Tryd.ntmps6
  go_wp2_with fail
  refine KA.out.mono ?_
  rintro e u1 ⟨rfl, hg1⟩
  have I1 := Lib.hid ((IsBox.new 24 w (.slice a1 n1 c1) (.slice a2 n2 c2)).below hg1)
  have G1 := Lib.hid (B0.out.trans (hg1.mono B0.out.size))
  obtain ⟨y1, y2⟩ := I1.out.cells
  obtain ⟨y3, y4⟩ := I1.out.free
  clear hg1
  go_wp2_with fail
  go_still_tail 15, (by kernel_rfl)
  obtain ⟨u2, hu⟩ : ∃ u2, u2 = u1.drew := ⟨_, rfl⟩
  have G2 := Lib.hid (G1.out.drew)
  have I2 := Lib.hid (I1.out.below ((Below.refl _ _).drew))
  rw [← hu] at G2 I2
  change wpList _ _ _ _ _ u1.drew
  rw [← hu]
  clear hu y1 y2 y3 y4
  obtain ⟨y1, y2⟩ := I2.out.cells
  obtain ⟨y3, y4⟩ := I2.out.free
  go_wp2_with fail
  have I3 := Lib.hid (I2.out.set (.slice a1 m1 c1) (.slice a2 m2 c2))
  have G3 := Lib.hid (below_set G2.out (Nat.le_refl _) (.slice a1 m1 c1) (.slice a2 m2 c2))
  clear y1 y2 y3 y4
  have KO : Hid (∀ u, Below w.heap.size w u → Calls _ _ _ u (OpenT (f ++ l) u)) := Lib.hid (fun u (h : Below w.heap.size w u) => open_any (SF.out.below h) (SL.out.below h) (HT.out.below h) (by have := LIM.out; rw [HL1.out]; omega) (by have := LIM.out; rw [HL2.out]; omega))
  generalize (u2.setCell ⟨w.heap.size, 0, none⟩ (.slice a1 m1 c1)).setCell ⟨w.heap.size, 1, none⟩ (.slice a2 m2 c2) = u3 at *
  refine (KO.out _ G3.out).mono ?_
  rintro e u4 ⟨v4, d4, x4, ls, k, rfl, hS, ho4, hd4, hx4, hb4⟩
  obtain ⟨t1, t2, t3, t4⟩ := scans_taken hS
  have LS : Hid (ls.length ≤ 6000) := Lib.hid (by have hq := hS.size.2; have := LIM.out; rw [List.length_append, HL1.out, HL2.out] at hq; omega)
  have LF : Hid ((flatF ls).length ≤ 6000) := Lib.hid (by rw [flatF_len, ← t4]; have := LIM.out; rw [List.length_append, HL1.out, HL2.out] at t2; omega)
  have SM := Lib.hid t3
  obtain ⟨z, hz⟩ : ∃ z, z = (flatF ls).length := ⟨_, rfl⟩
  have LZ := Lib.hid hz.symm
  obtain ⟨a4, c4, rfl, -, -, hd4⟩ := hd4.at z LZ.out
  obtain ⟨a5, c5, rfl, -, -, hx4⟩ := hx4.at 0 rfl
  obtain ⟨a6, c6, rfl, -, -, -, -⟩ := ho4.seqR.parts
  have A4 : Below u4.heap.size u4 (u4.alloc (.cells #[.slice a4 z c4, .slice a5 0 c5] 24)) := (Below.refl _ _).alloc (Nat.le_refl _) _
  have G5 := Lib.hid ((G3.out.trans (hb4.mono G3.out.size)).trans (A4.mono (G3.out.trans (hb4.mono G3.out.size)).size))
  have O5 := Lib.hid (hd4.seq.below A4)
  have X5 := Lib.hid (hx4.seq.below A4)
  have R5 := Lib.hid (ho4.seqR.below A4)
  have J5 := Lib.hid (IsBox.new 24 u4 (.slice a4 z c4) (.slice a5 0 c5))
  clear ho4 hd4 hx4 hb4 A4 hS t1 t2 t3 t4 hz
  go_wp2_with fail
  generalize u4.alloc (.cells #[.slice a4 z c4, .slice a5 0 c5] 24) = u5 at *
  have KP : Hid (Calls _ _ _ u5 (MadeDN u5 (flatF ls) ([] ++ frm p) 0)) := Lib.hid (append_ok O5.out X5.out (SP.out.below G5.out) (HT.out.below G5.out) (by have := LIM.out; rw [HL3.out]; omega) (by have := LIM.out; have := LF.out; rw [HL3.out, List.length_nil]; omega))
  rw [List.nil_append] at KP
  refine KP.out.mono ?_
  rintro e u6 ⟨v6, x6, rfl, ho6, hx6, hb6⟩
  obtain ⟨a7, c7, rfl, -, -, ho6⟩ := ho6.at z LZ.out
  obtain ⟨a8, c8, rfl, -, -, hx6⟩ := hx6.at (8 + m3) LP.out
  have A6 : Below u6.heap.size u6 (u6.alloc (.cells #[.slice a7 z c7, .slice a8 (8 + m3) c8] 24)) := (Below.refl _ _).alloc (Nat.le_refl _) _
  have A5 := hb6.trans (A6.mono hb6.size)
  have G7 := Lib.hid (G5.out.trans (A5.mono G5.out.size))
  have O7 := Lib.hid (ho6.seq.below A6)
  have X7 := Lib.hid (hx6.seq.below A6)
  have R7 := Lib.hid (R5.out.below A5)
  have J7 := Lib.hid (IsBox.new 24 u6 (.slice a7 z c7) (.slice a8 (8 + m3) c8))
  clear ho6 hx6 hb6 A6 A5 KP O5 X5 J5
  go_wp2_with fail
  generalize u6.alloc (.cells #[.slice a7 z c7, .slice a8 (8 + m3) c8] 24) = u7 at *
  have LFP : Hid ((flatF ls ++ frm p).length = z + (8 + m3)) := Lib.hid (by rw [List.length_append, LZ.out, LP.out])
  have LT : Hid (z ≤ 6000) := Lib.hid (by rw [← LZ.out]; exact LF.out)
  refine (sync_any O7.out X7.out (by have := LIM.out; have := LF.out; rw [LP.out]; omega)).mono ?_
  rintro e u8 ⟨v8, x8, rfl, ho8, hx8, hb8⟩
  obtain ⟨a9, c9, rfl, -, -, ho8⟩ := ho8.at (z + (8 + m3)) LFP.out
  obtain ⟨a10, c10, rfl, -, -, hx8⟩ := hx8.at 0 rfl
  have G8 := Lib.hid (G7.out.trans (hb8.mono G7.out.size))
  have O8 := Lib.hid ho8.seq
  have X8 := Lib.hid hx8.seq
  have R8 := Lib.hid (R7.out.below hb8)
  clear ho8 hx8 hb8
  go_wp2_with fail
  refine (crash_any (k := 0) O8.out X8.out (by omega) (by have := LIM.out; have := LT.out; rw [LFP.out, List.length_nil]; omega)).mono ?_
  rintro e u9 ⟨v9, x9, rfl, ho9, hx9, hb9⟩
  simp only [List.take_nil, List.append_nil] at ho9
  obtain ⟨a11, c11, rfl, -, -, ho9⟩ := ho9.at (z + (8 + m3)) LFP.out
  obtain ⟨a12, c12, rfl, -, -, hx9⟩ := hx9.at 0 rfl
  have G9 := Lib.hid (G8.out.trans (hb9.mono G8.out.size))
  have O9 := Lib.hid ho9.seq
  have X9 := Lib.hid hx9.seq
  have R9 := Lib.hid (R8.out.below hb9)
  clear ho9 hx9 hb9
  go_wp2_with fail
  refine (open_of (ls := ls ++ [p]) O9.out X9.out (HT.out.below G9.out) (by have := LIM.out; have := LT.out; rw [LFP.out]; omega) (by simp) (by rw [List.append_nil, ← flatF_push]; exact scans_all (small_snoc SM.out (by have := LIM.out; rw [HL3.out]; omega)))).mono ?_
  rintro e s0 ⟨v10, d10, x10, rfl, ho10, hd10, hx10, hb10⟩
  obtain ⟨a13, c13, rfl, -, -, hd10, -⟩ := hd10.parts
  obtain ⟨a14, c14, rfl, -, -, hx10⟩ := hx10.at 0 rfl
  obtain ⟨a15, c15, rfl, -, -, -, -⟩ := ho10.seqR.parts
  have A10 : Below s0.heap.size s0 (s0.alloc (.cells #[.slice a13 (flatF (ls ++ [p])).length c13, .slice a14 0 c14] 24)) := (Below.refl _ _).alloc (Nat.le_refl _) _
  have A9 := hb10.trans (A10.mono hb10.size)
  have G10 := Lib.hid (G9.out.trans (A9.mono G9.out.size))
  have R10 := Lib.hid (R9.out.below A9)
  have Q10 := Lib.hid (ho10.seqR.below A10)
  clear ho10 hd10 hx10 hb10 A10 A9 O7 X7 O8 X8 O9 X9 R5 R7 R8 R9 J7
  generalize hln : (ls ++ [p]).length = ln at *
  have HLN := Lib.hid hln
  clear hln
  go_upto_region 8 with fail
  generalize s0.alloc (.cells #[.slice a13 (flatF (ls ++ [p])).length c13, .slice a14 0 c14] 24) = s1 at *
  obtain ⟨us, w1, w2, w3, w4⟩ := R10.out.row
  have W1 := Lib.hid w1
  have W2 := Lib.hid w2
  have W3 := Lib.hid w3
  have W4 := Lib.hid w4
  clear w1 w2 w3 w4
  go_wp2_with (at_builtin; refine wpList_append_row (by rfl) (.tmp 58) (.tmp 59) rfl s1.heap.size rfl (OwnsV.empty _ _ (Nat.le_refl _)) rfl (W2.out.below_alloc _) W3.out (by have := W1.out; have := LS.out; simp; omega) (by simp) ?_)
  intro t1 s2 ho2 hg2 _
  have B2 := Lib.hid (((Below.refl s1.heap.size s1).alloc (Nat.le_refl _) _).grown hg2 (by simp) (by intro k hk; simp [Value.ownBlock] at hk; omega))
  have T2 := Lib.hid ho2
  clear ho2 hg2
  go_wp2_with (at_builtin; refine wpList_append_row (by rfl) (.tmp 60) (.tmp 62) rfl s1.heap.size rfl (T2.out.alloc _) rfl (rowOf_one _ _ _) (one_cell _ _ _) (by have := W1.out; have := LS.out; simp; omega) (by have := B2.out.size; simp; omega) ?_)
  intro t3 s3 ho3 hg3 _
  have B3 := Lib.hid ((B2.out.alloc B2.out.size _).grown hg3 (by have := B2.out.size; simp; omega) (fun k hk => (T2.out.lt k hk).1))
  have G3 := Lib.hid (G10.out.trans (B3.out.mono G10.out.size))
  have SJ := Lib.hid (seqR_join (ms := [p]) ho3 (by have := W1.out; simpa using this) rfl (fun j u hj => (W4.out j u (by simpa using hj)).below B3.out) (fun j u hj => by
    match j, hj with
    | 0, hj => simp at hj; subst hj; exact SP.out.below G3.out))
  clear ho3 hg3
  go_wp2_with fail
  refine (rowsB (Q10.out.below B3.out) SJ.out).mono ?_
  rintro e s4 ⟨rfl, hb4⟩
  have G4 := Lib.hid (G3.out.trans (hb4.mono G3.out.size))
  clear hb4
  go_wp2_with fail
  go_ret
  exact ⟨rfl, G4.out⟩

set_option maxRecDepth 100000 in
theorem lifted (os : Os) (started : os.Started) (H : Type) (enc : TypeId × Value → H) :
    ReturnsInHanded {} Tryd.checked os 6 .any (fun w args => (Rows.journalMoreSpec.pre enc Tryd.prog Tryd.f6 [] false w args ∧ laidMetH Tryd.prog laid1 w) ∧ sizedMet enc Tryd.prog Tryd.f6 (OpenSpec.ofChange Rows.journalMoreSpec) false w args)
      (Rows.journalMoreSpec.post enc Tryd.prog Tryd.f6 false true false false) := by
  refine returnsInHanded_of_change_and (C := Tryd.checked) (X := fun w _ => laidMetH Tryd.prog laid1 w) (fun _ _ _ hh h => h.of_heap hh) own started (by kernel_rfl) Tryd.func6
    (ChangeSpec.witness_shaped (enc := enc) (C := Tryd.checked) (os := os) (X := fun w _ => laidMetH Tryd.prog laid1 w) false (World.doorLaid Tryd.prog 400 os) #[.agg #[.slice none 0 0, .slice none 0 0], .slice none 0 0, .int .i64 0] 8 rfl (World.shaped_of_RefB (by kernel_rfl) (by kernel_rfl)) (by kernel_rfl) (by kernel_rfl) (by kernel_rfl) (door_met os _)) ?_
  intro W base args ds gs before hval0 hW _ _ hL _
  have hval : ∀ (j : Nat) t v, Tryd.f6.params[j]? = some t → args[j]? = some v → Value.okWide Tryd.prog W .any base t v := hval0
  have hW' := hW
  obtain ⟨p, q, hA0, hV, rfl, hfz, hnd⟩ := hW
  have hA : DataW.TrodAll enc Tryd.prog W 0 (fun _ => true) true Tryd.f6.params.toList args.toList ds p := hA0
  rw [Tryd.params6] at hA hval
  obtain ⟨v0, vs0, d0, ds0, p0, q0, hargs, rfl, rfl, h0, r0⟩ := trodAll_cons hA
  obtain ⟨v1, vs1, d1, ds1, p1, q1, rfl, rfl, rfl, h1, r1⟩ := trodAll_cons r0
  obtain ⟨v2, vs2, d2, ds2, p2, q2, rfl, rfl, rfl, h2, r2⟩ := trodAll_cons r1
  obtain ⟨rfl, rfl, rfl⟩ := trodAll_nil r2
  obtain rfl : args = #[v0, v1, v2] := by cases args; simp_all
  obtain ⟨rfl, rfl⟩ := trodVars_none hV
  have k0 := h0
  have lt0 : ∀ x ∈ p0, x.block < W.heap.size := by obtain ⟨m, hm⟩ := k0; exact DataW.trod_lt m _ _ _ hm
  have w0 := open0 (hval 0 24 v0 rfl rfl) h0
  obtain ⟨a1, len1, cap1, rfl⟩ := okWide_slice Tryd.underlying22 (hval 1 22 v1 rfl rfl)
  have k1 := h1
  have lt1 : ∀ x ∈ p1, x.block < W.heap.size := by obtain ⟨m, hm⟩ := k1; exact DataW.trod_lt m _ _ _ hm
  obtain ⟨z1, w1⟩ : ∃ zs, IsRow .u8 W a1 len1 cap1 zs := by
    obtain ⟨fuel, hf⟩ := h1
    rcases open_ints Tryd.underlying22 Tryd.underlying5 (by kernel_rfl) hf with ⟨hcs, _⟩ | ⟨x, l, c, zs, hcs, _, hl, hm, hz, _, hcell, hwz⟩
    · simp [Value.cells] at hcs
      obtain ⟨rfl, rfl, rfl⟩ := hcs
      exact ⟨[], .inl ⟨rfl, rfl, rfl, rfl⟩⟩
    · simp [Value.cells] at hcs
      obtain ⟨rfl, rfl, rfl⟩ := hcs
      exact ⟨zs, .inr ⟨_, rfl, hl, hm, by simpa using hz, hcell, hwz⟩⟩
  obtain ⟨a2, rfl, rfl, rfl, w2⟩ := open_int Tryd.underlying3 (hval 2 3 v2 rfl rfl) h2
  clear hA0 hval0
  refine (walk v0 a1 len1 cap1 z1 a2 W w0 w1 w2 (of_laid hL)).mono fun e W' ⟨he, bel⟩ => ?_
  subst he
  exact ⟨_, rfl, _, _, _, [], _, [], hW', trodAll_mk1 (shut_bool Tryd.underlying4 _), (trodAll_cons_mk (Below.trod laidOut (by kernel_rfl) (of_decide_eq_true (by kernel_rfl)) k0 bel lt0) (trodAll_cons_mk (Below.trod laidOut (by kernel_rfl) (of_decide_eq_true (by kernel_rfl)) k1 bel lt1) (trodAll_cons_mk (shut_int Tryd.underlying3 w2) trodAll_mk0))), rfl, bel.frame _, fun h => by cases h⟩

theorem over : Rows.journalMoreRow.holds Tryd.pinned (OpenSpec.ofChange Rows.journalMoreSpec) :=
  OpenClaim.holds_of_wide 6 Tryd.f6 rfl rfl rfl rfl rfl rfl rfl ⟨rfl, rfl, rfl, rfl, rfl⟩ rfl rfl rfl rfl rfl (by kernel_rfl) Tryd.func6 (by kernel_rfl)
    (of_decide_eq_true (by kernel_rfl)) (by unfold Func.isWrapper; first | (rw [if_pos (by decide +kernel)]; kernel_rfl) | (rw [if_neg (by decide +kernel)]; exact ⟨rfl, rfl⟩))
    (fun os started H enc _ => lifted os started H enc)

/-- the tied card: the given statement -/
theorem proved : Rows.JournalMoreCardSaid :=
  Claim7.holds_tied_plain_at .later [] [.data] true (true, "a427ed33cc0ea91030093835fd4bde5cbe54613f3f0df61ccbee41e16516e237") false
    over (fun _ h => by cases h) (by kernel_rfl) (fun _ h => by cases h) journalMore_row_tie rfl ⟨rfl, rfl⟩ (by kernel_rfl) rfl
    (fun f fn hf hfn => by
      obtain rfl : f = 6 := Option.some.inj ((show Tryd.prog.funcNamed "buttery/butterylaw06.JournalMore" = some 6 by kernel_rfl).symm.trans hf) |>.symm
      obtain rfl : fn = Tryd.f6 := (Option.some.inj (Tryd.func6.symm.trans hfn)).symm
      exact ⟨by kernel_rfl, fun j t ht => by
        rw [Tryd.params6] at ht
        have hm : t ∈ [24, 22, 3] := by simpa using Array.mem_of_getElem? ht
        have hall : ([24, 22, 3].all fun u => !Tryd.prog.wantsStandIn u) = true := by kernel_rfl
        exact (show Tryd.prog.wantsStandIn t = false by simpa using List.all_eq_true.1 hall t hm)⟩)
    (by kernel_rfl)
#print axioms proved
end Go.Proofs.YtehlbddcgnclaaaDoor.journalMore
