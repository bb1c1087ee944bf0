/-
  For any bytes and any record the law FrameLays answers true: of their first 2000 bytes each, the record is laid as the document says, behind what stands there, which stays. Conditions: the package variable crc.halves holds what the program's text lays (the card ties it).
  (The frame was written by the guide's proof-skeleton.mjs; the walk is ours.)
-/
import Derived.Test.YtmbklheelinjfaaDoorRows
import Derived.WalkKit
import Derived.ProofKit
import Derived.OpenShut
import Derived.ShutString
import Derived.ChangeOld
import Derived.Below
import Derived.Test.YtmbklheelinjfaaDoorAwake
import Derived.Test.YtmbklheelinjfaaDoorRefF
import Derived.Deep.QuietTactic
import Derived.BigQuiet
import Derived.WalkSmall
import Derived.Lib.MinMax
import Derived.LaidMore
import Derived.Stop.Joined
import Derived.SevenTiedAt
import Derived.Test.YtmbklheelinjfaaDoorLaid
namespace Go.Proofs.YtmbklheelinjfaaDoor.frameLays
open Go.ChangeShapes Go.WideShapes Go.ChangeAt Go.RowKit
open Go.ChangeMaps (open_string shut_string)
set_option linter.unusedVariables false

open Plain

set_option maxRecDepth 100000 in
set_option maxHeartbeats 4000000 in
theorem walk (a0 : Option Addr) (len0 cap0 : Nat) (z0 : List Int) (a1 : Option Addr) (len1 cap1 : Nat) (z1 : List Int) (w : World) (w0 : IsRow .u8 w a0 len0 cap0 z0) (w1 : IsRow .u8 w a1 len1 cap1 z1) (hT : HasTab w) :
    Calls Tryd.prog 3 #[.slice a0 len0 cap0, .slice a1 len1 cap1] w fun e w' => e = .returned (.bool true) ∧ Below w.heap.size w w' := by
  obtain ⟨xs, m, c1, hm, hs, hl, hlc⟩ := row_cut w0 2000
  obtain ⟨p, n, c2, hn, hp, hl2, hlc2⟩ := row_cut w1 2000
  have hli : (len0 : Int) ≤ cap0 := by omega
  have hli2 : (len1 : Int) ≤ cap1 := by omega
  have hmi : (m : Int) ≤ cap0 := by omega
  have hni : (n : Int) ≤ cap1 := by omega
  have hm2 : (m : Int) ≤ 2000 := by omega
  have hn2 : (n : Int) ≤ 2000 := by omega
  have M1 : min (len0 : Int) 2000 = (m : Int) := by omega
  have M2 : min (len1 : Int) 2000 = (n : Int) := by omega
  have HT := Lib.hid hT
  have HM := Lib.hid hm
  have HN := Lib.hid hn
  have KA := Lib.hid (awake_any w hT)
  have SX := Lib.hid hs
  have SP := Lib.hid hp
  have KC : Hid (∀ u, Below w.heap.size w u → _) := Lib.hid (fun u (hb : Below w.heap.size w u) => copy_any (hs.below hb) (by omega))
  have KF : Hid (∀ u, Below w.heap.size w u → _) := Lib.hid (fun u (hb : Below w.heap.size w u) => refFrame_any (hp.below hb) (by omega))
  have KL : Hid (∀ u v, Below w.heap.size w u → Seq u v xs → _) := Lib.hid (fun u v (hb : Below w.heap.size w u) (h : Seq u v xs) => lay_ok h (hp.below hb) (hT.below hb) (by omega) (by omega))
  have FL : Hid ((frm p).length ≤ 2008) := Lib.hid (by rw [frm_len]; omega)
  have L1 : Hid (xs.length + [77#8].length ≤ 1073741824) := Lib.hid (by simp; omega)
  have L2 : Hid (xs.length + (frm p).length ≤ 1073741824) := Lib.hid (by rw [frm_len]; omega)
  have T1 : Hid ((xs ++ [77#8]).take m = xs) := Lib.hid (List.take_left' hm)
  have L3 : Hid ((xs ++ [77#8]).length = m + 1) := Lib.hid (by simp; omega)
  have C7 : Hid ((xs ++ [77#8]).getD m 0#8 = 77#8) := Lib.hid (by simp [List.getD, ← hm])
  clear w0 w1 hT hm hn hs hp c1 c2 hl hl2 hlc hlc2
  generalize frm p = fp at *
  go_enter Tryd.func3, Tryd.ntmps3
  go_wp2_with fail
  refine KA.out.mono ?_
  rintro e u1 ⟨rfl, hg0⟩
  go_wp2_with fail
  go_quiet (fail)
  go_wp2_with fail
  have hg1 := below_drewN hg0 nq
  generalize u1.drewN nq = u2 at *
  have G1 := Lib.hid hg1
  clear hg0 hg1
  refine (KC.out _ G1.out).mono ?_
  rintro e u3 ⟨v3, rfl, ho3, hb3⟩
  have G3' := Lib.hid (G1.out.trans (hb3.mono G1.out.size))
  have O3 := Lib.hid (ho3.mono G1.out.size)
  have hz3 := G3'.out.size
  clear ho3 hb3
  go_wp2_with (at_builtin; refine wpList_append_seq rfl (.tmp 21) (.tmp 22) rfl w.heap.size rfl (O3.out.alloc _) rfl (Seq.one u3 77 77#8 rfl) L1.out (Nat.le_trans hz3 (le_alloc _ _)) ?_)
  intro v4 u4 ho4 hg4 _
  have G4 := Lib.hid ((G3'.out.alloc hz3 _).grown hg4 (Nat.le_trans hz3 (le_alloc _ _)) (fun k hk => (O3.out.lt k hk).1))
  obtain ⟨g, cp, rfl, hgb, hgl⟩ := World.ownsRow.form ho4 (by rw [L3.out]; omega)
  rw [L3.out] at ho4 ⊢
  have hcp := ho4.seq.dims.2.1
  have hcpi : (m : Int) + 1 ≤ cp := by omega
  have hcpm : (m : Int) ≤ cp := by omega
  have hms := ho4.seq.first m (by rw [L3.out]; omega)
  rw [T1.out] at hms
  have MS := Lib.hid hms
  have O4 := Lib.hid ho4
  clear ho4 hg4 hms hcp hgb hgl hz3
  go_wp2_with fail
  refine (KL.out _ _ G4.out MS.out).mono ?_
  rintro e u5 ⟨v5, rfl, ho5, hb5⟩
  have G5 := Lib.hid (G4.out.trans (hb5.mono G4.out.size))
  have MS5 := Lib.hid (MS.out.below hb5)
  have O45 := Lib.hid (O4.out.below hb5 (Nat.le_refl _))
  have O5 := Lib.hid ho5
  clear ho5 hb5
  go_wp2_with fail
  refine (KC.out _ G5.out).mono ?_
  rintro e u6 ⟨v6, rfl, ho6, hb6⟩
  have G6 := Lib.hid (G5.out.trans (hb6.mono G5.out.size))
  have B56 := Lib.hid hb6
  have O6 := Lib.hid ho6
  clear ho6 hb6
  go_wp2_with fail
  refine (KF.out _ G6.out).mono ?_
  rintro e u7 ⟨v7, rfl, ho7, hb7⟩
  have B57 := Lib.hid (B56.out.trans (hb7.mono B56.out.size))
  have O67 := Lib.hid (O6.out.below hb7 (Nat.le_refl _))
  have O7 := Lib.hid ho7
  clear ho7 hb7
  go_wp2_with (at_builtin; refine wpList_append_want (by rfl) (.tmp 38) (.tmp 40) rfl u5.heap.size rfl O67.out rfl O7.out.seq L2.out B57.out.size ?_)
  intro v8 u8 ho8 hg8 _
  have B58 := Lib.hid (B57.out.grown hg8 B57.out.size (fun k hk => (O67.out.lt k hk).1))
  have O8 := Lib.hid ho8
  clear ho8 hg8
  go_wp2_with fail
  refine (sameB (O5.out.seq.below B58.out) O8.out.seq).mono ?_
  rintro e u9 ⟨rfl, hb9⟩
  have B59 := Lib.hid (B58.out.trans (hb9.mono B58.out.size))
  have G9 := Lib.hid (G5.out.trans (B59.out.mono G5.out.size))
  clear hb9
  go_wp2_with fail
  refine (sameB (MS5.out.below B59.out) (SX.out.below G9.out)).mono ?_
  rintro e u10 ⟨rfl, hb10⟩
  have B510 := Lib.hid (B59.out.trans (hb10.mono B59.out.size))
  have G10 := Lib.hid (G9.out.trans (hb10.mono G9.out.size))
  have hcell := (O45.out.below B510.out (Nat.le_refl _)).cell m (by rw [L3.out]; omega)
  rw [C7.out] at hcell
  unfold bv at hcell
  clear hb10
  go_wp2_with fail
  go_ret
  exact ⟨rfl, G10.out⟩

set_option maxRecDepth 100000 in
theorem lifted (os : Os) (started : os.Started) (H : Type) (enc : TypeId × Value → H) :
    ReturnsInHanded {} Tryd.checked os 3 .any (fun w args => (Rows.frameLaysSpec.pre enc Tryd.prog Tryd.f3 [] false w args ∧ laidMetH Tryd.prog laid1 w) ∧ sizedMet enc Tryd.prog Tryd.f3 (OpenSpec.ofChange Rows.frameLaysSpec) false w args)
      (Rows.frameLaysSpec.post enc Tryd.prog Tryd.f3 false true false false) := by
  refine returnsInHanded_of_change_and (C := Tryd.checked) (X := fun w _ => laidMetH Tryd.prog laid1 w) (fun _ _ _ hh h => h.of_heap hh) own started (by kernel_rfl) Tryd.func3
    (ChangeSpec.witness_shaped (enc := enc) (C := Tryd.checked) (os := os) (X := fun w _ => laidMetH Tryd.prog laid1 w) false (World.doorLaid Tryd.prog 400 os) #[.slice none 0 0, .slice none 0 0] 8 rfl (World.shaped_of_RefB (by kernel_rfl) (by kernel_rfl)) (by kernel_rfl) (by kernel_rfl) (by kernel_rfl) (door_met os _)) ?_
  intro W base args ds gs before hval0 hW _ _ hL _
  have hval : ∀ (j : Nat) t v, Tryd.f3.params[j]? = some t → args[j]? = some v → Value.okWide Tryd.prog W .any base t v := hval0
  have hW' := hW
  obtain ⟨p, q, hA0, hV, rfl, hfz, hnd⟩ := hW
  have hA : DataW.TrodAll enc Tryd.prog W 0 (fun _ => true) true Tryd.f3.params.toList args.toList ds p := hA0
  rw [Tryd.params3] at hA hval
  obtain ⟨v0, vs0, d0, ds0, p0, q0, hargs, rfl, rfl, h0, r0⟩ := trodAll_cons hA
  obtain ⟨v1, vs1, d1, ds1, p1, q1, rfl, rfl, rfl, h1, r1⟩ := trodAll_cons r0
  obtain ⟨rfl, rfl, rfl⟩ := trodAll_nil r1
  obtain rfl : args = #[v0, v1] := by cases args; simp_all
  obtain ⟨rfl, rfl⟩ := trodVars_none hV
  obtain ⟨a0, len0, cap0, rfl⟩ := okWide_slice Tryd.underlying22 (hval 0 22 v0 rfl rfl)
  have k0 := h0
  have lt0 : ∀ x ∈ p0, x.block < W.heap.size := by obtain ⟨m, hm⟩ := k0; exact DataW.trod_lt m _ _ _ hm
  obtain ⟨z0, w0⟩ : ∃ zs, IsRow .u8 W a0 len0 cap0 zs := by
    obtain ⟨fuel, hf⟩ := h0
    rcases open_ints Tryd.underlying22 Tryd.underlying5 (by kernel_rfl) hf with ⟨hcs, _⟩ | ⟨x, l, c, zs, hcs, _, hl, hm, hz, _, hcell, hwz⟩
    · simp [Value.cells] at hcs
      obtain ⟨rfl, rfl, rfl⟩ := hcs
      exact ⟨[], .inl ⟨rfl, rfl, rfl, rfl⟩⟩
    · simp [Value.cells] at hcs
      obtain ⟨rfl, rfl, rfl⟩ := hcs
      exact ⟨zs, .inr ⟨_, rfl, hl, hm, by simpa using hz, hcell, hwz⟩⟩
  obtain ⟨a1, len1, cap1, rfl⟩ := okWide_slice Tryd.underlying22 (hval 1 22 v1 rfl rfl)
  have k1 := h1
  have lt1 : ∀ x ∈ p1, x.block < W.heap.size := by obtain ⟨m, hm⟩ := k1; exact DataW.trod_lt m _ _ _ hm
  obtain ⟨z1, w1⟩ : ∃ zs, IsRow .u8 W a1 len1 cap1 zs := by
    obtain ⟨fuel, hf⟩ := h1
    rcases open_ints Tryd.underlying22 Tryd.underlying5 (by kernel_rfl) hf with ⟨hcs, _⟩ | ⟨x, l, c, zs, hcs, _, hl, hm, hz, _, hcell, hwz⟩
    · simp [Value.cells] at hcs
      obtain ⟨rfl, rfl, rfl⟩ := hcs
      exact ⟨[], .inl ⟨rfl, rfl, rfl, rfl⟩⟩
    · simp [Value.cells] at hcs
      obtain ⟨rfl, rfl, rfl⟩ := hcs
      exact ⟨zs, .inr ⟨_, rfl, hl, hm, by simpa using hz, hcell, hwz⟩⟩
  clear hA0 hval0
  refine (walk a0 len0 cap0 z0 a1 len1 cap1 z1 W w0 w1 (of_laid hL)).mono fun e W' ⟨he, bel⟩ => ?_
  subst he
  exact ⟨_, rfl, _, _, _, [], _, [], hW', trodAll_mk1 (shut_bool Tryd.underlying4 _), (trodAll_cons_mk (Below.trod laidOut (by kernel_rfl) (of_decide_eq_true (by kernel_rfl)) k0 bel lt0) (trodAll_cons_mk (Below.trod laidOut (by kernel_rfl) (of_decide_eq_true (by kernel_rfl)) k1 bel lt1) trodAll_mk0)), rfl, bel.frame _, fun h => by cases h⟩

theorem over : Rows.frameLaysRow.holds Tryd.pinned (OpenSpec.ofChange Rows.frameLaysSpec) :=
  OpenClaim.holds_of_wide 3 Tryd.f3 rfl rfl rfl rfl rfl rfl rfl ⟨rfl, rfl, rfl, rfl, rfl⟩ rfl rfl rfl rfl rfl (by kernel_rfl) Tryd.func3 (by kernel_rfl)
    (of_decide_eq_true (by kernel_rfl)) (by unfold Func.isWrapper; first | (rw [if_pos (by decide +kernel)]; kernel_rfl) | (rw [if_neg (by decide +kernel)]; exact ⟨rfl, rfl⟩))
    (fun os started H enc _ => lifted os started H enc)

/-- the tied card: the given statement -/
theorem proved : Rows.FrameLaysCardSaid :=
  Claim7.holds_tied_plain_at .later [] [.data] true (true, "a1b14acc35b2acff1145171695e5051c90f458bf3a780dbdb4bb14623109a6af") false
    over (fun _ h => by cases h) (by kernel_rfl) (fun _ h => by cases h) frameLays_row_tie rfl ⟨rfl, rfl⟩ (by kernel_rfl) rfl
    (fun f fn hf hfn => by
      obtain rfl : f = 3 := Option.some.inj ((show Tryd.prog.funcNamed "buttery/butterylaw04.FrameLays" = some 3 by kernel_rfl).symm.trans hf) |>.symm
      obtain rfl : fn = Tryd.f3 := (Option.some.inj (Tryd.func3.symm.trans hfn)).symm
      exact ⟨by kernel_rfl, fun j t ht => by
        rw [Tryd.params3] at ht
        have hm : t ∈ [22, 22] := by simpa using Array.mem_of_getElem? ht
        have hall : ([22, 22].all fun u => !Tryd.prog.wantsStandIn u) = true := by kernel_rfl
        exact (show Tryd.prog.wantsStandIn t = false by simpa using List.all_eq_true.1 hall t hm)⟩)
    (by kernel_rfl)
#print axioms proved
end Go.Proofs.YtmbklheelinjfaaDoor.frameLays
