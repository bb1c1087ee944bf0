/-
  For any bytes the law FrameScans answers true: of their first 4000 just those records are scanned that the document says, and as many bytes are told. Conditions: the package variable crc.halves holds what the program's text lays (the card ties it).
  (The frame was written by the guide's proof-skeleton.mjs; the walk is ours.)
-/
import Derived.Test.YtmbklheelinjfaaDoorRows
import Derived.WalkKit
import Derived.ProofKit
import Derived.OpenShut
import Derived.ShutString
import Derived.ChangeOld
import Derived.Below
import Derived.Test.YtmbklheelinjfaaDoorRefS
import Derived.Lib.MinMax
import Derived.LaidMore
import Derived.Stop.Joined
import Derived.SevenTiedAt
import Derived.Test.YtmbklheelinjfaaDoorLaid
namespace Go.Proofs.YtmbklheelinjfaaDoor.frameScans
open Go.ChangeShapes Go.WideShapes Go.ChangeAt Go.RowKit
open Go.ChangeMaps (open_string shut_string)
set_option linter.unusedVariables false

open Plain

set_option maxRecDepth 100000 in
set_option maxHeartbeats 2000000 in
theorem walk (a0 : Option Addr) (len0 cap0 : Nat) (z0 : List Int) (w : World) (w0 : IsRow .u8 w a0 len0 cap0 z0) (hT : HasTab w) :
    Calls Tryd.prog 4 #[.slice a0 len0 cap0] w fun e w' => e = .returned (.bool true) ∧ Below w.heap.size w w' := by
  obtain ⟨xs, m, c1, hm, hs, hl, hlc⟩ := row_cut w0 4000
  have hli : (len0 : Int) ≤ cap0 := by omega
  have hmi : (m : Int) ≤ cap0 := by omega
  have hm2 : (m : Int) ≤ 4000 := by omega
  have M1 : min (len0 : Int) 4000 = (m : Int) := by omega
  have KA := Lib.hid (awake_any w hT)
  have K1 : Hid (∀ u, Below w.heap.size w u → _) := Lib.hid (fun u (hb : Below w.heap.size w u) => scan_any (hs.below hb) (hT.below hb) (by omega))
  have K2 : Hid (∀ u, Below w.heap.size w u → _) := Lib.hid (fun u (hb : Below w.heap.size w u) => refScan_any (hs.below hb) (by omega))
  clear w0 hT hm hs hl hlc c1
  go_enter Tryd.func4, Tryd.ntmps4
  go_wp2_with fail
  refine KA.out.mono ?_
  rintro e u1 ⟨rfl, hg1⟩
  have G1 := Lib.hid hg1
  clear hg1
  go_wp2_with fail
  refine (K1.out _ G1.out).mono ?_
  rintro e u2 ⟨v2, l2, k2, rfl, hS2, ho2, hb2⟩
  have G2 := Lib.hid (G1.out.trans (hb2.mono G1.out.size))
  have S2 := Lib.hid hS2
  have R2 := Lib.hid ho2.seqR
  clear hS2 ho2 hb2
  go_wp2_with fail
  refine (K2.out _ G2.out).mono ?_
  rintro e u3 ⟨v3, l3, k3, rfl, hS3, ho3, hb3⟩
  obtain ⟨e1, e2⟩ := Scans.fix S2.out hS3
  subst e1
  subst e2
  have G3 := Lib.hid (G2.out.trans (hb3.mono G2.out.size))
  have R3 := Lib.hid ho3.seqR
  have R23 := Lib.hid (R2.out.below hb3)
  clear hS3 ho3 hb3
  go_wp2_with fail
  refine (rowsB R23.out R3.out).mono ?_
  rintro e u4 ⟨rfl, hb4⟩
  have G4 := Lib.hid (G3.out.trans (hb4.mono G3.out.size))
  clear hb4
  go_wp2_with fail
  go_ret
  exact ⟨rfl, G4.out⟩

set_option maxRecDepth 100000 in
theorem lifted (os : Os) (started : os.Started) (H : Type) (enc : TypeId × Value → H) :
    ReturnsInHanded {} Tryd.checked os 4 .any (fun w args => (Rows.frameScansSpec.pre enc Tryd.prog Tryd.f4 [] false w args ∧ laidMetH Tryd.prog laid1 w) ∧ sizedMet enc Tryd.prog Tryd.f4 (OpenSpec.ofChange Rows.frameScansSpec) false w args)
      (Rows.frameScansSpec.post enc Tryd.prog Tryd.f4 false true false false) := by
  refine returnsInHanded_of_change_and (C := Tryd.checked) (X := fun w _ => laidMetH Tryd.prog laid1 w) (fun _ _ _ hh h => h.of_heap hh) own started (by kernel_rfl) Tryd.func4
    (ChangeSpec.witness_shaped (enc := enc) (C := Tryd.checked) (os := os) (X := fun w _ => laidMetH Tryd.prog laid1 w) false (World.doorLaid Tryd.prog 400 os) #[.slice none 0 0] 8 rfl (World.shaped_of_RefB (by kernel_rfl) (by kernel_rfl)) (by kernel_rfl) (by kernel_rfl) (by kernel_rfl) (door_met os _)) ?_
  intro W base args ds gs before hval0 hW _ _ hL _
  have hval : ∀ (j : Nat) t v, Tryd.f4.params[j]? = some t → args[j]? = some v → Value.okWide Tryd.prog W .any base t v := hval0
  have hW' := hW
  obtain ⟨p, q, hA0, hV, rfl, hfz, hnd⟩ := hW
  have hA : DataW.TrodAll enc Tryd.prog W 0 (fun _ => true) true Tryd.f4.params.toList args.toList ds p := hA0
  rw [Tryd.params4] at hA hval
  obtain ⟨v0, vs0, d0, ds0, p0, q0, hargs, rfl, rfl, h0, r0⟩ := trodAll_cons hA
  obtain ⟨rfl, rfl, rfl⟩ := trodAll_nil r0
  obtain rfl : args = #[v0] := by cases args; simp_all
  obtain ⟨rfl, rfl⟩ := trodVars_none hV
  obtain ⟨a0, len0, cap0, rfl⟩ := okWide_slice Tryd.underlying22 (hval 0 22 v0 rfl rfl)
  have k0 := h0
  have lt0 : ∀ x ∈ p0, x.block < W.heap.size := by obtain ⟨m, hm⟩ := k0; exact DataW.trod_lt m _ _ _ hm
  obtain ⟨z0, w0⟩ : ∃ zs, IsRow .u8 W a0 len0 cap0 zs := by
    obtain ⟨fuel, hf⟩ := h0
    rcases open_ints Tryd.underlying22 Tryd.underlying5 (by kernel_rfl) hf with ⟨hcs, _⟩ | ⟨x, l, c, zs, hcs, _, hl, hm, hz, _, hcell, hwz⟩
    · simp [Value.cells] at hcs
      obtain ⟨rfl, rfl, rfl⟩ := hcs
      exact ⟨[], .inl ⟨rfl, rfl, rfl, rfl⟩⟩
    · simp [Value.cells] at hcs
      obtain ⟨rfl, rfl, rfl⟩ := hcs
      exact ⟨zs, .inr ⟨_, rfl, hl, hm, by simpa using hz, hcell, hwz⟩⟩
  clear hA0 hval0
  refine (walk a0 len0 cap0 z0 W w0 (of_laid hL)).mono fun e W' ⟨he, bel⟩ => ?_
  subst he
  exact ⟨_, rfl, _, _, _, [], _, [], hW', trodAll_mk1 (shut_bool Tryd.underlying4 _), (trodAll_cons_mk (Below.trod laidOut (by kernel_rfl) (of_decide_eq_true (by kernel_rfl)) k0 bel lt0) trodAll_mk0), rfl, bel.frame _, fun h => by cases h⟩

theorem over : Rows.frameScansRow.holds Tryd.pinned (OpenSpec.ofChange Rows.frameScansSpec) :=
  OpenClaim.holds_of_wide 4 Tryd.f4 rfl rfl rfl rfl rfl rfl rfl ⟨rfl, rfl, rfl, rfl, rfl⟩ rfl rfl rfl rfl rfl (by kernel_rfl) Tryd.func4 (by kernel_rfl)
    (of_decide_eq_true (by kernel_rfl)) (by unfold Func.isWrapper; first | (rw [if_pos (by decide +kernel)]; kernel_rfl) | (rw [if_neg (by decide +kernel)]; exact ⟨rfl, rfl⟩))
    (fun os started H enc _ => lifted os started H enc)

/-- the tied card: the given statement -/
theorem proved : Rows.FrameScansCardSaid :=
  Claim7.holds_tied_plain_at .later [] [.data] true (true, "a1b14acc35b2acff1145171695e5051c90f458bf3a780dbdb4bb14623109a6af") false
    over (fun _ h => by cases h) (by kernel_rfl) (fun _ h => by cases h) frameScans_row_tie rfl ⟨rfl, rfl⟩ (by kernel_rfl) rfl
    (fun f fn hf hfn => by
      obtain rfl : f = 4 := Option.some.inj ((show Tryd.prog.funcNamed "buttery/butterylaw04.FrameScans" = some 4 by kernel_rfl).symm.trans hf) |>.symm
      obtain rfl : fn = Tryd.f4 := (Option.some.inj (Tryd.func4.symm.trans hfn)).symm
      exact ⟨by kernel_rfl, fun j t ht => by
        rw [Tryd.params4] at ht
        have hm : t ∈ [22] := by simpa using Array.mem_of_getElem? ht
        have hall : ([22].all fun u => !Tryd.prog.wantsStandIn u) = true := by kernel_rfl
        exact (show Tryd.prog.wantsStandIn t = false by simpa using List.all_eq_true.1 hall t hm)⟩)
    (by kernel_rfl)
#print axioms proved
end Go.Proofs.YtmbklheelinjfaaDoor.frameScans
