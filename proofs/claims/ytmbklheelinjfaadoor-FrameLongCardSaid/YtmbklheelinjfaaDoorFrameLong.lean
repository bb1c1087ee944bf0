/-
  Whether more bytes than there may be are asked for or just as many, the law FrameLong answers true: a record of one byte more is refused, one of just as many is laid and scanned. Conditions: the package variable crc.halves holds what the program's text lays (the card ties it).
  (The frame was written by the guide's proof-skeleton.mjs; the walk is ours.)
-/
import Derived.Test.YtmbklheelinjfaaDoorRows
import Derived.WalkKit
import Derived.ProofKit
import Derived.OpenShut
import Derived.ShutString
import Derived.Test.YtmbklheelinjfaaDoorAwake
import Derived.Deep.OwnRows
import Derived.Below
import Derived.ChangeOld
import Derived.LaidMore
import Derived.Stop.Joined
import Derived.SevenTiedAt
import Derived.Test.YtmbklheelinjfaaDoorLaid
namespace Go.Proofs.YtmbklheelinjfaaDoor.frameLong
open Go.ChangeShapes Go.WideShapes Go.ChangeAt Go.RowKit
open Go.ChangeMaps (open_string shut_string)
set_option linter.unusedVariables false      -- a walk need not use every 'w<i>' (that an integer argument fits its kind)

open Plain

/-- make([]byte, n): noughts, in a slice of the call's own -/
theorem wpList_makeZ {w : World} {ops : Array Oper} {rest : List Oper} {o : Oper} {a : Act} {Q : Exit → Act → World → Prop} (hg : o.guard = none) (l : Operand) (ho : o.op = Op.makeSlice 22 l l)
    (m : Int) (n : Nat) (hl : a.eval l = .int .i64 m) (hm : m = (n : Int)) (hn : n ≤ 16777216)
    (h : ∀ w', Owns w.heap.size w' (.slice (some ⟨w.heap.size, 0, none⟩) n n) (List.replicate n 0#8) → Below w.heap.size w w' → wpList Tryd.prog ops Q rest (a.put o.dst (.slice (some ⟨w.heap.size, 0, none⟩) n n)) w') :
    wpList Tryd.prog ops Q (o :: rest) a w := by
  subst hm
  obtain ⟨i0, hi, hz0, hz1, hz2⟩ := info_parts info2'
  refine wpList_make_row w hg l l 22 ho 5 i0 (.int .u8 0) Tryd.underlying22 hi hz0 hz1 rfl .i64 .i64 n hl hl (by rw [hz2]; omega) (by omega) ?_
  refine h _ ?_ ((Below.refl _ _).alloc (Nat.le_refl _) _)
  have hr := World.ownsRow_lit (base := w.heap.size) (e := 5) (size := 1) w (madeCells #[.int .u8 0] n) n (Nat.le_refl _) (by unfold maxLen; omega) (by rw [size_madeCells, Nat.mul_one])
  rw [toList_madeCells_one] at hr
  have e : List.replicate n (Value.int .u8 0) = (List.replicate n 0#8).map bv := by rw [List.map_replicate]; rfl
  rw [e] at hr
  unfold Owns
  rw [List.length_replicate]
  exact hr

set_option maxRecDepth 100000 in
set_option maxHeartbeats 2000000 in
theorem long_more (N : Nat) (hN : N = 1048577) (w : World) (hT : HasTab w) :
    Calls Tryd.prog 7 #[.bool true] w fun e w' => e = .returned (.bool true) ∧ Below w.heap.size w w' := by
  have KA := Lib.hid (awake_any w hT)
  have HN := Lib.hid hN
  have KL : Hid (∀ a u, _) := Lib.hid (fun a u => lay_err (a := a) (cap := N) (u := .slice none 0 0) (w := u) (by rw [hN]; omega : 1048576 < N))
  clear hN hT
  go_enter Tryd.func7, Tryd.ntmps7
  go_wp2_with fail
  refine KA.out.mono ?_
  rintro e u1 ⟨rfl, hg1⟩
  have G1 := Lib.hid hg1
  clear hg1
  go_wp2_with (at_make; refine wpList_makeZ rfl (.tmp 14) rfl 1048577 N rfl (by rw [HN.out]; rfl) (by rw [HN.out]; omega) ?_)
  intro u2 ho2 hb2
  have G2 := Lib.hid (G1.out.trans (hb2.mono G1.out.size))
  clear ho2 hb2
  go_wp2_with fail
  refine (KL.out _ _).mono ?_
  rintro e u3 ⟨rfl, rfl⟩
  go_wp2_with fail
  go_ret
  exact ⟨rfl, G2.out⟩

set_option maxRecDepth 100000 in
set_option maxHeartbeats 2000000 in
theorem long_just (N : Nat) (hN : N = 1048576) (w : World) (hT : HasTab w) :
    Calls Tryd.prog 7 #[.bool false] w fun e w' => e = .returned (.bool true) ∧ Below w.heap.size w w' := by
  have KA := Lib.hid (awake_any w hT)
  have HN := Lib.hid hN
  have HT := Lib.hid hT
  obtain ⟨p, hp⟩ : ∃ p : Bytes, p = List.replicate N 0#8 := ⟨_, rfl⟩
  have hpl : p.length = N := by rw [hp, List.length_replicate]
  have HP := Lib.hid hp
  obtain ⟨N8, hN8⟩ : ∃ N8 : Nat, N8 = 8 + p.length := ⟨_, rfl⟩
  have SO := scans_one p (by omega)
  rw [← hN8] at SO
  have S1 := Lib.hid SO
  have hfl : (frm p).length = N8 := by rw [frm_len, hN8]
  have FL := Lib.hid hfl
  have E1 : ((N8 : Int) == 1048584) = true := beq_iff_eq.2 (by omega)
  have E2 : ((N : Int) == 1048576) = true := beq_iff_eq.2 (by omega)
  have HPL := Lib.hid hpl
  have HB : Hid (N8 ≤ 800000000) := Lib.hid (by omega)
  clear hN hT hp hN8 SO hfl hpl
  go_enter Tryd.func7, Tryd.ntmps7
  go_wp2_with fail
  refine KA.out.mono ?_
  rintro e u1 ⟨rfl, hg1⟩
  have G1 := Lib.hid hg1
  clear hg1
  go_wp2_with (at_make; refine wpList_makeZ rfl (.tmp 14) rfl 1048576 N rfl (by rw [HN.out]; rfl) (by rw [HN.out]; omega) ?_)
  intro u2 ho2 hb2
  rw [← HP.out] at ho2
  have G2 := Lib.hid (G1.out.trans (hb2.mono G1.out.size))
  have KL := Lib.hid (lay_ok (Seq.nil u2) ho2.seq (HT.out.below G2.out) (by rw [HPL.out, HN.out]; simp) (by rw [HPL.out, HN.out]; omega))
  rw [List.nil_append] at KL
  clear ho2 hb2
  go_wp2_with fail
  refine KL.out.mono ?_
  rintro e u3 ⟨v3, rfl, ho3, hb3⟩
  obtain ⟨a3, c3, rfl, q1, q2, ho3, -⟩ := ho3.parts
  have G3 := Lib.hid (G2.out.trans (hb3.mono G2.out.size))
  have KS := Lib.hid (scan_of ho3.seq (HT.out.below G3.out) (by rw [FL.out]; exact HB.out) S1.out)
  rw [FL.out] at KS ⊢
  clear ho3 hb3 q1
  go_wp2_with fail
  refine KS.out.mono ?_
  rintro e u4 ⟨v4, rfl, ho4, hb4⟩
  have G4 := Lib.hid (G3.out.trans (hb4.mono G3.out.size))
  obtain ⟨b, o, cc, rfl, -, -, -, hc⟩ := ho4.seqR.spot (by simp)
  obtain ⟨ar, nr, cr, hcell, e1, -, -, -, -⟩ := hc 0 (by simp)
  have e2 : nr = N := by rw [e1]; exact HPL.out
  rw [e2, Nat.add_zero] at hcell
  clear ho4 hb4 hc e1 e2
  simp only [List.length_cons, List.length_nil, Nat.zero_add]
  go_wp2_with fail
  go_ret
  exact ⟨rfl, G4.out⟩

theorem walk (a0 : Bool) (w : World) (hT : HasTab w) :
    Calls Tryd.prog 7 #[.bool a0] w fun e w' => e = .returned (.bool true) ∧ Below w.heap.size w w' := by
  cases a0 with
  | true => exact long_more _ rfl w hT
  | false => exact long_just _ rfl w hT

set_option maxRecDepth 100000 in
theorem lifted (os : Os) (started : os.Started) (H : Type) (enc : TypeId × Value → H) :
    ReturnsInHanded {} Tryd.checked os 7 .any (fun w args => (Rows.frameLongSpec.pre enc Tryd.prog Tryd.f7 [] false w args ∧ laidMetH Tryd.prog laid1 w) ∧ sizedMet enc Tryd.prog Tryd.f7 (OpenSpec.ofChange Rows.frameLongSpec) false w args)
      (Rows.frameLongSpec.post enc Tryd.prog Tryd.f7 false true false false) := by
  refine returnsInHanded_of_change_and (C := Tryd.checked) (X := fun w _ => laidMetH Tryd.prog laid1 w) (fun _ _ _ hh h => h.of_heap hh) own started (by kernel_rfl) Tryd.func7
    (ChangeSpec.witness_shaped (enc := enc) (C := Tryd.checked) (os := os) (X := fun w _ => laidMetH Tryd.prog laid1 w) false (World.doorLaid Tryd.prog 400 os) #[.bool false] 8 rfl (World.shaped_of_RefB (by kernel_rfl) (by kernel_rfl)) (by kernel_rfl) (by kernel_rfl) (by kernel_rfl) (door_met os _)) ?_
  intro W base args ds gs before hval0 hW _ _ hL _
  have hval : ∀ (j : Nat) t v, Tryd.f7.params[j]? = some t → args[j]? = some v → Value.okWide Tryd.prog W .any base t v := hval0
  have hW' := hW
  obtain ⟨p, q, hA0, hV, rfl, hfz, hnd⟩ := hW
  have hA : DataW.TrodAll enc Tryd.prog W 0 (fun _ => true) true Tryd.f7.params.toList args.toList ds p := hA0
  rw [Tryd.params7] at hA hval
  obtain ⟨v0, vs0, d0, ds0, p0, q0, hargs, rfl, rfl, h0, r0⟩ := trodAll_cons hA
  obtain ⟨rfl, rfl, rfl⟩ := trodAll_nil r0
  obtain rfl : args = #[v0] := by cases args; simp_all
  obtain ⟨rfl, rfl⟩ := trodVars_none hV
  obtain ⟨a0, rfl, rfl, rfl⟩ := open_bool Tryd.underlying4 (hval 0 4 v0 rfl rfl) h0
  clear hA0 hval0
  refine (walk a0 W  (of_laid hL)).mono fun e W' ⟨he, bel⟩ => ?_
  subst he
  exact ⟨_, rfl, _, _, _, [], _, [], hW', trodAll_mk1 (shut_bool Tryd.underlying4 _), (trodAll_cons_mk (shut_bool Tryd.underlying4 _) trodAll_mk0), rfl, bel.frame _, fun h => by cases h⟩

theorem over : Rows.frameLongRow.holds Tryd.pinned (OpenSpec.ofChange Rows.frameLongSpec) :=
  OpenClaim.holds_of_wide 7 Tryd.f7 rfl rfl rfl rfl rfl rfl rfl ⟨rfl, rfl, rfl, rfl, rfl⟩ rfl rfl rfl rfl rfl (by kernel_rfl) Tryd.func7 (by kernel_rfl)
    (of_decide_eq_true (by kernel_rfl)) (by unfold Func.isWrapper; first | (rw [if_pos (by decide +kernel)]; kernel_rfl) | (rw [if_neg (by decide +kernel)]; exact ⟨rfl, rfl⟩))
    (fun os started H enc _ => lifted os started H enc)

/-- the tied card: the given statement -/
theorem proved : Rows.FrameLongCardSaid :=
  Claim7.holds_tied_plain_at .later [] [.data] true (true, "a1b14acc35b2acff1145171695e5051c90f458bf3a780dbdb4bb14623109a6af") false
    over (fun _ h => by cases h) (by kernel_rfl) (fun _ h => by cases h) frameLong_row_tie rfl ⟨rfl, rfl⟩ (by kernel_rfl) rfl
    (fun f fn hf hfn => by
      obtain rfl : f = 7 := Option.some.inj ((show Tryd.prog.funcNamed "buttery/butterylaw04.FrameLong" = some 7 by kernel_rfl).symm.trans hf) |>.symm
      obtain rfl : fn = Tryd.f7 := (Option.some.inj (Tryd.func7.symm.trans hfn)).symm
      exact ⟨by kernel_rfl, fun j t ht => by
        rw [Tryd.params7] at ht
        have hm : t ∈ [4] := by simpa using Array.mem_of_getElem? ht
        have hall : ([4].all fun u => !Tryd.prog.wantsStandIn u) = true := by kernel_rfl
        exact (show Tryd.prog.wantsStandIn t = false by simpa using List.all_eq_true.1 hall t hm)⟩)
    (by kernel_rfl)
#print axioms proved
end Go.Proofs.YtmbklheelinjfaaDoor.frameLong
