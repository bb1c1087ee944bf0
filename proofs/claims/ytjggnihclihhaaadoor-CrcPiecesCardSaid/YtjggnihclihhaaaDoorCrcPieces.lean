/-
  For any list of bytes and any place the law CrcPieces answers true: the sum of the first 4000 bytes goes on piece by piece, cut there. Conditions: the package variable crc.halves holds what the program's text lays (the card ties it).
  (The frame was written by the guide's proof-skeleton.mjs; the walk is ours.)
-/
import Derived.Test.YtjggnihclihhaaaDoorRows
import Derived.WalkKit
import Derived.ProofKit
import Derived.OpenShut
import Derived.ShutString
import Derived.ChangeOld
import Derived.Below
import Derived.Test.YtjggnihclihhaaaDoorAwake
import Derived.BigQuiet
import Derived.Deep.QuietTactic
import Derived.Deep.RegionWith
import Derived.LaidMore
import Derived.Stop.Joined
import Derived.SevenTiedAt
import Derived.Test.YtjggnihclihhaaaDoorLaid
namespace Go.Proofs.YtjggnihclihhaaaDoor.crcPieces
open Go.ChangeShapes Go.WideShapes Go.ChangeAt Go.RowKit
open Go.ChangeMaps (open_string shut_string)
set_option linter.unusedVariables false

open Plain

set_option maxHeartbeats 4000000 in
theorem pieces_some (b off len0 cap0 m : Nat) (xs : Bytes) (a1 : Int) (w : World) (hlc : len0 ≤ cap0) (hp : 0 < m) (c : (len0 ≤ 4000 ∧ len0 = m) ∨ (¬ len0 ≤ 4000 ∧ m = 4000)) (hm : xs.length = m) (hs : Seq w (.slice (some ⟨b, off, none⟩) m cap0) xs) (h1 : -9223372036854775808 ≤ a1) (h2 : a1 ≤ 9223372036854775807) (hT : HasTab w) :
    Calls Tryd.prog 4 #[.slice (some ⟨b, off, none⟩) len0 cap0, .int .i64 a1] w fun e w' => e = .returned (.bool true) ∧ Below w.heap.size w w' := by
  have hli : (len0 : Int) ≤ cap0 := by omega
  have KA := Lib.hid (awake_any w hT)
  have HT := Lib.hid hT
  have K1 := Lib.hid (fun (u : World) (hb : Below w.heap.size w u) => sum_seq (Seq.below hs hb) (hT.below hb))
  have KN := Lib.hid (fun (u : World) (hb : Below w.heap.size w u) => more_seq (Seq.nil u none 0 (Nat.zero_le _)) (HT.out.below hb) (sum xs))
  rw [more_nil] at KN
  by_cases g1 : a1 < 0
  · clear hT hm hs
    generalize sum xs = z at *
    rcases c with ⟨hb, rfl⟩ | ⟨hb, rfl⟩
    all_goals
      go_enter Tryd.func4, Tryd.ntmps4
      go_wp2_with fail
      refine KA.out.mono ?_
      rintro e w' ⟨rfl, hg⟩
      go_wp2_with fail
      go_ret
      exact ⟨rfl, hg⟩
  · obtain ⟨k, rfl⟩ := Int.eq_ofNat_of_zero_le (show 0 ≤ a1 by omega)
    by_cases g2 : m < k
    · clear hT hm hs
      generalize sum xs = z at *
      rcases c with ⟨hb, rfl⟩ | ⟨hb, rfl⟩
      all_goals
        go_enter Tryd.func4, Tryd.ntmps4
        go_wp2_with fail
        refine KA.out.mono ?_
        rintro e w' ⟨rfl, hg⟩
        go_wp2_with fail
        go_ret
        exact ⟨rfl, hg⟩
    · have g3 : k ≤ m := by omega
      obtain ⟨b', off', hv, u1, u2, u3⟩ := id hs
      have hs' : Seq w (.slice (some ⟨b, off, none⟩) xs.length cap0) xs := by rw [hm]; exact hs
      by_cases g4 : cap0 = k
      · obtain rfl : len0 = k := by omega
        obtain rfl : m = len0 := by omega
        obtain rfl : cap0 = m := by omega
        have hb : cap0 ≤ 4000 := by omega
        have KM := Lib.hid (fun (u : World) (hb : Below w.heap.size w u) => more_seq (Seq.nil u (some ⟨b, off, none⟩) 0 (Nat.zero_le _)) (HT.out.below hb) (sum xs))
        rw [more_nil] at KM
        clear hT hm hs hs' hv u1 u2 u3 c
        generalize sum xs = z at *
        go_enter Tryd.func4, Tryd.ntmps4
        go_wp2_with fail
        refine KA.out.mono ?_
        rintro e w' ⟨rfl, hg⟩
        go_wp2_with fail
        go_quiet ((first | (go_at_call 9; exact quiet_left (K1.out _ (below_drewN hg _))) | (go_at_call_of 11 b; exact quiet_left (KM.out _ (below_drewN hg _))) | (go_at_call 11; exact quiet_left (KN.out _ (below_drewN hg _)))))
        go_wp2_with fail
        go_ret
        exact ⟨rfl, below_drewN hg _⟩
      · have hP := Seq.first hs' k (by omega)
        have hD := Seq.from hs' k (by omega)
        rw [if_neg g4, hm] at hD
        have KP := Lib.hid (fun (u : World) (hb : Below w.heap.size w u) => sum_seq (Seq.below hP hb) (HT.out.below hb))
        have KM := Lib.hid (fun (u : World) (hb : Below w.heap.size w u) => more_seq (Seq.below hD hb) (HT.out.below hb) (sum (xs.take k)))
        rw [sum_append, List.take_append_drop] at KM
        clear hT hm hs hs' hv u1 u2 u3 hP hD
        generalize sum (xs.take k) = y at *
        generalize sum xs = z at *
        have hki : (k : Int) ≤ cap0 := by omega
        rcases c with ⟨hb, rfl⟩ | ⟨hb, rfl⟩
        all_goals
          go_enter Tryd.func4, Tryd.ntmps4
          go_wp2_with fail
          refine KA.out.mono ?_
          rintro e w' ⟨rfl, hg⟩
          go_wp2_with fail
          go_quiet ((first | (go_at_call_of 9 k; exact quiet_left (KP.out _ (below_drewN hg _))) | (go_at_call 9; exact quiet_left (K1.out _ (below_drewN hg _))) | (go_at_call_of 11 k; exact quiet_left (KM.out _ (below_drewN hg _))) | (go_at_call 11; exact quiet_left (KN.out _ (below_drewN hg _)))))
          go_wp2_with fail
          go_ret
          exact ⟨rfl, below_drewN hg _⟩

set_option maxHeartbeats 4000000 in
theorem pieces_none (a : Option Addr) (cap0 : Nat) (a1 : Int) (w : World) (h1 : -9223372036854775808 ≤ a1) (h2 : a1 ≤ 9223372036854775807) (hc : cap0 ≤ maxLen) (hn : a = none → cap0 = 0) (hT : HasTab w) :
    Calls Tryd.prog 4 #[.slice a 0 cap0, .int .i64 a1] w fun e w' => e = .returned (.bool true) ∧ Below w.heap.size w w' := by
  have KA := Lib.hid (awake_any w hT)
  have HT := Lib.hid hT
  have K1 := Lib.hid (fun (a : Option Addr) (c : Nat) (hc : c ≤ maxLen) (u : World) (hb : Below w.heap.size w u) => sum_seq (Seq.nil u a c hc) (HT.out.below hb))
  have KM := Lib.hid (fun (a : Option Addr) (c : Nat) (hc : c ≤ maxLen) (u : World) (hb : Below w.heap.size w u) => more_seq (Seq.nil u a c hc) (HT.out.below hb) (sum []))
  rw [more_nil] at KM
  clear hT
  by_cases g1 : a1 = 0
  · subst g1
    have hm0 : 0 ≤ maxLen := Nat.zero_le _
    generalize sum [] = z at *
    go_enter Tryd.func4, Tryd.ntmps4
    go_wp2_with fail
    refine KA.out.mono ?_
    rintro e w' ⟨rfl, hg⟩
    go_wp2_with fail
    go_quiet ((first | (go_at_call 9; exact quiet_left (K1.out _ _ (by assumption) _ (below_drewN hg _))) | (go_at_call 11; exact quiet_left (KM.out _ _ (by assumption) _ (below_drewN hg _)))))
    go_wp2_with fail
    go_ret
    exact ⟨rfl, below_drewN hg _⟩
  · have g2 : (a1 < 0 ∨ 0 < a1) := by omega
    rcases g2 with g2 | g2
    all_goals
      go_enter Tryd.func4, Tryd.ntmps4
      go_wp2_with fail
      refine KA.out.mono ?_
      rintro e w' ⟨rfl, hg⟩
      go_wp2_with fail
      go_ret
      exact ⟨rfl, hg⟩

theorem walk (a0 : Option Addr) (len0 cap0 : Nat) (z0 : List Int) (a1 : Int) (w : World) (w0 : IsRow .u8 w a0 len0 cap0 z0) (w1 : (Lit.int .i64 a1).wf = true) (hT : HasTab w) :
    Calls Tryd.prog 4 #[.slice a0 len0 cap0, .int .i64 a1] w fun e w' => e = .returned (.bool true) ∧ Below w.heap.size w w' := by
  obtain ⟨xs, m, c, hm, hs, hl, hlc, hn⟩ := row_cut w0 4000
  have h1 : -9223372036854775808 ≤ a1 ∧ a1 ≤ 9223372036854775807 := by simpa [Lit.wf, IntKind.min, IntKind.max, IntKind.signed, IntKind.bits] using w1
  by_cases hp : 0 < m
  · obtain ⟨a', cap', hv, g1, g2, g3⟩ := id hs
    obtain ⟨b, off, rfl, hc⟩ := g3 (by omega)
    simp only [Value.slice.injEq] at hv
    obtain ⟨rfl, -, rfl⟩ := hv
    exact pieces_some b off len0 cap0 m xs a1 w hlc hp c hm hs h1.1 h1.2 hT
  · obtain rfl : len0 = 0 := by omega
    obtain ⟨a', cap', hv, g1, g2, g3⟩ := id hs
    simp only [Value.slice.injEq] at hv
    obtain ⟨-, -, rfl⟩ := hv
    exact pieces_none a0 cap0 a1 w h1.1 h1.2 g2 hn hT

set_option maxRecDepth 100000 in
theorem lifted (os : Os) (started : os.Started) (H : Type) (enc : TypeId × Value → H) :
    ReturnsInHanded {} Tryd.checked os 4 .any (fun w args => (Rows.crcPiecesSpec.pre enc Tryd.prog Tryd.f4 [] false w args ∧ laidMetH Tryd.prog laid1 w) ∧ sizedMet enc Tryd.prog Tryd.f4 (OpenSpec.ofChange Rows.crcPiecesSpec) false w args)
      (Rows.crcPiecesSpec.post enc Tryd.prog Tryd.f4 false true false false) := by
  refine returnsInHanded_of_change_and (C := Tryd.checked) (X := fun w _ => laidMetH Tryd.prog laid1 w) (fun _ _ _ hh h => h.of_heap hh) own started (by kernel_rfl) Tryd.func4
    (ChangeSpec.witness_shaped (enc := enc) (C := Tryd.checked) (os := os) (X := fun w _ => laidMetH Tryd.prog laid1 w) false (World.doorLaid Tryd.prog 400 os) #[.slice none 0 0, .int .i64 0] 8 rfl (World.shaped_of_RefB (by kernel_rfl) (by kernel_rfl)) (by kernel_rfl) (by kernel_rfl) (by kernel_rfl) (door_met os _)) ?_
  intro W base args ds gs before hval0 hW _ _ hL _
  have hval : ∀ (j : Nat) t v, Tryd.f4.params[j]? = some t → args[j]? = some v → Value.okWide Tryd.prog W .any base t v := hval0
  have hW' := hW
  obtain ⟨p, q, hA0, hV, rfl, hfz, hnd⟩ := hW
  have hA : DataW.TrodAll enc Tryd.prog W 0 (fun _ => true) true Tryd.f4.params.toList args.toList ds p := hA0
  rw [Tryd.params4] at hA hval
  obtain ⟨v0, vs0, d0, ds0, p0, q0, hargs, rfl, rfl, h0, r0⟩ := trodAll_cons hA
  obtain ⟨v1, vs1, d1, ds1, p1, q1, rfl, rfl, rfl, h1, r1⟩ := trodAll_cons r0
  obtain ⟨rfl, rfl, rfl⟩ := trodAll_nil r1
  obtain rfl : args = #[v0, v1] := by cases args; simp_all
  obtain ⟨rfl, rfl⟩ := trodVars_none hV
  obtain ⟨a0, len0, cap0, rfl⟩ := okWide_slice Tryd.underlying22 (hval 0 22 v0 rfl rfl)
  have k0 := h0
  have lt0 : ∀ x ∈ p0, x.block < W.heap.size := by obtain ⟨m, hm⟩ := k0; exact DataW.trod_lt m _ _ _ hm
  obtain ⟨z0, w0⟩ : ∃ zs, IsRow .u8 W a0 len0 cap0 zs := by
    obtain ⟨fuel, hf⟩ := h0
    rcases open_ints Tryd.underlying22 Tryd.underlying5 (by kernel_rfl) hf with ⟨hcs, _⟩ | ⟨x, l, c, zs, hcs, _, hl, hm, hz, _, hcell, hwz⟩
    · simp [Value.cells] at hcs
      obtain ⟨rfl, rfl, rfl⟩ := hcs
      exact ⟨[], .inl ⟨rfl, rfl, rfl, rfl⟩⟩
    · simp [Value.cells] at hcs
      obtain ⟨rfl, rfl, rfl⟩ := hcs
      exact ⟨zs, .inr ⟨_, rfl, hl, hm, by simpa using hz, hcell, hwz⟩⟩
  obtain ⟨a1, rfl, rfl, rfl, w1⟩ := open_int Tryd.underlying3 (hval 1 3 v1 rfl rfl) h1
  clear hA0 hval0
  refine (walk a0 len0 cap0 z0 a1 W w0 w1 (of_laid hL)).mono fun e W' ⟨he, bel⟩ => ?_
  subst he
  exact ⟨_, rfl, _, _, _, [], _, [], hW', trodAll_mk1 (shut_bool Tryd.underlying4 _), (trodAll_cons_mk (Below.trod laidOut (by kernel_rfl) (of_decide_eq_true (by kernel_rfl)) k0 bel lt0) (trodAll_cons_mk (shut_int Tryd.underlying3 w1) trodAll_mk0)), rfl, bel.frame _, fun h => by cases h⟩

theorem over : Rows.crcPiecesRow.holds Tryd.pinned (OpenSpec.ofChange Rows.crcPiecesSpec) :=
  OpenClaim.holds_of_wide 4 Tryd.f4 rfl rfl rfl rfl rfl rfl rfl ⟨rfl, rfl, rfl, rfl, rfl⟩ rfl rfl rfl rfl rfl (by kernel_rfl) Tryd.func4 (by kernel_rfl)
    (of_decide_eq_true (by kernel_rfl)) (by unfold Func.isWrapper; first | (rw [if_pos (by decide +kernel)]; kernel_rfl) | (rw [if_neg (by decide +kernel)]; exact ⟨rfl, rfl⟩))
    (fun os started H enc _ => lifted os started H enc)

/-- the tied card: the given statement -/
theorem proved : Rows.CrcPiecesCardSaid :=
  Claim7.holds_tied_plain_at .later [] [.data] true (true, "47813847ea8efad5780a9e05143364231a61c83c9b7eea62c56cd8b66b29b407") false
    over (fun _ h => by cases h) (by kernel_rfl) (fun _ h => by cases h) crcPieces_row_tie rfl ⟨rfl, rfl⟩ (by kernel_rfl) rfl
    (fun f fn hf hfn => by
      obtain rfl : f = 4 := Option.some.inj ((show Tryd.prog.funcNamed "buttery/butterylaw02.CrcPieces" = some 4 by kernel_rfl).symm.trans hf) |>.symm
      obtain rfl : fn = Tryd.f4 := (Option.some.inj (Tryd.func4.symm.trans hfn)).symm
      exact ⟨by kernel_rfl, fun j t ht => by
        rw [Tryd.params4] at ht
        have hm : t ∈ [22, 3] := by simpa using Array.mem_of_getElem? ht
        have hall : ([22, 3].all fun u => !Tryd.prog.wantsStandIn u) = true := by kernel_rfl
        exact (show Tryd.prog.wantsStandIn t = false by simpa using List.all_eq_true.1 hall t hm)⟩)
    (by kernel_rfl)
#print axioms proved
end Go.Proofs.YtjggnihclihhaaaDoor.crcPieces
