/-
  For any records and any number the law FrameTorn answers true: of records that were laid one behind the other, and cut anywhere, just those are scanned that stand there whole; of more than 60 records, or more than 3000 bytes together, nothing is asked. Conditions: the package variable crc.halves holds what the program's text lays (the card ties it).
  (The frame was written by the guide's proof-skeleton.mjs, and turned for a slice of slices; the walk is ours.)
-/
import Derived.Test.YtmbklheelinjfaaDoorRows
import Derived.WalkKit
import Derived.ProofKit
import Derived.OpenShut
import Derived.ShutString
import Derived.ChangeOld
import Derived.Below
import Derived.Test.YtmbklheelinjfaaDoorAwake
import Derived.LaidMore
import Derived.Stop.Joined
import Derived.SevenTiedAt
import Derived.Test.YtmbklheelinjfaaDoorLaid
import Derived.Test.YtmbklheelinjfaaDoorList
namespace Go.Proofs.YtmbklheelinjfaaDoor.frameTorn
open Go.ChangeShapes Go.WideShapes Go.ChangeAt Go.RowKit
open Go.ChangeMaps (open_string shut_string)
set_option linter.unusedVariables false

open Plain

theorem sizeF_snoc (ls : List Bytes) (k : Nat) (h : k < ls.length) : sizeF (ls.take (k + 1)) = sizeF (ls.take k) + (8 + (ls.getD k []).length) := by
  rw [List.take_succ_eq_append_getElem h, sizeF_append, sizeF_one]
  simp [List.getD, List.getElem?_eq_getElem h]
theorem part_at (ls : List Bytes) (k : Nat) (h : k < ls.length) : ls = ls.take k ++ ls.getD k [] :: ls.drop (k + 1) := by
  have : ls.getD k [] = ls[k] := by simp [List.getD, List.getElem?_eq_getElem h]
  rw [this, List.getElem_cons_drop, List.take_append_drop]

set_option maxRecDepth 100000 in
set_option maxHeartbeats 4000000 in
theorem torn_in (a0 : Option Addr) (len0 cap0 : Nat) (ls : List Bytes) (c : Nat) (w : World) (hl : ls.length = len0) (hlc : len0 ≤ cap0) (hs : SeqR w (.slice a0 len0 cap0) ls) (hT : HasTab w) (hsh : shB ls = true) (hc : c ≤ sizeF ls) (hp : 0 < len0) :
    Calls Tryd.prog 5 #[.slice a0 len0 cap0, .int .i64 c] w fun e w' => e = .returned (.bool true) ∧ Below w.heap.size w w' := by
  have KA := Lib.hid (awake_any w hT)
  have KS0 : Hid (∀ u, Below w.heap.size w u → _) := Lib.hid (fun u (hb : Below w.heap.size w u) => short_any (hs.below hb))
  have KL : Hid (∀ u, Below w.heap.size w u → _) := Lib.hid (fun u (hb : Below w.heap.size w u) => laid_ok (hs.below hb) (hT.below hb) hsh)
  obtain ⟨s1, s2, s3, s4, s5⟩ := small_sh hsh
  rw [hsh] at KS0
  have SM := Lib.hid s1
  have SL := Lib.hid hs
  have HT := Lib.hid hT
  have LL := Lib.hid hl
  have FL : Hid ((flatF ls).length = sizeF ls) := Lib.hid (flatF_len ls)
  have LB : Hid (sizeF ls ≤ 3480) := Lib.hid s4
  have H5 := Lib.hid s5
  have FS := Lib.hid (sizeF_snoc ls)
  have FT := Lib.hid (sizeF_take ls)
  have PA := Lib.hid (part_at ls)
  have TL : Hid (ls.take len0 = ls) := Lib.hid (List.take_of_length_le (by omega))
  have hl60 : (len0 : Int) ≤ 60 := by omega
  have hli : (len0 : Int) ≤ cap0 := by omega
  obtain ⟨b, o, cap1, hv, g1, m1, -, hcells⟩ := hs.spot (by omega)
  simp only [Value.slice.injEq] at hv
  obtain ⟨rfl, -, rfl⟩ := hv
  have HV := Lib.hid hcells
  clear hcells m1 g1
  clear hs hT hsh s1 s2 s3 s4 s5 hl
  go_enter Tryd.func5, Tryd.ntmps5
  go_wp2_with fail
  refine KA.out.mono ?_
  rintro e u1 ⟨rfl, hg1⟩
  have G1 := Lib.hid hg1
  clear hg1
  go_wp2_with fail
  refine (KS0.out _ G1.out).mono ?_
  rintro e u1' ⟨rfl, rfl⟩
  go_wp2_with fail
  refine (KL.out _ G1.out).mono ?_
  rintro e u2 ⟨v2, rfl, ho2, hb2⟩
  obtain ⟨ab, cb, rfl, q1, q2, ho2, -⟩ := ho2.parts
  have G2 := Lib.hid (G1.out.trans (hb2.mono G1.out.size))
  have HT2 := Lib.hid (HT.out.below G2.out)
  have O2 := Lib.hid ho2.seq
  rw [FL.out] at O2 q1 ⊢
  have LB1 := LB.out
  have hLi : (sizeF ls : Int) ≤ 3480 := by omega
  clear ho2 hb2 LB1
  have QC := Lib.hid (O2.out.first c (by rw [FL.out]; exact hc))
  have hci : (c : Int) ≤ sizeF ls := by omega
  have hcb : (c : Int) ≤ cb := by omega
  have HCC := Lib.hid hc
  clear q1 hc
  generalize hLL : sizeF ls = L at *
  have HLL := Lib.hid hLL
  clear hLL
  go_wp2_with fail
  go_loop [7, 8] (fun i n => ∃ k : Nat, k ≤ len0 ∧ i = .int .i64 k ∧ n = .int .i64 (sizeF (ls.take k)) ∧ sizeF (ls.take k) ≤ c) (fun i _ => len0 - (intOf i).toNat)
  case atStart => exact ⟨0, Nat.zero_le _, rfl, rfl, Nat.zero_le _⟩
  case round =>
    obtain ⟨k, hk, rfl, rfl, hkc⟩ := hrel
    have hft := FT.out k
    have hbd := LB.out
    have HKC := Lib.hid hkc
    by_cases hlt : k < len0
    · obtain ⟨ar, nr, cr, hcell, e1, l1, l2, l0, sq⟩ := HV.out k (by rw [LL.out]; exact hlt)
      have hblt : b < w.heap.size := World.block_lt_of_cell? w ⟨b, o + k, none⟩ hcell
      have hcell2 := (G2.out.cell (p := ⟨b, o + k, none⟩) hblt).trans hcell
      have h5 := H5.out k (by rw [LL.out]; exact hlt)
      have fs := FS.out k (by rw [LL.out]; exact hlt)
      rw [← e1] at fs h5
      have hn5 : (nr : Int) ≤ 3000 := by omega
      have hti : (sizeF (ls.take k) : Int) ≤ 3480 := by omega
      have FSK := Lib.hid fs
      have NR := Lib.hid e1
      by_cases hfit : sizeF (ls.take k) + 8 + nr ≤ c
      · have hfi : (sizeF (ls.take k) : Int) + 8 + nr ≤ c := by omega
        have hnx : Hid (sizeF (ls.take (k + 1)) ≤ c) := Lib.hid (by rw [fs]; omega)
        clear hcell sq l0 e1 fs h5 hft hbd hkc hfit
        generalize sizeF (ls.take k) = t at *
        go_wp2_with fail
        go_round
        case rel => exact ⟨k + 1, by omega, by go_num, by rw [FSK.out]; go_num, hnx.out⟩
        case measure => simp [intOf]; omega
      · have hst : Scans ((flatF ls).take c) (ls.take k) (sizeF (ls.take k)) := scans_torn SM.out (PA.out k (by rw [LL.out]; exact hlt)) hkc (by rw [← e1]; omega)
        have hfi : ¬ (sizeF (ls.take k) : Int) + 8 + nr ≤ c := by omega
        clear hcell sq l0 e1 fs h5 hft hbd hkc hfit
        generalize sizeF (ls.take k) = t at *
        have ST := Lib.hid hst
        clear hst
        have KS := Lib.hid (scan_of QC.out HT2.out (by rw [List.length_take, FL.out]; have := LB.out; omega) ST.out)
        have hkc : (k : Int) ≤ cap0 := by omega
        go_wp2_with fail
        refine KS.out.mono ?_
        rintro e u3 ⟨v3, rfl, ho3, hb3⟩
        have G3 := Lib.hid (G2.out.trans (hb3.mono G2.out.size))
        have R3 := Lib.hid ho3.seqR
        have RL := Lib.hid ((SL.out.first k (by rw [LL.out]; omega)).below G3.out)
        clear hb3 ho3
        go_wp2_with fail
        refine (rowsB R3.out RL.out).mono ?_
        rintro e u4 ⟨rfl, hb4⟩
        have G4 := Lib.hid (G3.out.trans (hb4.mono G3.out.size))
        clear hb4
        go_wp2_with fail
        go_ret
        exact ⟨rfl, G4.out⟩
    · obtain rfl : k = len0 := by omega
      have hst : Scans ((flatF ls).take c) (ls.take k) (sizeF (ls.take k)) := by
        have h := scans_whole (c := c) SM.out (by have := hkc; rw [TL.out] at this; exact this)
        rw [TL.out]; exact h
      have hti : (sizeF (ls.take k) : Int) ≤ 3480 := by omega
      clear hft hbd hkc
      generalize sizeF (ls.take k) = t at *
      have ST := Lib.hid hst
      clear hst
      have KS := Lib.hid (scan_of QC.out HT2.out (by rw [List.length_take, FL.out]; have := LB.out; omega) ST.out)
      have hkc : (k : Int) ≤ cap0 := by omega
      go_wp2_with fail
      refine KS.out.mono ?_
      rintro e u3 ⟨v3, rfl, ho3, hb3⟩
      have G3 := Lib.hid (G2.out.trans (hb3.mono G2.out.size))
      have R3 := Lib.hid ho3.seqR
      have RL := Lib.hid ((SL.out.first k (by rw [LL.out]; omega)).below G3.out)
      clear hb3 ho3
      go_wp2_with fail
      refine (rowsB R3.out RL.out).mono ?_
      rintro e u4 ⟨rfl, hb4⟩
      have G4 := Lib.hid (G3.out.trans (hb4.mono G3.out.size))
      clear hb4
      go_wp2_with fail
      go_ret
      exact ⟨rfl, G4.out⟩

set_option maxRecDepth 100000 in
set_option maxHeartbeats 2000000 in
theorem torn_nil (a0 : Option Addr) (cap0 : Nat) (w : World) (hs : SeqR w (.slice a0 0 cap0) []) (hT : HasTab w) :
    Calls Tryd.prog 5 #[.slice a0 0 cap0, .int .i64 0] w fun e w' => e = .returned (.bool true) ∧ Below w.heap.size w w' := by
  have hsh : shB [] = true := rfl
  have KA := Lib.hid (awake_any w hT)
  have KS0 : Hid (∀ u, Below w.heap.size w u → _) := Lib.hid (fun u (hb : Below w.heap.size w u) => short_any (hs.below hb))
  have KL : Hid (∀ u, Below w.heap.size w u → _) := Lib.hid (fun u (hb : Below w.heap.size w u) => laid_ok (hs.below hb) (hT.below hb) hsh)
  rw [hsh] at KS0
  have SL := Lib.hid hs
  have HT := Lib.hid hT
  have S0 := Lib.hid (scans_none (first_short [] (by simp)))
  have F0 : Hid (flatF [] = []) := Lib.hid rfl
  clear hs hT hsh
  go_enter Tryd.func5, Tryd.ntmps5
  go_wp2_with fail
  refine KA.out.mono ?_
  rintro e u1 ⟨rfl, hg1⟩
  have G1 := Lib.hid hg1
  clear hg1
  go_wp2_with fail
  refine (KS0.out _ G1.out).mono ?_
  rintro e u1' ⟨rfl, rfl⟩
  go_wp2_with fail
  refine (KL.out _ G1.out).mono ?_
  rintro e u2 ⟨v2, rfl, ho2, hb2⟩
  rw [F0.out] at ho2
  obtain ⟨ab, cb, rfl, q1, q2, ho2, -⟩ := ho2.parts
  have G2 := Lib.hid (G1.out.trans (hb2.mono G1.out.size))
  have HT2 := Lib.hid (HT.out.below G2.out)
  have O2 := Lib.hid ho2.seq
  simp only [List.length_nil] at O2 ⊢
  clear ho2 hb2 q1
  have KS := Lib.hid (scan_of O2.out HT2.out (by simp) S0.out)
  go_wp2_with fail
  go_loop [7, 8] (fun i n => i = .int .i64 0 ∧ n = .int .i64 0) (fun _ _ => 0)
  case atStart => exact ⟨rfl, rfl⟩
  case round =>
    obtain ⟨rfl, rfl⟩ := hrel
    go_wp2_with fail
    refine KS.out.mono ?_
    rintro e u3 ⟨v3, rfl, ho3, hb3⟩
    have G3 := Lib.hid (G2.out.trans (hb3.mono G2.out.size))
    have R3 := Lib.hid ho3.seqR
    have RL := Lib.hid (SL.out.below G3.out)
    clear hb3 ho3
    go_wp2_with fail
    refine (rowsB R3.out RL.out).mono ?_
    rintro e u4 ⟨rfl, hb4⟩
    have G4 := Lib.hid (G3.out.trans (hb4.mono G3.out.size))
    clear hb4
    go_wp2_with fail
    go_ret
    exact ⟨rfl, G4.out⟩

set_option maxRecDepth 100000 in
set_option maxHeartbeats 2000000 in
theorem torn_out (a0 : Option Addr) (len0 cap0 : Nat) (ls : List Bytes) (c : Int) (w : World) (hl : ls.length = len0) (hlc : len0 ≤ cap0) (hs : SeqR w (.slice a0 len0 cap0) ls) (hT : HasTab w) (hsh : shB ls = true) (hc : c < 0 ∨ (sizeF ls : Int) < c) :
    Calls Tryd.prog 5 #[.slice a0 len0 cap0, .int .i64 c] w fun e w' => e = .returned (.bool true) ∧ Below w.heap.size w w' := by
  have KA := Lib.hid (awake_any w hT)
  have KS0 : Hid (∀ u, Below w.heap.size w u → _) := Lib.hid (fun u (hb : Below w.heap.size w u) => short_any (hs.below hb))
  have KL : Hid (∀ u, Below w.heap.size w u → _) := Lib.hid (fun u (hb : Below w.heap.size w u) => laid_ok (hs.below hb) (hT.below hb) hsh)
  obtain ⟨s1, s2, s3, s4, s5⟩ := small_sh hsh
  rw [hsh] at KS0
  have SM := Lib.hid s1
  have SL := Lib.hid hs
  have HT := Lib.hid hT
  have LL := Lib.hid hl
  have FL : Hid ((flatF ls).length = sizeF ls) := Lib.hid (flatF_len ls)
  have LB : Hid (sizeF ls ≤ 3480) := Lib.hid s4
  have H5 := Lib.hid s5
  have FS := Lib.hid (sizeF_snoc ls)
  have FT := Lib.hid (sizeF_take ls)
  have PA := Lib.hid (part_at ls)
  have TL : Hid (ls.take len0 = ls) := Lib.hid (List.take_of_length_le (by omega))
  have hl60 : (len0 : Int) ≤ 60 := by omega
  have hli : (len0 : Int) ≤ cap0 := by omega
  clear hs hT hsh s1 s2 s3 s4 s5 hl
  go_enter Tryd.func5, Tryd.ntmps5
  go_wp2_with fail
  refine KA.out.mono ?_
  rintro e u1 ⟨rfl, hg1⟩
  have G1 := Lib.hid hg1
  clear hg1
  go_wp2_with fail
  refine (KS0.out _ G1.out).mono ?_
  rintro e u1' ⟨rfl, rfl⟩
  go_wp2_with fail
  refine (KL.out _ G1.out).mono ?_
  rintro e u2 ⟨v2, rfl, ho2, hb2⟩
  obtain ⟨ab, cb, rfl, q1, q2, ho2, -⟩ := ho2.parts
  have G2 := Lib.hid (G1.out.trans (hb2.mono G1.out.size))
  have HT2 := Lib.hid (HT.out.below G2.out)
  have O2 := Lib.hid ho2.seq
  rw [FL.out] at O2 q1 ⊢
  have LB1 := LB.out
  have hLi : (sizeF ls : Int) ≤ 3480 := by omega
  clear ho2 hb2 LB1
  clear O2 q1
  generalize sizeF ls = L at *
  rcases hc with hc | hc
  · go_wp2_with fail
    go_ret
    exact ⟨rfl, G2.out⟩
  · by_cases hc0 : c < 0
    · go_wp2_with fail
      go_ret
      exact ⟨rfl, G2.out⟩
    · go_wp2_with fail
      go_ret
      exact ⟨rfl, G2.out⟩

set_option maxRecDepth 100000 in
theorem torn_big (a0 : Option Addr) (len0 cap0 : Nat) (ls : List Bytes) (c : Int) (w : World) (hs : SeqR w (.slice a0 len0 cap0) ls) (hT : HasTab w) (hsh : shB ls = false) :
    Calls Tryd.prog 5 #[.slice a0 len0 cap0, .int .i64 c] w fun e w' => e = .returned (.bool true) ∧ Below w.heap.size w w' := by
  have KA := Lib.hid (awake_any w hT)
  have KS0 : Hid (∀ u, Below w.heap.size w u → _) := Lib.hid (fun u (hb : Below w.heap.size w u) => short_any (hs.below hb))
  rw [hsh] at KS0
  clear hs hT hsh
  go_enter Tryd.func5, Tryd.ntmps5
  go_wp2_with fail
  refine KA.out.mono ?_
  rintro e u1 ⟨rfl, hg1⟩
  have G1 := Lib.hid hg1
  clear hg1
  go_wp2_with fail
  refine (KS0.out _ G1.out).mono ?_
  rintro e u1' ⟨rfl, rfl⟩
  go_wp2_with fail
  go_ret
  exact ⟨rfl, G1.out⟩

theorem walk (a0 : Option Addr) (len0 cap0 : Nat) (l0 : List Bytes) (a1 : Int) (w : World) (w0 : IsRows w a0 len0 cap0 l0) (w1 : (Lit.int .i64 a1).wf = true) (hT : HasTab w) :
    Calls Tryd.prog 5 #[.slice a0 len0 cap0, .int .i64 a1] w fun e w' => e = .returned (.bool true) ∧ Below w.heap.size w w' := by
  obtain ⟨hl, hlc, -, hs⟩ := w0
  cases hsh : shB l0 with
  | false => exact torn_big a0 len0 cap0 l0 a1 w hs hT hsh
  | true =>
    by_cases hc : 0 ≤ a1 ∧ a1 ≤ (sizeF l0 : Int)
    · obtain ⟨c, rfl⟩ := Int.eq_ofNat_of_zero_le hc.1
      by_cases hp : 0 < len0
      · exact torn_in a0 len0 cap0 l0 c w hl hlc hs hT hsh (by omega) hp
      · obtain rfl : len0 = 0 := by omega
        obtain rfl : l0 = [] := List.eq_nil_of_length_eq_zero hl
        obtain rfl : c = 0 := by have := hc.2; simp [sizeF] at this; omega
        exact torn_nil a0 cap0 w hs hT
    · exact torn_out a0 len0 cap0 l0 a1 w hl hlc hs hT hsh (by omega)

set_option maxRecDepth 100000 in
theorem lifted (os : Os) (started : os.Started) (H : Type) (enc : TypeId × Value → H) :
    ReturnsInHanded {} Tryd.checked os 5 .any (fun w args => (Rows.frameTornSpec.pre enc Tryd.prog Tryd.f5 [] false w args ∧ laidMetH Tryd.prog laid1 w) ∧ sizedMet enc Tryd.prog Tryd.f5 (OpenSpec.ofChange Rows.frameTornSpec) false w args)
      (Rows.frameTornSpec.post enc Tryd.prog Tryd.f5 false true false false) := by
  refine returnsInHanded_of_change_and (C := Tryd.checked) (X := fun w _ => laidMetH Tryd.prog laid1 w) (fun _ _ _ hh h => h.of_heap hh) own started (by kernel_rfl) Tryd.func5
    (ChangeSpec.witness_shaped (enc := enc) (C := Tryd.checked) (os := os) (X := fun w _ => laidMetH Tryd.prog laid1 w) false (World.doorLaid Tryd.prog 400 os) #[.slice none 0 0, .int .i64 0] 8 rfl (World.shaped_of_RefB (by kernel_rfl) (by kernel_rfl)) (by kernel_rfl) (by kernel_rfl) (by kernel_rfl) (door_met os _)) ?_
  intro W base args ds gs before hval0 hW _ _ hL _
  have hval : ∀ (j : Nat) t v, Tryd.f5.params[j]? = some t → args[j]? = some v → Value.okWide Tryd.prog W .any base t v := hval0
  have hW' := hW
  obtain ⟨p, q, hA0, hV, rfl, hfz, hnd⟩ := hW
  have hA : DataW.TrodAll enc Tryd.prog W 0 (fun _ => true) true Tryd.f5.params.toList args.toList ds p := hA0
  rw [Tryd.params5] at hA hval
  obtain ⟨v0, vs0, d0, ds0, p0, q0, hargs, rfl, rfl, h0, r0⟩ := trodAll_cons hA
  obtain ⟨v1, vs1, d1, ds1, p1, q1, rfl, rfl, rfl, h1, r1⟩ := trodAll_cons r0
  obtain ⟨rfl, rfl, rfl⟩ := trodAll_nil r1
  obtain rfl : args = #[v0, v1] := by cases args; simp_all
  obtain ⟨rfl, rfl⟩ := trodVars_none hV
  obtain ⟨a0, len0, cap0, rfl⟩ := okWide_slice Tryd.underlying29 (hval 0 29 v0 rfl rfl)
  have k0 := h0
  have lt0 : ∀ x ∈ p0, x.block < W.heap.size := by obtain ⟨m, hm⟩ := k0; exact DataW.trod_lt m _ _ _ hm
  obtain ⟨z0, w0⟩ := seqR_of_trod h0
  obtain ⟨a1, rfl, rfl, rfl, w1⟩ := open_int Tryd.underlying3 (hval 1 3 v1 rfl rfl) h1
  clear hA0 hval0
  refine (walk a0 len0 cap0 z0 a1 W w0 w1 (of_laid hL)).mono fun e W' ⟨he, bel⟩ => ?_
  subst he
  exact ⟨_, rfl, _, _, _, [], _, [], hW', trodAll_mk1 (shut_bool Tryd.underlying4 _), (trodAll_cons_mk (Below.trod laidOut (by kernel_rfl) (of_decide_eq_true (by kernel_rfl)) k0 bel lt0) (trodAll_cons_mk (shut_int Tryd.underlying3 w1) trodAll_mk0)), rfl, bel.frame _, fun h => by cases h⟩

theorem over : Rows.frameTornRow.holds Tryd.pinned (OpenSpec.ofChange Rows.frameTornSpec) :=
  OpenClaim.holds_of_wide 5 Tryd.f5 rfl rfl rfl rfl rfl rfl rfl ⟨rfl, rfl, rfl, rfl, rfl⟩ rfl rfl rfl rfl rfl (by kernel_rfl) Tryd.func5 (by kernel_rfl)
    (of_decide_eq_true (by kernel_rfl)) (by unfold Func.isWrapper; first | (rw [if_pos (by decide +kernel)]; kernel_rfl) | (rw [if_neg (by decide +kernel)]; exact ⟨rfl, rfl⟩))
    (fun os started H enc _ => lifted os started H enc)

/-- the tied card: the given statement -/
theorem proved : Rows.FrameTornCardSaid :=
  Claim7.holds_tied_plain_at .later [] [.data] true (true, "a1b14acc35b2acff1145171695e5051c90f458bf3a780dbdb4bb14623109a6af") false
    over (fun _ h => by cases h) (by kernel_rfl) (fun _ h => by cases h) frameTorn_row_tie rfl ⟨rfl, rfl⟩ (by kernel_rfl) rfl
    (fun f fn hf hfn => by
      obtain rfl : f = 5 := Option.some.inj ((show Tryd.prog.funcNamed "buttery/butterylaw04.FrameTorn" = some 5 by kernel_rfl).symm.trans hf) |>.symm
      obtain rfl : fn = Tryd.f5 := (Option.some.inj (Tryd.func5.symm.trans hfn)).symm
      exact ⟨by kernel_rfl, fun j t ht => by
        rw [Tryd.params5] at ht
        have hm : t ∈ [29, 3] := by simpa using Array.mem_of_getElem? ht
        have hall : ([29, 3].all fun u => !Tryd.prog.wantsStandIn u) = true := by kernel_rfl
        exact (show Tryd.prog.wantsStandIn t = false by simpa using List.all_eq_true.1 hall t hm)⟩)
    (by kernel_rfl)
#print axioms proved
end Go.Proofs.YtmbklheelinjfaaDoor.frameTorn
