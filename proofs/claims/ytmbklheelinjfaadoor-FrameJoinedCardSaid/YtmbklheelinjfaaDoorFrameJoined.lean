/-
  For any records and any bytes the law FrameJoined answers true: what is scanned of the records' frames, and of the bytes behind them, is what is scanned of each; of more than 60 records, of more than 3000 bytes in them together, or of more than 3000 bytes behind them nothing is asked. Conditions: the package variable crc.halves holds what the program's text lays (the card ties it).
  (The frame was written by the guide's proof-skeleton.mjs, and turned for a slice of slices; the walk is ours.)
-/
import Derived.Test.YtmbklheelinjfaaDoorRows
import Derived.WalkKit
import Derived.ProofKit
import Derived.OpenShut
import Derived.ShutString
import Derived.ChangeOld
import Derived.Below
import Derived.Test.YtmbklheelinjfaaDoorAwake
import Derived.LaidMore
import Derived.Stop.Joined
import Derived.SevenTiedAt
import Derived.Test.YtmbklheelinjfaaDoorLaid
import Derived.Test.YtmbklheelinjfaaDoorList
namespace Go.Proofs.YtmbklheelinjfaaDoor.frameJoined
open Go.ChangeShapes Go.WideShapes Go.ChangeAt Go.RowKit
open Go.ChangeMaps (open_string shut_string)
set_option linter.unusedVariables false

open Plain

theorem seqR_join {B : Nat} {w : World} {v : Value} {vs us : List Value} {ls ms : List Bytes} (h : OwnsV B w v (vs ++ us)) (h1 : vs.length = ls.length) (h2 : us.length = ms.length)
    (g1 : ∀ j u, vs[j]? = some u → Seq w u (ls.getD j [])) (g2 : ∀ j u, us[j]? = some u → Seq w u (ms.getD j [])) : SeqR w v (ls ++ ms) := by
  refine ⟨vs ++ us, by simp [h1, h2], h.row, fun j u hj => ?_⟩
  by_cases hlt : j < vs.length
  · rw [List.getElem?_append_left hlt] at hj
    have := g1 j u hj
    simpa [List.getD, List.getElem?_append_left (show j < ls.length by omega)] using this
  · rw [List.getElem?_append_right (by omega)] at hj
    have := g2 (j - vs.length) u hj
    rw [h1] at this
    simpa [List.getD, List.getElem?_append_right (show ls.length ≤ j by omega)] using this

theorem ownsR_kept {B : Nat} {w w' : World} {v : Value} {ls : List Bytes} {row : Option Nat} (h : OwnsR B w v ls) (hg : w.grownBy w' row) (hr : ∀ k, row = some k → k < B) : OwnsR B w' v ls := by
  have far : ∀ x : Value, (∀ k, x.ownBlock = some k → B ≤ k ∧ k < w.heap.size) → x.ownBlock = none ∨ x.ownBlock ≠ row := by
    intro x hx
    cases hb : x.ownBlock with
    | none => exact .inl rfl
    | some k =>
      right
      intro e
      have := (hx k hb).1
      have := hr k e.symm
      omega
  obtain ⟨vs, h1, h2, h3⟩ := h
  exact ⟨vs, h1, World.ownsRow.kept h2 hg (far v h2.lt), fun j u hj => World.ownsRow.kept (h3 j u hj) hg (far u (h3 j u hj).lt)⟩

set_option maxRecDepth 100000 in
theorem joined_big (a0 : Option Addr) (len0 cap0 : Nat) (ls : List Bytes) (a1 : Option Addr) (len1 cap1 : Nat) (w : World) (hs : SeqR w (.slice a0 len0 cap0) ls) (hT : HasTab w) (hsh : shB ls = false) :
    Calls Tryd.prog 8 #[.slice a0 len0 cap0, .slice a1 len1 cap1] w fun e w' => e = .returned (.bool true) ∧ Below w.heap.size w w' := by
  have KA := Lib.hid (awake_any w hT)
  have KS0 : Hid (∀ u, Below w.heap.size w u → _) := Lib.hid (fun u (hb : Below w.heap.size w u) => short_any (hs.below hb))
  rw [hsh] at KS0
  clear hs hT hsh
  go_enter Tryd.func8, Tryd.ntmps8
  go_wp2_with fail
  refine KA.out.mono ?_
  rintro e u1 ⟨rfl, hg1⟩
  have G1 := Lib.hid hg1
  clear hg1
  go_wp2_with fail
  refine (KS0.out _ G1.out).mono ?_
  rintro e u1' ⟨rfl, rfl⟩
  go_wp2_with fail
  go_ret
  exact ⟨rfl, G1.out⟩

set_option maxRecDepth 100000 in
theorem joined_long (a0 : Option Addr) (len0 cap0 : Nat) (ls : List Bytes) (a1 : Option Addr) (len1 cap1 : Nat) (w : World) (hs : SeqR w (.slice a0 len0 cap0) ls) (hT : HasTab w) (hsh : shB ls = true) (hl : 3000 < len1) :
    Calls Tryd.prog 8 #[.slice a0 len0 cap0, .slice a1 len1 cap1] w fun e w' => e = .returned (.bool true) ∧ Below w.heap.size w w' := by
  have KA := Lib.hid (awake_any w hT)
  have KS0 : Hid (∀ u, Below w.heap.size w u → _) := Lib.hid (fun u (hb : Below w.heap.size w u) => short_any (hs.below hb))
  rw [hsh] at KS0
  have hli : (3000 : Int) < len1 := by omega
  clear hs hT hsh
  go_enter Tryd.func8, Tryd.ntmps8
  go_wp2_with fail
  refine KA.out.mono ?_
  rintro e u1 ⟨rfl, hg1⟩
  have G1 := Lib.hid hg1
  clear hg1
  go_wp2_with fail
  refine (KS0.out _ G1.out).mono ?_
  rintro e u1' ⟨rfl, rfl⟩
  go_wp2_with fail
  go_ret
  exact ⟨rfl, G1.out⟩

set_option maxRecDepth 100000 in
set_option maxHeartbeats 4000000 in
theorem joined_in (a0 : Option Addr) (len0 cap0 : Nat) (ls : List Bytes) (a1 : Option Addr) (len1 cap1 : Nat) (xs : Bytes) (w : World) (hl : ls.length = len0) (hlc : len0 ≤ cap0) (hs : SeqR w (.slice a0 len0 cap0) ls) (hx : Seq w (.slice a1 len1 cap1) xs) (hxl : xs.length = len1) (hT : HasTab w) (hsh : shB ls = true) (h3 : len1 ≤ 3000) :
    Calls Tryd.prog 8 #[.slice a0 len0 cap0, .slice a1 len1 cap1] w fun e w' => e = .returned (.bool true) ∧ Below w.heap.size w w' := by
  have KA := Lib.hid (awake_any w hT)
  have KS0 : Hid (∀ u, Below w.heap.size w u → _) := Lib.hid (fun u (hb : Below w.heap.size w u) => short_any (hs.below hb))
  have KL : Hid (∀ u, Below w.heap.size w u → _) := Lib.hid (fun u (hb : Below w.heap.size w u) => laid_ok (hs.below hb) (hT.below hb) hsh)
  have KX : Hid (∀ u, Below w.heap.size w u → _) := Lib.hid (fun u (hb : Below w.heap.size w u) => scan_any (hx.below hb) (hT.below hb) (by omega))
  obtain ⟨s1, s2, s3, s4, s5⟩ := small_sh hsh
  rw [hsh] at KS0
  have SM := Lib.hid s1
  have SX := Lib.hid hx
  have HT := Lib.hid hT
  have XL := Lib.hid hxl
  have FL : Hid ((flatF ls).length = sizeF ls) := Lib.hid (flatF_len ls)
  have LB : Hid (sizeF ls ≤ 3480) := Lib.hid s4
  have LS : Hid (ls.length ≤ 60) := Lib.hid s2
  have H3 : Hid (len1 ≤ 3000) := Lib.hid h3
  obtain ⟨vs, v1, v2, v3, v4⟩ := hs.row
  have V1 := Lib.hid v1
  have V2 := Lib.hid v2
  have V3 := Lib.hid v3
  have V4 := Lib.hid v4
  have h3i : (len1 : Int) ≤ 3000 := by omega
  clear hs hT hsh s1 s2 s3 s4 s5 hl hx hxl v1 v2 v3 v4 hlc h3
  go_enter Tryd.func8, Tryd.ntmps8
  go_wp2_with fail
  refine KA.out.mono ?_
  rintro e u1 ⟨rfl, hg1⟩
  have G1 := Lib.hid hg1
  clear hg1
  go_wp2_with fail
  refine (KS0.out _ G1.out).mono ?_
  rintro e u1' ⟨rfl, rfl⟩
  go_wp2_with fail
  refine (KL.out _ G1.out).mono ?_
  rintro e u2 ⟨v2, rfl, ho2, hb2⟩
  obtain ⟨ab, cb, rfl, q1, q2, ho2, -⟩ := ho2.parts
  have G2 := Lib.hid (G1.out.trans (hb2.mono G1.out.size))
  have O2 := Lib.hid (ho2.mono G1.out.size)
  rw [FL.out] at O2 ⊢
  have LB1 := LB.out
  have hLi : (sizeF ls : Int) ≤ 3480 := by omega
  clear ho2 hb2 LB1 q1
  generalize hLL : sizeF ls = L at *
  have HLL := Lib.hid hLL
  clear hLL
  go_wp2_with fail
  refine (KX.out _ G2.out).mono ?_
  rintro e u3 ⟨v3, ms, n, rfl, hS, ho3, hb3⟩
  have G3 := Lib.hid (G2.out.trans (hb3.mono G2.out.size))
  have O3 := Lib.hid (O2.out.below hb3 (Nat.le_refl _))
  have hnx := hS.size
  rw [XL.out] at hnx
  have H3' := H3.out
  have hni : (n : Int) ≤ 3000 := by omega
  have MS : Hid (ms.length ≤ 3000) := Lib.hid (by omega)
  have SJ := Lib.hid (Scans.behind SM.out hS)
  rw [HLL.out] at SJ
  have R3 := Lib.hid ho3
  clear hS ho3 hb3 hnx H3'
  go_wp2_with (at_builtin; refine wpList_append_seq rfl (.tmp 32) (.tmp 33) rfl w.heap.size rfl O3.out rfl (SX.out.below G3.out) (by rw [FL.out, XL.out]; have := LB.out; have := H3.out; omega) G3.out.size ?_)
  intro v4 u4 ho4 hg4 _
  have G4 := Lib.hid (G3.out.grown hg4 G3.out.size (fun k hk => (O3.out.lt k hk).1))
  have R4 := Lib.hid (ownsR_kept R3.out hg4 (fun k hk => (O2.out.lt k hk).2))
  have KA2 := Lib.hid (scan_of ho4.seq (HT.out.below G4.out) (by rw [List.length_append, FL.out, XL.out]; have := LB.out; have := H3.out; omega) SJ.out)
  clear ho4 hg4
  go_wp2_with fail
  refine KA2.out.mono ?_
  rintro e u5 ⟨v5, rfl, ho5, hb5⟩
  have G5 := Lib.hid (G4.out.trans (hb5.mono G4.out.size))
  obtain ⟨us, w1, w2, w3, w4⟩ := (R4.out.below hb5 (Nat.le_refl _)).seqR.row
  have W1 := Lib.hid w1
  have W2 := Lib.hid w2
  have W3 := Lib.hid w3
  have W4 := Lib.hid w4
  have R5 := Lib.hid ho5.seqR
  clear ho5 hb5 w1 w2 w3 w4
  go_wp2_with (at_builtin; refine wpList_append_row (by rfl) (.tmp 49) (.tmp 50) rfl u5.heap.size rfl (OwnsV.empty _ _ (Nat.le_refl _)) rfl (V2.out.below (G5.out.alloc G5.out.size _)) V3.out (by have := V1.out; have := LS.out; simp; omega) (by simp) ?_)
  intro v6 u6 ho6 hg6 _
  have B6 := Lib.hid (((Below.refl u5.heap.size u5).alloc (Nat.le_refl _) _).grown hg6 (by simp) (by intro k hk; simp [Value.ownBlock] at hk; omega))
  have O6 := Lib.hid ho6
  clear ho6 hg6
  go_wp2_with (at_builtin; refine wpList_append_row (by rfl) (.tmp 51) (.tmp 52) rfl u5.heap.size rfl O6.out rfl (W2.out.below B6.out) W3.out (by have := V1.out; have := LS.out; have := W1.out; have := MS.out; omega) B6.out.size ?_)
  intro v7 u7 ho7 hg7 _
  have B7 := Lib.hid (B6.out.grown hg7 B6.out.size (fun k hk => (O6.out.lt k hk).1))
  have G7 := Lib.hid (G5.out.trans (B7.out.mono G5.out.size))
  have SJ7 := Lib.hid (seqR_join ho7 V1.out W1.out (fun j u hj => (V4.out j u hj).below G7.out) (fun j u hj => (W4.out j u hj).below B7.out))
  clear ho7 hg7
  go_wp2_with fail
  refine (rowsB (R5.out.below B7.out) SJ7.out).mono ?_
  rintro e u8 ⟨rfl, hb8⟩
  have G8 := Lib.hid (G7.out.trans (hb8.mono G7.out.size))
  clear hb8
  go_wp2_with fail
  go_ret
  exact ⟨rfl, G8.out⟩

theorem walk (a0 : Option Addr) (len0 cap0 : Nat) (l0 : List Bytes) (a1 : Option Addr) (len1 cap1 : Nat) (z1 : List Int) (w : World) (w0 : IsRows w a0 len0 cap0 l0) (w1 : IsRow .u8 w a1 len1 cap1 z1) (hT : HasTab w) :
    Calls Tryd.prog 8 #[.slice a0 len0 cap0, .slice a1 len1 cap1] w fun e w' => e = .returned (.bool true) ∧ Below w.heap.size w w' := by
  obtain ⟨hl, hlc, -, hs⟩ := w0
  obtain ⟨xs, hx, hxl, -⟩ := row_seq w1
  cases hsh : shB l0 with
  | false => exact joined_big a0 len0 cap0 l0 a1 len1 cap1 w hs hT hsh
  | true =>
    by_cases h3 : 3000 < len1
    · exact joined_long a0 len0 cap0 l0 a1 len1 cap1 w hs hT hsh h3
    · exact joined_in a0 len0 cap0 l0 a1 len1 cap1 xs w hl hlc hs hx hxl hT hsh (by omega)

set_option maxRecDepth 100000 in
theorem lifted (os : Os) (started : os.Started) (H : Type) (enc : TypeId × Value → H) :
    ReturnsInHanded {} Tryd.checked os 8 .any (fun w args => (Rows.frameJoinedSpec.pre enc Tryd.prog Tryd.f8 [] false w args ∧ laidMetH Tryd.prog laid1 w) ∧ sizedMet enc Tryd.prog Tryd.f8 (OpenSpec.ofChange Rows.frameJoinedSpec) false w args)
      (Rows.frameJoinedSpec.post enc Tryd.prog Tryd.f8 false true false false) := by
  refine returnsInHanded_of_change_and (C := Tryd.checked) (X := fun w _ => laidMetH Tryd.prog laid1 w) (fun _ _ _ hh h => h.of_heap hh) own started (by kernel_rfl) Tryd.func8
    (ChangeSpec.witness_shaped (enc := enc) (C := Tryd.checked) (os := os) (X := fun w _ => laidMetH Tryd.prog laid1 w) false (World.doorLaid Tryd.prog 400 os) #[.slice none 0 0, .slice none 0 0] 8 rfl (World.shaped_of_RefB (by kernel_rfl) (by kernel_rfl)) (by kernel_rfl) (by kernel_rfl) (by kernel_rfl) (door_met os _)) ?_
  intro W base args ds gs before hval0 hW _ _ hL _
  have hval : ∀ (j : Nat) t v, Tryd.f8.params[j]? = some t → args[j]? = some v → Value.okWide Tryd.prog W .any base t v := hval0
  have hW' := hW
  obtain ⟨p, q, hA0, hV, rfl, hfz, hnd⟩ := hW
  have hA : DataW.TrodAll enc Tryd.prog W 0 (fun _ => true) true Tryd.f8.params.toList args.toList ds p := hA0
  rw [Tryd.params8] at hA hval
  obtain ⟨v0, vs0, d0, ds0, p0, q0, hargs, rfl, rfl, h0, r0⟩ := trodAll_cons hA
  obtain ⟨v1, vs1, d1, ds1, p1, q1, rfl, rfl, rfl, h1, r1⟩ := trodAll_cons r0
  obtain ⟨rfl, rfl, rfl⟩ := trodAll_nil r1
  obtain rfl : args = #[v0, v1] := by cases args; simp_all
  obtain ⟨rfl, rfl⟩ := trodVars_none hV
  obtain ⟨a0, len0, cap0, rfl⟩ := okWide_slice Tryd.underlying29 (hval 0 29 v0 rfl rfl)
  have k0 := h0
  have lt0 : ∀ x ∈ p0, x.block < W.heap.size := by obtain ⟨m, hm⟩ := k0; exact DataW.trod_lt m _ _ _ hm
  obtain ⟨z0, w0⟩ := seqR_of_trod h0
  obtain ⟨a1, len1, cap1, rfl⟩ := okWide_slice Tryd.underlying22 (hval 1 22 v1 rfl rfl)
  have k1 := h1
  have lt1 : ∀ x ∈ p1, x.block < W.heap.size := by obtain ⟨m, hm⟩ := k1; exact DataW.trod_lt m _ _ _ hm
  obtain ⟨z1, w1⟩ : ∃ zs, IsRow .u8 W a1 len1 cap1 zs := by
    obtain ⟨fuel, hf⟩ := h1
    rcases open_ints Tryd.underlying22 Tryd.underlying5 (by kernel_rfl) hf with ⟨hcs, _⟩ | ⟨x, l, c, zs, hcs, _, hl, hm, hz, _, hcell, hwz⟩
    · simp [Value.cells] at hcs
      obtain ⟨rfl, rfl, rfl⟩ := hcs
      exact ⟨[], .inl ⟨rfl, rfl, rfl, rfl⟩⟩
    · simp [Value.cells] at hcs
      obtain ⟨rfl, rfl, rfl⟩ := hcs
      exact ⟨zs, .inr ⟨_, rfl, hl, hm, by simpa using hz, hcell, hwz⟩⟩
  clear hA0 hval0
  refine (walk a0 len0 cap0 z0 a1 len1 cap1 z1 W w0 w1 (of_laid hL)).mono fun e W' ⟨he, bel⟩ => ?_
  subst he
  exact ⟨_, rfl, _, _, _, [], _, [], hW', trodAll_mk1 (shut_bool Tryd.underlying4 _), (trodAll_cons_mk (Below.trod laidOut (by kernel_rfl) (of_decide_eq_true (by kernel_rfl)) k0 bel lt0) (trodAll_cons_mk (Below.trod laidOut (by kernel_rfl) (of_decide_eq_true (by kernel_rfl)) k1 bel lt1) trodAll_mk0)), rfl, bel.frame _, fun h => by cases h⟩

theorem over : Rows.frameJoinedRow.holds Tryd.pinned (OpenSpec.ofChange Rows.frameJoinedSpec) :=
  OpenClaim.holds_of_wide 8 Tryd.f8 rfl rfl rfl rfl rfl rfl rfl ⟨rfl, rfl, rfl, rfl, rfl⟩ rfl rfl rfl rfl rfl (by kernel_rfl) Tryd.func8 (by kernel_rfl)
    (of_decide_eq_true (by kernel_rfl)) (by unfold Func.isWrapper; first | (rw [if_pos (by decide +kernel)]; kernel_rfl) | (rw [if_neg (by decide +kernel)]; exact ⟨rfl, rfl⟩))
    (fun os started H enc _ => lifted os started H enc)

/-- the tied card: the given statement -/
theorem proved : Rows.FrameJoinedCardSaid :=
  Claim7.holds_tied_plain_at .later [] [.data] true (true, "a1b14acc35b2acff1145171695e5051c90f458bf3a780dbdb4bb14623109a6af") false
    over (fun _ h => by cases h) (by kernel_rfl) (fun _ h => by cases h) frameJoined_row_tie rfl ⟨rfl, rfl⟩ (by kernel_rfl) rfl
    (fun f fn hf hfn => by
      obtain rfl : f = 8 := Option.some.inj ((show Tryd.prog.funcNamed "buttery/butterylaw04.FrameJoined" = some 8 by kernel_rfl).symm.trans hf) |>.symm
      obtain rfl : fn = Tryd.f8 := (Option.some.inj (Tryd.func8.symm.trans hfn)).symm
      exact ⟨by kernel_rfl, fun j t ht => by
        rw [Tryd.params8] at ht
        have hm : t ∈ [29, 22] := by simpa using Array.mem_of_getElem? ht
        have hall : ([29, 22].all fun u => !Tryd.prog.wantsStandIn u) = true := by kernel_rfl
        exact (show Tryd.prog.wantsStandIn t = false by simpa using List.all_eq_true.1 hall t hm)⟩)
    (by kernel_rfl)
#print axioms proved
end Go.Proofs.YtmbklheelinjfaaDoor.frameJoined
