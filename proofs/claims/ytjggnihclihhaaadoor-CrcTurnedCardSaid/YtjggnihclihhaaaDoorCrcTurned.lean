/-
  For any bytes, any place among the first 4000 and any way to turn the byte there the law CrcTurned answers true: the sum is another one. Conditions: the package variable crc.halves holds what the program's text lays (the card ties it).
  (The frame was written by the guide's proof-skeleton.mjs; the walk is ours.)
-/
import Derived.Test.YtjggnihclihhaaaDoorRows
import Derived.WalkKit
import Derived.ProofKit
import Derived.OpenShut
import Derived.ShutString
import Derived.ChangeOld
import Derived.Below
import Derived.Test.YtjggnihclihhaaaDoorAwake
import Derived.Test.YtjggnihclihhaaaDoorPut
import Derived.Deep.AppendLies
import Derived.LaidMore
import Derived.Stop.Joined
import Derived.SevenTiedAt
import Derived.Test.YtjggnihclihhaaaDoorLaid
namespace Go.Proofs.YtjggnihclihhaaaDoor.crcTurned
open Go.ChangeShapes Go.WideShapes Go.ChangeAt Go.RowKit
open Go.ChangeMaps (open_string shut_string)
set_option linter.unusedVariables false

open Plain

theorem u8_of (n : Int) (h : (Lit.int .u8 n).wf = true) : ∃ a : BitVec 8, n = (a.toNat : Int) := by
  have h : 0 ≤ n ∧ n ≤ 255 := by simpa [Lit.wf, IntKind.min, IntKind.max, IntKind.signed, IntKind.bits] using h
  refine ⟨BitVec.ofInt 8 n, ?_⟩
  rw [BitVec.toNat_ofInt]
  omega
theorem ne_int (a b : BitVec 32) (h : a ≠ b) : ((a.toNat : Int) != (b.toNat : Int)) = true := by
  rw [bne_iff_ne]
  exact fun e => h (BitVec.eq_of_toNat_eq (by omega))
theorem byte_xor (a b : BitVec 8) : bits .xor .u8 (a.toNat : Int) (b.toNat : Int) = ((a ^^^ b).toNat : Int) := by
  rw [u8_xor_nat _ _ a.isLt b.isLt, BitVec.toNat_xor]
theorem map_set (xs : Bytes) (k : Nat) (c : BitVec 8) : (xs.set k c).map bv = (xs.map bv).set k (bv c) := by
  simp [List.map_set]

set_option maxHeartbeats 4000000 in
set_option maxRecDepth 100000 in
theorem turned (a0 : Option Addr) (len0 cap0 m k : Nat) (xs : Bytes) (y : BitVec 8) (w : World) (hlc : len0 ≤ cap0) (hk : k < m) (c : (len0 ≤ 4000 ∧ len0 = m) ∨ (¬ len0 ≤ 4000 ∧ m = 4000)) (hm : xs.length = m) (hs : Seq w (.slice a0 m cap0) xs) (hn : a0 = none → cap0 = 0) (hy : y ≠ 0#8) (hT : HasTab w) :
    Calls Tryd.prog 5 #[.slice a0 len0 cap0, .int .i64 k, .int .u8 y.toNat] w fun e w' => e = .returned (.bool true) ∧ Below w.heap.size w w' := by
  have hli : (len0 : Int) ≤ cap0 := by omega
  have hy0 : ((y.toNat : Int) == 0) = false := beq_eq_false_iff_ne.2 fun e => hy (BitVec.eq_of_toNat_eq (by simp; omega))
  have hyl := y.isLt
  have KA := Lib.hid (awake_any w hT)
  have KC := Lib.hid (fun (u : World) (hb : Below w.heap.size w u) => copy_any a0 m cap0 xs u (Seq.below hs hb) hn (by omega))
  have K1 := Lib.hid (fun (u : World) (hb : Below w.heap.size w u) => sum_seq (Seq.below hs hb) (hT.below hb))
  have KO := Lib.hid (fun (u : World) (v : Value) (ys : Bytes) (B : Nat) (hb : Below w.heap.size w u) (h : Owns B u v ys) => sum_seq (Owns.seq h) (hT.below hb))
  have NE := ne_int (sum (xs.set k (xs.getD k 0#8 ^^^ y))) (sum xs) (sum_turned xs k (by omega) y hy)
  have XL := Lib.hid hm
  have hkx : Hid (k < xs.length) := Lib.hid (by omega)
  clear hs hn hT hm hy
  generalize hz : xs.getD k 0#8 = x at *
  have HZ := Lib.hid hz
  have EX := byte_xor x y
  have hxl := x.isLt
  clear hz
  generalize hs2 : sum (xs.set k (x ^^^ y)) = s2 at *
  have S2 := Lib.hid hs2
  clear hs2
  generalize sum xs = s1 at *
  rcases c with ⟨hb, rfl⟩ | ⟨hb, rfl⟩
  all_goals
    go_enter Tryd.func5, Tryd.ntmps5
    go_wp2_with fail
    refine KA.out.mono ?_
    rintro e W1 ⟨rfl, hg⟩
    go_wp2_with fail
    refine (KC.out _ hg).mono ?_
    rintro e W2 ⟨v, rfl, hv, hg2⟩
    obtain ⟨g, cp, rfl, hgb, hgl⟩ := World.ownsRow.form (n := xs.length) hv (by have := hkx.out; omega)
    have hv' : W2.ownsRow W1.heap.size 5 1 (.slice (some ⟨g, 0, none⟩) xs.length cp) xs.length (xs.map bv) := hv
    have hcell : W2.cell? ⟨g, k, none⟩ = some (.int .u8 x.toNat) := by
      rw [World.ownsRow.cellAt hv' k (by rw [Nat.mul_one]; exact hkx.out), getD_map xs k hkx.out, HZ.out]
      rfl
    have hfr : W2.frozen? ⟨g, k, none⟩ = false := World.ownsRow.frozenAt hv' k
    have hst := (World.ownsRow.stored hv' k (bv (x ^^^ y))).1
    rw [← map_set] at hst
    have hB0 : w.heap.size ≤ W1.heap.size := hg.size
    have hg3 : Below w.heap.size w W2 := hg.trans (hg2.mono hB0)
    have hg4 : Below w.heap.size w (W2.setCell ⟨g, k, none⟩ (bv (x ^^^ y))) := hg3.setCell (p := ⟨g, k, none⟩) (by show w.heap.size ≤ g; omega) _
    have K2 := Lib.hid (KO.out _ _ (xs.set k (x ^^^ y)) W1.heap.size hg4 (by unfold Owns; rw [List.length_set]; exact hst))
    have hkl : k < xs.length := hkx.out
    have HG := Lib.hid hg4
    clear hst hv hv' hg2 hg3 hg4
    unfold bv at K2 HG
    rw [S2.out] at K2
    generalize (x ^^^ y) = q at *
    go_wp2_with fail
    refine K2.out.mono ?_
    rintro e u ⟨rfl, rfl⟩
    go_wp2_with fail
    refine (K1.out _ HG.out).mono ?_
    rintro e u ⟨rfl, rfl⟩
    go_wp2_with fail
    go_ret
    exact ⟨rfl, HG.out⟩

set_option maxRecDepth 100000 in
theorem walk (a0 : Option Addr) (len0 cap0 : Nat) (z0 : List Int) (a1 : Int) (a2 : Int) (w : World) (w0 : IsRow .u8 w a0 len0 cap0 z0) (w1 : (Lit.int .i64 a1).wf = true) (w2 : (Lit.int .u8 a2).wf = true) (hT : HasTab w) :
    Calls Tryd.prog 5 #[.slice a0 len0 cap0, .int .i64 a1, .int .u8 a2] w fun e w' => e = .returned (.bool true) ∧ Below w.heap.size w w' := by
  obtain ⟨y, rfl⟩ := u8_of a2 w2
  obtain ⟨xs, m, c, hm, hs, hl, hlc, hn⟩ := row_cut w0 4000
  have h1 : -9223372036854775808 ≤ a1 ∧ a1 ≤ 9223372036854775807 := by simpa [Lit.wf, IntKind.min, IntKind.max, IntKind.signed, IntKind.bits] using w1
  obtain ⟨h1, h2⟩ := h1
  have hli : (len0 : Int) ≤ cap0 := by omega
  have hyl := y.isLt
  by_cases g1 : a1 < 0
  · have KA := Lib.hid (awake_any w hT)
    have N1 := Lib.hid hn
    clear w0 w1 w2 hm hs hT hn
    rcases c with ⟨hb, rfl⟩ | ⟨hb, rfl⟩
    all_goals
      go_enter Tryd.func5, Tryd.ntmps5
      go_wp2_with fail
      refine KA.out.mono ?_
      rintro e w' ⟨rfl, hg⟩
      go_wp2_with fail
      go_ret
      exact ⟨rfl, hg⟩
  · obtain ⟨k, rfl⟩ := Int.eq_ofNat_of_zero_le (show 0 ≤ a1 by omega)
    by_cases g2 : m ≤ k
    · have KA := Lib.hid (awake_any w hT)
      have N1 := Lib.hid hn
      clear w0 w1 w2 hm hs hT hn
      rcases c with ⟨hb, rfl⟩ | ⟨hb, rfl⟩
      all_goals
        go_enter Tryd.func5, Tryd.ntmps5
        go_wp2_with fail
        refine KA.out.mono ?_
        rintro e w' ⟨rfl, hg⟩
        go_wp2_with fail
        go_ret
        exact ⟨rfl, hg⟩
    · by_cases hy : y = 0#8
      · have KA := Lib.hid (awake_any w hT)
        have N1 := Lib.hid hn
        subst hy
        have hz : (((0#8).toNat : Nat) : Int) = 0 := rfl
        rw [hz]
        have g3 : k < m := by omega
        clear w0 w1 w2 hm hs hT hn hyl hz
        rcases c with ⟨hb, rfl⟩ | ⟨hb, rfl⟩
        all_goals
          go_enter Tryd.func5, Tryd.ntmps5
          go_wp2_with fail
          refine KA.out.mono ?_
          rintro e w' ⟨rfl, hg⟩
          go_wp2_with fail
          go_ret
          exact ⟨rfl, hg⟩
      · exact turned a0 len0 cap0 m k xs y w hlc (by omega) c hm hs hn hy hT

set_option maxRecDepth 100000 in
theorem lifted (os : Os) (started : os.Started) (H : Type) (enc : TypeId × Value → H) :
    ReturnsInHanded {} Tryd.checked os 5 .any (fun w args => (Rows.crcTurnedSpec.pre enc Tryd.prog Tryd.f5 [] false w args ∧ laidMetH Tryd.prog laid1 w) ∧ sizedMet enc Tryd.prog Tryd.f5 (OpenSpec.ofChange Rows.crcTurnedSpec) false w args)
      (Rows.crcTurnedSpec.post enc Tryd.prog Tryd.f5 false true false false) := by
  refine returnsInHanded_of_change_and (C := Tryd.checked) (X := fun w _ => laidMetH Tryd.prog laid1 w) (fun _ _ _ hh h => h.of_heap hh) own started (by kernel_rfl) Tryd.func5
    (ChangeSpec.witness_shaped (enc := enc) (C := Tryd.checked) (os := os) (X := fun w _ => laidMetH Tryd.prog laid1 w) false (World.doorLaid Tryd.prog 400 os) #[.slice none 0 0, .int .i64 0, .int .u8 0] 8 rfl (World.shaped_of_RefB (by kernel_rfl) (by kernel_rfl)) (by kernel_rfl) (by kernel_rfl) (by kernel_rfl) (door_met os _)) ?_
  intro W base args ds gs before hval0 hW _ _ hL _
  have hval : ∀ (j : Nat) t v, Tryd.f5.params[j]? = some t → args[j]? = some v → Value.okWide Tryd.prog W .any base t v := hval0
  have hW' := hW
  obtain ⟨p, q, hA0, hV, rfl, hfz, hnd⟩ := hW
  have hA : DataW.TrodAll enc Tryd.prog W 0 (fun _ => true) true Tryd.f5.params.toList args.toList ds p := hA0
  rw [Tryd.params5] at hA hval
  obtain ⟨v0, vs0, d0, ds0, p0, q0, hargs, rfl, rfl, h0, r0⟩ := trodAll_cons hA
  obtain ⟨v1, vs1, d1, ds1, p1, q1, rfl, rfl, rfl, h1, r1⟩ := trodAll_cons r0
  obtain ⟨v2, vs2, d2, ds2, p2, q2, rfl, rfl, rfl, h2, r2⟩ := trodAll_cons r1
  obtain ⟨rfl, rfl, rfl⟩ := trodAll_nil r2
  obtain rfl : args = #[v0, v1, v2] := by cases args; simp_all
  obtain ⟨rfl, rfl⟩ := trodVars_none hV
  obtain ⟨a0, len0, cap0, rfl⟩ := okWide_slice Tryd.underlying22 (hval 0 22 v0 rfl rfl)
  have k0 := h0
  have lt0 : ∀ x ∈ p0, x.block < W.heap.size := by obtain ⟨m, hm⟩ := k0; exact DataW.trod_lt m _ _ _ hm
  obtain ⟨z0, w0⟩ : ∃ zs, IsRow .u8 W a0 len0 cap0 zs := by
    obtain ⟨fuel, hf⟩ := h0
    rcases open_ints Tryd.underlying22 Tryd.underlying5 (by kernel_rfl) hf with ⟨hcs, _⟩ | ⟨x, l, c, zs, hcs, _, hl, hm, hz, _, hcell, hwz⟩
    · simp [Value.cells] at hcs
      obtain ⟨rfl, rfl, rfl⟩ := hcs
      exact ⟨[], .inl ⟨rfl, rfl, rfl, rfl⟩⟩
    · simp [Value.cells] at hcs
      obtain ⟨rfl, rfl, rfl⟩ := hcs
      exact ⟨zs, .inr ⟨_, rfl, hl, hm, by simpa using hz, hcell, hwz⟩⟩
  obtain ⟨a1, rfl, rfl, rfl, w1⟩ := open_int Tryd.underlying3 (hval 1 3 v1 rfl rfl) h1
  obtain ⟨a2, rfl, rfl, rfl, w2⟩ := open_int Tryd.underlying5 (hval 2 5 v2 rfl rfl) h2
  clear hA0 hval0
  refine (walk a0 len0 cap0 z0 a1 a2 W w0 w1 w2 (of_laid hL)).mono fun e W' ⟨he, bel⟩ => ?_
  subst he
  exact ⟨_, rfl, _, _, _, [], _, [], hW', trodAll_mk1 (shut_bool Tryd.underlying4 _), (trodAll_cons_mk (Below.trod laidOut (by kernel_rfl) (of_decide_eq_true (by kernel_rfl)) k0 bel lt0) (trodAll_cons_mk (shut_int Tryd.underlying3 w1) (trodAll_cons_mk (shut_int Tryd.underlying5 w2) trodAll_mk0))), rfl, bel.frame _, fun h => by cases h⟩

theorem over : Rows.crcTurnedRow.holds Tryd.pinned (OpenSpec.ofChange Rows.crcTurnedSpec) :=
  OpenClaim.holds_of_wide 5 Tryd.f5 rfl rfl rfl rfl rfl rfl rfl ⟨rfl, rfl, rfl, rfl, rfl⟩ rfl rfl rfl rfl rfl (by kernel_rfl) Tryd.func5 (by kernel_rfl)
    (of_decide_eq_true (by kernel_rfl)) (by unfold Func.isWrapper; first | (rw [if_pos (by decide +kernel)]; kernel_rfl) | (rw [if_neg (by decide +kernel)]; exact ⟨rfl, rfl⟩))
    (fun os started H enc _ => lifted os started H enc)

/-- the tied card: the given statement -/
theorem proved : Rows.CrcTurnedCardSaid :=
  Claim7.holds_tied_plain_at .later [] [.data] true (true, "47813847ea8efad5780a9e05143364231a61c83c9b7eea62c56cd8b66b29b407") false
    over (fun _ h => by cases h) (by kernel_rfl) (fun _ h => by cases h) crcTurned_row_tie rfl ⟨rfl, rfl⟩ (by kernel_rfl) rfl
    (fun f fn hf hfn => by
      obtain rfl : f = 5 := Option.some.inj ((show Tryd.prog.funcNamed "buttery/butterylaw02.CrcTurned" = some 5 by kernel_rfl).symm.trans hf) |>.symm
      obtain rfl : fn = Tryd.f5 := (Option.some.inj (Tryd.func5.symm.trans hfn)).symm
      exact ⟨by kernel_rfl, fun j t ht => by
        rw [Tryd.params5] at ht
        have hm : t ∈ [22, 3, 5] := by simpa using Array.mem_of_getElem? ht
        have hall : ([22, 3, 5].all fun u => !Tryd.prog.wantsStandIn u) = true := by kernel_rfl
        exact (show Tryd.prog.wantsStandIn t = false by simpa using List.all_eq_true.1 hall t hm)⟩)
    (by kernel_rfl)
#print axioms proved
end Go.Proofs.YtjggnihclihhaaaDoor.crcTurned
