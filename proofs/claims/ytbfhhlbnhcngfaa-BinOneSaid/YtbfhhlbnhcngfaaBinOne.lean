/-
  For any bytes the law BinOne answers true: what is read at the beginning of the first 3000, a number or a text, is put in just the bytes that it was read from. No condition.
  (The frame was written by the guide's proof-skeleton.mjs; the walk is ours.)
-/
import Derived.Test.YtbfhhlbnhcngfaaRows
import Derived.WalkKit
import Derived.ProofKit
import Derived.OpenShut
import Derived.ShutString
import Derived.ChangeOld
import Derived.Below
import Derived.Test.YtbfhhlbnhcngfaaAwake
namespace Go.Proofs.Ytbfhhlbnhcngfaa.binOne
open Go.ChangeShapes Go.WideShapes Go.ChangeAt Go.RowKit
open Go.ChangeMaps (open_string shut_string)
set_option linter.unusedVariables false

theorem own : ownKnob Try.prog.godebug = none := by kernel_rfl
theorem laidOut : laidOutB Try.prog = true := by kernel_rfl

open Plain

/-- a text that is read, told by tread -/
theorem text_read {v : Value} {xs : Bytes} {w : World} (hs : Seq w v xs) (hlen : xs.length ≤ 1000000) {t : ByteArray} {k : Nat} (ht : tread xs = (t, k, 0)) :
    Calls Try.prog 18 #[v] w (ReadT (.string t) w (xs.drop k)) := by
  rcases read_cases xs with ⟨n, s, hr⟩ | hr | hr
  · have h := ht
    unfold tread at h
    rw [hr] at h
    simp only at h
    split at h
    · simp at h
    · split at h
      · simp at h
      · rename_i g1 g2
        simp only [Prod.mk.injEq, and_true] at h
        obtain ⟨rfl, rfl⟩ := h
        exact text_ok hs hlen hr (by omega) (by omega)
  · unfold tread at ht; rw [hr] at ht; simp at ht
  · unfold tread at ht; rw [hr] at ht; simp at ht

set_option maxRecDepth 100000 in
set_option maxHeartbeats 4000000 in
theorem one_both (a0 : Option Addr) (len0 cap0 m : Nat) (xs : Bytes) (w : World) (hlc : len0 ≤ cap0) (c : (len0 ≤ 3000 ∧ len0 = m) ∨ (¬ len0 ≤ 3000 ∧ m = 3000)) (hm : xs.length = m) (hs : Seq w (.slice a0 m cap0) xs)
    (n s : Nat) (hr : read xs = (n, s, 0)) (t : ByteArray) (k : Nat) (ht : tread xs = (t, k, 0)) :
    Calls Try.prog 5 #[.slice a0 len0 cap0] w fun e w' => e = .returned (.bool true) ∧ Below w.heap.size w w' := by
  have hli : (len0 : Int) ≤ cap0 := by omega
  have KA := Lib.hid (awake_any w)
  have HS := Lib.hid hs
  have hm3 : xs.length ≤ 3000 := by omega
  obtain ⟨r1, r2, r3, r4, r5⟩ := read_back hr
  have K1 : Hid (∀ u, Below w.heap.size w u → _) := Lib.hid (fun u (hb : Below w.heap.size w u) => num_ok (hs.below hb) (by omega) hr)
  have K2 := Lib.hid (fun u => putNum_ok (Seq.nil u) (by simp) n r2)
  simp only [List.nil_append] at K2
  have E1 : Hid (form n ++ xs.drop s = xs) := Lib.hid (by rw [r1, List.take_append_drop])
  have hf := form_len8 n r2
  have hd : (xs.drop s).length ≤ 3000 := by rw [List.length_drop]; omega
  obtain ⟨t1, t2, t3, t4⟩ := tread_back ht
  have L1 : Hid (∀ u, Below w.heap.size w u → Calls Try.prog 18 #[.slice a0 m cap0] u (ReadT (.string t) u (xs.drop k))) := Lib.hid (fun u (hb : Below w.heap.size w u) => text_read (hs.below hb) (by omega) ht)
  have L2 := Lib.hid (fun u => putText_ok (Seq.nil u) (by simp) t t2)
  simp only [List.nil_append] at L2
  have E2 : Hid (tform t ++ xs.drop k = xs) := Lib.hid (by rw [t1, List.take_append_drop])
  have hf2 : (tform t).length ≤ 3000 := by rw [t1, List.length_take]; omega
  have hd2 : (xs.drop k).length ≤ 3000 := by rw [List.length_drop]; omega
  generalize form n = z at *
  generalize xs.drop s = y at *
  clear r1 r2 r3 r4 r5
  clear t1 t2 t3 t4
  generalize tform t = z2 at *
  generalize xs.drop k = y2 at *
  clear hr ht hs hm
  rcases c with ⟨hb, rfl⟩ | ⟨hb, rfl⟩
  all_goals
    go_enter Try.func5, Try.ntmps5
    go_wp2_with fail
    refine KA.out.mono ?_
    rintro e w1 ⟨rfl, hb1⟩
    have B1 := Lib.hid hb1
    clear hb1
    go_wp2_with fail
    refine (K1.out _ B1.out).mono ?_
    rintro e w2 ⟨v2, rfl, ho2, hb2⟩
    obtain ⟨a2, c2, rfl, -, -, ho2, -⟩ := ho2.parts
    have B2 := Lib.hid (B1.out.trans (hb2.mono B1.out.size))
    have O2 := Lib.hid ho2
    clear ho2 hb2
    go_wp2_with fail
    refine (K2.out _).mono ?_
    rintro e w3 ⟨v3, rfl, ho3, hb3⟩
    have S2 := Lib.hid (O2.out.seq.below hb3)
    have B3 := Lib.hid (B2.out.trans (hb3.mono B2.out.size))
    have O3 := Lib.hid (ho3.mono B2.out.size)
    have hsz := B3.out.size
    clear ho3 hb3
    go_wp2_with (at_builtin; refine wpList_append_want (by rfl) (.tmp 36) (.tmp 37) rfl w.heap.size rfl O3.out rfl S2.out (by omega) (by omega) ?_)
    intro v4 w4 ho4 hg4 _
    have B4 := Lib.hid (B3.out.grown hg4 hsz (fun k hk => (O3.out.lt k hk).1))
    rw [E1.out] at ho4
    have S4 := Lib.hid ho4.seq
    clear ho4 hg4
    go_wp2_with fail
    refine (same_yes S4.out (HS.out.below B4.out)).mono ?_
    rintro e w5 ⟨rfl, q, rfl⟩
    have B5 := Lib.hid (below_drewN B4.out q)
    go_wp2_with fail
    refine (L1.out _ B5.out).mono ?_
    rintro e w6 ⟨v6, rfl, ho6, hb6⟩
    obtain ⟨a6, c6, rfl, -, -, ho6, -⟩ := ho6.parts
    have B6 := Lib.hid (B5.out.trans (hb6.mono B5.out.size))
    have O6 := Lib.hid ho6
    clear ho6 hb6
    go_wp2_with fail
    refine (L2.out _).mono ?_
    rintro e w7 ⟨v7, rfl, ho7, hb7⟩
    have S6 := Lib.hid (O6.out.seq.below hb7)
    have B7 := Lib.hid (B6.out.trans (hb7.mono B6.out.size))
    have O7 := Lib.hid (ho7.mono B6.out.size)
    have hsz7 := B7.out.size
    clear ho7 hb7
    go_wp2_with (at_builtin; refine wpList_append_want (by rfl) (.tmp 59) (.tmp 60) rfl w.heap.size rfl O7.out rfl S6.out (by omega) (by omega) ?_)
    intro v8 w8 ho8 hg8 _
    have B8 := Lib.hid (B7.out.grown hg8 hsz7 (fun k hk => (O7.out.lt k hk).1))
    rw [E2.out] at ho8
    have S8 := Lib.hid ho8.seq
    clear ho8 hg8
    go_wp2_with fail
    refine (same_yes S8.out (HS.out.below B8.out)).mono ?_
    rintro e w9 ⟨rfl, q2, rfl⟩
    have B9 := Lib.hid (below_drewN B8.out q2)
    go_wp2_with fail
    go_ret
    exact ⟨rfl, B9.out⟩

set_option maxRecDepth 100000 in
set_option maxHeartbeats 4000000 in
theorem one_num (a0 : Option Addr) (len0 cap0 m : Nat) (xs : Bytes) (w : World) (hlc : len0 ≤ cap0) (c : (len0 ≤ 3000 ∧ len0 = m) ∨ (¬ len0 ≤ 3000 ∧ m = 3000)) (hm : xs.length = m) (hs : Seq w (.slice a0 m cap0) xs)
    (n s : Nat) (hr : read xs = (n, s, 0)) (ht : ∀ s k, tread xs ≠ (s, k, 0)) :
    Calls Try.prog 5 #[.slice a0 len0 cap0] w fun e w' => e = .returned (.bool true) ∧ Below w.heap.size w w' := by
  have hli : (len0 : Int) ≤ cap0 := by omega
  have KA := Lib.hid (awake_any w)
  have HS := Lib.hid hs
  have hm3 : xs.length ≤ 3000 := by omega
  obtain ⟨r1, r2, r3, r4, r5⟩ := read_back hr
  have K1 : Hid (∀ u, Below w.heap.size w u → _) := Lib.hid (fun u (hb : Below w.heap.size w u) => num_ok (hs.below hb) (by omega) hr)
  have K2 := Lib.hid (fun u => putNum_ok (Seq.nil u) (by simp) n r2)
  simp only [List.nil_append] at K2
  have E1 : Hid (form n ++ xs.drop s = xs) := Lib.hid (by rw [r1, List.take_append_drop])
  have hf := form_len8 n r2
  have hd : (xs.drop s).length ≤ 3000 := by rw [List.length_drop]; omega
  have L1 : Hid (∀ u, Below w.heap.size w u → _) := Lib.hid (fun u (hb : Below w.heap.size w u) => text_err (hs.below hb) (by omega) ht)
  generalize form n = z at *
  generalize xs.drop s = y at *
  clear r1 r2 r3 r4 r5
  clear hr ht hs hm
  rcases c with ⟨hb, rfl⟩ | ⟨hb, rfl⟩
  all_goals
    go_enter Try.func5, Try.ntmps5
    go_wp2_with fail
    refine KA.out.mono ?_
    rintro e w1 ⟨rfl, hb1⟩
    have B1 := Lib.hid hb1
    clear hb1
    go_wp2_with fail
    refine (K1.out _ B1.out).mono ?_
    rintro e w2 ⟨v2, rfl, ho2, hb2⟩
    obtain ⟨a2, c2, rfl, -, -, ho2, -⟩ := ho2.parts
    have B2 := Lib.hid (B1.out.trans (hb2.mono B1.out.size))
    have O2 := Lib.hid ho2
    clear ho2 hb2
    go_wp2_with fail
    refine (K2.out _).mono ?_
    rintro e w3 ⟨v3, rfl, ho3, hb3⟩
    have S2 := Lib.hid (O2.out.seq.below hb3)
    have B3 := Lib.hid (B2.out.trans (hb3.mono B2.out.size))
    have O3 := Lib.hid (ho3.mono B2.out.size)
    have hsz := B3.out.size
    clear ho3 hb3
    go_wp2_with (at_builtin; refine wpList_append_want (by rfl) (.tmp 36) (.tmp 37) rfl w.heap.size rfl O3.out rfl S2.out (by omega) (by omega) ?_)
    intro v4 w4 ho4 hg4 _
    have B4 := Lib.hid (B3.out.grown hg4 hsz (fun k hk => (O3.out.lt k hk).1))
    rw [E1.out] at ho4
    have S4 := Lib.hid ho4.seq
    clear ho4 hg4
    go_wp2_with fail
    refine (same_yes S4.out (HS.out.below B4.out)).mono ?_
    rintro e w5 ⟨rfl, q, rfl⟩
    have B5 := Lib.hid (below_drewN B4.out q)
    go_wp2_with fail
    refine (L1.out _ B5.out).mono ?_
    rintro e w6 ⟨⟨j, hj, rfl⟩, rfl⟩
    rcases hj with rfl | rfl | rfl
    all_goals
      go_wp2_with fail
      go_ret
      exact ⟨rfl, B5.out⟩

set_option maxRecDepth 100000 in
set_option maxHeartbeats 4000000 in
theorem one_none (a0 : Option Addr) (len0 cap0 m : Nat) (xs : Bytes) (w : World) (hlc : len0 ≤ cap0) (c : (len0 ≤ 3000 ∧ len0 = m) ∨ (¬ len0 ≤ 3000 ∧ m = 3000)) (hm : xs.length = m) (hs : Seq w (.slice a0 m cap0) xs)
    (hr : read xs = (0, 0, 2) ∨ read xs = (0, 0, 3)) (ht : ∀ s k, tread xs ≠ (s, k, 0)) :
    Calls Try.prog 5 #[.slice a0 len0 cap0] w fun e w' => e = .returned (.bool true) ∧ Below w.heap.size w w' := by
  have hli : (len0 : Int) ≤ cap0 := by omega
  have KA := Lib.hid (awake_any w)
  have HS := Lib.hid hs
  have hm3 : xs.length ≤ 3000 := by omega
  have K1 : Hid (∀ u, Below w.heap.size w u → _) := Lib.hid (fun u (hb : Below w.heap.size w u) => num_err (hs.below hb) hr)
  have L1 : Hid (∀ u, Below w.heap.size w u → _) := Lib.hid (fun u (hb : Below w.heap.size w u) => text_err (hs.below hb) (by omega) ht)
  clear hr ht hs hm
  rcases c with ⟨hb, rfl⟩ | ⟨hb, rfl⟩
  all_goals
    go_enter Try.func5, Try.ntmps5
    go_wp2_with fail
    refine KA.out.mono ?_
    rintro e w1 ⟨rfl, hb1⟩
    have B1 := Lib.hid hb1
    clear hb1
    go_wp2_with fail
    refine (K1.out _ B1.out).mono ?_
    rintro e w5 ⟨he, rfl⟩
    rcases he with rfl | rfl
    all_goals
     have B5 := B1
     go_wp2_with fail
     refine (L1.out _ B5.out).mono ?_
     rintro e w6 ⟨⟨j, hj, rfl⟩, rfl⟩
     rcases hj with rfl | rfl | rfl
     all_goals
       go_wp2_with fail
       go_ret
       exact ⟨rfl, B5.out⟩

theorem walk (a0 : Option Addr) (len0 cap0 : Nat) (z0 : List Int) (w : World) (w0 : IsRow .u8 w a0 len0 cap0 z0) :
    Calls Try.prog 5 #[.slice a0 len0 cap0] w fun e w' => e = .returned (.bool true) ∧ Below w.heap.size w w' := by
  obtain ⟨xs, m, c, hm, hs, hl, hlc⟩ := row_cut w0 3000
  by_cases ht : ∃ t k, tread xs = (t, k, 0)
  · obtain ⟨t, k, ht⟩ := ht
    rcases read_cases xs with ⟨n, s, hr⟩ | hr | hr
    · exact one_both a0 len0 cap0 m xs w hlc c hm hs n s hr t k ht
    · unfold tread at ht; rw [hr] at ht; simp at ht
    · unfold tread at ht; rw [hr] at ht; simp at ht
  · have ht' : ∀ s k, tread xs ≠ (s, k, 0) := fun s k h => ht ⟨s, k, h⟩
    rcases read_cases xs with ⟨n, s, hr⟩ | hr
    · exact one_num a0 len0 cap0 m xs w hlc c hm hs n s hr ht'
    · exact one_none a0 len0 cap0 m xs w hlc c hm hs hr ht'

set_option maxRecDepth 100000 in
theorem lifted (os : Os) (started : os.Started) (H : Type) (enc : TypeId × Value → H) :
    ReturnsInHanded {} Try.checked os 5 .any (Rows.binOneSpec.pre6 enc Try.prog Try.f5 Rows.binOneRow.domain false) (Rows.binOneSpec.post enc Try.prog Try.f5 false true false false) := by
  refine returnsInHanded_of_change (C := Try.checked) own started (by kernel_rfl) Try.func5
    (ChangeSpec.witness6 (enc := enc) (C := Try.checked) false ⟨#[], #[.slice none 0 0], []⟩ 8 (by kernel_rfl) (by kernel_rfl) (by kernel_rfl) (by kernel_rfl)) ?_
  intro W base args ds gs before hval0 hW hcnd _
  have hval : ∀ (j : Nat) t v, Try.f5.params[j]? = some t → args[j]? = some v → Value.okWide Try.prog W .any base t v := hval0
  have hW' := hW
  obtain ⟨p, q, hA0, hV, rfl, hfz, hnd⟩ := hW
  have hA : DataW.TrodAll enc Try.prog W 0 (fun _ => true) true Try.f5.params.toList args.toList ds p := hA0
  rw [Try.params5] at hA hval
  obtain ⟨v0, vs0, d0, ds0, p0, q0, hargs, rfl, rfl, h0, r0⟩ := trodAll_cons hA
  obtain ⟨rfl, rfl, rfl⟩ := trodAll_nil r0
  obtain rfl : args = #[v0] := by cases args; simp_all
  obtain ⟨rfl, rfl⟩ := trodVars_none hV
  obtain ⟨a0, len0, cap0, rfl⟩ := okWide_slice Try.underlying22 (hval 0 22 v0 rfl rfl)
  have k0 := h0
  have lt0 : ∀ x ∈ p0, x.block < W.heap.size := by obtain ⟨m, hm⟩ := k0; exact DataW.trod_lt m _ _ _ hm
  obtain ⟨z0, w0⟩ : ∃ zs, IsRow .u8 W a0 len0 cap0 zs := by
    obtain ⟨fuel, hf⟩ := h0
    rcases open_ints Try.underlying22 Try.underlying5 (by kernel_rfl) hf with ⟨hcs, _⟩ | ⟨x, l, c, zs, hcs, _, hl, hm, hz, _, hcell, hwz⟩
    · simp [Value.cells] at hcs
      obtain ⟨rfl, rfl, rfl⟩ := hcs
      exact ⟨[], .inl ⟨rfl, rfl, rfl, rfl⟩⟩
    · simp [Value.cells] at hcs
      obtain ⟨rfl, rfl, rfl⟩ := hcs
      exact ⟨zs, .inr ⟨_, rfl, hl, hm, by simpa using hz, hcell, hwz⟩⟩
  clear hA0 hval0
  refine (walk a0 len0 cap0 z0 W w0).mono fun e W' ⟨he, bel⟩ => ?_
  subst he
  exact ⟨_, rfl, _, _, _, [], _, [], hW', trodAll_mk1 (shut_bool Try.underlying4 _), (trodAll_cons_mk (Below.trod laidOut (by kernel_rfl) (of_decide_eq_true (by kernel_rfl)) k0 bel lt0) trodAll_mk0), rfl, bel.frame _, fun h => by cases h⟩

theorem over : Rows.binOneRow.holds Try.pinned (OpenSpec.ofChange Rows.binOneSpec) :=
  OpenClaim.holds_of_wide 5 Try.f5 rfl rfl rfl rfl rfl rfl rfl ⟨rfl, rfl, rfl, rfl, rfl⟩ rfl rfl rfl rfl rfl (by kernel_rfl) Try.func5 (by kernel_rfl)
    (of_decide_eq_true (by kernel_rfl)) (by unfold Func.isWrapper; first | (rw [if_pos (by decide +kernel)]; kernel_rfl) | (rw [if_neg (by decide +kernel)]; exact ⟨rfl, rfl⟩))
    (fun os started H enc _ => lifted os started H enc)

/-- the given statement -/
theorem proved : Rows.BinOneSaid := over
#print axioms proved
end Go.Proofs.Ytbfhhlbnhcngfaa.binOne
