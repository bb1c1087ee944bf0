/-
  For any number, any whole number, any text and any bytes the law BinBack answers true: what was put is read, with what stands behind it; of a text of more than 3000 bytes nothing is asked, and of a number that may not be put only that it is beyond the bounds. No condition.
  (The frame was written by the guide's proof-skeleton.mjs; the walk is ours.)
-/
import Derived.Test.YtbfhhlbnhcngfaaRows
import Derived.WalkKit
import Derived.ProofKit
import Derived.OpenShut
import Derived.ShutString
import Derived.ChangeOld
import Derived.Below
import Derived.Test.YtbfhhlbnhcngfaaAwake
namespace Go.Proofs.Ytbfhhlbnhcngfaa.binBack
open Go.ChangeShapes Go.WideShapes Go.ChangeAt Go.RowKit
open Go.ChangeMaps (open_string shut_string)
set_option linter.unusedVariables false

theorem own : ownKnob Try.prog.godebug = none := by kernel_rfl
theorem laidOut : laidOutB Try.prog = true := by kernel_rfl

open Plain

theorem text_back {v : Value} {w : World} (s : ByteArray) (mo : Bytes) (hs : Seq w v (tform s ++ mo)) (hlen : (tform s ++ mo).length ≤ 1000000) (h : s.size ≤ 65536) :
    Calls Try.prog 18 #[v] w (ReadT (.string s) w mo) := by
  have hr := read_form s.size (bs s ++ mo) (by omega)
  have e : form s.size ++ (bs s ++ mo) = tform s ++ mo := by unfold tform; rw [List.append_assoc]
  rw [e] at hr
  have hl : (tform s ++ mo).length = (form s.size).length + s.size + mo.length := by unfold tform; simp [bs_len, Nat.add_assoc]
  have hok := text_ok hs hlen hr h (by omega)
  have e1 : ((tform s ++ mo).drop (form s.size).length).take s.size = bs s := by
    rw [← e, List.drop_left, ← bs_len s, List.take_left]
  have e2 : (tform s ++ mo).drop ((form s.size).length + s.size) = mo := by
    rw [show (form s.size).length + s.size = (tform s).length by unfold tform; rw [List.length_append, bs_len], List.drop_left]
  rw [e1, e2, sb_bs] at hok
  exact hok
theorem int_back {v : Value} {w : World} (n : Int) (mo : Bytes) (hs : Seq w v (iform n ++ mo)) (hlen : (iform n ++ mo).length ≤ 1000000) (h1 : -9223372036854775808 ≤ n) (h2 : n ≤ 9223372036854775807) :
    Calls Try.prog 17 #[v] w (ReadT (.int .i64 n) w mo) := by
  have hok := int_ok hs hlen (by rw [List.length_append, iform_len]; omega)
  rw [show (iform n ++ mo).take 8 = iform n from List.take_left' (iform_len n), show (iform n ++ mo).drop 8 = mo from List.drop_left' (iform_len n), sgn_iform n h1 h2] at hok
  exact hok
theorem num_back {v : Value} {w : World} (n : Nat) (mo : Bytes) (hs : Seq w v (form n ++ mo)) (hlen : (form n ++ mo).length ≤ 1000000) (h : n < 72057594037927936) :
    Calls Try.prog 16 #[v] w (ReadT (.int .i64 n) w mo) := by
  have hok := num_ok hs hlen (read_form n mo h)
  rw [List.drop_left] at hok
  exact hok

set_option maxRecDepth 100000 in
set_option maxHeartbeats 4000000 in
theorem back_ok (n : Nat) (hn : n < 72057594037927936) (m : Int) (m1 : -9223372036854775808 ≤ m) (m2 : m ≤ 9223372036854775807) (s : ByteArray) (h3 : s.size ≤ 3000)
    (a0 : Option Addr) (len0 cap0 l : Nat) (xs : Bytes) (w : World) (hlc : len0 ≤ cap0) (c : (len0 ≤ 2000 ∧ len0 = l) ∨ (¬ len0 ≤ 2000 ∧ l = 2000)) (hm : xs.length = l) (hs : Seq w (.slice a0 l cap0) xs) :
    Calls Try.prog 4 #[.int .i64 n, .int .i64 m, .string s, .slice a0 len0 cap0] w fun e w' => e = .returned (.bool true) ∧ Below w.heap.size w w' := by
  have hli : (len0 : Int) ≤ cap0 := by omega
  have KA := Lib.hid (awake_any w)
  have HS := Lib.hid hs
  have hx : xs.length ≤ 2000 := by omega
  have hf := form_len8 n hn
  have hi := iform_len m
  have ht : (tform s).length ≤ 4000 := by
    have := form_len8 s.size (by omega)
    unfold tform; rw [List.length_append, bs_len]; omega
  have K1 := Lib.hid (fun u => putNum_ok (Seq.nil u) (by simp) n hn)
  simp only [List.nil_append] at K1
  have K2 : Hid (∀ (u : World) (v : Value), Seq u v (form n) → Calls Try.prog 12 #[v, .int .i64 m] u (Made u (form n ++ iform m))) := Lib.hid (fun u v h => putInt_any h (by omega) m m1 m2)
  have K3 : Hid (∀ (u : World) (v : Value), Seq u v (form n ++ iform m) → Calls Try.prog 14 #[v, .string s] u (MadeT u (form n ++ iform m ++ tform s))) := Lib.hid (fun u v h => putText_ok h (by rw [List.length_append]; omega) s (by omega))
  have E1 : Hid (form n ++ iform m ++ tform s ++ xs = form n ++ (iform m ++ (tform s ++ xs))) := Lib.hid (by rw [List.append_assoc, List.append_assoc])
  have K4 : Hid (∀ (u : World) (v : Value), Seq u v (form n ++ (iform m ++ (tform s ++ xs))) → Calls Try.prog 16 #[v] u (ReadT (.int .i64 n) u (iform m ++ (tform s ++ xs)))) := Lib.hid (fun u v h => num_back n _ h (by simp only [List.length_append]; omega) hn)
  have K5 : Hid (∀ (u : World) (v : Value), Seq u v (iform m ++ (tform s ++ xs)) → Calls Try.prog 17 #[v] u (ReadT (.int .i64 m) u (tform s ++ xs))) := Lib.hid (fun u v h => int_back m _ h (by simp only [List.length_append]; omega) m1 m2)
  have K6 : Hid (∀ (u : World) (v : Value), Seq u v (tform s ++ xs) → Calls Try.prog 18 #[v] u (ReadT (.string s) u xs)) := Lib.hid (fun u v h => text_back s xs h (by simp only [List.length_append]; omega) (by omega))
  have hall : (form n ++ iform m ++ tform s).length ≤ 5000 := by simp only [List.length_append]; omega
  clear hs hm hf hi ht
  generalize form n ++ (iform m ++ (tform s ++ xs)) = y1 at *
  generalize iform m ++ (tform s ++ xs) = y2 at *
  generalize tform s ++ xs = y3 at *
  generalize form n ++ iform m ++ tform s = x3 at *
  generalize form n ++ iform m = x2 at *
  generalize form n = x1 at *
  rcases c with ⟨hb, rfl⟩ | ⟨hb, rfl⟩
  all_goals
    go_enter Try.func4, Try.ntmps4
    go_wp2_with fail
    refine KA.out.mono ?_
    rintro e w1 ⟨rfl, hb1⟩
    have B1 := Lib.hid hb1
    clear hb1
    go_wp2_with fail
    refine (K1.out _).mono ?_
    rintro e w2 ⟨v2, rfl, ho2, hb2⟩
    have B2 := Lib.hid (B1.out.trans (hb2.mono B1.out.size))
    have S2 := Lib.hid ho2.seq
    clear ho2 hb2
    go_wp2_with fail
    refine (K2.out _ _ S2.out).mono ?_
    rintro e w3 ⟨v3, rfl, ho3, hb3⟩
    have B3 := Lib.hid (B2.out.trans (hb3.mono B2.out.size))
    have S3 := Lib.hid ho3.seq
    clear ho3 hb3
    go_wp2_with fail
    refine (K3.out _ _ S3.out).mono ?_
    rintro e w4 ⟨v4, rfl, ho4, hb4⟩
    have B4 := Lib.hid (B3.out.trans (hb4.mono B3.out.size))
    have O4 := Lib.hid (ho4.mono B3.out.size)
    have hsz := B4.out.size
    clear ho4 hb4
    go_wp2_with (at_builtin; refine wpList_append_seq rfl (.tmp 50) (.tmp 51) rfl w.heap.size rfl O4.out rfl (HS.out.below B4.out) (by omega) (by omega) ?_)
    intro v5 w5 ho5 hg5 _
    have B5 := Lib.hid (B4.out.grown hg5 hsz (fun k hk => (O4.out.lt k hk).1))
    rw [E1.out] at ho5
    have S5 := Lib.hid ho5.seq
    clear ho5 hg5
    go_wp2_with fail
    refine (K4.out _ _ S5.out).mono ?_
    rintro e w6 ⟨v6, rfl, ho6, hb6⟩
    have B6 := Lib.hid (B5.out.trans (hb6.mono B5.out.size))
    have S6 := Lib.hid ho6.seq
    clear ho6 hb6
    go_wp2_with fail
    refine (K5.out _ _ S6.out).mono ?_
    rintro e w7 ⟨v7, rfl, ho7, hb7⟩
    have B7 := Lib.hid (B6.out.trans (hb7.mono B6.out.size))
    have S7 := Lib.hid ho7.seq
    clear ho7 hb7
    go_wp2_with fail
    refine (K6.out _ _ S7.out).mono ?_
    rintro e w8 ⟨v8, rfl, ho8, hb8⟩
    have B8 := Lib.hid (B7.out.trans (hb8.mono B7.out.size))
    have S8 := Lib.hid ho8.seq
    clear ho8 hb8
    go_wp2_with fail
    refine (same_yes S8.out (HS.out.below B8.out)).mono ?_
    rintro e w9 ⟨rfl, q, rfl⟩
    have B9 := Lib.hid (below_drewN B8.out q)
    go_wp2_with fail
    go_ret
    exact ⟨rfl, B9.out⟩

set_option maxRecDepth 100000 in
set_option maxHeartbeats 2000000 in
theorem back_bad (n : Int) (n1 : -9223372036854775808 ≤ n) (n2 : n ≤ 9223372036854775807) (hn : n < 0 ∨ 72057594037927935 < n) (m : Int) (s : ByteArray) (h3 : s.size ≤ 3000)
    (a0 : Option Addr) (len0 cap0 l : Nat) (xs : Bytes) (w : World) (hlc : len0 ≤ cap0) (c : (len0 ≤ 2000 ∧ len0 = l) ∨ (¬ len0 ≤ 2000 ∧ l = 2000)) (hm : xs.length = l) (hs : Seq w (.slice a0 l cap0) xs) :
    Calls Try.prog 4 #[.int .i64 n, .int .i64 m, .string s, .slice a0 len0 cap0] w fun e w' => e = .returned (.bool true) ∧ Below w.heap.size w w' := by
  have hli : (len0 : Int) ≤ cap0 := by omega
  have KA := Lib.hid (awake_any w)
  have K1 := Lib.hid (fun u => putNum_err (.slice none 0 0) u n n1 n2 hn)
  clear hs hm
  rcases c with ⟨hb, rfl⟩ | ⟨hb, rfl⟩ <;> rcases hn with hn | hn
  all_goals
    go_enter Try.func4, Try.ntmps4
    go_wp2_with fail
    refine KA.out.mono ?_
    rintro e w1 ⟨rfl, hb1⟩
    have B1 := Lib.hid hb1
    clear hb1
    go_wp2_with fail
    refine (K1.out _).mono ?_
    rintro e w2 ⟨rfl, rfl⟩
    go_wp2_with fail
    go_ret
    exact ⟨rfl, B1.out⟩

set_option maxRecDepth 100000 in
set_option maxHeartbeats 2000000 in
theorem back_long (n : Int) (m : Int) (s : ByteArray) (h3 : 3000 < s.size) (hs : s.size ≤ 9223372036854775807)
    (a0 : Option Addr) (len0 cap0 l : Nat) (w : World) (hlc : len0 ≤ cap0) (c : (len0 ≤ 2000 ∧ len0 = l) ∨ (¬ len0 ≤ 2000 ∧ l = 2000)) :
    Calls Try.prog 4 #[.int .i64 n, .int .i64 m, .string s, .slice a0 len0 cap0] w fun e w' => e = .returned (.bool true) ∧ Below w.heap.size w w' := by
  have hli : (len0 : Int) ≤ cap0 := by omega
  have KA := Lib.hid (awake_any w)
  rcases c with ⟨hb, rfl⟩ | ⟨hb, rfl⟩
  all_goals
    go_enter Try.func4, Try.ntmps4
    go_wp2_with fail
    refine KA.out.mono ?_
    rintro e w1 ⟨rfl, hb1⟩
    have B1 := Lib.hid hb1
    clear hb1
    go_wp2_with fail
    go_ret
    exact ⟨rfl, B1.out⟩

theorem walk (a0 : Int) (a1 : Int) (a2 : ByteArray) (a3 : Option Addr) (len3 cap3 : Nat) (z3 : List Int) (w : World) (w0 : (Lit.int .i64 a0).wf = true) (w1 : (Lit.int .i64 a1).wf = true) (w2 : a2.size ≤ maxLen) (w3 : IsRow .u8 w a3 len3 cap3 z3) :
    Calls Try.prog 4 #[.int .i64 a0, .int .i64 a1, .string a2, .slice a3 len3 cap3] w fun e w' => e = .returned (.bool true) ∧ Below w.heap.size w w' := by
  obtain ⟨n1, n2⟩ := i64_in w0
  obtain ⟨m1, m2⟩ := i64_in w1
  obtain ⟨xs, l, c, hm, hs, hl, hlc⟩ := row_cut w3 2000
  by_cases h3 : a2.size ≤ 3000
  · by_cases hn : 0 ≤ a0 ∧ a0 ≤ 72057594037927935
    · obtain ⟨n, rfl⟩ := Int.eq_ofNat_of_zero_le hn.1
      exact back_ok n (by omega) a1 m1 m2 a2 h3 a3 len3 cap3 l xs w hlc c hm hs
    · exact back_bad a0 n1 n2 (out_of a0 hn) a1 a2 h3 a3 len3 cap3 l xs w hlc c hm hs
  · exact back_long a0 a1 a2 (by omega) (by unfold maxLen at w2; exact w2) a3 len3 cap3 l w hlc c

set_option maxRecDepth 100000 in
theorem lifted (os : Os) (started : os.Started) (H : Type) (enc : TypeId × Value → H) :
    ReturnsInHanded {} Try.checked os 4 .any (Rows.binBackSpec.pre6 enc Try.prog Try.f4 Rows.binBackRow.domain false) (Rows.binBackSpec.post enc Try.prog Try.f4 false true false false) := by
  refine returnsInHanded_of_change (C := Try.checked) own started (by kernel_rfl) Try.func4
    (ChangeSpec.witness6 (enc := enc) (C := Try.checked) false ⟨#[], #[.int .i64 0, .int .i64 0, .string ByteArray.empty, .slice none 0 0], []⟩ 8 (by kernel_rfl) (by kernel_rfl) (by kernel_rfl) (by kernel_rfl)) ?_
  intro W base args ds gs before hval0 hW hcnd _
  have hval : ∀ (j : Nat) t v, Try.f4.params[j]? = some t → args[j]? = some v → Value.okWide Try.prog W .any base t v := hval0
  have hW' := hW
  obtain ⟨p, q, hA0, hV, rfl, hfz, hnd⟩ := hW
  have hA : DataW.TrodAll enc Try.prog W 0 (fun _ => true) true Try.f4.params.toList args.toList ds p := hA0
  rw [Try.params4] at hA hval
  obtain ⟨v0, vs0, d0, ds0, p0, q0, hargs, rfl, rfl, h0, r0⟩ := trodAll_cons hA
  obtain ⟨v1, vs1, d1, ds1, p1, q1, rfl, rfl, rfl, h1, r1⟩ := trodAll_cons r0
  obtain ⟨v2, vs2, d2, ds2, p2, q2, rfl, rfl, rfl, h2, r2⟩ := trodAll_cons r1
  obtain ⟨v3, vs3, d3, ds3, p3, q3, rfl, rfl, rfl, h3, r3⟩ := trodAll_cons r2
  obtain ⟨rfl, rfl, rfl⟩ := trodAll_nil r3
  obtain rfl : args = #[v0, v1, v2, v3] := by cases args; simp_all
  obtain ⟨rfl, rfl⟩ := trodVars_none hV
  obtain ⟨a0, rfl, rfl, rfl, w0⟩ := open_int Try.underlying3 (hval 0 3 v0 rfl rfl) h0
  obtain ⟨a1, rfl, rfl, rfl, w1⟩ := open_int Try.underlying2 (hval 1 2 v1 rfl rfl) h1
  obtain ⟨a2, rfl, rfl, rfl, w2⟩ := open_string Try.underlying9 (hval 2 9 v2 rfl rfl) h2
  obtain ⟨a3, len3, cap3, rfl⟩ := okWide_slice Try.underlying22 (hval 3 22 v3 rfl rfl)
  have k3 := h3
  have lt3 : ∀ x ∈ p3, x.block < W.heap.size := by obtain ⟨m, hm⟩ := k3; exact DataW.trod_lt m _ _ _ hm
  obtain ⟨z3, w3⟩ : ∃ zs, IsRow .u8 W a3 len3 cap3 zs := by
    obtain ⟨fuel, hf⟩ := h3
    rcases open_ints Try.underlying22 Try.underlying5 (by kernel_rfl) hf with ⟨hcs, _⟩ | ⟨x, l, c, zs, hcs, _, hl, hm, hz, _, hcell, hwz⟩
    · simp [Value.cells] at hcs
      obtain ⟨rfl, rfl, rfl⟩ := hcs
      exact ⟨[], .inl ⟨rfl, rfl, rfl, rfl⟩⟩
    · simp [Value.cells] at hcs
      obtain ⟨rfl, rfl, rfl⟩ := hcs
      exact ⟨zs, .inr ⟨_, rfl, hl, hm, by simpa using hz, hcell, hwz⟩⟩
  clear hA0 hval0
  refine (walk a0 a1 a2 a3 len3 cap3 z3 W w0 w1 w2 w3).mono fun e W' ⟨he, bel⟩ => ?_
  subst he
  exact ⟨_, rfl, _, _, _, [], _, [], hW', trodAll_mk1 (shut_bool Try.underlying4 _), (trodAll_cons_mk (shut_int Try.underlying3 w0) (trodAll_cons_mk (shut_int Try.underlying2 w1) (trodAll_cons_mk (shut_string Try.underlying9 w2) (trodAll_cons_mk (Below.trod laidOut (by kernel_rfl) (of_decide_eq_true (by kernel_rfl)) k3 bel lt3) trodAll_mk0)))), rfl, bel.frame _, fun h => by cases h⟩

theorem over : Rows.binBackRow.holds Try.pinned (OpenSpec.ofChange Rows.binBackSpec) :=
  OpenClaim.holds_of_wide 4 Try.f4 rfl rfl rfl rfl rfl rfl rfl ⟨rfl, rfl, rfl, rfl, rfl⟩ rfl rfl rfl rfl rfl (by kernel_rfl) Try.func4 (by kernel_rfl)
    (of_decide_eq_true (by kernel_rfl)) (by unfold Func.isWrapper; first | (rw [if_pos (by decide +kernel)]; kernel_rfl) | (rw [if_neg (by decide +kernel)]; exact ⟨rfl, rfl⟩))
    (fun os started H enc _ => lifted os started H enc)

/-- the given statement -/
theorem proved : Rows.BinBackSaid := over
#print axioms proved
end Go.Proofs.Ytbfhhlbnhcngfaa.binBack
