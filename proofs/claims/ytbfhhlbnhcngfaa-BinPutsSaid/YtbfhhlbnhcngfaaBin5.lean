/- What the program's own functions of package bin leave: Text's errors; the document's own Num, PutNum, Int, Text. -/
import Derived.Test.YtbfhhlbnhcngfaaBin4
namespace Go.Proofs.Ytbfhhlbnhcngfaa
open Go.RowKit Plain
set_option linter.unusedVariables false

def TextErr (e : Ending) : Prop := ∃ k : Int, (k = 2 ∨ k = 3 ∨ k = 4) ∧ e = .returned (.tuple #[.string ⟨#[]⟩, .slice none 0 0, .int .i64 k])
set_option maxRecDepth 100000 in
set_option maxHeartbeats 2000000 in
theorem text_err {v : Value} {xs : Bytes} {w : World} (hs : Seq w v xs) (hlen : xs.length ≤ 1000000) (hr : ∀ s k, tread xs ≠ (s, k, 0)) :
    Calls Try.prog 18 #[v] w fun e w' => TextErr e ∧ w = w' := by
  have K1 := Lib.hid (readNum_seq hs)
  obtain ⟨a, cap, rfl, g1, g2, g0, -⟩ := hs.parts
  have hm : maxLen = 9223372036854775807 := rfl
  rw [hm] at g2
  rcases read_cases xs with ⟨n, s, hr1⟩ | hr1 | hr1
  · obtain ⟨-, h1, h2, h3, h4⟩ := read_back hr1
    rw [hr1] at K1
    unfold RdT at K1
    by_cases hn : 65536 < n
    · have hni : (n : Int) ≤ 72057594037927936 := by omega
      clear hs hr hr1 hm g0
      go_enter Try.func18, Try.ntmps18
      go_wp2_with fail
      refine K1.out.mono ?_
      rintro e w1 ⟨rfl, rfl⟩
      go_wp2_with fail
      go_ret3
      exact ⟨⟨4, by omega, rfl⟩, rfl⟩
    · have hnl : xs.length - s < n := by
        rcases Nat.lt_or_ge (xs.length - s) n with h | h
        · exact h
        · exact absurd (tread_ok hr1 (by omega) h) (hr _ _)
      clear hs hr hr1 hm g0
      go_enter Try.func18, Try.ntmps18
      go_wp2_with fail
      refine K1.out.mono ?_
      rintro e w1 ⟨rfl, rfl⟩
      go_wp2_with fail
      go_ret3
      exact ⟨⟨3, by omega, rfl⟩, rfl⟩
  · rw [hr1] at K1
    unfold RdT at K1
    clear hs hr hr1 hm g0
    go_enter Try.func18, Try.ntmps18
    go_wp2_with fail
    refine K1.out.mono ?_
    rintro e w1 ⟨rfl, rfl⟩
    go_wp2_with fail
    go_ret3
    exact ⟨⟨2, by omega, rfl⟩, rfl⟩
  · rw [hr1] at K1
    unfold RdT at K1
    clear hs hr hr1 hm g0
    go_enter Try.func18, Try.ntmps18
    go_wp2_with fail
    refine K1.out.mono ?_
    rintro e w1 ⟨rfl, rfl⟩
    go_wp2_with fail
    go_ret3
    exact ⟨⟨3, by omega, rfl⟩, rfl⟩

/-! ### the document's own -/
set_option maxRecDepth 100000 in
set_option maxHeartbeats 1000000 in
theorem refNum_ok (n : Nat) (hn : n < 72057594037927936) (w : World) : Calls Try.prog 21 #[.int .i64 n] w (MadeT w (form n)) := by
  have hl := form_len8 n hn
  obtain ⟨z, HF⟩ : ∃ z, Hid (form n = z) := ⟨_, Lib.hid rfl⟩
  rw [HF.out] at hl
  rw [HF.out]
  have hn' : (n : Int) ≤ 72057594037927935 := by omega
  go_enter Try.func21, Try.ntmps21
  go_wp2_with fail
  go_loopw [0, 4] (fun a v wr => ∃ m : Nat, m < 72057594037927936 ∧ a = .int .i64 m ∧ ∃ xs, Owns w.heap.size wr v xs ∧ xs ++ form m = z ∧ Below w.heap.size w wr) (fun a _ _ => (intOf a).toNat)
  case atStart => exact ⟨n, hn, rfl, [], Owns.nil _ _, (List.nil_append _).trans HF.out, Below.refl _ _⟩
  case round =>
    obtain ⟨m, hm, rfl, xs, ho, hz, hb⟩ := hrel
    have hxl : xs.length ≤ 8 := by have := congrArg List.length hz; rw [List.length_append] at this; omega
    have hsz := hb.size
    have O1 := Lib.hid ho
    have B1 := Lib.hid hb
    have Z1 := Lib.hid hz
    clear ho hb hz
    by_cases hlt : 128 ≤ m
    · have hd : ((m : Int) / 128 == 0) = false := beq_eq_false_iff_ne.2 (by omega)
      have FS := Lib.hid (form_high hlt)
      have hc : (((m : Int) % 128 + 128)) = (by8 (m % 128 + 128)).toNat := by rw [by8_toNat _ (by omega)]; omega
      have HC := Lib.hid hc
      generalize by8 (m % 128 + 128) = c at *
      clear hc
      go_wp2_with (at_builtin; refine wpList_append_seq rfl (.tmp 23) (.tmp 27) rfl w.heap.size rfl (O1.out.alloc _) rfl (Seq.one _ _ c HC.out) (by simp; omega) (by simp; omega) ?_)
      intro v2 w2 ho2 hg2 _
      have hb2 : Below w.heap.size w w2 := (B1.out.alloc (by omega) _).grown hg2 (by simp; omega) (fun k hk => (O1.out.lt k hk).1)
      have O3 := Lib.hid ho2
      clear ho2 hg2
      go_wp2_with fail
      go_roundw
      case rel => exact ⟨m / 128, by omega, by go_num, xs ++ [c], O3.out, by rw [List.append_assoc, List.singleton_append, ← FS.out]; exact Z1.out, hb2⟩
      case measure => simp [intOf]; omega
    · have hd : ((m : Int) / 128 == 0) = true := beq_iff_eq.2 (by omega)
      have FS := Lib.hid (form_low (show m < 128 by omega))
      have hc : ((m : Int) % 128) = (by8 m).toNat := by rw [by8_toNat m (by omega)]; omega
      have HC := Lib.hid hc
      clear hc
      go_wp2_with (at_builtin; refine wpList_append_seq rfl (.tmp 18) (.tmp 21) rfl w.heap.size rfl (O1.out.alloc _) rfl (Seq.one _ _ (by8 m) HC.out) (by simp; omega) (by simp; omega) ?_)
      intro v2 w2 ho2 hg2 _
      have hb2 : Below w.heap.size w w2 := (B1.out.alloc (by omega) _).grown hg2 (by simp; omega) (fun k hk => (O1.out.lt k hk).1)
      have O3 := Lib.hid ho2
      clear ho2 hg2
      go_wp2_with fail
      go_ret2
      refine ⟨_, rfl, ?_, hb2⟩
      rw [← Z1.out, FS.out]
      exact O3.out

set_option maxRecDepth 100000 in
set_option maxHeartbeats 1000000 in
theorem refNum_err (n : Int) (hn : n < 0 ∨ 72057594037927935 < n) (w : World) : Calls Try.prog 21 #[.int .i64 n] w fun e w' => e = .returned (.tuple #[.slice none 0 0, .int .i64 1]) ∧ w = w' := by
  rcases hn with hn | hn
  all_goals
    go_enter Try.func21, Try.ntmps21
    go_wp2_with fail
    go_ret2
    exact ⟨rfl, rfl⟩

set_option maxRecDepth 100000 in
set_option maxHeartbeats 1000000 in
theorem refPutNum_ok {v : Value} {xs : Bytes} {w : World} (hs : Seq w v xs) (hlen : xs.length ≤ 900000) (n : Nat) (hn : n < 72057594037927936) :
    Calls Try.prog 10 #[v, .int .i64 n] w (MadeT w (xs ++ form n)) := by
  have hl := form_len8 n hn
  have K1 := Lib.hid (refNum_ok n hn)
  have S0 := Lib.hid hs
  obtain ⟨a, cap, rfl, h1, h2, h0, -⟩ := hs.parts
  clear hs h0
  generalize form n = z at *
  go_enter Try.func10, Try.ntmps10
  go_wp2_with fail
  refine (K1.out _).mono ?_
  rintro e w1 ⟨v1, rfl, ho1, hb1⟩
  have B1 := Lib.hid hb1
  have hsz := hb1.size
  obtain ⟨a1, c1, rfl, -, -, ho1, -⟩ := ho1.parts
  have O1 := Lib.hid ho1
  clear ho1
  go_wp2_with (at_builtin; refine wpList_append_seq rfl (.tmp 16) (.tmp 17) rfl w1.heap.size rfl (Owns.empty w1 _ (Nat.le_refl _)) rfl ((S0.out.below B1.out).below_alloc _) (by simp; omega) (by simp) ?_)
  intro v2 w2 ho2 hg2 hat
  have hb2 : Below w1.heap.size w1 w2 := ((Below.refl _ _).alloc (Nat.le_refl _) _).grown hg2 (by simp) (by intro k hk; cases hk; exact Nat.le_refl _)
  have HB2 := Lib.hid hb2
  have O2 := Lib.hid ho2
  have hsz2 := hb2.size
  clear hg2 hat ho2
  go_wp2_with (at_builtin; refine wpList_append_seq rfl (.tmp 18) (.tmp 19) rfl w1.heap.size rfl O2.out rfl (O1.out.seq.below HB2.out) (by omega) (by omega) ?_)
  intro v3 w3 ho3 hg3 _
  have hb3 : Below w.heap.size w w3 := (B1.out.trans (HB2.out.mono hsz)).grown hg3 (by omega) (fun k hk => by have := (O2.out.lt k hk).1; omega)
  have O3 := Lib.hid (ho3.mono hsz)
  clear ho3 hg3
  go_wp2_with fail
  go_ret2
  exact ⟨_, rfl, O3.out, hb3⟩

set_option maxRecDepth 100000 in
set_option maxHeartbeats 1000000 in
theorem refPutNum_err (v : Value) (n : Int) (hn : n < 0 ∨ 72057594037927935 < n) (w : World) : Calls Try.prog 10 #[v, .int .i64 n] w fun e w' => e = .returned (.tuple #[.slice none 0 0, .int .i64 1]) ∧ w = w' := by
  have K1 := Lib.hid (refNum_err n hn)
  clear hn
  go_enter Try.func10, Try.ntmps10
  go_wp2_with fail
  refine (K1.out _).mono ?_
  rintro e w1 ⟨rfl, rfl⟩
  go_wp2_with fail
  go_ret2
  exact ⟨rfl, rfl⟩

theorem take_iform (n : Int) : ∀ k, k < 8 → (iform n).take (k + 1) = (iform n).take k ++ [low n k]
  | 0, _ => rfl
  | 1, _ => rfl
  | 2, _ => rfl
  | 3, _ => rfl
  | 4, _ => rfl
  | 5, _ => rfl
  | 6, _ => rfl
  | 7, _ => rfl
  | k + 8, h => absurd h (by omega)

set_option maxRecDepth 100000 in
set_option maxHeartbeats 1000000 in
theorem refInt_any (n : Int) (h1 : -9223372036854775808 ≤ n) (h2 : n ≤ 9223372036854775807) (w : World) : Calls Try.prog 13 #[.int .i64 n] w (Made w (iform n)) := by
  obtain ⟨U, hU⟩ : ∃ U : Nat, n % 18446744073709551616 = (U : Int) := ⟨(n % 18446744073709551616).toNat, by omega⟩
  have hlow : ∀ k, (low n k).toNat = U / 256 ^ k % 256 := fun k => by
    unfold low
    rw [hU, Int.toNat_natCast, by8_toNat _ (Nat.mod_lt _ (by omega))]
  have HL := Lib.hid hlow
  have HU := Lib.hid hU
  clear hlow hU
  go_enter Try.func13, Try.ntmps13
  go_wp2_with fail
  go_loopw [0, 3, 4] (fun a v i wr => ∃ k : Nat, k ≤ 8 ∧ i = .int .i64 k ∧ (∃ m : Int, a = .int .i64 m ∧ -9223372036854775808 ≤ m ∧ m ≤ 9223372036854775807 ∧ m % 18446744073709551616 = ((U / 256 ^ k : Nat) : Int)) ∧ Owns w.heap.size wr v ((iform n).take k) ∧ Below w.heap.size w wr) (fun _ _ i _ => 8 - (intOf i).toNat)
  case atStart => exact ⟨0, by omega, rfl, ⟨n, rfl, h1, h2, by rw [HU.out]; simp⟩, Owns.nil _ _, Below.refl _ _⟩
  case round =>
    obtain ⟨k, hk, rfl, ⟨m, rfl, m1, m2, hm⟩, ho, hb⟩ := hrel
    have hsz := hb.size
    have hxl : ((iform n).take k).length ≤ 8 := by rw [List.length_take]; omega
    have O1 := Lib.hid ho
    have B1 := Lib.hid hb
    clear ho hb
    by_cases hlt : k < 8
    · have hn1 : U / 256 ^ (k + 1) = U / 256 ^ k / 256 := by rw [Nat.pow_succ, Nat.div_div_eq_div_mul]
      have HN := Lib.hid hn1
      have HT := Lib.hid (take_iform n k hlt)
      have hc := HL.out k
      generalize low n k = c at *
      generalize (iform n).take k = xs at *
      generalize U / 256 ^ k = q at *
      have hq : q < 18446744073709551616 := by omega
      have hw : IntKind.u64.wrap m = (q : Int) := by simpa [IntKind.wrap, IntKind.bits, IntKind.signed] using hm
      have hc2 : ((q : Int) % 256) = c.toNat := by omega
      have HC := Lib.hid hc2
      have HM := Lib.hid hm
      clear hc hc2 hn1 hm
      go_wp2_with (at_builtin; refine wpList_append_seq rfl (.tmp 9) (.tmp 14) rfl w.heap.size rfl (O1.out.alloc _) rfl (Seq.one _ _ c HC.out) (by simp; omega) (by simp; omega) ?_)
      intro v2 w2 ho2 hg2 _
      have hb2 : Below w.heap.size w w2 := (B1.out.alloc (by omega) _).grown hg2 (by simp; omega) (fun k hk => (O1.out.lt k hk).1)
      have O3 := Lib.hid ho2
      clear ho2 hg2
      go_wp2_with fail
      go_roundw
      case rel => exact ⟨k + 1, by omega, by go_num, ⟨_, rfl, by omega, by omega, by rw [HN.out]; omega⟩, by rw [HT.out]; exact O3.out, hb2⟩
      case measure => simp [intOf]; omega
    · obtain rfl : k = 8 := by omega
      clear hm
      go_wp2_with fail
      go_ret
      exact ⟨_, rfl, O1.out, B1.out⟩

set_option maxRecDepth 100000 in
set_option maxHeartbeats 1000000 in
theorem refText_err (t : ByteArray) (w : World) (ht : 65536 < t.size) (hm : t.size ≤ 9223372036854775807) :
    Calls Try.prog 15 #[.string t] w fun e w' => e = .returned (.tuple #[.slice none 0 0, .int .i64 4]) ∧ w = w' := by
  go_enter Try.func15, Try.ntmps15
  go_wp2_with fail
  go_ret2
  exact ⟨rfl, rfl⟩

set_option maxRecDepth 100000 in
set_option maxHeartbeats 1000000 in
theorem refText_ok (t : ByteArray) (w : World) (ht : t.size ≤ 65536) : Calls Try.prog 15 #[.string t] w (MadeT w (tform t)) := by
  have hl := form_len8 t.size (by omega)
  have K1 := Lib.hid (refNum_ok t.size (by omega))
  have E : Hid (form t.size ++ bs t = tform t) := Lib.hid rfl
  generalize form t.size = z at *
  generalize tform t = y at *
  go_enter Try.func15, Try.ntmps15
  go_wp2_with fail
  refine (K1.out _).mono ?_
  rintro e w1 ⟨v1, rfl, ho1, hb1⟩
  have B1 := Lib.hid hb1
  have hsz := hb1.size
  have O1 := Lib.hid ho1
  clear ho1
  go_wp2_with (at_builtin; refine wpList_append_text rfl (.tmp 15) (.tmp 16) rfl w.heap.size rfl O1.out rfl (by omega) (by omega) ?_)
  intro v3 w3 ho3 hg3
  have hb3 : Below w.heap.size w w3 := B1.out.grown hg3 (by omega) (fun k hk => (O1.out.lt k hk).1)
  rw [E.out] at ho3
  have O3 := Lib.hid ho3
  clear ho3 hg3
  go_wp2_with fail
  go_ret2
  exact ⟨_, rfl, O3.out, hb3⟩
