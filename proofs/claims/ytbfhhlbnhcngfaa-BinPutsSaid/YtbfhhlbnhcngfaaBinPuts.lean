/-
  For any bytes, any number, any whole number and any text the law BinPuts answers true: behind the first 2000 bytes they are put as the document says, with its errors, and what stands there, and behind it in the same memory, stays; of a text of more than 70000 bytes nothing is asked. No condition.
  (The frame was written by the guide's proof-skeleton.mjs; the walk is ours.)
-/
import Derived.Test.YtbfhhlbnhcngfaaRows
import Derived.WalkKit
import Derived.ProofKit
import Derived.OpenShut
import Derived.ShutString
import Derived.ChangeOld
import Derived.Below
import Derived.Test.YtbfhhlbnhcngfaaAwake
namespace Go.Proofs.Ytbfhhlbnhcngfaa.binPuts
open Go.ChangeShapes Go.WideShapes Go.ChangeAt Go.RowKit
open Go.ChangeMaps (open_string shut_string)
set_option linter.unusedVariables false

theorem own : ownKnob Try.prog.godebug = none := by kernel_rfl
theorem laidOut : laidOutB Try.prog = true := by kernel_rfl

open Plain

/-- what is the call's own, and not empty, lies at the head of a block -/
theorem Owns.head {B : Nat} {w : World} {v : Value} {xs : Bytes} (h : Owns B w v xs) {n : Nat} (hl : xs.length = n) (hp : 0 < n) : ∃ g cap, v = .slice (some ⟨g, 0, none⟩) n cap ∧ n ≤ cap ∧ cap ≤ maxLen ∧ Owns B w (.slice (some ⟨g, 0, none⟩) n cap) xs := by
  have h' := h
  rcases h.2 with ⟨rfl, hn⟩ | ⟨g, cap, cur, rfl, hb, hg, hnc, hcm, hr⟩
  · omega
  · subst hl; exact ⟨g, cap, rfl, hnc, hcm, h'⟩
/-- the byte behind what was copied -/
theorem Owns.behind {B : Nat} {w : World} {g cap : Nat} {xs : Bytes} {x : BitVec 8} {l : Nat} (hl : xs.length = l) (h : Owns B w (.slice (some ⟨g, 0, none⟩) (l + 1) cap) (xs ++ [x])) :
    Seq w (.slice (some ⟨g, 0, none⟩) l cap) xs ∧ w.cell? ⟨g, l, none⟩ = some (bv x) := by
  subst hl
  have h1 := Seq.first h.seq xs.length (by rw [List.length_append]; omega)
  rw [List.take_left] at h1
  obtain ⟨b, o, c, he, -, -, -, hc⟩ := h.seq.spot (by rw [List.length_append]; simp)
  simp only [Value.slice.injEq, Option.some.injEq, Addr.mk.injEq, and_true] at he
  obtain ⟨⟨rfl, rfl⟩, -, rfl⟩ := he
  have := hc xs.length (by rw [List.length_append]; simp)
  rw [Nat.zero_add] at this
  refine ⟨h1, this.trans ?_⟩
  simp [List.getD]

set_option maxRecDepth 100000 in
set_option maxHeartbeats 8000000 in
theorem puts_tt (a0 : Option Addr) (len0 cap0 l : Nat) (xs : Bytes) (w : World) (hlc : len0 ≤ cap0) (c : (len0 ≤ 2000 ∧ len0 = l) ∨ (¬ len0 ≤ 2000 ∧ l = 2000)) (hm : xs.length = l) (hs : Seq w (.slice a0 l cap0) xs)
    (n : Nat) (hn : n < 72057594037927936) (m : Int) (m1 : -9223372036854775808 ≤ m) (m2 : m ≤ 9223372036854775807) (s : ByteArray) (h3 : s.size ≤ 65536) :
    Calls Try.prog 3 #[.slice a0 len0 cap0, .int .i64 n, .int .i64 m, .string s] w fun e w' => e = .returned (.bool true) ∧ Below w.heap.size w w' := by
  have hli : (len0 : Int) ≤ cap0 := by omega
  have KA := Lib.hid (awake_any w)
  have HS := Lib.hid hs
  have HL := Lib.hid hm
  have hx : xs.length ≤ 2000 := by omega
  have hi := iform_len m
  have KC : Hid (∀ (u : World) (v : Value), Seq u v xs → Calls Try.prog 8 #[v] u (Made u xs)) := Lib.hid (fun u v h => copy_any h (by omega))
  have KI : Hid (∀ (u : World) (v : Value), Seq u v xs → Calls Try.prog 12 #[v, .int .i64 m] u (Made u (xs ++ iform m))) := Lib.hid (fun u v h => putInt_any h (by omega) m m1 m2)
  have KRI : Hid (∀ (u : World), Calls Try.prog 13 #[.int .i64 m] u (Made u (iform m))) := Lib.hid (fun u => refInt_any m m1 m2 u)
  have HL1 : Hid ((xs ++ [77#8]).length = l + 1) := Lib.hid (by rw [List.length_append, hm]; rfl)
  have KN : Hid (∀ (u : World) (v : Value), Seq u v xs → Calls Try.prog 9 #[v, .int .i64 n] u (MadeT u (xs ++ form n))) := Lib.hid (fun u v h => putNum_ok h (by omega) n hn)
  have KRN : Hid (∀ (u : World) (v : Value), Seq u v xs → Calls Try.prog 10 #[v, .int .i64 n] u (MadeT u (xs ++ form n))) := Lib.hid (fun u v h => refPutNum_ok h (by omega) n hn)
  generalize xs ++ form n = p1 at *
  have ht : (tform s).length ≤ 65600 := by
    have := form_len8 s.size (by omega)
    unfold tform; rw [List.length_append, bs_len]; omega
  have KT : Hid (∀ (u : World) (v : Value), Seq u v xs → Calls Try.prog 14 #[v, .string s] u (MadeT u (xs ++ tform s))) := Lib.hid (fun u v h => putText_ok h (by omega) s h3)
  have KRT : Hid (∀ (u : World), Calls Try.prog 15 #[.string s] u (MadeT u (tform s))) := Lib.hid (fun u => refText_ok s u h3)
  generalize tform s = q3 at *
  have E3 : ∃ p3, Hid (xs ++ q3 = p3) := ⟨_, Lib.hid rfl⟩
  obtain ⟨p3, E3⟩ := E3
  rw [E3.out] at KT
  generalize iform m = q2 at *
  obtain ⟨p2, E2⟩ : ∃ p2, Hid (xs ++ q2 = p2) := ⟨_, Lib.hid rfl⟩
  rw [E2.out] at KI
  clear hs hm
  rcases c with ⟨hb, rfl⟩ | ⟨hb, rfl⟩
  all_goals
    go_enter Try.func3, Try.ntmps3
    go_wp2_with fail
    refine KA.out.mono ?_
    rintro e w1 ⟨rfl, hb1⟩
    have B1 := Lib.hid hb1
    clear hb1
    go_wp2_with fail
    refine (KC.out _ _ (HS.out.below B1.out)).mono ?_
    rintro e w2 ⟨v2, rfl, ho2, hb2⟩
    have B2 := Lib.hid (B1.out.trans (hb2.mono B1.out.size))
    have O2 := Lib.hid ho2
    have z12 := hb2.size
    have z1 := B1.out.size
    clear ho2 hb2
    go_wp2_with (at_builtin; refine wpList_append_seq rfl (.tmp 26) (.tmp 27) rfl w1.heap.size rfl (O2.out.alloc _) rfl (Seq.one _ _ 77#8 rfl) (by simp; omega) (by simp; omega) ?_)
    intro v3 w3 ho3 hg3 _
    have B3 := Lib.hid ((B2.out.alloc (by omega) _).grown hg3 (by simp; omega) (fun k hk => by have := (O2.out.lt k hk).1; omega))
    obtain ⟨g, c3, rfl, g1, g2, ho3⟩ := Owns.head ho3 HL1.out (by omega)
    have M3 := Lib.hid ho3
    have hm : maxLen = 9223372036854775807 := rfl
    rw [hm] at g2
    have z3 := B3.out.size
    have z13 := (O2.out.lt)
    clear ho3 hg3 hm z13
    go_wp2_with fail
    refine (KN.out _ _ (Owns.behind HL.out M3.out).1).mono ?_
    rintro e w4 ⟨v4, rfl, ho4, hb4⟩
    have C4 := Lib.hid hb4
    have O4 := Lib.hid ho4
    have z4 := hb4.size
    clear ho4 hb4
    go_wp2_with fail
    refine (KRN.out _ _ (HS.out.below (B3.out.trans (C4.out.mono z3)))).mono ?_
    rintro e w5 ⟨v5, rfl, ho5, hb5⟩
    have C5 := Lib.hid (C4.out.trans (hb5.mono z4))
    have S4 := Lib.hid (O4.out.seq.below hb5)
    have S5 := Lib.hid ho5.seq
    clear ho5 hb5
    go_wp2_with fail
    refine (same_yes S4.out S5.out).mono ?_
    rintro e w6 ⟨rfl, j6, rfl⟩
    have C6 := Lib.hid (below_drewN C5.out j6)
    clear C4 C5 S4 S5 O4 z4
    generalize w5.drewN j6 = w6 at *
    have z6 := C6.out.size
    go_wp2_with fail
    refine (KI.out _ _ (Owns.behind HL.out (M3.out.below C6.out (Nat.le_refl _))).1).mono ?_
    rintro e w7 ⟨v7, rfl, ho7, hb7⟩
    have C7 := Lib.hid (C6.out.trans (hb7.mono z6))
    have O7 := Lib.hid ho7
    have z7 := C7.out.size
    clear ho7 hb7
    go_wp2_with fail
    refine (KC.out _ _ (HS.out.below (B3.out.trans (C7.out.mono z3)))).mono ?_
    rintro e w8 ⟨v8, rfl, ho8, hb8⟩
    have D8 := Lib.hid hb8
    have O8 := Lib.hid ho8
    have z8 := hb8.size
    clear ho8 hb8
    go_wp2_with fail
    refine (KRI.out _).mono ?_
    rintro e w9 ⟨v9, rfl, ho9, hb9⟩
    have D9 := Lib.hid (D8.out.trans (hb9.mono z8))
    have O89 := Lib.hid (O8.out.below hb9 (Nat.le_refl _))
    have S9 := Lib.hid ho9.seq
    have z9 := hb9.size
    clear ho9 hb9
    go_wp2_with (at_builtin; refine wpList_append_seq rfl (.tmp 60) (.tmp 62) rfl w7.heap.size rfl O89.out rfl S9.out (by omega) (by omega) ?_)
    intro v10 w10 ho10 hg10 _
    have D10 := Lib.hid (D9.out.grown hg10 (by omega) (fun k hk => (O89.out.lt k hk).1))
    rw [E2.out] at ho10
    have S10 := Lib.hid ho10.seq
    have C10 := Lib.hid (C7.out.trans (D10.out.mono z7))
    clear ho10 hg10
    go_wp2_with fail
    refine (same_yes (O7.out.seq.below D10.out) S10.out).mono ?_
    rintro e w11 ⟨rfl, j11, rfl⟩
    have C11 := Lib.hid (below_drewN C10.out j11)
    obtain ⟨w11, h11⟩ : ∃ w11, w11 = w10.drewN j11 := ⟨_, rfl⟩
    rw [← h11] at C11 ⊢
    clear h11 C6 C7 O7 z7 z6 D8 D9 D10 O8 O89 S9 S10 C10 z8 z9
    have z11 := C11.out.size
    go_wp2_with fail
    refine (KT.out _ _ (Owns.behind HL.out (M3.out.below C11.out (Nat.le_refl _))).1).mono ?_
    rintro e w12 ⟨v12, rfl, ho12, hb12⟩
    have C12 := Lib.hid (C11.out.trans (hb12.mono z11))
    have O12 := Lib.hid ho12
    have z12 := C12.out.size
    clear ho12 hb12
    go_wp2_with fail
    refine (KRT.out _).mono ?_
    rintro e w13 ⟨v13, rfl, ho13, hb13⟩
    have D13 := Lib.hid hb13
    have O13 := Lib.hid ho13
    have z13 := hb13.size
    clear ho13 hb13
    go_wp2_with fail
    refine (KC.out _ _ (HS.out.below (B3.out.trans ((C12.out.trans (D13.out.mono z12)).mono z3)))).mono ?_
    rintro e w14 ⟨v14, rfl, ho14, hb14⟩
    have D14 := Lib.hid (D13.out.trans (hb14.mono z13))
    have S13 := Lib.hid (O13.out.seq.below hb14)
    have O14 := Lib.hid ho14
    have z14 := hb14.size
    clear ho14 hb14
    go_wp2_with (at_builtin; refine wpList_append_want (by rfl) (.tmp 89) (.tmp 90) rfl w13.heap.size rfl O14.out rfl S13.out (by omega) (by omega) ?_)
    intro v15 w15 ho15 hg15 _
    have D15 := Lib.hid (D14.out.grown hg15 (by omega) (fun k hk => by have := (O14.out.lt k hk).1; omega))
    rw [E3.out] at ho15
    have S15 := Lib.hid ho15.seq
    have C15 := Lib.hid (C12.out.trans (D15.out.mono z12))
    clear ho15 hg15
    go_wp2_with fail
    refine (same_yes (O12.out.seq.below D15.out) S15.out).mono ?_
    rintro e w16 ⟨rfl, j16, rfl⟩
    have C16 := Lib.hid (below_drewN C15.out j16)
    obtain ⟨w16, h16⟩ : ∃ w16, w16 = w15.drewN j16 := ⟨_, rfl⟩
    rw [← h16] at C16 ⊢
    clear h16 C12 O12 D13 O13 D14 S13 O14 D15 S15 C15 z13 z14
    have hend := Owns.behind HL.out (M3.out.below C16.out (Nat.le_refl _))
    have HE := Lib.hid hend.1
    have hcell := hend.2
    unfold bv at hcell
    have B16 := Lib.hid (B3.out.trans (C16.out.mono z3))
    clear hend
    go_wp2_with fail
    refine (same_yes HE.out (HS.out.below B16.out)).mono ?_
    rintro e w17 ⟨rfl, j17, rfl⟩
    have B17 := Lib.hid (below_drewN B16.out j17)
    go_wp2_with fail
    go_ret
    exact ⟨rfl, B17.out⟩

set_option maxRecDepth 100000 in
set_option maxHeartbeats 8000000 in
theorem puts_tf (a0 : Option Addr) (len0 cap0 l : Nat) (xs : Bytes) (w : World) (hlc : len0 ≤ cap0) (c : (len0 ≤ 2000 ∧ len0 = l) ∨ (¬ len0 ≤ 2000 ∧ l = 2000)) (hm : xs.length = l) (hs : Seq w (.slice a0 l cap0) xs)
    (n : Nat) (hn : n < 72057594037927936) (m : Int) (m1 : -9223372036854775808 ≤ m) (m2 : m ≤ 9223372036854775807) (s : ByteArray) (h3 : 65536 < s.size) (h4 : s.size ≤ 70000) :
    Calls Try.prog 3 #[.slice a0 len0 cap0, .int .i64 n, .int .i64 m, .string s] w fun e w' => e = .returned (.bool true) ∧ Below w.heap.size w w' := by
  have hli : (len0 : Int) ≤ cap0 := by omega
  have KA := Lib.hid (awake_any w)
  have HS := Lib.hid hs
  have HL := Lib.hid hm
  have hx : xs.length ≤ 2000 := by omega
  have hi := iform_len m
  have KC : Hid (∀ (u : World) (v : Value), Seq u v xs → Calls Try.prog 8 #[v] u (Made u xs)) := Lib.hid (fun u v h => copy_any h (by omega))
  have KI : Hid (∀ (u : World) (v : Value), Seq u v xs → Calls Try.prog 12 #[v, .int .i64 m] u (Made u (xs ++ iform m))) := Lib.hid (fun u v h => putInt_any h (by omega) m m1 m2)
  have KRI : Hid (∀ (u : World), Calls Try.prog 13 #[.int .i64 m] u (Made u (iform m))) := Lib.hid (fun u => refInt_any m m1 m2 u)
  have HL1 : Hid ((xs ++ [77#8]).length = l + 1) := Lib.hid (by rw [List.length_append, hm]; rfl)
  have KN : Hid (∀ (u : World) (v : Value), Seq u v xs → Calls Try.prog 9 #[v, .int .i64 n] u (MadeT u (xs ++ form n))) := Lib.hid (fun u v h => putNum_ok h (by omega) n hn)
  have KRN : Hid (∀ (u : World) (v : Value), Seq u v xs → Calls Try.prog 10 #[v, .int .i64 n] u (MadeT u (xs ++ form n))) := Lib.hid (fun u v h => refPutNum_ok h (by omega) n hn)
  generalize xs ++ form n = p1 at *
  have KT := Lib.hid (fun (u : World) (v : Value) => putText_err v s u h3 (by omega))
  have KRT := Lib.hid (fun (u : World) => refText_err s u h3 (by omega))
  generalize iform m = q2 at *
  obtain ⟨p2, E2⟩ : ∃ p2, Hid (xs ++ q2 = p2) := ⟨_, Lib.hid rfl⟩
  rw [E2.out] at KI
  clear hs hm
  rcases c with ⟨hb, rfl⟩ | ⟨hb, rfl⟩
  all_goals
    go_enter Try.func3, Try.ntmps3
    go_wp2_with fail
    refine KA.out.mono ?_
    rintro e w1 ⟨rfl, hb1⟩
    have B1 := Lib.hid hb1
    clear hb1
    go_wp2_with fail
    refine (KC.out _ _ (HS.out.below B1.out)).mono ?_
    rintro e w2 ⟨v2, rfl, ho2, hb2⟩
    have B2 := Lib.hid (B1.out.trans (hb2.mono B1.out.size))
    have O2 := Lib.hid ho2
    have z12 := hb2.size
    have z1 := B1.out.size
    clear ho2 hb2
    go_wp2_with (at_builtin; refine wpList_append_seq rfl (.tmp 26) (.tmp 27) rfl w1.heap.size rfl (O2.out.alloc _) rfl (Seq.one _ _ 77#8 rfl) (by simp; omega) (by simp; omega) ?_)
    intro v3 w3 ho3 hg3 _
    have B3 := Lib.hid ((B2.out.alloc (by omega) _).grown hg3 (by simp; omega) (fun k hk => by have := (O2.out.lt k hk).1; omega))
    obtain ⟨g, c3, rfl, g1, g2, ho3⟩ := Owns.head ho3 HL1.out (by omega)
    have M3 := Lib.hid ho3
    have hm : maxLen = 9223372036854775807 := rfl
    rw [hm] at g2
    have z3 := B3.out.size
    have z13 := (O2.out.lt)
    clear ho3 hg3 hm z13
    go_wp2_with fail
    refine (KN.out _ _ (Owns.behind HL.out M3.out).1).mono ?_
    rintro e w4 ⟨v4, rfl, ho4, hb4⟩
    have C4 := Lib.hid hb4
    have O4 := Lib.hid ho4
    have z4 := hb4.size
    clear ho4 hb4
    go_wp2_with fail
    refine (KRN.out _ _ (HS.out.below (B3.out.trans (C4.out.mono z3)))).mono ?_
    rintro e w5 ⟨v5, rfl, ho5, hb5⟩
    have C5 := Lib.hid (C4.out.trans (hb5.mono z4))
    have S4 := Lib.hid (O4.out.seq.below hb5)
    have S5 := Lib.hid ho5.seq
    clear ho5 hb5
    go_wp2_with fail
    refine (same_yes S4.out S5.out).mono ?_
    rintro e w6 ⟨rfl, j6, rfl⟩
    have C6 := Lib.hid (below_drewN C5.out j6)
    clear C4 C5 S4 S5 O4 z4
    generalize w5.drewN j6 = w6 at *
    have z6 := C6.out.size
    go_wp2_with fail
    refine (KI.out _ _ (Owns.behind HL.out (M3.out.below C6.out (Nat.le_refl _))).1).mono ?_
    rintro e w7 ⟨v7, rfl, ho7, hb7⟩
    have C7 := Lib.hid (C6.out.trans (hb7.mono z6))
    have O7 := Lib.hid ho7
    have z7 := C7.out.size
    clear ho7 hb7
    go_wp2_with fail
    refine (KC.out _ _ (HS.out.below (B3.out.trans (C7.out.mono z3)))).mono ?_
    rintro e w8 ⟨v8, rfl, ho8, hb8⟩
    have D8 := Lib.hid hb8
    have O8 := Lib.hid ho8
    have z8 := hb8.size
    clear ho8 hb8
    go_wp2_with fail
    refine (KRI.out _).mono ?_
    rintro e w9 ⟨v9, rfl, ho9, hb9⟩
    have D9 := Lib.hid (D8.out.trans (hb9.mono z8))
    have O89 := Lib.hid (O8.out.below hb9 (Nat.le_refl _))
    have S9 := Lib.hid ho9.seq
    have z9 := hb9.size
    clear ho9 hb9
    go_wp2_with (at_builtin; refine wpList_append_seq rfl (.tmp 60) (.tmp 62) rfl w7.heap.size rfl O89.out rfl S9.out (by omega) (by omega) ?_)
    intro v10 w10 ho10 hg10 _
    have D10 := Lib.hid (D9.out.grown hg10 (by omega) (fun k hk => (O89.out.lt k hk).1))
    rw [E2.out] at ho10
    have S10 := Lib.hid ho10.seq
    have C10 := Lib.hid (C7.out.trans (D10.out.mono z7))
    clear ho10 hg10
    go_wp2_with fail
    refine (same_yes (O7.out.seq.below D10.out) S10.out).mono ?_
    rintro e w11 ⟨rfl, j11, rfl⟩
    have C11 := Lib.hid (below_drewN C10.out j11)
    obtain ⟨w11, h11⟩ : ∃ w11, w11 = w10.drewN j11 := ⟨_, rfl⟩
    rw [← h11] at C11 ⊢
    clear h11 C6 C7 O7 z7 z6 D8 D9 D10 O8 O89 S9 S10 C10 z8 z9
    have z11 := C11.out.size
    go_wp2_with fail
    refine (KT.out _ _).mono ?_
    rintro e w12 ⟨rfl, rfl⟩
    go_wp2_with fail
    refine (KRT.out _).mono ?_
    rintro e w13 ⟨rfl, rfl⟩
    obtain ⟨w16, C16⟩ : ∃ w16, w16 = w11 ∧ Hid (Below w3.heap.size w3 w16) := ⟨_, rfl, C11⟩
    obtain ⟨rfl, C16⟩ := C16
    have hend := Owns.behind HL.out (M3.out.below C16.out (Nat.le_refl _))
    have HE := Lib.hid hend.1
    have hcell := hend.2
    unfold bv at hcell
    have B16 := Lib.hid (B3.out.trans (C16.out.mono z3))
    clear hend
    go_wp2_with fail
    refine (same_yes HE.out (HS.out.below B16.out)).mono ?_
    rintro e w17 ⟨rfl, j17, rfl⟩
    have B17 := Lib.hid (below_drewN B16.out j17)
    go_wp2_with fail
    go_ret
    exact ⟨rfl, B17.out⟩

set_option maxRecDepth 100000 in
set_option maxHeartbeats 8000000 in
theorem puts_ft (a0 : Option Addr) (len0 cap0 l : Nat) (xs : Bytes) (w : World) (hlc : len0 ≤ cap0) (c : (len0 ≤ 2000 ∧ len0 = l) ∨ (¬ len0 ≤ 2000 ∧ l = 2000)) (hm : xs.length = l) (hs : Seq w (.slice a0 l cap0) xs)
    (n : Int) (n1 : -9223372036854775808 ≤ n) (n2 : n ≤ 9223372036854775807) (hn : n < 0 ∨ 72057594037927935 < n) (m : Int) (m1 : -9223372036854775808 ≤ m) (m2 : m ≤ 9223372036854775807) (s : ByteArray) (h3 : s.size ≤ 65536) :
    Calls Try.prog 3 #[.slice a0 len0 cap0, .int .i64 n, .int .i64 m, .string s] w fun e w' => e = .returned (.bool true) ∧ Below w.heap.size w w' := by
  have hli : (len0 : Int) ≤ cap0 := by omega
  have KA := Lib.hid (awake_any w)
  have HS := Lib.hid hs
  have HL := Lib.hid hm
  have hx : xs.length ≤ 2000 := by omega
  have hi := iform_len m
  have KC : Hid (∀ (u : World) (v : Value), Seq u v xs → Calls Try.prog 8 #[v] u (Made u xs)) := Lib.hid (fun u v h => copy_any h (by omega))
  have KI : Hid (∀ (u : World) (v : Value), Seq u v xs → Calls Try.prog 12 #[v, .int .i64 m] u (Made u (xs ++ iform m))) := Lib.hid (fun u v h => putInt_any h (by omega) m m1 m2)
  have KRI : Hid (∀ (u : World), Calls Try.prog 13 #[.int .i64 m] u (Made u (iform m))) := Lib.hid (fun u => refInt_any m m1 m2 u)
  have HL1 : Hid ((xs ++ [77#8]).length = l + 1) := Lib.hid (by rw [List.length_append, hm]; rfl)
  have KN := Lib.hid (fun (u : World) (v : Value) => putNum_err v u n n1 n2 hn)
  have KRN := Lib.hid (fun (u : World) (v : Value) => refPutNum_err v n hn u)
  have ht : (tform s).length ≤ 65600 := by
    have := form_len8 s.size (by omega)
    unfold tform; rw [List.length_append, bs_len]; omega
  have KT : Hid (∀ (u : World) (v : Value), Seq u v xs → Calls Try.prog 14 #[v, .string s] u (MadeT u (xs ++ tform s))) := Lib.hid (fun u v h => putText_ok h (by omega) s h3)
  have KRT : Hid (∀ (u : World), Calls Try.prog 15 #[.string s] u (MadeT u (tform s))) := Lib.hid (fun u => refText_ok s u h3)
  generalize tform s = q3 at *
  have E3 : ∃ p3, Hid (xs ++ q3 = p3) := ⟨_, Lib.hid rfl⟩
  obtain ⟨p3, E3⟩ := E3
  rw [E3.out] at KT
  generalize iform m = q2 at *
  obtain ⟨p2, E2⟩ : ∃ p2, Hid (xs ++ q2 = p2) := ⟨_, Lib.hid rfl⟩
  rw [E2.out] at KI
  clear hs hm
  rcases c with ⟨hb, rfl⟩ | ⟨hb, rfl⟩
  all_goals
    go_enter Try.func3, Try.ntmps3
    go_wp2_with fail
    refine KA.out.mono ?_
    rintro e w1 ⟨rfl, hb1⟩
    have B1 := Lib.hid hb1
    clear hb1
    go_wp2_with fail
    refine (KC.out _ _ (HS.out.below B1.out)).mono ?_
    rintro e w2 ⟨v2, rfl, ho2, hb2⟩
    have B2 := Lib.hid (B1.out.trans (hb2.mono B1.out.size))
    have O2 := Lib.hid ho2
    have z12 := hb2.size
    have z1 := B1.out.size
    clear ho2 hb2
    go_wp2_with (at_builtin; refine wpList_append_seq rfl (.tmp 26) (.tmp 27) rfl w1.heap.size rfl (O2.out.alloc _) rfl (Seq.one _ _ 77#8 rfl) (by simp; omega) (by simp; omega) ?_)
    intro v3 w3 ho3 hg3 _
    have B3 := Lib.hid ((B2.out.alloc (by omega) _).grown hg3 (by simp; omega) (fun k hk => by have := (O2.out.lt k hk).1; omega))
    obtain ⟨g, c3, rfl, g1, g2, ho3⟩ := Owns.head ho3 HL1.out (by omega)
    have M3 := Lib.hid ho3
    have hm : maxLen = 9223372036854775807 := rfl
    rw [hm] at g2
    have z3 := B3.out.size
    have z13 := (O2.out.lt)
    clear ho3 hg3 hm z13
    go_wp2_with fail
    refine (KN.out _ _).mono ?_
    rintro e w4 ⟨rfl, rfl⟩
    go_wp2_with fail
    refine (KRN.out _ _).mono ?_
    rintro e w5 ⟨rfl, rfl⟩
    go_wp2_with fail
    refine (same_yes (Seq.nil w3) (Seq.nil w3)).mono ?_
    rintro e w6 ⟨rfl, j6, rfl⟩
    have C6 := Lib.hid (below_drewN (Below.refl w3.heap.size w3) j6)
    obtain ⟨w6, h6⟩ : ∃ w6, w6 = w3.drewN j6 := ⟨_, rfl⟩
    rw [← h6] at C6 ⊢
    clear h6
    have z6 := C6.out.size
    go_wp2_with fail
    refine (KI.out _ _ (Owns.behind HL.out (M3.out.below C6.out (Nat.le_refl _))).1).mono ?_
    rintro e w7 ⟨v7, rfl, ho7, hb7⟩
    have C7 := Lib.hid (C6.out.trans (hb7.mono z6))
    have O7 := Lib.hid ho7
    have z7 := C7.out.size
    clear ho7 hb7
    go_wp2_with fail
    refine (KC.out _ _ (HS.out.below (B3.out.trans (C7.out.mono z3)))).mono ?_
    rintro e w8 ⟨v8, rfl, ho8, hb8⟩
    have D8 := Lib.hid hb8
    have O8 := Lib.hid ho8
    have z8 := hb8.size
    clear ho8 hb8
    go_wp2_with fail
    refine (KRI.out _).mono ?_
    rintro e w9 ⟨v9, rfl, ho9, hb9⟩
    have D9 := Lib.hid (D8.out.trans (hb9.mono z8))
    have O89 := Lib.hid (O8.out.below hb9 (Nat.le_refl _))
    have S9 := Lib.hid ho9.seq
    have z9 := hb9.size
    clear ho9 hb9
    go_wp2_with (at_builtin; refine wpList_append_seq rfl (.tmp 60) (.tmp 62) rfl w7.heap.size rfl O89.out rfl S9.out (by omega) (by omega) ?_)
    intro v10 w10 ho10 hg10 _
    have D10 := Lib.hid (D9.out.grown hg10 (by omega) (fun k hk => (O89.out.lt k hk).1))
    rw [E2.out] at ho10
    have S10 := Lib.hid ho10.seq
    have C10 := Lib.hid (C7.out.trans (D10.out.mono z7))
    clear ho10 hg10
    go_wp2_with fail
    refine (same_yes (O7.out.seq.below D10.out) S10.out).mono ?_
    rintro e w11 ⟨rfl, j11, rfl⟩
    have C11 := Lib.hid (below_drewN C10.out j11)
    obtain ⟨w11, h11⟩ : ∃ w11, w11 = w10.drewN j11 := ⟨_, rfl⟩
    rw [← h11] at C11 ⊢
    clear h11 C6 C7 O7 z7 z6 D8 D9 D10 O8 O89 S9 S10 C10 z8 z9
    have z11 := C11.out.size
    go_wp2_with fail
    refine (KT.out _ _ (Owns.behind HL.out (M3.out.below C11.out (Nat.le_refl _))).1).mono ?_
    rintro e w12 ⟨v12, rfl, ho12, hb12⟩
    have C12 := Lib.hid (C11.out.trans (hb12.mono z11))
    have O12 := Lib.hid ho12
    have z12 := C12.out.size
    clear ho12 hb12
    go_wp2_with fail
    refine (KRT.out _).mono ?_
    rintro e w13 ⟨v13, rfl, ho13, hb13⟩
    have D13 := Lib.hid hb13
    have O13 := Lib.hid ho13
    have z13 := hb13.size
    clear ho13 hb13
    go_wp2_with fail
    refine (KC.out _ _ (HS.out.below (B3.out.trans ((C12.out.trans (D13.out.mono z12)).mono z3)))).mono ?_
    rintro e w14 ⟨v14, rfl, ho14, hb14⟩
    have D14 := Lib.hid (D13.out.trans (hb14.mono z13))
    have S13 := Lib.hid (O13.out.seq.below hb14)
    have O14 := Lib.hid ho14
    have z14 := hb14.size
    clear ho14 hb14
    go_wp2_with (at_builtin; refine wpList_append_want (by rfl) (.tmp 89) (.tmp 90) rfl w13.heap.size rfl O14.out rfl S13.out (by omega) (by omega) ?_)
    intro v15 w15 ho15 hg15 _
    have D15 := Lib.hid (D14.out.grown hg15 (by omega) (fun k hk => by have := (O14.out.lt k hk).1; omega))
    rw [E3.out] at ho15
    have S15 := Lib.hid ho15.seq
    have C15 := Lib.hid (C12.out.trans (D15.out.mono z12))
    clear ho15 hg15
    go_wp2_with fail
    refine (same_yes (O12.out.seq.below D15.out) S15.out).mono ?_
    rintro e w16 ⟨rfl, j16, rfl⟩
    have C16 := Lib.hid (below_drewN C15.out j16)
    obtain ⟨w16, h16⟩ : ∃ w16, w16 = w15.drewN j16 := ⟨_, rfl⟩
    rw [← h16] at C16 ⊢
    clear h16 C12 O12 D13 O13 D14 S13 O14 D15 S15 C15 z13 z14
    have hend := Owns.behind HL.out (M3.out.below C16.out (Nat.le_refl _))
    have HE := Lib.hid hend.1
    have hcell := hend.2
    unfold bv at hcell
    have B16 := Lib.hid (B3.out.trans (C16.out.mono z3))
    clear hend
    go_wp2_with fail
    refine (same_yes HE.out (HS.out.below B16.out)).mono ?_
    rintro e w17 ⟨rfl, j17, rfl⟩
    have B17 := Lib.hid (below_drewN B16.out j17)
    go_wp2_with fail
    go_ret
    exact ⟨rfl, B17.out⟩

set_option maxRecDepth 100000 in
set_option maxHeartbeats 8000000 in
theorem puts_ff (a0 : Option Addr) (len0 cap0 l : Nat) (xs : Bytes) (w : World) (hlc : len0 ≤ cap0) (c : (len0 ≤ 2000 ∧ len0 = l) ∨ (¬ len0 ≤ 2000 ∧ l = 2000)) (hm : xs.length = l) (hs : Seq w (.slice a0 l cap0) xs)
    (n : Int) (n1 : -9223372036854775808 ≤ n) (n2 : n ≤ 9223372036854775807) (hn : n < 0 ∨ 72057594037927935 < n) (m : Int) (m1 : -9223372036854775808 ≤ m) (m2 : m ≤ 9223372036854775807) (s : ByteArray) (h3 : 65536 < s.size) (h4 : s.size ≤ 70000) :
    Calls Try.prog 3 #[.slice a0 len0 cap0, .int .i64 n, .int .i64 m, .string s] w fun e w' => e = .returned (.bool true) ∧ Below w.heap.size w w' := by
  have hli : (len0 : Int) ≤ cap0 := by omega
  have KA := Lib.hid (awake_any w)
  have HS := Lib.hid hs
  have HL := Lib.hid hm
  have hx : xs.length ≤ 2000 := by omega
  have hi := iform_len m
  have KC : Hid (∀ (u : World) (v : Value), Seq u v xs → Calls Try.prog 8 #[v] u (Made u xs)) := Lib.hid (fun u v h => copy_any h (by omega))
  have KI : Hid (∀ (u : World) (v : Value), Seq u v xs → Calls Try.prog 12 #[v, .int .i64 m] u (Made u (xs ++ iform m))) := Lib.hid (fun u v h => putInt_any h (by omega) m m1 m2)
  have KRI : Hid (∀ (u : World), Calls Try.prog 13 #[.int .i64 m] u (Made u (iform m))) := Lib.hid (fun u => refInt_any m m1 m2 u)
  have HL1 : Hid ((xs ++ [77#8]).length = l + 1) := Lib.hid (by rw [List.length_append, hm]; rfl)
  have KN := Lib.hid (fun (u : World) (v : Value) => putNum_err v u n n1 n2 hn)
  have KRN := Lib.hid (fun (u : World) (v : Value) => refPutNum_err v n hn u)
  have KT := Lib.hid (fun (u : World) (v : Value) => putText_err v s u h3 (by omega))
  have KRT := Lib.hid (fun (u : World) => refText_err s u h3 (by omega))
  generalize iform m = q2 at *
  obtain ⟨p2, E2⟩ : ∃ p2, Hid (xs ++ q2 = p2) := ⟨_, Lib.hid rfl⟩
  rw [E2.out] at KI
  clear hs hm
  rcases c with ⟨hb, rfl⟩ | ⟨hb, rfl⟩
  all_goals
    go_enter Try.func3, Try.ntmps3
    go_wp2_with fail
    refine KA.out.mono ?_
    rintro e w1 ⟨rfl, hb1⟩
    have B1 := Lib.hid hb1
    clear hb1
    go_wp2_with fail
    refine (KC.out _ _ (HS.out.below B1.out)).mono ?_
    rintro e w2 ⟨v2, rfl, ho2, hb2⟩
    have B2 := Lib.hid (B1.out.trans (hb2.mono B1.out.size))
    have O2 := Lib.hid ho2
    have z12 := hb2.size
    have z1 := B1.out.size
    clear ho2 hb2
    go_wp2_with (at_builtin; refine wpList_append_seq rfl (.tmp 26) (.tmp 27) rfl w1.heap.size rfl (O2.out.alloc _) rfl (Seq.one _ _ 77#8 rfl) (by simp; omega) (by simp; omega) ?_)
    intro v3 w3 ho3 hg3 _
    have B3 := Lib.hid ((B2.out.alloc (by omega) _).grown hg3 (by simp; omega) (fun k hk => by have := (O2.out.lt k hk).1; omega))
    obtain ⟨g, c3, rfl, g1, g2, ho3⟩ := Owns.head ho3 HL1.out (by omega)
    have M3 := Lib.hid ho3
    have hm : maxLen = 9223372036854775807 := rfl
    rw [hm] at g2
    have z3 := B3.out.size
    have z13 := (O2.out.lt)
    clear ho3 hg3 hm z13
    go_wp2_with fail
    refine (KN.out _ _).mono ?_
    rintro e w4 ⟨rfl, rfl⟩
    go_wp2_with fail
    refine (KRN.out _ _).mono ?_
    rintro e w5 ⟨rfl, rfl⟩
    go_wp2_with fail
    refine (same_yes (Seq.nil w3) (Seq.nil w3)).mono ?_
    rintro e w6 ⟨rfl, j6, rfl⟩
    have C6 := Lib.hid (below_drewN (Below.refl w3.heap.size w3) j6)
    obtain ⟨w6, h6⟩ : ∃ w6, w6 = w3.drewN j6 := ⟨_, rfl⟩
    rw [← h6] at C6 ⊢
    clear h6
    have z6 := C6.out.size
    go_wp2_with fail
    refine (KI.out _ _ (Owns.behind HL.out (M3.out.below C6.out (Nat.le_refl _))).1).mono ?_
    rintro e w7 ⟨v7, rfl, ho7, hb7⟩
    have C7 := Lib.hid (C6.out.trans (hb7.mono z6))
    have O7 := Lib.hid ho7
    have z7 := C7.out.size
    clear ho7 hb7
    go_wp2_with fail
    refine (KC.out _ _ (HS.out.below (B3.out.trans (C7.out.mono z3)))).mono ?_
    rintro e w8 ⟨v8, rfl, ho8, hb8⟩
    have D8 := Lib.hid hb8
    have O8 := Lib.hid ho8
    have z8 := hb8.size
    clear ho8 hb8
    go_wp2_with fail
    refine (KRI.out _).mono ?_
    rintro e w9 ⟨v9, rfl, ho9, hb9⟩
    have D9 := Lib.hid (D8.out.trans (hb9.mono z8))
    have O89 := Lib.hid (O8.out.below hb9 (Nat.le_refl _))
    have S9 := Lib.hid ho9.seq
    have z9 := hb9.size
    clear ho9 hb9
    go_wp2_with (at_builtin; refine wpList_append_seq rfl (.tmp 60) (.tmp 62) rfl w7.heap.size rfl O89.out rfl S9.out (by omega) (by omega) ?_)
    intro v10 w10 ho10 hg10 _
    have D10 := Lib.hid (D9.out.grown hg10 (by omega) (fun k hk => (O89.out.lt k hk).1))
    rw [E2.out] at ho10
    have S10 := Lib.hid ho10.seq
    have C10 := Lib.hid (C7.out.trans (D10.out.mono z7))
    clear ho10 hg10
    go_wp2_with fail
    refine (same_yes (O7.out.seq.below D10.out) S10.out).mono ?_
    rintro e w11 ⟨rfl, j11, rfl⟩
    have C11 := Lib.hid (below_drewN C10.out j11)
    obtain ⟨w11, h11⟩ : ∃ w11, w11 = w10.drewN j11 := ⟨_, rfl⟩
    rw [← h11] at C11 ⊢
    clear h11 C6 C7 O7 z7 z6 D8 D9 D10 O8 O89 S9 S10 C10 z8 z9
    have z11 := C11.out.size
    go_wp2_with fail
    refine (KT.out _ _).mono ?_
    rintro e w12 ⟨rfl, rfl⟩
    go_wp2_with fail
    refine (KRT.out _).mono ?_
    rintro e w13 ⟨rfl, rfl⟩
    obtain ⟨w16, C16⟩ : ∃ w16, w16 = w11 ∧ Hid (Below w3.heap.size w3 w16) := ⟨_, rfl, C11⟩
    obtain ⟨rfl, C16⟩ := C16
    have hend := Owns.behind HL.out (M3.out.below C16.out (Nat.le_refl _))
    have HE := Lib.hid hend.1
    have hcell := hend.2
    unfold bv at hcell
    have B16 := Lib.hid (B3.out.trans (C16.out.mono z3))
    clear hend
    go_wp2_with fail
    refine (same_yes HE.out (HS.out.below B16.out)).mono ?_
    rintro e w17 ⟨rfl, j17, rfl⟩
    have B17 := Lib.hid (below_drewN B16.out j17)
    go_wp2_with fail
    go_ret
    exact ⟨rfl, B17.out⟩

set_option maxRecDepth 100000 in
set_option maxHeartbeats 2000000 in
theorem puts_long (n m : Int) (s : ByteArray) (h3 : 70000 < s.size) (hs : s.size ≤ 9223372036854775807)
    (a0 : Option Addr) (len0 cap0 l : Nat) (w : World) (hlc : len0 ≤ cap0) (c : (len0 ≤ 2000 ∧ len0 = l) ∨ (¬ len0 ≤ 2000 ∧ l = 2000)) :
    Calls Try.prog 3 #[.slice a0 len0 cap0, .int .i64 n, .int .i64 m, .string s] w fun e w' => e = .returned (.bool true) ∧ Below w.heap.size w w' := by
  have hli : (len0 : Int) ≤ cap0 := by omega
  have KA := Lib.hid (awake_any w)
  rcases c with ⟨hb, rfl⟩ | ⟨hb, rfl⟩
  all_goals
    go_enter Try.func3, Try.ntmps3
    go_wp2_with fail
    refine KA.out.mono ?_
    rintro e w1 ⟨rfl, hb1⟩
    have B1 := Lib.hid hb1
    clear hb1
    go_wp2_with fail
    go_ret
    exact ⟨rfl, B1.out⟩

theorem walk (a0 : Option Addr) (len0 cap0 : Nat) (z0 : List Int) (a1 : Int) (a2 : Int) (a3 : ByteArray) (w : World) (w0 : IsRow .u8 w a0 len0 cap0 z0) (w1 : (Lit.int .i64 a1).wf = true) (w2 : (Lit.int .i64 a2).wf = true) (w3 : a3.size ≤ maxLen) :
    Calls Try.prog 3 #[.slice a0 len0 cap0, .int .i64 a1, .int .i64 a2, .string a3] w fun e w' => e = .returned (.bool true) ∧ Below w.heap.size w w' := by
  obtain ⟨n1, n2⟩ := i64_in w1
  obtain ⟨m1, m2⟩ := i64_in w2
  obtain ⟨xs, l, c, hm, hs, hl, hlc⟩ := row_cut w0 2000
  by_cases h7 : a3.size ≤ 70000
  · by_cases hn : 0 ≤ a1 ∧ a1 ≤ 72057594037927935
    · obtain ⟨n, rfl⟩ := Int.eq_ofNat_of_zero_le hn.1
      by_cases h3 : a3.size ≤ 65536
      · exact puts_tt a0 len0 cap0 l xs w hlc c hm hs n (by omega) a2 m1 m2 a3 h3
      · exact puts_tf a0 len0 cap0 l xs w hlc c hm hs n (by omega) a2 m1 m2 a3 (by omega) h7
    · by_cases h3 : a3.size ≤ 65536
      · exact puts_ft a0 len0 cap0 l xs w hlc c hm hs a1 n1 n2 (out_of a1 hn) a2 m1 m2 a3 h3
      · exact puts_ff a0 len0 cap0 l xs w hlc c hm hs a1 n1 n2 (out_of a1 hn) a2 m1 m2 a3 (by omega) h7
  · exact puts_long a1 a2 a3 (by omega) (by unfold maxLen at w3; exact w3) a0 len0 cap0 l w hlc c

set_option maxRecDepth 100000 in
theorem lifted (os : Os) (started : os.Started) (H : Type) (enc : TypeId × Value → H) :
    ReturnsInHanded {} Try.checked os 3 .any (Rows.binPutsSpec.pre6 enc Try.prog Try.f3 Rows.binPutsRow.domain false) (Rows.binPutsSpec.post enc Try.prog Try.f3 false true false false) := by
  refine returnsInHanded_of_change (C := Try.checked) own started (by kernel_rfl) Try.func3
    (ChangeSpec.witness6 (enc := enc) (C := Try.checked) false ⟨#[], #[.slice none 0 0, .int .i64 0, .int .i64 0, .string ByteArray.empty], []⟩ 8 (by kernel_rfl) (by kernel_rfl) (by kernel_rfl) (by kernel_rfl)) ?_
  intro W base args ds gs before hval0 hW hcnd _
  have hval : ∀ (j : Nat) t v, Try.f3.params[j]? = some t → args[j]? = some v → Value.okWide Try.prog W .any base t v := hval0
  have hW' := hW
  obtain ⟨p, q, hA0, hV, rfl, hfz, hnd⟩ := hW
  have hA : DataW.TrodAll enc Try.prog W 0 (fun _ => true) true Try.f3.params.toList args.toList ds p := hA0
  rw [Try.params3] at hA hval
  obtain ⟨v0, vs0, d0, ds0, p0, q0, hargs, rfl, rfl, h0, r0⟩ := trodAll_cons hA
  obtain ⟨v1, vs1, d1, ds1, p1, q1, rfl, rfl, rfl, h1, r1⟩ := trodAll_cons r0
  obtain ⟨v2, vs2, d2, ds2, p2, q2, rfl, rfl, rfl, h2, r2⟩ := trodAll_cons r1
  obtain ⟨v3, vs3, d3, ds3, p3, q3, rfl, rfl, rfl, h3, r3⟩ := trodAll_cons r2
  obtain ⟨rfl, rfl, rfl⟩ := trodAll_nil r3
  obtain rfl : args = #[v0, v1, v2, v3] := by cases args; simp_all
  obtain ⟨rfl, rfl⟩ := trodVars_none hV
  obtain ⟨a0, len0, cap0, rfl⟩ := okWide_slice Try.underlying22 (hval 0 22 v0 rfl rfl)
  have k0 := h0
  have lt0 : ∀ x ∈ p0, x.block < W.heap.size := by obtain ⟨m, hm⟩ := k0; exact DataW.trod_lt m _ _ _ hm
  obtain ⟨z0, w0⟩ : ∃ zs, IsRow .u8 W a0 len0 cap0 zs := by
    obtain ⟨fuel, hf⟩ := h0
    rcases open_ints Try.underlying22 Try.underlying5 (by kernel_rfl) hf with ⟨hcs, _⟩ | ⟨x, l, c, zs, hcs, _, hl, hm, hz, _, hcell, hwz⟩
    · simp [Value.cells] at hcs
      obtain ⟨rfl, rfl, rfl⟩ := hcs
      exact ⟨[], .inl ⟨rfl, rfl, rfl, rfl⟩⟩
    · simp [Value.cells] at hcs
      obtain ⟨rfl, rfl, rfl⟩ := hcs
      exact ⟨zs, .inr ⟨_, rfl, hl, hm, by simpa using hz, hcell, hwz⟩⟩
  obtain ⟨a1, rfl, rfl, rfl, w1⟩ := open_int Try.underlying3 (hval 1 3 v1 rfl rfl) h1
  obtain ⟨a2, rfl, rfl, rfl, w2⟩ := open_int Try.underlying2 (hval 2 2 v2 rfl rfl) h2
  obtain ⟨a3, rfl, rfl, rfl, w3⟩ := open_string Try.underlying9 (hval 3 9 v3 rfl rfl) h3
  clear hA0 hval0
  refine (walk a0 len0 cap0 z0 a1 a2 a3 W w0 w1 w2 w3).mono fun e W' ⟨he, bel⟩ => ?_
  subst he
  exact ⟨_, rfl, _, _, _, [], _, [], hW', trodAll_mk1 (shut_bool Try.underlying4 _), (trodAll_cons_mk (Below.trod laidOut (by kernel_rfl) (of_decide_eq_true (by kernel_rfl)) k0 bel lt0) (trodAll_cons_mk (shut_int Try.underlying3 w1) (trodAll_cons_mk (shut_int Try.underlying2 w2) (trodAll_cons_mk (shut_string Try.underlying9 w3) trodAll_mk0)))), rfl, bel.frame _, fun h => by cases h⟩

theorem over : Rows.binPutsRow.holds Try.pinned (OpenSpec.ofChange Rows.binPutsSpec) :=
  OpenClaim.holds_of_wide 3 Try.f3 rfl rfl rfl rfl rfl rfl rfl ⟨rfl, rfl, rfl, rfl, rfl⟩ rfl rfl rfl rfl rfl (by kernel_rfl) Try.func3 (by kernel_rfl)
    (of_decide_eq_true (by kernel_rfl)) (by unfold Func.isWrapper; first | (rw [if_pos (by decide +kernel)]; kernel_rfl) | (rw [if_neg (by decide +kernel)]; exact ⟨rfl, rfl⟩))
    (fun os started H enc _ => lifted os started H enc)

/-- the given statement -/
theorem proved : Rows.BinPutsSaid := over
#print axioms proved
end Go.Proofs.Ytbfhhlbnhcngfaa.binPuts
