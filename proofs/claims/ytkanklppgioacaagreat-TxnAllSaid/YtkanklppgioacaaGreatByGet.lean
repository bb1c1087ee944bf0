/- What the program's own Num, Int and Text of package bin leave, each error by its number: what the codec reads. -/
import Derived.Test.YtkanklppgioacaaGreatByBins
import Derived.Test.YtkanklppgioacaaGreatBCodes
import Derived.Test.YtkanklppgioacaaGreatTWords
namespace Go.Proofs.YtkanklppgioacaaGreat.By
open Go.RowKit Plain
set_option linter.unusedVariables false

/-- what a reader answers: the thing, what stands behind it, no error; or a zero, nothing, the error -/
def GetT {α : Type} (val : α → Value) (zero : Value) (w : World) (res : Res α) (e : Ending) (w' : World) : Prop := match res with
 | .ok a r => ReadT (val a) w r e w'
 | .err k => e = .returned (.tuple #[zero, .slice none 0 0, .int .i64 k]) ∧ w = w'
set_option maxRecDepth 100000 in
set_option maxHeartbeats 1000000 in
theorem num_err2 {v : Value} {xs : Bytes} {w : World} (hs : Seq w v xs) (hr : read xs = (0, 0, 2)) : Calls Tryz.prog 94 #[v] w fun e w' => e = .returned (.tuple #[.int .i64 0, .slice none 0 0, .int .i64 2]) ∧ w = w' := by
 have K1 := Lib.hid (readNum_seq hs)
 unfold RdT at K1
 rw [hr] at K1
 clear hs hr
 go_enter Tryz.func94, Tryz.ntmps94
 go_wp2_with fail
 refine K1.out.mono ?_
 rintro e w1 ⟨rfl, rfl⟩
 go_wp2_with fail
 go_ret3
 exact ⟨rfl, rfl⟩
set_option maxRecDepth 100000 in
set_option maxHeartbeats 1000000 in
theorem num_err3 {v : Value} {xs : Bytes} {w : World} (hs : Seq w v xs) (hr : read xs = (0, 0, 3)) : Calls Tryz.prog 94 #[v] w fun e w' => e = .returned (.tuple #[.int .i64 0, .slice none 0 0, .int .i64 3]) ∧ w = w' := by
 have K1 := Lib.hid (readNum_seq hs)
 unfold RdT at K1
 rw [hr] at K1
 clear hs hr
 go_enter Tryz.func94, Tryz.ntmps94
 go_wp2_with fail
 refine K1.out.mono ?_
 rintro e w1 ⟨rfl, rfl⟩
 go_wp2_with fail
 go_ret3
 exact ⟨rfl, rfl⟩
/-- Num -/
theorem num_get {v : Value} {xs : Bytes} {w : World} (hs : Seq w v xs) (hlen : xs.length ≤ 1000000) : Calls Tryz.prog 94 #[v] w (GetT (fun n : Nat => .int .i64 n) (.int .i64 0) w (numC.get xs)) := by
 show Calls _ _ _ _ (GetT (fun n : Nat => .int .i64 n) (.int .i64 0) w (getNum xs))
 rcases read_cases xs with ⟨n, s, h⟩ | h | h
 ·rw [getNum_ok h]; exact num_ok hs hlen h
 ·rw [getNum_err h (by decide)]; exact num_err2 hs h
 ·rw [getNum_err h (by decide)]; exact num_err3 hs h
set_option maxRecDepth 100000 in
set_option maxHeartbeats 1000000 in
theorem int_err {v : Value} {xs : Bytes} {w : World} (hs : Seq w v xs) (h8 : xs.length < 8) : Calls Tryz.prog 137 #[v] w fun e w' => e = .returned (.tuple #[.int .i64 0, .slice none 0 0, .int .i64 3]) ∧ w = w' := by
 obtain ⟨a, cap, rfl, -⟩ := hs.parts
 generalize xs.length = n at *
 clear hs
 go_enter Tryz.func137, Tryz.ntmps137
 go_wp2_with fail
 go_ret3
 exact ⟨rfl, rfl⟩
/-- Int -/
theorem int_get {v : Value} {xs : Bytes} {w : World} (hs : Seq w v xs) (hlen : xs.length ≤ 1000000) : Calls Tryz.prog 137 #[v] w (GetT (fun n : Int => .int .i64 n) (.int .i64 0) w (intC.get xs)) := by
 show Calls _ _ _ _ (GetT (fun n : Int => .int .i64 n) (.int .i64 0) w (getInt64 xs))
 unfold getInt64
 by_cases h : xs.length < 8
 ·rw [if_pos h]; exact int_err hs h
 ·rw [if_neg h]; exact int_ok hs hlen (by omega)
set_option maxRecDepth 100000 in
set_option maxHeartbeats 2000000 in
theorem text_errK {v : Value} {xs : Bytes} {w : World} (hs : Seq w v xs) (n s : Nat) (k : Int) (hr : (read xs = (n, s, 0) ∧ ((65536 < n ∧ k = 4) ∨ (n ≤ 65536 ∧ xs.length - s < n ∧ k = 3))) ∨ (read xs = (0, 0, 2) ∧ k = 2) ∨ (read xs = (0, 0, 3) ∧ k = 3)) :
  Calls Tryz.prog 135 #[v] w fun e w' => e = .returned (.tuple #[.string ⟨#[]⟩, .slice none 0 0, .int .i64 k]) ∧ w = w' := by
 have K1 := Lib.hid (readNum_seq hs)
 obtain ⟨a, cap, rfl, g1, g2, g0, -⟩ := hs.parts
 have hm : maxLen = 9223372036854775807 := rfl
 rw [hm] at g2
 rcases hr with ⟨hr1, hn⟩ | ⟨hr1, rfl⟩ | ⟨hr1, rfl⟩
 ·obtain ⟨-, h1, h2, h3, h4⟩ := read_back hr1
  rw [hr1] at K1
  unfold RdT at K1
  rcases hn with ⟨hn, rfl⟩ | ⟨hn, hnl, rfl⟩
  ·have hni : (n : Int) ≤ 72057594037927936 := by omega
   clear hs hr1 hm g0
   go_enter Tryz.func135, Tryz.ntmps135
   go_wp2_with fail
   refine K1.out.mono ?_
   rintro e w1 ⟨rfl, rfl⟩
   go_wp2_with fail
   go_ret3
   exact ⟨rfl, rfl⟩
  ·clear hs hr1 hm g0
   go_enter Tryz.func135, Tryz.ntmps135
   go_wp2_with fail
   refine K1.out.mono ?_
   rintro e w1 ⟨rfl, rfl⟩
   go_wp2_with fail
   go_ret3
   exact ⟨rfl, rfl⟩
 ·rw [hr1] at K1
  unfold RdT at K1
  clear hs hr1 hm g0
  go_enter Tryz.func135, Tryz.ntmps135
  go_wp2_with fail
  refine K1.out.mono ?_
  rintro e w1 ⟨rfl, rfl⟩
  go_wp2_with fail
  go_ret3
  exact ⟨rfl, rfl⟩
 ·rw [hr1] at K1
  unfold RdT at K1
  clear hs hr1 hm g0
  go_enter Tryz.func135, Tryz.ntmps135
  go_wp2_with fail
  refine K1.out.mono ?_
  rintro e w1 ⟨rfl, rfl⟩
  go_wp2_with fail
  go_ret3
  exact ⟨rfl, rfl⟩
/-- Text -/
theorem text_get {v : Value} {xs : Bytes} {w : World} (hs : Seq w v xs) (hlen : xs.length ≤ 1000000) : Calls Tryz.prog 135 #[v] w (GetT (fun t : Txt => .string (bt t)) (.string ⟨#[]⟩) w (textC.get xs)) := by
 show Calls _ _ _ _ (GetT (fun t : Txt => .string (bt t)) (.string ⟨#[]⟩) w (getText xs))
 unfold getText
 rcases read_cases xs with ⟨n, s, h⟩ | h | h
 ·rw [getNum_ok h]
  show Calls _ _ _ _ (GetT _ _ w (if 65536 < n then Res.err 4 else if (xs.drop s).length < n then .err 3 else .ok (tsb ((xs.drop s).take n)) ((xs.drop s).drop n)))
  rw [List.length_drop]
  by_cases h1 : 65536 < n
  ·rw [if_pos h1]; exact text_errK hs n s 4 (.inl ⟨h, .inl ⟨h1, rfl⟩⟩)
  ·rw [if_neg h1]
   by_cases h2 : xs.length - s < n
   ·rw [if_pos h2]; exact text_errK hs n s 3 (.inl ⟨h, .inr ⟨by omega, h2, rfl⟩⟩)
   ·rw [if_neg h2, List.drop_drop]
    exact text_ok hs hlen h (by omega) (by omega)
 ·rw [getNum_err h (by decide)]; exact text_errK hs 0 0 2 (.inr (.inl ⟨h, rfl⟩))
 ·rw [getNum_err h (by decide)]; exact text_errK hs 0 0 3 (.inr (.inr ⟨h, rfl⟩))
end Go.Proofs.YtkanklppgioacaaGreat.By
