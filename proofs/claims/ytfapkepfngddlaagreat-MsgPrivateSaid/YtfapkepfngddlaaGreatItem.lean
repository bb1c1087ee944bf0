/- WORDS FOR TEXTS: slices that read as a list of texts (nil, empty, cut), slices of the call's own, append, make. (Turned out of words/XWords, XMore, XMake.) What the program's own Num, Int and Text of package bin leave, each error by its number: what the codec reads. -/
import Derived.Test.YtfapkepfngddlaaGreatEls
import Derived.Test.YtfapkepfngddlaaGreatMaths
import Derived.Laws.Cover1
import Derived.Sort.Walk0
import Derived.Deep.OwnRows
import Derived.OwnWalk
import Derived.Test.YtfapkepfngddlaaGreatByBins
import Derived.Test.YtfapkepfngddlaaGreatBCodes
import Derived.Lib.SmallJoins
import Derived.OpenShut
import Derived.Deep.Slices
import Derived.Deep.Strs
namespace Go.Proofs.YtfapkepfngddlaaGreat
open Go.RowKit Plain
set_option linter.unusedVariables false

def bt (t : Txt) : ByteArray := ⟨t.toArray⟩
def tx (s : ByteArray) : Txt := s.data.toList
theorem bt_tx (s : ByteArray) : bt (tx s) = s := rfl
theorem bt_size (t : Txt) : (bt t).size = t.length := rfl
def tv (t : Txt) : Value := .string (bt t)
def SeqT (w : World) (v : Value) (xs : List Txt) : Prop :=
 ∃ a cap, v = .slice a xs.length cap ∧ xs.length ≤ cap ∧ cap ≤ maxLen ∧ (a = none → cap = 0) ∧
  (0 < xs.length → ∃ b off, a = some ⟨b, off, none⟩ ∧ ∀ j, j < xs.length → w.cell? ⟨b, off + j, none⟩ = some (tv (xs.getD j [])))
theorem SeqT.nil (w : World) : SeqT w (.slice none 0 0) [] := ⟨none, 0, rfl, Nat.zero_le _, Nat.zero_le _, fun _ => rfl, fun h => absurd h (by simp)⟩
theorem SeqT.empty (w : World) (a : Addr) (cap : Nat) (h : cap ≤ maxLen) : SeqT w (.slice (some a) 0 cap) [] := ⟨some a, cap, rfl, Nat.zero_le _, h, (by simp), fun h => absurd h (by simp)⟩
theorem SeqT.of_cell {w w' : World} {v : Value} {xs : List Txt} (h : SeqT w v xs) (hc : ∀ a, w'.cell? a = w.cell? a) : SeqT w' v xs := by
 obtain ⟨a, cap, rfl, h1, h2, h0, h3⟩ := h
 refine ⟨a, cap, rfl, h1, h2, h0, fun hp => ?_⟩
 obtain ⟨b, off, rfl, g⟩ := h3 hp
 exact ⟨b, off, rfl, fun j hj => (hc _).trans (g j hj)⟩
theorem SeqT.below' {N : Nat} {w w' : World} {v : Value} {xs : List Txt} (h : SeqT w v xs) (hb : Below N w w') (hN : w.heap.size ≤ N) : SeqT w' v xs := by
 obtain ⟨a, cap, rfl, h1, h2, h0, h3⟩ := h
 refine ⟨a, cap, rfl, h1, h2, h0, fun hp => ?_⟩
 obtain ⟨b, off, rfl, hc⟩ := h3 hp
 refine ⟨b, off, rfl, fun j hj => ?_⟩
 have hlt : b < w.heap.size := World.block_lt_of_cell? w ⟨b, off + j, none⟩ (hc j hj)
 exact (hb.cell (p := ⟨b, off + j, none⟩) (show b < N by omega)).trans (hc j hj)
theorem SeqT.below {w w' : World} {v : Value} {xs : List Txt} (h : SeqT w v xs) (hb : Below w.heap.size w w') : SeqT w' v xs := SeqT.below' h hb (Nat.le_refl _)
theorem SeqT.below_alloc {w : World} {v : Value} {xs : List Txt} (h : SeqT w v xs) (o : Obj) : SeqT (w.alloc o) v xs := h.below ((Below.refl _ _).alloc (Nat.le_refl _) _)
theorem SeqT.parts {w : World} {v : Value} {xs : List Txt} (h : SeqT w v xs) : ∃ a cap, v = .slice a xs.length cap ∧ xs.length ≤ cap ∧ cap ≤ maxLen ∧ (a = none → cap = 0) ∧ SeqT w (.slice a xs.length cap) xs := by
 have h' := h
 obtain ⟨a, cap, rfl, h1, h2, h0, h3⟩ := h
 exact ⟨a, cap, rfl, h1, h2, h0, h'⟩
theorem SeqT.spot {w : World} {v : Value} {xs : List Txt} (h : SeqT w v xs) (hp : 0 < xs.length) : ∃ b o cap, v = .slice (some ⟨b, o, none⟩) xs.length cap ∧ xs.length ≤ cap ∧ cap ≤ maxLen ∧ SeqT w (.slice (some ⟨b, o, none⟩) xs.length cap) xs ∧ ∀ j, j < xs.length → w.cell? ⟨b, o + j, none⟩ = some (tv (xs.getD j [])) := by
 have h' := h
 obtain ⟨a, cap, rfl, h1, h2, h0, h3⟩ := h
 obtain ⟨b, o, rfl, hc⟩ := h3 hp
 exact ⟨b, o, cap, rfl, h1, h2, h', hc⟩
theorem SeqT.first {w : World} {a : Option Addr} {n cap : Nat} {xs : List Txt} (h : SeqT w (.slice a n cap) xs) (k : Nat) (hk : k ≤ xs.length) : SeqT w (.slice a k cap) (xs.take k) := by
 obtain ⟨a', cap', hv, h1, h2, h0, h3⟩ := h
 simp only [Value.slice.injEq] at hv
 obtain ⟨rfl, rfl, rfl⟩ := hv
 have hl : (xs.take k).length = k := by rw [List.length_take]; omega
 refine ⟨a, cap, by rw [hl], by omega, h2, h0, fun hp => ?_⟩
 obtain ⟨b, off, rfl, hc⟩ := h3 (by omega)
 refine ⟨b, off, rfl, fun j hj => ?_⟩
 rw [hc j (by omega)]
 simp [List.getD, show j < k by omega]
def OwnsT (B : Nat) (w : World) (v : Value) (xs : List Txt) : Prop := w.ownsRow B 9 1 v xs.length (xs.map tv)
theorem OwnsT.nil (B : Nat) (w : World) : OwnsT B w (.slice none 0 0) [] := World.ownsRow_nil _ _ _ _
theorem getD_mapT (xs : List Txt) (j : Nat) (hj : j < xs.length) : (xs.map tv)[j]? = some (tv (xs.getD j [])) := by
 simp [List.getD, List.getElem?_eq_getElem hj]
theorem OwnsT.seq {B : Nat} {w : World} {v : Value} {xs : List Txt} (h : OwnsT B w v xs) : SeqT w v xs := by
 have h' := h
 rcases h.2 with ⟨rfl, hn⟩ | ⟨g, cap, cur, rfl, hb, hg, hnc, hcm, hcs, htake⟩
 ·obtain rfl : xs = [] := List.eq_nil_of_length_eq_zero hn
  exact SeqT.nil w
 ·refine ⟨_, cap, rfl, hnc, hcm, (by simp), fun hp => ⟨g, 0, rfl, fun j hj => ?_⟩⟩
  have := World.ownsRow.cellAt h' j (by omega)
  rw [Nat.zero_add, this, getD_mapT xs j hj]
theorem OwnsT.parts {B : Nat} {w : World} {v : Value} {xs : List Txt} (h : OwnsT B w v xs) : ∃ a cap, v = .slice a xs.length cap ∧ xs.length ≤ cap ∧ cap ≤ maxLen ∧ OwnsT B w (.slice a xs.length cap) xs ∧ (a = none → cap = 0) := by
 obtain ⟨a, cap, rfl, h1, h2, h0, hs⟩ := h.seq.parts
 exact ⟨a, cap, rfl, h1, h2, h, h0⟩
theorem OwnsT.lt {B : Nat} {w : World} {v : Value} {xs : List Txt} (h : OwnsT B w v xs) : ∀ k, v.ownBlock = some k → B ≤ k ∧ k < w.heap.size := World.ownsRow.lt h
theorem OwnsT.alloc {B : Nat} {w : World} {v : Value} {xs : List Txt} (h : OwnsT B w v xs) (o : Obj) : OwnsT B (w.alloc o) v xs := World.ownsRow.alloc h o
theorem OwnsT.mono {B C : Nat} {w : World} {v : Value} {xs : List Txt} (h : OwnsT B w v xs) (hc : C ≤ B) : OwnsT C w v xs := by
 refine ⟨h.1, ?_⟩
 rcases h.2 with hn | ⟨g, cap, cur, hv, hb, hg⟩
 ·exact .inl hn
 ·exact .inr ⟨g, cap, cur, hv, by omega, hg⟩
theorem OwnsT.below {B N : Nat} {w w' : World} {v : Value} {xs : List Txt} (h : OwnsT B w v xs) (hb : Below N w w') (hN : w.heap.size ≤ N) : OwnsT B w' v xs := by
 refine ⟨h.1, ?_⟩
 rcases h.2 with hn | ⟨g, cap, cur, hv, hb', hg, hr⟩
 ·exact .inl hn
 ·have hlt : g < w.heap.size := (Array.getElem?_eq_some_iff.1 hg).1
  exact .inr ⟨g, cap, cur, hv, hb', (hb.block g (by omega)).trans hg, hr⟩
theorem OwnsT.empty (w : World) (B : Nat) (hB : B ≤ w.heap.size) : OwnsT B (w.alloc (.cells #[] 9)) (.slice (some ⟨w.heap.size, 0, none⟩) 0 0) [] :=
 World.ownsRow_lit w #[] 0 hB (Nat.zero_le _) rfl
theorem OwnsT.one (w : World) (B : Nat) (x : Txt) (hB : B ≤ w.heap.size) : OwnsT B (w.alloc (.cells #[tv x] 9)) (.slice (some ⟨w.heap.size, 0, none⟩) 1 1) [x] :=
 World.ownsRow_lit w #[tv x] 1 hB (by unfold maxLen; omega) rfl
theorem SeqT.one (w : World) (x : Txt) : SeqT (w.alloc (.cells #[tv x] 9)) (.slice (some ⟨w.heap.size, 0, none⟩) 1 1) [x] :=
 (OwnsT.one w w.heap.size x (Nat.le_refl _)).seq
def MadeT (w : World) (xs : List Txt) (e : Ending) (w' : World) : Prop := ∃ v, e = .returned v ∧ OwnsT w.heap.size w' v xs ∧ Below w.heap.size w w'
theorem SeqT.dims {w : World} {a : Option Addr} {n cap : Nat} {xs : List Txt} (h : SeqT w (.slice a n cap) xs) : xs.length = n ∧ n ≤ cap ∧ cap ≤ 9223372036854775807 := by
 obtain ⟨a', cap', hv, h1, h2, -, -⟩ := h
 simp only [Value.slice.injEq] at hv
 obtain ⟨rfl, rfl, rfl⟩ := hv
 exact ⟨rfl, h1, h2⟩
theorem OwnsT.cell {B : Nat} {w : World} {g n cap : Nat} {xs : List Txt} (h : OwnsT B w (.slice (some ⟨g, 0, none⟩) n cap) xs) (j : Nat) (hj : j < xs.length) : w.cell? ⟨g, j, none⟩ = some (tv (xs.getD j [])) := by
 have hn := h.seq.dims.1
 have h' : w.ownsRow B 9 1 (.slice (some ⟨g, 0, none⟩) n cap) n (xs.map tv) := by rw [← hn]; unfold OwnsT at h; rw [← hn] at h; exact h
 rw [World.ownsRow.cellAt h' j (by omega), getD_mapT xs j hj]
theorem OwnsT.at {B : Nat} {w : World} {v : Value} {xs : List Txt} (h : OwnsT B w v xs) (n : Nat) (hn : xs.length = n) : ∃ a cap, v = .slice a n cap ∧ (n : Int) ≤ cap ∧ (cap : Int) ≤ 9223372036854775807 ∧ OwnsT B w (.slice a n cap) xs := by
 subst hn
 obtain ⟨a, cap, rfl, h1, h2, h3, -⟩ := h.parts
 have hm : maxLen = 9223372036854775807 := rfl
 exact ⟨a, cap, rfl, by omega, by omega, h3⟩
theorem map_setT (xs : List Txt) (k : Nat) (c : Txt) : (xs.set k c).map tv = (xs.map tv).set k (tv c) := by
 simp [List.map_set]
theorem OwnsT.set {B : Nat} {w : World} {g n cap : Nat} {xs : List Txt} (h : OwnsT B w (.slice (some ⟨g, 0, none⟩) n cap) xs) (j : Nat) (x : Txt) : OwnsT B (w.setCell ⟨g, j, none⟩ (tv x)) (.slice (some ⟨g, 0, none⟩) n cap) (xs.set j x) := by
 have hn := h.seq.dims.1
 have h' : w.ownsRow B 9 1 (.slice (some ⟨g, 0, none⟩) n cap) n (xs.map tv) := by rw [← hn]; unfold OwnsT at h; rw [← hn] at h; exact h
 have hs := (World.ownsRow.stored h' j (tv x)).1
 rw [← map_setT] at hs
 unfold OwnsT
 rw [List.length_set, hn]
 exact hs
theorem OwnsT.block {B : Nat} {w : World} {g n cap : Nat} {xs : List Txt} (h : OwnsT B w (.slice (some ⟨g, 0, none⟩) n cap) xs) : B ≤ g ∧ g < w.heap.size := h.lt g rfl

theorem index_run (s : Txt) (k : Nat) (hk : k < s.length) (w : World) : (Instr.index 9 (.string (bt s)) (.int .i64 (k : Int))).run Tryz.prog w = .ok (.int .u8 ((s.getD k 0).toNat : Int)) w := by
 rw [run_index_string w _ _ _ _ Tryz.underlying9]
 have hs := bt_size s
 rw [dif_pos (by omega)]
 congr 2
 show (((bt s).data[((k : Int)).toNat]'(by simp [bt]; omega)).toNat : Int) = _
 simp [bt, List.getD, List.getElem?_eq_getElem hk]
theorem toList_bt (s : Txt) : (bt s).toList = s := by
 rw [ByteArray.toList_eq]
 rfl
theorem text_eq (s t : Txt) : ((bt s).toList == (bt t).toList) = decide (s = t) := by rw [toList_bt, toList_bt]; by_cases h : s = t <;> simp [h]
theorem text_lt (s t : Txt) : Op.bytesLess (bt s).toList (bt t).toList = decide (s < t) := by rw [toList_bt, toList_bt]; exact bytesLess_eq s t

end Go.Proofs.YtfapkepfngddlaaGreat
namespace Go.Proofs.YtfapkepfngddlaaGreat.By
open Go.RowKit Plain
set_option linter.unusedVariables false

def GetT {α : Type} (val : α → Value) (zero : Value) (w : World) (res : Res α) (e : Ending) (w' : World) : Prop := match res with
 | .ok a r => ReadT (val a) w r e w'
 | .err k => e = .returned (.tuple #[zero, .slice none 0 0, .int .i64 k]) ∧ w = w'
set_option maxRecDepth 100000 in
set_option maxHeartbeats 1000000 in
theorem num_err2 {v : Value} {xs : Bytes} {w : World} (hs : Seq w v xs) (hr : read xs = (0, 0, 2)) : Calls Tryz.prog 140 #[v] w fun e w' => e = .returned (.tuple #[.int .i64 0, .slice none 0 0, .int .i64 2]) ∧ w = w' := by
 have K1 := Lib.hid (readNum_seq hs)
 unfold RdT at K1
 rw [hr] at K1
 clear hs hr
 go_enter Tryz.func140, Tryz.ntmps140
 go_wp2_with fail
 refine K1.out.mono ?_
 rintro e w1 ⟨rfl, rfl⟩
 go_wp2_with fail
 go_ret3
 exact ⟨rfl, rfl⟩
set_option maxRecDepth 100000 in
set_option maxHeartbeats 1000000 in
theorem num_err3 {v : Value} {xs : Bytes} {w : World} (hs : Seq w v xs) (hr : read xs = (0, 0, 3)) : Calls Tryz.prog 140 #[v] w fun e w' => e = .returned (.tuple #[.int .i64 0, .slice none 0 0, .int .i64 3]) ∧ w = w' := by
 have K1 := Lib.hid (readNum_seq hs)
 unfold RdT at K1
 rw [hr] at K1
 clear hs hr
 go_enter Tryz.func140, Tryz.ntmps140
 go_wp2_with fail
 refine K1.out.mono ?_
 rintro e w1 ⟨rfl, rfl⟩
 go_wp2_with fail
 go_ret3
 exact ⟨rfl, rfl⟩
theorem num_get {v : Value} {xs : Bytes} {w : World} (hs : Seq w v xs) (hlen : xs.length ≤ 1000000) : Calls Tryz.prog 140 #[v] w (GetT (fun n : Nat => .int .i64 n) (.int .i64 0) w (numC.get xs)) := by
 show Calls _ _ _ _ (GetT (fun n : Nat => .int .i64 n) (.int .i64 0) w (getNum xs))
 rcases read_cases xs with ⟨n, s, h⟩ | h | h
 ·rw [getNum_ok h]; exact num_ok hs hlen h
 ·rw [getNum_err h (by decide)]; exact num_err2 hs h
 ·rw [getNum_err h (by decide)]; exact num_err3 hs h
set_option maxRecDepth 100000 in
set_option maxHeartbeats 1000000 in
theorem int_err {v : Value} {xs : Bytes} {w : World} (hs : Seq w v xs) (h8 : xs.length < 8) : Calls Tryz.prog 174 #[v] w fun e w' => e = .returned (.tuple #[.int .i64 0, .slice none 0 0, .int .i64 3]) ∧ w = w' := by
 obtain ⟨a, cap, rfl, -⟩ := hs.parts
 generalize xs.length = n at *
 clear hs
 go_enter Tryz.func174, Tryz.ntmps174
 go_wp2_with fail
 go_ret3
 exact ⟨rfl, rfl⟩
theorem int_get {v : Value} {xs : Bytes} {w : World} (hs : Seq w v xs) (hlen : xs.length ≤ 1000000) : Calls Tryz.prog 174 #[v] w (GetT (fun n : Int => .int .i64 n) (.int .i64 0) w (intC.get xs)) := by
 show Calls _ _ _ _ (GetT (fun n : Int => .int .i64 n) (.int .i64 0) w (getInt64 xs))
 unfold getInt64
 by_cases h : xs.length < 8
 ·rw [if_pos h]; exact int_err hs h
 ·rw [if_neg h]; exact int_ok hs hlen (by omega)
set_option maxRecDepth 100000 in
set_option maxHeartbeats 2000000 in
theorem text_errK {v : Value} {xs : Bytes} {w : World} (hs : Seq w v xs) (n s : Nat) (k : Int) (hr : (read xs = (n, s, 0) ∧ ((65536 < n ∧ k = 4) ∨ (n ≤ 65536 ∧ xs.length - s < n ∧ k = 3))) ∨ (read xs = (0, 0, 2) ∧ k = 2) ∨ (read xs = (0, 0, 3) ∧ k = 3)) :
  Calls Tryz.prog 172 #[v] w fun e w' => e = .returned (.tuple #[.string ⟨#[]⟩, .slice none 0 0, .int .i64 k]) ∧ w = w' := by
 have K1 := Lib.hid (readNum_seq hs)
 obtain ⟨a, cap, rfl, g1, g2, g0, -⟩ := hs.parts
 have hm : maxLen = 9223372036854775807 := rfl
 rw [hm] at g2
 rcases hr with ⟨hr1, hn⟩ | ⟨hr1, rfl⟩ | ⟨hr1, rfl⟩
 ·obtain ⟨-, h1, h2, h3, h4⟩ := read_back hr1
  rw [hr1] at K1
  unfold RdT at K1
  rcases hn with ⟨hn, rfl⟩ | ⟨hn, hnl, rfl⟩
  ·have hni : (n : Int) ≤ 72057594037927936 := by omega
   clear hs hr1 hm g0
   go_enter Tryz.func172, Tryz.ntmps172
   go_wp2_with fail
   refine K1.out.mono ?_
   rintro e w1 ⟨rfl, rfl⟩
   go_wp2_with fail
   go_ret3
   exact ⟨rfl, rfl⟩
  ·clear hs hr1 hm g0
   go_enter Tryz.func172, Tryz.ntmps172
   go_wp2_with fail
   refine K1.out.mono ?_
   rintro e w1 ⟨rfl, rfl⟩
   go_wp2_with fail
   go_ret3
   exact ⟨rfl, rfl⟩
 ·rw [hr1] at K1
  unfold RdT at K1
  clear hs hr1 hm g0
  go_enter Tryz.func172, Tryz.ntmps172
  go_wp2_with fail
  refine K1.out.mono ?_
  rintro e w1 ⟨rfl, rfl⟩
  go_wp2_with fail
  go_ret3
  exact ⟨rfl, rfl⟩
 ·rw [hr1] at K1
  unfold RdT at K1
  clear hs hr1 hm g0
  go_enter Tryz.func172, Tryz.ntmps172
  go_wp2_with fail
  refine K1.out.mono ?_
  rintro e w1 ⟨rfl, rfl⟩
  go_wp2_with fail
  go_ret3
  exact ⟨rfl, rfl⟩
theorem text_get {v : Value} {xs : Bytes} {w : World} (hs : Seq w v xs) (hlen : xs.length ≤ 1000000) : Calls Tryz.prog 172 #[v] w (GetT (fun t : Txt => .string (bt t)) (.string ⟨#[]⟩) w (textC.get xs)) := by
 show Calls _ _ _ _ (GetT (fun t : Txt => .string (bt t)) (.string ⟨#[]⟩) w (getText xs))
 unfold getText
 rcases read_cases xs with ⟨n, s, h⟩ | h | h
 ·rw [getNum_ok h]
  show Calls _ _ _ _ (GetT _ _ w (if 65536 < n then Res.err 4 else if (xs.drop s).length < n then .err 3 else .ok (tsb ((xs.drop s).take n)) ((xs.drop s).drop n)))
  rw [List.length_drop]
  by_cases h1 : 65536 < n
  ·rw [if_pos h1]; exact text_errK hs n s 4 (.inl ⟨h, .inl ⟨h1, rfl⟩⟩)
  ·rw [if_neg h1]
   by_cases h2 : xs.length - s < n
   ·rw [if_pos h2]; exact text_errK hs n s 3 (.inl ⟨h, .inr ⟨by omega, h2, rfl⟩⟩)
   ·rw [if_neg h2, List.drop_drop]
    exact text_ok hs hlen h (by omega) (by omega)
 ·rw [getNum_err h (by decide)]; exact text_errK hs 0 0 2 (.inr (.inl ⟨h, rfl⟩))
 ·rw [getNum_err h (by decide)]; exact text_errK hs 0 0 3 (.inr (.inr ⟨h, rfl⟩))
end Go.Proofs.YtfapkepfngddlaaGreat.By
namespace Go.Proofs.YtfapkepfngddlaaGreat
open Go.RowKit Plain
set_option linter.unusedVariables false

def cellsDt (d : PDot) : List Value := [.int .i64 d.node, .int .i64 d.seq, .int .i64 d.pos]
def dv (d : PDot) : Value := .agg #[.int .i64 d.node, .int .i64 d.seq, .int .i64 d.pos]
def cellsIt (x : PItem) : List Value := [tv x.key, tv x.field, .int .i64 x.kind, tv x.elem, .int .i64 x.n, .int .i64 x.dot.node, .int .i64 x.dot.seq, .int .i64 x.dot.pos]
def itv (x : PItem) : Value := .agg #[tv x.key, tv x.field, .int .i64 x.kind, tv x.elem, .int .i64 x.n, .int .i64 x.dot.node, .int .i64 x.dot.seq, .int .i64 x.dot.pos]
def zeroDt : Value := .agg #[.int .i64 0, .int .i64 0, .int .i64 0]
def zeroIt : Value := .agg #[.string ByteArray.empty, .string ByteArray.empty, .int .i64 0, .string ByteArray.empty, .int .i64 0, .int .i64 0, .int .i64 0, .int .i64 0]
theorem infoDt : (Tryz.prog.info? 45).map (fun i => (i.zero, i.size, i.bytes)) = some (some zeroDt, 3, 24) := by kernel_rfl
theorem infoIt : (Tryz.prog.info? 47).map (fun i => (i.zero, i.size, i.bytes)) = some (some zeroIt, 8, 88) := by kernel_rfl
theorem oneDt {vs : List Value} {d : PDot} (h : vs = cellsDt d) : ∀ u ∈ vs, u.oneCell' = true := by
 subst h
 intro u hu
 simp only [cellsDt, List.mem_cons, List.not_mem_nil, or_false] at hu
 rcases hu with rfl | rfl | rfl <;> rfl
theorem oneIt {vs : List Value} {x : PItem} (h : vs = cellsIt x) : ∀ u ∈ vs, u.oneCell' = true := by
 subst h
 intro u hu
 simp only [cellsIt, List.mem_cons, List.not_mem_nil, or_false] at hu
 rcases hu with rfl | rfl | rfl | rfl | rfl | rfl | rfl | rfl <;> rfl
theorem lenDt {vs : List Value} {d : PDot} (h : vs = cellsDt d) : vs.length = 3 := by subst h; rfl
theorem lenIt {vs : List Value} {x : PItem} (h : vs = cellsIt x) : vs.length = 8 := by subst h; rfl
theorem zsDt : zeroDt.cells.size = 3 := rfl
theorem zsIt : zeroIt.cells.size = 8 := rfl
def LDot : El PDot where
 k := 3
 E := 45
 S := 52
 zero := zeroDt
 bytes := 24
 R := fun _ _ vs d => vs = cellsDt d
 pos := by decide
 small := by decide
 len := lenDt
 one := oneDt
 mono := fun h _ => h
 agree := fun h _ => h
 und := Tryz.underlying52
 info := infoDt
 zsize := zsDt
def LItem : El PItem where
 k := 8
 E := 47
 S := 25
 zero := zeroIt
 bytes := 88
 R := fun _ _ vs x => vs = cellsIt x
 pos := by decide
 small := by decide
 len := lenIt
 one := oneIt
 mono := fun h _ => h
 agree := fun h _ => h
 und := Tryz.underlying25
 info := infoIt
 zsize := zsIt
theorem flat_dot : Flat LDot := fun h => h
theorem flat_item : Flat LItem := fun h => h
structure ItemAt (w : World) (b o : Nat) (x : PItem) : Prop where
 c0 : w.cell? ⟨b, o, none⟩ = some (.string (bt x.key))
 c1 : w.cell? ⟨b, o + 1, none⟩ = some (.string (bt x.field))
 c2 : w.cell? ⟨b, o + 2, none⟩ = some (.int .i64 x.kind)
 c3 : w.cell? ⟨b, o + 3, none⟩ = some (.string (bt x.elem))
 c4 : w.cell? ⟨b, o + 4, none⟩ = some (.int .i64 x.n)
 c5 : w.cell? ⟨b, o + 5, none⟩ = some (.int .i64 x.dot.node)
 c6 : w.cell? ⟨b, o + 6, none⟩ = some (.int .i64 x.dot.seq)
 c7 : w.cell? ⟨b, o + 7, none⟩ = some (.int .i64 x.dot.pos)
structure DotAt (w : World) (b o : Nat) (d : PDot) : Prop where
 c0 : w.cell? ⟨b, o, none⟩ = some (.int .i64 d.node)
 c1 : w.cell? ⟨b, o + 1, none⟩ = some (.int .i64 d.seq)
 c2 : w.cell? ⟨b, o + 2, none⟩ = some (.int .i64 d.pos)
theorem ItemAt.below {N : Nat} {w w' : World} {b o : Nat} {x : PItem} (h : ItemAt w b o x) (hb : Below N w w') (hN : b < N) : ItemAt w' b o x :=
 ⟨(hb.cell (p := ⟨b, o, none⟩) hN).trans h.c0, (hb.cell (p := ⟨b, o + 1, none⟩) hN).trans h.c1, (hb.cell (p := ⟨b, o + 2, none⟩) hN).trans h.c2, (hb.cell (p := ⟨b, o + 3, none⟩) hN).trans h.c3,
  (hb.cell (p := ⟨b, o + 4, none⟩) hN).trans h.c4, (hb.cell (p := ⟨b, o + 5, none⟩) hN).trans h.c5, (hb.cell (p := ⟨b, o + 6, none⟩) hN).trans h.c6, (hb.cell (p := ⟨b, o + 7, none⟩) hN).trans h.c7⟩
theorem ItemAt.lt {w : World} {b o : Nat} {x : PItem} (h : ItemAt w b o x) : b < w.heap.size := World.block_lt_of_cell? w ⟨b, o, none⟩ h.c0
theorem DotAt.below {N : Nat} {w w' : World} {b o : Nat} {x : PDot} (h : DotAt w b o x) (hb : Below N w w') (hN : b < N) : DotAt w' b o x :=
 ⟨(hb.cell (p := ⟨b, o, none⟩) hN).trans h.c0, (hb.cell (p := ⟨b, o + 1, none⟩) hN).trans h.c1, (hb.cell (p := ⟨b, o + 2, none⟩) hN).trans h.c2⟩
theorem DotAt.lt {w : World} {b o : Nat} {x : PDot} (h : DotAt w b o x) : b < w.heap.size := World.block_lt_of_cell? w ⟨b, o, none⟩ h.c0
theorem getD_at {α : Type} [Inhabited α] {xs : List α} {j : Nat} (hj : j < xs.length) : xs[j]? = some (xs.getD j default) := by
 simp [List.getD, List.getElem?_eq_getElem hj]
theorem items_spot {w : World} {v : Value} {xs : List PItem} (h : SeqE LItem w v xs) (hp : 0 < xs.length) : ∃ b o cap, v = .slice (some ⟨b, o, none⟩) xs.length cap ∧ xs.length ≤ cap ∧ cap ≤ 9223372036854775807 ∧ SeqE LItem w (.slice (some ⟨b, o, none⟩) xs.length cap) xs ∧ ∀ j, j < xs.length → ItemAt w b (o + j * 8) (xs.getD j default) := by
 obtain ⟨b, o, cap, e, h1, h2, h3, hc⟩ := h.spot hp
 refine ⟨b, o, cap, e, h1, h2, h3, fun j hj => ?_⟩
 obtain ⟨vs, hr, hv⟩ := hc j _ (getD_at hj)
 obtain rfl : vs = cellsIt (xs.getD j default) := hr
 have g := fun i u (hu : (cellsIt (xs.getD j default))[i]? = some u) => hv i u hu
 refine ⟨g 0 _ rfl, ?_, ?_, ?_, ?_, ?_, ?_, ?_⟩
 ·rw [Nat.add_assoc]; exact g 1 _ rfl
 ·rw [Nat.add_assoc]; exact g 2 _ rfl
 ·rw [Nat.add_assoc]; exact g 3 _ rfl
 ·rw [Nat.add_assoc]; exact g 4 _ rfl
 ·rw [Nat.add_assoc]; exact g 5 _ rfl
 ·rw [Nat.add_assoc]; exact g 6 _ rfl
 ·rw [Nat.add_assoc]; exact g 7 _ rfl
theorem dots_spot {w : World} {v : Value} {xs : List PDot} (h : SeqE LDot w v xs) (hp : 0 < xs.length) : ∃ b o cap, v = .slice (some ⟨b, o, none⟩) xs.length cap ∧ xs.length ≤ cap ∧ cap ≤ 9223372036854775807 ∧ SeqE LDot w (.slice (some ⟨b, o, none⟩) xs.length cap) xs ∧ ∀ j, j < xs.length → DotAt w b (o + j * 3) (xs.getD j default) := by
 obtain ⟨b, o, cap, e, h1, h2, h3, hc⟩ := h.spot hp
 refine ⟨b, o, cap, e, h1, h2, h3, fun j hj => ?_⟩
 obtain ⟨vs, hr, hv⟩ := hc j _ (getD_at hj)
 obtain rfl : vs = cellsDt (xs.getD j default) := hr
 have g := fun i u (hu : (cellsDt (xs.getD j default))[i]? = some u) => hv i u hu
 refine ⟨g 0 _ rfl, ?_, ?_⟩
 ·rw [Nat.add_assoc]; exact g 1 _ rfl
 ·rw [Nat.add_assoc]; exact g 2 _ rfl
theorem one_item (w : World) (x : PItem) : SeqE LItem (w.alloc (.cells #[.string (bt x.key), .string (bt x.field), .int .i64 x.kind, .string (bt x.elem), .int .i64 x.n, .int .i64 x.dot.node, .int .i64 x.dot.seq, .int .i64 x.dot.pos] 47)) (.slice (some ⟨w.heap.size, 0, none⟩) 1 1) [x] := by
 have h := SeqE.one (L := LItem) (w := w) (vs := cellsIt x) (x := x) rfl (cellsIt x).toArray (by simp)
 exact h

theorem tx_le {s : ByteArray} (h : s.size ≤ maxLen) : (tx s).length ≤ 9223372036854775807 := by
 have e : (tx s).length = s.size := by unfold tx ByteArray.size; exact Array.length_toList
 rw [e]
 exact h
def dotOk (d : PDot) : Prop := (Lit.int .i64 d.node).wf = true ∧ (Lit.int .i64 d.seq).wf = true ∧ (Lit.int .i64 d.pos).wf = true
def itemOk (x : PItem) : Prop := (Lit.int .i64 x.kind).wf = true ∧ (Lit.int .i64 x.n).wf = true ∧ dotOk x.dot ∧ x.key.length ≤ 9223372036854775807 ∧ x.field.length ≤ 9223372036854775807 ∧ x.elem.length ≤ 9223372036854775807
theorem cellsOfDot : Tryz.prog.cellsOf 45 = 3 := by kernel_rfl
theorem cellsOfItem : Tryz.prog.cellsOf 47 = 8 := by kernel_rfl
section
open Go.ChangeShapes Go.WideShapes Go.Joins
set_option maxRecDepth 100000
theorem dot_of_trod {H : Type} {enc : TypeId × Value → H} {W : World} {n : Nat} {cs : List Value} {y : DataW H × List MemPlace} (ht : DataW.trod enc Tryz.prog W 0 (fun _ => true) true n 45 cs = some y) : ∃ d, cs = cellsDt d ∧ dotOk d := by
 obtain ⟨y0, y1, y2, n', -, hl, h0, h1, h2⟩ := Go.Deep.trod_struct3 Tryz.underlying45 ht
 rw [cellsOfDot] at hl
 have e1 : Tryz.prog.cellsOf 3 = 1 := by kernel_rfl
 match cs, hl with
 | [x0, x1, x2], _ =>
  simp [e1] at h0 h1 h2
  obtain ⟨a, g0, -, w0⟩ := DataW.trod_int Tryz.underlying3 h0
  obtain ⟨b, g1, -, w1⟩ := DataW.trod_int Tryz.underlying3 h1
  obtain ⟨c, g2, -, w2⟩ := DataW.trod_int Tryz.underlying3 h2
  simp at g0 g1 g2
  subst g0 g1 g2
  exact ⟨⟨a, b, c⟩, rfl, w0, w1, w2⟩
theorem item_of_cells {H : Type} {enc : TypeId × Value → H} {W : World} {n : Nat} {cs : List Value} {y : DataW H × List MemPlace} (ht : DataW.trod enc Tryz.prog W 0 (fun _ => true) true n 47 cs = some y) : ∃ x, cs = cellsIt x ∧ itemOk x := by
 obtain ⟨ys, n', -, -, hl, hlen, hf⟩ := DataW.trod_struct Tryz.underlying47 ht
 rw [cellsOfItem] at hl
 have e1 : Tryz.prog.cellsOf 3 = 1 := by kernel_rfl
 have e2 : Tryz.prog.cellsOf 9 = 1 := by kernel_rfl
 have e3 : Tryz.prog.cellsOf 2 = 1 := by kernel_rfl
 match cs, hl with
 | [x0, x1, x2, x3, x4, x5, x6, x7], _ =>
  match ys, hlen with
  | [y0, y1, y2, y3, y4, y5], _ =>
   have h0 := hf 0 _ rfl
   have h1 := hf 1 _ rfl
   have h2 := hf 2 _ rfl
   have h3 := hf 3 _ rfl
   have h4 := hf 4 _ rfl
   have h5 := hf 5 _ rfl
   simp [e1, e2, e3, cellsOfDot] at h0 h1 h2 h3 h4 h5
   obtain ⟨s0, g0, -, l0⟩ := DataW.trod_string Tryz.underlying9 h0
   obtain ⟨s1, g1, -, l1⟩ := DataW.trod_string Tryz.underlying9 h1
   obtain ⟨a2, g2, -, w2⟩ := DataW.trod_int Tryz.underlying3 h2
   obtain ⟨s3, g3, -, l3⟩ := DataW.trod_string Tryz.underlying9 h3
   obtain ⟨a4, g4, -, w4⟩ := DataW.trod_int Tryz.underlying2 h4
   obtain ⟨d, g5, wd⟩ := dot_of_trod h5
   simp at g0 g1 g2 g3 g4
   subst g0 g1 g2 g3 g4
   simp only [cellsDt, List.cons.injEq, and_true] at g5
   obtain ⟨rfl, rfl, rfl⟩ := g5
   exact ⟨⟨tx s0, tx s1, a2, tx s3, a4, d⟩, rfl, w2, w4, wd, tx_le l0, tx_le l1, tx_le l3⟩
end
end Go.Proofs.YtfapkepfngddlaaGreat
