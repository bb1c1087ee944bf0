/- WORDS FOR TEXTS: slices that read as a list of texts (nil, empty, cut), slices of the call's own, append, make. (Turned out of words/XWords, XMore, XMake.) What the program's own Num, Int and Text of package bin leave, each error by its number: what the codec reads. -/
import Derived.Test.YtfapkepfngddlaaGreatEls
import Derived.Test.YtfapkepfngddlaaGreatMaths
import Derived.Laws.Cover1
import Derived.Sort.Walk0
import Derived.Deep.OwnRows
import Derived.OwnWalk
import Derived.Test.YtfapkepfngddlaaGreatByBins
import Derived.Test.YtfapkepfngddlaaGreatBCodes
import Derived.Lib.SmallJoins
import Derived.OpenShut
import Derived.Deep.Slices
import Derived.Deep.Strs
import Derived.Laws.StructEq
set_option maxRecDepth 100000
set_option maxHeartbeats 64000000
namespace Go.Proofs.YtfapkepfngddlaaGreat
open Go.RowKit Plain
set_option linter.unusedVariables false
def bt (t : Txt) : ByteArray := ⟨t.toArray⟩
theorem bt_size (t : Txt) : (bt t).size = t.length := rfl
def tv (t : Txt) : Value := .string (bt t)
def SeqT (w : World) (v : Value) (xs : List Txt) : Prop :=
 ∃ a cap, v = .slice a xs.length cap ∧ xs.length ≤ cap ∧ cap ≤ maxLen ∧ (a = none → cap = 0) ∧
  (0 < xs.length → ∃ b off, a = some ⟨b, off, none⟩ ∧ ∀ j, j < xs.length → w.cell? ⟨b, off + j, none⟩ = some (tv (xs.getD j [])))
theorem SeqT.nil (w : World) : SeqT w (.slice none 0 0) [] := ⟨none, 0, rfl, Nat.zero_le _, Nat.zero_le _, fun _ => rfl, fun h => absurd h (by simp)⟩
theorem SeqT.empty (w : World) (a : Addr) (cap : Nat) (h : cap ≤ maxLen) : SeqT w (.slice (some a) 0 cap) [] := ⟨some a, cap, rfl, Nat.zero_le _, h, (by simp), fun h => absurd h (by simp)⟩
theorem SeqT.of_cell {w w' : World} {v : Value} {xs : List Txt} (h : SeqT w v xs) (hc : ∀ a, w'.cell? a = w.cell? a) : SeqT w' v xs := by
 obtain ⟨a, cap, rfl, h1, h2, h0, h3⟩ := h;refine ⟨a, cap, rfl, h1, h2, h0, fun hp => ?_⟩;obtain ⟨b, off, rfl, g⟩ := h3 hp;exact ⟨b, off, rfl, fun j hj => (hc _).trans (g j hj)⟩
theorem SeqT.below' {N : Nat} {w w' : World} {v : Value} {xs : List Txt} (h : SeqT w v xs) (hb : Below N w w') (hN : w.heap.size ≤ N) : SeqT w' v xs := by
 obtain ⟨a, cap, rfl, h1, h2, h0, h3⟩ := h;refine ⟨a, cap, rfl, h1, h2, h0, fun hp => ?_⟩;obtain ⟨b, off, rfl, hc⟩ := h3 hp;refine ⟨b, off, rfl, fun j hj => ?_⟩;have hlt : b < w.heap.size := World.block_lt_of_cell? w ⟨b, off + j, none⟩ (hc j hj);exact (hb.cell (p := ⟨b, off + j, none⟩) (show b < N by omega)).trans (hc j hj)
theorem SeqT.below {w w' : World} {v : Value} {xs : List Txt} (h : SeqT w v xs) (hb : Below w.heap.size w w') : SeqT w' v xs := SeqT.below' h hb (Nat.le_refl _)
theorem SeqT.below_alloc {w : World} {v : Value} {xs : List Txt} (h : SeqT w v xs) (o : Obj) : SeqT (w.alloc o) v xs := h.below ((Below.refl _ _).alloc (Nat.le_refl _) _)
theorem SeqT.parts {w : World} {v : Value} {xs : List Txt} (h : SeqT w v xs) : ∃ a cap, v = .slice a xs.length cap ∧ xs.length ≤ cap ∧ cap ≤ maxLen ∧ (a = none → cap = 0) ∧ SeqT w (.slice a xs.length cap) xs := by
 have h' := h;obtain ⟨a, cap, rfl, h1, h2, h0, h3⟩ := h;exact ⟨a, cap, rfl, h1, h2, h0, h'⟩
theorem SeqT.spot {w : World} {v : Value} {xs : List Txt} (h : SeqT w v xs) (hp : 0 < xs.length) : ∃ b o cap, v = .slice (some ⟨b, o, none⟩) xs.length cap ∧ xs.length ≤ cap ∧ cap ≤ maxLen ∧ SeqT w (.slice (some ⟨b, o, none⟩) xs.length cap) xs ∧ ∀ j, j < xs.length → w.cell? ⟨b, o + j, none⟩ = some (tv (xs.getD j [])) := by
 have h' := h;obtain ⟨a, cap, rfl, h1, h2, h0, h3⟩ := h;obtain ⟨b, o, rfl, hc⟩ := h3 hp;exact ⟨b, o, cap, rfl, h1, h2, h', hc⟩
theorem SeqT.first {w : World} {a : Option Addr} {n cap : Nat} {xs : List Txt} (h : SeqT w (.slice a n cap) xs) (k : Nat) (hk : k ≤ xs.length) : SeqT w (.slice a k cap) (xs.take k) := by
 obtain ⟨a', cap', hv, h1, h2, h0, h3⟩ := h;simp only [Value.slice.injEq] at hv
 obtain ⟨rfl, rfl, rfl⟩ := hv;have hl : (xs.take k).length = k := by rw [List.length_take]; omega
 refine ⟨a, cap, by rw [hl], by omega, h2, h0, fun hp => ?_⟩;obtain ⟨b, off, rfl, hc⟩ := h3 (by omega);refine ⟨b, off, rfl, fun j hj => ?_⟩;rw [hc j (by omega)];simp [List.getD, show j < k by omega]
def OwnsT (B : Nat) (w : World) (v : Value) (xs : List Txt) : Prop := w.ownsRow B 9 1 v xs.length (xs.map tv)
theorem OwnsT.nil (B : Nat) (w : World) : OwnsT B w (.slice none 0 0) [] := World.ownsRow_nil _ _ _ _
theorem getD_mapT (xs : List Txt) (j : Nat) (hj : j < xs.length) : (xs.map tv)[j]? = some (tv (xs.getD j [])) := by
 simp [List.getD, List.getElem?_eq_getElem hj]
theorem OwnsT.seq {B : Nat} {w : World} {v : Value} {xs : List Txt} (h : OwnsT B w v xs) : SeqT w v xs := by
 have h' := h
 rcases h.2 with ⟨rfl, hn⟩ | ⟨g, cap, cur, rfl, hb, hg, hnc, hcm, hcs, htake⟩
 ·obtain rfl : xs = [] := List.eq_nil_of_length_eq_zero hn
  exact SeqT.nil w
 ·refine ⟨_, cap, rfl, hnc, hcm, (by simp), fun hp => ⟨g, 0, rfl, fun j hj => ?_⟩⟩
  have := World.ownsRow.cellAt h' j (by omega);rw [Nat.zero_add, this, getD_mapT xs j hj]
theorem OwnsT.parts {B : Nat} {w : World} {v : Value} {xs : List Txt} (h : OwnsT B w v xs) : ∃ a cap, v = .slice a xs.length cap ∧ xs.length ≤ cap ∧ cap ≤ maxLen ∧ OwnsT B w (.slice a xs.length cap) xs ∧ (a = none → cap = 0) := by
 obtain ⟨a, cap, rfl, h1, h2, h0, hs⟩ := h.seq.parts;exact ⟨a, cap, rfl, h1, h2, h, h0⟩
theorem OwnsT.lt {B : Nat} {w : World} {v : Value} {xs : List Txt} (h : OwnsT B w v xs) : ∀ k, v.ownBlock = some k → B ≤ k ∧ k < w.heap.size := World.ownsRow.lt h
theorem OwnsT.alloc {B : Nat} {w : World} {v : Value} {xs : List Txt} (h : OwnsT B w v xs) (o : Obj) : OwnsT B (w.alloc o) v xs := World.ownsRow.alloc h o
theorem OwnsT.mono {B C : Nat} {w : World} {v : Value} {xs : List Txt} (h : OwnsT B w v xs) (hc : C ≤ B) : OwnsT C w v xs := by
 refine ⟨h.1, ?_⟩
 rcases h.2 with hn | ⟨g, cap, cur, hv, hb, hg⟩
 ·exact .inl hn
 ·exact .inr ⟨g, cap, cur, hv, by omega, hg⟩
theorem OwnsT.below {B N : Nat} {w w' : World} {v : Value} {xs : List Txt} (h : OwnsT B w v xs) (hb : Below N w w') (hN : w.heap.size ≤ N) : OwnsT B w' v xs := by
 refine ⟨h.1, ?_⟩
 rcases h.2 with hn | ⟨g, cap, cur, hv, hb', hg, hr⟩
 ·exact .inl hn
 ·have hlt : g < w.heap.size := (Array.getElem?_eq_some_iff.1 hg).1
  exact .inr ⟨g, cap, cur, hv, hb', (hb.block g (by omega)).trans hg, hr⟩
theorem OwnsT.empty (w : World) (B : Nat) (hB : B ≤ w.heap.size) : OwnsT B (w.alloc (.cells #[] 9)) (.slice (some ⟨w.heap.size, 0, none⟩) 0 0) [] :=
 World.ownsRow_lit w #[] 0 hB (Nat.zero_le _) rfl
theorem OwnsT.one (w : World) (B : Nat) (x : Txt) (hB : B ≤ w.heap.size) : OwnsT B (w.alloc (.cells #[tv x] 9)) (.slice (some ⟨w.heap.size, 0, none⟩) 1 1) [x] :=
 World.ownsRow_lit w #[tv x] 1 hB (by unfold maxLen; omega) rfl
theorem SeqT.one (w : World) (x : Txt) : SeqT (w.alloc (.cells #[tv x] 9)) (.slice (some ⟨w.heap.size, 0, none⟩) 1 1) [x] :=
 (OwnsT.one w w.heap.size x (Nat.le_refl _)).seq
def MadeT (w : World) (xs : List Txt) (e : Ending) (w' : World) : Prop := ∃ v, e = .returned v ∧ OwnsT w.heap.size w' v xs ∧ Below w.heap.size w w'
theorem infoT : (Tryz.prog.info? 9).map (fun i => (i.zero, i.size, i.bytes)) = some (some (.string ByteArray.empty), 1, 16) := by kernel_rfl
theorem texts_oneCell (ys : List Txt) : ∀ u ∈ ys.map tv, u.oneCell' = true := by
 intro u hu;obtain ⟨c, -, rfl⟩ := List.mem_map.1 hu
 rfl
theorem wpList_append_texts {w : World} {ops : Array Oper} {rest : List Oper} {o : Oper} {act : Act} {Q : Exit → Act → World → Prop} (hgd : o.guard = none) (s x : Operand)
  (ho : o.op = .call { callee := .builtin .append, args := #[s, x], argTypes := #[24, 24] }) (B : Nat) {v u : Value} {xs ys : List Txt}
  (hs : act.eval s = v) (hown : OwnsT B w v xs) (hx : act.eval x = u) (hseq : SeqT w u ys) (hlen : xs.length + ys.length ≤ 1073741824) (hbase : B ≤ w.heap.size)
  (h : ∀ v' w', OwnsT B w' v' (xs ++ ys) → w.grownBy w' v.ownBlock → (v'.ownBlock = v.ownBlock ∨ v'.ownBlock = some w.heap.size) → wpList Tryz.prog ops Q rest (act.put o.dst v') w') : wpList Tryz.prog ops Q (o :: rest) act w := by
 obtain ⟨i0, hi, hz0, hz1, hz2⟩ := info_parts infoT;obtain ⟨a, cap, rfl, h1, h2, h0, h3⟩ := hseq
 cases a with
 | none =>
  obtain rfl := h0 rfl;obtain rfl : ys = [] := List.eq_nil_of_length_eq_zero (by omega);refine wpList_append_own_none hgd s x 24 ho B 9 i0 1 Tryz.underlying24 hi v _ _ hs hown hx (h v w ?_ (World.grownBy.refl _ _) (.inl rfl));rw [List.append_nil]; exact hown
 | some ad =>
  refine wpList_append_own_at _ hgd s x 24 ho B 9 i0 (.string ByteArray.empty) 1 16 Tryz.underlying24 hi hz0 hz1 hz2 rfl (by decide) v _ _ hs hown ad ys.length cap (ys.map tv) hx (by simp) ?_ (texts_oneCell _) (by unfold maxLen; omega) (by omega) hbase ?_
  ·intro j u hu
   have hj : j < ys.length := by
    have := (List.getElem?_eq_some_iff.1 hu).1
    simpa using this
   obtain ⟨b, off, he, hc⟩ := h3 (by omega)
   cases he
   rw [getD_mapT ys j hj] at hu
   cases hu
   rw [Addr.add_lit];exact hc j hj
  ·intro v' w' hown' hg _ hat
   exact h v' w' (by unfold OwnsT; rw [List.length_append, List.map_append]; exact hown') hg hat
theorem SeqT.dims {w : World} {a : Option Addr} {n cap : Nat} {xs : List Txt} (h : SeqT w (.slice a n cap) xs) : xs.length = n ∧ n ≤ cap ∧ cap ≤ 9223372036854775807 := by
 obtain ⟨a', cap', hv, h1, h2, -, -⟩ := h;simp only [Value.slice.injEq] at hv
 obtain ⟨rfl, rfl, rfl⟩ := hv;exact ⟨rfl, h1, h2⟩
theorem OwnsT.cell {B : Nat} {w : World} {g n cap : Nat} {xs : List Txt} (h : OwnsT B w (.slice (some ⟨g, 0, none⟩) n cap) xs) (j : Nat) (hj : j < xs.length) : w.cell? ⟨g, j, none⟩ = some (tv (xs.getD j [])) := by
 have hn := h.seq.dims.1;have h' : w.ownsRow B 9 1 (.slice (some ⟨g, 0, none⟩) n cap) n (xs.map tv) := by rw [← hn]; unfold OwnsT at h; rw [← hn] at h; exact h
 rw [World.ownsRow.cellAt h' j (by omega), getD_mapT xs j hj]
theorem OwnsT.at {B : Nat} {w : World} {v : Value} {xs : List Txt} (h : OwnsT B w v xs) (n : Nat) (hn : xs.length = n) : ∃ a cap, v = .slice a n cap ∧ (n : Int) ≤ cap ∧ (cap : Int) ≤ 9223372036854775807 ∧ OwnsT B w (.slice a n cap) xs := by
 subst hn;obtain ⟨a, cap, rfl, h1, h2, h3, -⟩ := h.parts;have hm : maxLen = 9223372036854775807 := rfl;exact ⟨a, cap, rfl, by omega, by omega, h3⟩
theorem SeqT.drawn {w : World} {v : Value} {xs : List Txt} (h : SeqT w v xs) (n : Nat) : SeqT (w.drewN n) v xs := h.below (below_drewN (Below.refl _ _) n)
theorem map_setT (xs : List Txt) (k : Nat) (c : Txt) : (xs.set k c).map tv = (xs.map tv).set k (tv c) := by
 simp [List.map_set]
theorem OwnsT.set {B : Nat} {w : World} {g n cap : Nat} {xs : List Txt} (h : OwnsT B w (.slice (some ⟨g, 0, none⟩) n cap) xs) (j : Nat) (x : Txt) : OwnsT B (w.setCell ⟨g, j, none⟩ (tv x)) (.slice (some ⟨g, 0, none⟩) n cap) (xs.set j x) := by
 have hn := h.seq.dims.1;have h' : w.ownsRow B 9 1 (.slice (some ⟨g, 0, none⟩) n cap) n (xs.map tv) := by rw [← hn]; unfold OwnsT at h; rw [← hn] at h; exact h
 have hs := (World.ownsRow.stored h' j (tv x)).1;rw [← map_setT] at hs;unfold OwnsT;rw [List.length_set, hn];exact hs
theorem OwnsT.block {B : Nat} {w : World} {g n cap : Nat} {xs : List Txt} (h : OwnsT B w (.slice (some ⟨g, 0, none⟩) n cap) xs) : B ≤ g ∧ g < w.heap.size := h.lt g rfl
theorem index_run (s : Txt) (k : Nat) (hk : k < s.length) (w : World) : (Instr.index 9 (.string (bt s)) (.int .i64 (k : Int))).run Tryz.prog w = .ok (.int .u8 ((s.getD k 0).toNat : Int)) w := by
 rw [run_index_string w _ _ _ _ Tryz.underlying9];have hs := bt_size s;rw [dif_pos (by omega)]
 congr 2
 show (((bt s).data[((k : Int)).toNat]'(by simp [bt]; omega)).toNat : Int) = _
 simp [bt, List.getD, List.getElem?_eq_getElem hk]
theorem toList_bt (s : Txt) : (bt s).toList = s := by
 rw [ByteArray.toList_eq]
 rfl
theorem text_eq (s t : Txt) : ((bt s).toList == (bt t).toList) = decide (s = t) := by rw [toList_bt, toList_bt]; by_cases h : s = t <;> simp [h]
theorem text_lt (s t : Txt) : Op.bytesLess (bt s).toList (bt t).toList = decide (s < t) := by rw [toList_bt, toList_bt]; exact bytesLess_eq s t
end Go.Proofs.YtfapkepfngddlaaGreat
namespace Go.Proofs.YtfapkepfngddlaaGreat.By
open Go.RowKit Plain
set_option linter.unusedVariables false
def GetT {α : Type} (val : α → Value) (zero : Value) (w : World) (res : Res α) (e : Ending) (w' : World) : Prop := match res with
 | .ok a r => ReadT (val a) w r e w'
 | .err k => e = .returned (.tuple #[zero, .slice none 0 0, .int .i64 k]) ∧ w = w'
theorem num_err2 {v : Value} {xs : Bytes} {w : World} (hs : Seq w v xs) (hr : read xs = (0, 0, 2)) : Calls Tryz.prog 140 #[v] w fun e w' => e = .returned (.tuple #[.int .i64 0, .slice none 0 0, .int .i64 2]) ∧ w = w' := by
 have K1 := zH (readNum_seq hs);unfold RdT at K1;rw [hr] at K1;clear hs hr;go_enter Tryz.func140, Tryz.ntmps140
 go_wp2_with fail
 refine K1.out.mono ?_;rintro e w1 ⟨rfl, rfl⟩;go_wp2_with fail
 go_ret3
 exact ⟨rfl, rfl⟩
theorem num_err3 {v : Value} {xs : Bytes} {w : World} (hs : Seq w v xs) (hr : read xs = (0, 0, 3)) : Calls Tryz.prog 140 #[v] w fun e w' => e = .returned (.tuple #[.int .i64 0, .slice none 0 0, .int .i64 3]) ∧ w = w' := by
 have K1 := zH (readNum_seq hs);unfold RdT at K1;rw [hr] at K1;clear hs hr;go_enter Tryz.func140, Tryz.ntmps140
 go_wp2_with fail
 refine K1.out.mono ?_;rintro e w1 ⟨rfl, rfl⟩;go_wp2_with fail
 go_ret3
 exact ⟨rfl, rfl⟩
theorem num_get {v : Value} {xs : Bytes} {w : World} (hs : Seq w v xs) (hlen : xs.length ≤ 1000000) : Calls Tryz.prog 140 #[v] w (GetT (fun n : Nat => .int .i64 n) (.int .i64 0) w (numC.get xs)) := by
 show Calls _ _ _ _ (GetT (fun n : Nat => .int .i64 n) (.int .i64 0) w (getNum xs))
 rcases read_cases xs with ⟨n, s, h⟩ | h | h
 ·rw [getNum_ok h]; exact num_ok hs hlen h
 ·rw [getNum_err h (by decide)]; exact num_err2 hs h
 ·rw [getNum_err h (by decide)]; exact num_err3 hs h
theorem int_err {v : Value} {xs : Bytes} {w : World} (hs : Seq w v xs) (h8 : xs.length < 8) : Calls Tryz.prog 174 #[v] w fun e w' => e = .returned (.tuple #[.int .i64 0, .slice none 0 0, .int .i64 3]) ∧ w = w' := by
 obtain ⟨a, cap, rfl, -⟩ := hs.parts;generalize xs.length = n at *;clear hs;go_enter Tryz.func174, Tryz.ntmps174
 go_wp2_with fail
 go_ret3
 exact ⟨rfl, rfl⟩
theorem int_get {v : Value} {xs : Bytes} {w : World} (hs : Seq w v xs) (hlen : xs.length ≤ 1000000) : Calls Tryz.prog 174 #[v] w (GetT (fun n : Int => .int .i64 n) (.int .i64 0) w (intC.get xs)) := by
 show Calls _ _ _ _ (GetT (fun n : Int => .int .i64 n) (.int .i64 0) w (getInt64 xs))
 unfold getInt64
 by_cases h : xs.length < 8
 ·rw [if_pos h]; exact int_err hs h
 ·rw [if_neg h]; exact int_ok hs hlen (by omega)
theorem text_errK {v : Value} {xs : Bytes} {w : World} (hs : Seq w v xs) (n s : Nat) (k : Int) (hr : (read xs = (n, s, 0) ∧ ((65536 < n ∧ k = 4) ∨ (n ≤ 65536 ∧ xs.length - s < n ∧ k = 3))) ∨ (read xs = (0, 0, 2) ∧ k = 2) ∨ (read xs = (0, 0, 3) ∧ k = 3)) :
  Calls Tryz.prog 172 #[v] w fun e w' => e = .returned (.tuple #[.string ⟨#[]⟩, .slice none 0 0, .int .i64 k]) ∧ w = w' := by
 have K1 := zH (readNum_seq hs);obtain ⟨a, cap, rfl, g1, g2, g0, -⟩ := hs.parts;have hm : maxLen = 9223372036854775807 := rfl;rw [hm] at g2
 rcases hr with ⟨hr1, hn⟩ | ⟨hr1, rfl⟩ | ⟨hr1, rfl⟩
 ·obtain ⟨-, h1, h2, h3, h4⟩ := read_back hr1
  rw [hr1] at K1;unfold RdT at K1
  rcases hn with ⟨hn, rfl⟩ | ⟨hn, hnl, rfl⟩
  ·have hni : (n : Int) ≤ 72057594037927936 := by omega
   clear hs hr1 hm g0;go_enter Tryz.func172, Tryz.ntmps172
   go_wp2_with fail
   refine K1.out.mono ?_;rintro e w1 ⟨rfl, rfl⟩;go_wp2_with fail
   go_ret3
   exact ⟨rfl, rfl⟩
  ·clear hs hr1 hm g0
   go_enter Tryz.func172, Tryz.ntmps172
   go_wp2_with fail
   refine K1.out.mono ?_;rintro e w1 ⟨rfl, rfl⟩;go_wp2_with fail
   go_ret3
   exact ⟨rfl, rfl⟩
 ·rw [hr1] at K1
  unfold RdT at K1;clear hs hr1 hm g0;go_enter Tryz.func172, Tryz.ntmps172
  go_wp2_with fail
  refine K1.out.mono ?_;rintro e w1 ⟨rfl, rfl⟩;go_wp2_with fail
  go_ret3
  exact ⟨rfl, rfl⟩
 ·rw [hr1] at K1
  unfold RdT at K1;clear hs hr1 hm g0;go_enter Tryz.func172, Tryz.ntmps172
  go_wp2_with fail
  refine K1.out.mono ?_;rintro e w1 ⟨rfl, rfl⟩;go_wp2_with fail
  go_ret3
  exact ⟨rfl, rfl⟩
theorem text_get {v : Value} {xs : Bytes} {w : World} (hs : Seq w v xs) (hlen : xs.length ≤ 1000000) : Calls Tryz.prog 172 #[v] w (GetT (fun t : Txt => .string (bt t)) (.string ⟨#[]⟩) w (textC.get xs)) := by
 show Calls _ _ _ _ (GetT (fun t : Txt => .string (bt t)) (.string ⟨#[]⟩) w (getText xs))
 unfold getText
 rcases read_cases xs with ⟨n, s, h⟩ | h | h
 ·rw [getNum_ok h]
  show Calls _ _ _ _ (GetT _ _ w (if 65536 < n then Res.err 4 else if (xs.drop s).length < n then .err 3 else .ok (tsb ((xs.drop s).take n)) ((xs.drop s).drop n)))
  rw [List.length_drop]
  by_cases h1 : 65536 < n
  ·rw [if_pos h1]; exact text_errK hs n s 4 (.inl ⟨h, .inl ⟨h1, rfl⟩⟩)
  ·rw [if_neg h1]
   by_cases h2 : xs.length - s < n
   ·rw [if_pos h2]; exact text_errK hs n s 3 (.inl ⟨h, .inr ⟨by omega, h2, rfl⟩⟩)
   ·rw [if_neg h2, List.drop_drop]
    exact text_ok hs hlen h (by omega) (by omega)
 ·rw [getNum_err h (by decide)]; exact text_errK hs 0 0 2 (.inr (.inl ⟨h, rfl⟩))
 ·rw [getNum_err h (by decide)]; exact text_errK hs 0 0 3 (.inr (.inr ⟨h, rfl⟩))
end Go.Proofs.YtfapkepfngddlaaGreat.By
namespace Go.Proofs.YtfapkepfngddlaaGreat
open Go.RowKit Plain
set_option linter.unusedVariables false
def cellsDt (d : PDot) : List Value := [.int .i64 d.node, .int .i64 d.seq, .int .i64 d.pos]
def dv (d : PDot) : Value := .agg #[.int .i64 d.node, .int .i64 d.seq, .int .i64 d.pos]
def cellsIt (x : PItem) : List Value := [tv x.key, tv x.field, .int .i64 x.kind, tv x.elem, .int .i64 x.n, .int .i64 x.dot.node, .int .i64 x.dot.seq, .int .i64 x.dot.pos]
def itv (x : PItem) : Value := .agg #[tv x.key, tv x.field, .int .i64 x.kind, tv x.elem, .int .i64 x.n, .int .i64 x.dot.node, .int .i64 x.dot.seq, .int .i64 x.dot.pos]
def zeroDt : Value := .agg #[.int .i64 0, .int .i64 0, .int .i64 0]
def zeroIt : Value := .agg #[.string ByteArray.empty, .string ByteArray.empty, .int .i64 0, .string ByteArray.empty, .int .i64 0, .int .i64 0, .int .i64 0, .int .i64 0]
theorem infoDt : (Tryz.prog.info? 45).map (fun i => (i.zero, i.size, i.bytes)) = some (some zeroDt, 3, 24) := by kernel_rfl
theorem infoIt : (Tryz.prog.info? 47).map (fun i => (i.zero, i.size, i.bytes)) = some (some zeroIt, 8, 88) := by kernel_rfl
theorem oneDt {vs : List Value} {d : PDot} (h : vs = cellsDt d) : ∀ u ∈ vs, u.oneCell' = true := by
 subst h;intro u hu;simp only [cellsDt, List.mem_cons, List.not_mem_nil, or_false] at hu
 rcases hu with rfl | rfl | rfl <;> rfl
theorem oneIt {vs : List Value} {x : PItem} (h : vs = cellsIt x) : ∀ u ∈ vs, u.oneCell' = true := by
 subst h;intro u hu;simp only [cellsIt, List.mem_cons, List.not_mem_nil, or_false] at hu
 rcases hu with rfl | rfl | rfl | rfl | rfl | rfl | rfl | rfl <;> rfl
theorem lenDt {vs : List Value} {d : PDot} (h : vs = cellsDt d) : vs.length = 3 := by subst h; rfl
theorem lenIt {vs : List Value} {x : PItem} (h : vs = cellsIt x) : vs.length = 8 := by subst h; rfl
theorem zsDt : zeroDt.cells.size = 3 := rfl
theorem zsIt : zeroIt.cells.size = 8 := rfl
def LDot : El PDot where
 k := 3
 E := 45
 S := 52
 zero := zeroDt
 bytes := 24
 R := fun _ _ vs d => vs = cellsDt d
 pos := by decide
 small := by decide
 len := lenDt
 one := oneDt
 mono := fun h _ => h
 agree := fun h _ => h
 und := Tryz.underlying52
 info := infoDt
 zsize := zsDt
def LItem : El PItem where
 k := 8
 E := 47
 S := 25
 zero := zeroIt
 bytes := 88
 R := fun _ _ vs x => vs = cellsIt x
 pos := by decide
 small := by decide
 len := lenIt
 one := oneIt
 mono := fun h _ => h
 agree := fun h _ => h
 und := Tryz.underlying25
 info := infoIt
 zsize := zsIt
theorem flat_dot : Flat LDot := fun h => h
theorem flat_item : Flat LItem := fun h => h
structure ItemAt (w : World) (b o : Nat) (x : PItem) : Prop where
 c0 : w.cell? ⟨b, o, none⟩ = some (.string (bt x.key))
 c1 : w.cell? ⟨b, o + 1, none⟩ = some (.string (bt x.field))
 c2 : w.cell? ⟨b, o + 2, none⟩ = some (.int .i64 x.kind)
 c3 : w.cell? ⟨b, o + 3, none⟩ = some (.string (bt x.elem))
 c4 : w.cell? ⟨b, o + 4, none⟩ = some (.int .i64 x.n)
 c5 : w.cell? ⟨b, o + 5, none⟩ = some (.int .i64 x.dot.node)
 c6 : w.cell? ⟨b, o + 6, none⟩ = some (.int .i64 x.dot.seq)
 c7 : w.cell? ⟨b, o + 7, none⟩ = some (.int .i64 x.dot.pos)
structure DotAt (w : World) (b o : Nat) (d : PDot) : Prop where
 c0 : w.cell? ⟨b, o, none⟩ = some (.int .i64 d.node)
 c1 : w.cell? ⟨b, o + 1, none⟩ = some (.int .i64 d.seq)
 c2 : w.cell? ⟨b, o + 2, none⟩ = some (.int .i64 d.pos)
theorem ItemAt.below {N : Nat} {w w' : World} {b o : Nat} {x : PItem} (h : ItemAt w b o x) (hb : Below N w w') (hN : b < N) : ItemAt w' b o x :=
 ⟨(hb.cell (p := ⟨b, o, none⟩) hN).trans h.c0, (hb.cell (p := ⟨b, o + 1, none⟩) hN).trans h.c1, (hb.cell (p := ⟨b, o + 2, none⟩) hN).trans h.c2, (hb.cell (p := ⟨b, o + 3, none⟩) hN).trans h.c3,
  (hb.cell (p := ⟨b, o + 4, none⟩) hN).trans h.c4, (hb.cell (p := ⟨b, o + 5, none⟩) hN).trans h.c5, (hb.cell (p := ⟨b, o + 6, none⟩) hN).trans h.c6, (hb.cell (p := ⟨b, o + 7, none⟩) hN).trans h.c7⟩
theorem ItemAt.lt {w : World} {b o : Nat} {x : PItem} (h : ItemAt w b o x) : b < w.heap.size := World.block_lt_of_cell? w ⟨b, o, none⟩ h.c0
theorem DotAt.below {N : Nat} {w w' : World} {b o : Nat} {x : PDot} (h : DotAt w b o x) (hb : Below N w w') (hN : b < N) : DotAt w' b o x :=
 ⟨(hb.cell (p := ⟨b, o, none⟩) hN).trans h.c0, (hb.cell (p := ⟨b, o + 1, none⟩) hN).trans h.c1, (hb.cell (p := ⟨b, o + 2, none⟩) hN).trans h.c2⟩
theorem DotAt.lt {w : World} {b o : Nat} {x : PDot} (h : DotAt w b o x) : b < w.heap.size := World.block_lt_of_cell? w ⟨b, o, none⟩ h.c0
theorem getD_at {α : Type} [Inhabited α] {xs : List α} {j : Nat} (hj : j < xs.length) : xs[j]? = some (xs.getD j default) := by
 simp [List.getD, List.getElem?_eq_getElem hj]
theorem items_spot {w : World} {v : Value} {xs : List PItem} (h : SeqE LItem w v xs) (hp : 0 < xs.length) : ∃ b o cap, v = .slice (some ⟨b, o, none⟩) xs.length cap ∧ xs.length ≤ cap ∧ cap ≤ 9223372036854775807 ∧ SeqE LItem w (.slice (some ⟨b, o, none⟩) xs.length cap) xs ∧ ∀ j, j < xs.length → ItemAt w b (o + j * 8) (xs.getD j default) := by
 obtain ⟨b, o, cap, e, h1, h2, h3, hc⟩ := h.spot hp;refine ⟨b, o, cap, e, h1, h2, h3, fun j hj => ?_⟩;obtain ⟨vs, hr, hv⟩ := hc j _ (getD_at hj);obtain rfl : vs = cellsIt (xs.getD j default) := hr;have g := fun i u (hu : (cellsIt (xs.getD j default))[i]? = some u) => hv i u hu
 refine ⟨g 0 _ rfl, ?_, ?_, ?_, ?_, ?_, ?_, ?_⟩
 ·rw [Nat.add_assoc]; exact g 1 _ rfl
 ·rw [Nat.add_assoc]; exact g 2 _ rfl
 ·rw [Nat.add_assoc]; exact g 3 _ rfl
 ·rw [Nat.add_assoc]; exact g 4 _ rfl
 ·rw [Nat.add_assoc]; exact g 5 _ rfl
 ·rw [Nat.add_assoc]; exact g 6 _ rfl
 ·rw [Nat.add_assoc]; exact g 7 _ rfl
theorem dots_spot {w : World} {v : Value} {xs : List PDot} (h : SeqE LDot w v xs) (hp : 0 < xs.length) : ∃ b o cap, v = .slice (some ⟨b, o, none⟩) xs.length cap ∧ xs.length ≤ cap ∧ cap ≤ 9223372036854775807 ∧ SeqE LDot w (.slice (some ⟨b, o, none⟩) xs.length cap) xs ∧ ∀ j, j < xs.length → DotAt w b (o + j * 3) (xs.getD j default) := by
 obtain ⟨b, o, cap, e, h1, h2, h3, hc⟩ := h.spot hp;refine ⟨b, o, cap, e, h1, h2, h3, fun j hj => ?_⟩;obtain ⟨vs, hr, hv⟩ := hc j _ (getD_at hj);obtain rfl : vs = cellsDt (xs.getD j default) := hr;have g := fun i u (hu : (cellsDt (xs.getD j default))[i]? = some u) => hv i u hu
 refine ⟨g 0 _ rfl, ?_, ?_⟩
 ·rw [Nat.add_assoc]; exact g 1 _ rfl
 ·rw [Nat.add_assoc]; exact g 2 _ rfl
theorem one_item (w : World) (x : PItem) : SeqE LItem (w.alloc (.cells #[.string (bt x.key), .string (bt x.field), .int .i64 x.kind, .string (bt x.elem), .int .i64 x.n, .int .i64 x.dot.node, .int .i64 x.dot.seq, .int .i64 x.dot.pos] 47)) (.slice (some ⟨w.heap.size, 0, none⟩) 1 1) [x] := by
 have h := SeqE.one (L := LItem) (w := w) (vs := cellsIt x) (x := x) rfl (cellsIt x).toArray (by simp);exact h
def dotOk (d : PDot) : Prop := (Lit.int .i64 d.node).wf = true ∧ (Lit.int .i64 d.seq).wf = true ∧ (Lit.int .i64 d.pos).wf = true
def itemOk (x : PItem) : Prop := (Lit.int .i64 x.kind).wf = true ∧ (Lit.int .i64 x.n).wf = true ∧ dotOk x.dot ∧ x.key.length ≤ 9223372036854775807 ∧ x.field.length ≤ 9223372036854775807 ∧ x.elem.length ≤ 9223372036854775807
theorem cellsOfDot : Tryz.prog.cellsOf 45 = 3 := by kernel_rfl
section
open Go.ChangeShapes Go.WideShapes Go.Joins
set_option maxRecDepth 100000
theorem elems_of_trod {α : Type} [Inhabited α] (L : El α) (ok : α → Prop) (hflat : Flat L) (hk : Tryz.prog.cellsOf L.E = L.k)
  {H : Type} {enc : TypeId × Value → H} {W : World} {r : Reach} {b : Nat} {v : Value} {d : DataW H} {p : List MemPlace}
  (hel : ∀ {n : Nat} {cs : List Value} {y : DataW H × List MemPlace}, DataW.trod enc Tryz.prog W 0 (fun _ => true) true n L.E cs = some y → ∃ x, L.R (· < W.heap.size) W cs x ∧ ok x)
  (hv : Value.okWide Tryz.prog W r b L.S v) (h : DataW.Trod enc Tryz.prog W 0 (fun _ => true) true L.S v d p) : ∃ xs : List α, SeqE L W v xs ∧ ∀ x ∈ xs, ok x := by
 obtain ⟨a0, n0, c0, rfl⟩ := okWide_slice L.und hv;obtain ⟨fuel, hf⟩ := h
 rcases Go.Deep.open_slice L.und hf with ⟨hcs, -⟩ | ⟨a, len, cap, m, n, D, Pl, hcs, -, hl, hm, hmm, -, hi⟩
 ·simp [Value.cells] at hcs
  obtain ⟨rfl, rfl, rfl⟩ := hcs;exact ⟨[], SeqE.nil W, fun x hx => absurd hx (by simp)⟩
 ·simp [Value.cells] at hcs
  obtain ⟨rfl, rfl, rfl⟩ := hcs;simp only [↓reduceIte] at hmm
  subst hmm;have each : ∀ j, j < n0 → ∃ vs x, L.R (· < W.heap.size) W vs x ∧ ok x ∧ ∀ i u, vs[i]? = some u → W.cell? (a.add (j * L.k + i)) = some u := by
   intro j hj;obtain ⟨cs, hc, ht⟩ := hi j (by omega);rw [hk] at hc;obtain ⟨-, hcl, hat⟩ := World.cells?_some hc;obtain ⟨x, hR, hx⟩ := hel ht;refine ⟨cs, x, hR, hx, fun i u hu => ?_⟩;have hil : i < L.k := by rw [← L.len hR]; exact (List.getElem?_eq_some_iff.1 hu).1
   have := hat i hil;rw [Go.Deep.add_add] at this;rw [this, hu]
  by_cases hp : 0 < n0
  ·have hspot : a.spot = none := by
    obtain ⟨vs, x, hR, -, hc⟩ := each 0 hp;have hl0 : 0 < vs.length := by rw [L.len hR]; exact L.pos
    have := World.cell?_spot (hc 0 _ (List.getElem?_eq_getElem hl0))
    simpa [Addr.add] using this
   obtain ⟨b0, o, spot⟩ := a;simp only at hspot
   subst hspot;have hblt : b0 < W.heap.size := by
    obtain ⟨vs, x, hR, -, hc⟩ := each 0 hp;have hl0 : 0 < vs.length := by rw [L.len hR]; exact L.pos
    have := World.block_lt_of_cell? W _ (hc 0 _ (List.getElem?_eq_getElem hl0))
    simpa [Addr.add] using this
   have build : ∀ m, m ≤ n0 → ∃ (vals : List Value) (xs : List α), xs.length = m ∧ Rows L (· < W.heap.size) W vals xs ∧ (∀ x ∈ xs, ok x) ∧ ∀ i u, vals[i]? = some u → W.cell? ⟨b0, o + i, none⟩ = some u := by
    intro m
    induction m with
    | zero => intro _; exact ⟨[], [], rfl, Rows.nil _ _, fun x hx => absurd hx (by simp), fun i u hu => by simp at hu⟩
    | succ m ih =>
     intro hm2;obtain ⟨vals, xs, hl, hr, hok, hc⟩ := ih (by omega);obtain ⟨vs, x, hR, hx, hcx⟩ := each m (by omega);refine ⟨vals ++ vs, xs ++ [x], by rw [List.length_append, hl]; rfl, hr.append (Rows.of_one hR), fun y hy => ?_, fun i u hu => ?_⟩
     ·rcases List.mem_append.1 hy with hy | hy
      ·exact hok y hy
      ·rw [List.mem_singleton.1 hy]; exact hx
     ·by_cases hlt : i < vals.length
      ·rw [List.getElem?_append_left hlt] at hu
       exact hc i u hu
      ·rw [List.getElem?_append_right (by omega)] at hu
       have := hcx _ u hu;rw [add_plain] at this;rw [hr.1, hl] at this hlt;rw [show o + i = o + (m * L.k + (i - m * L.k)) by omega];exact this
   obtain ⟨vals, xs, hlx, hr, hok, hc⟩ := build n0 (Nat.le_refl _);exact ⟨xs, ⟨_, m, vals, by rw [hlx], by omega, hm, (by simp), hr, fun _ => ⟨b0, o, rfl, hblt, hc⟩⟩, hok⟩
  ·obtain rfl : n0 = 0 := by omega
   exact ⟨[], SeqE.empty W a m hm, fun x hx => absurd hx (by simp)⟩
end
theorem fields_dot : Tryz.prog.underlying 45 = some (.struct (Tryz.prog.fieldsOf 45)) := by kernel_rfl
theorem held_dot : Tryz.prog.stoodInHeld 45 = false := by kernel_rfl
theorem fields_item : Tryz.prog.underlying 47 = some (.struct (Tryz.prog.fieldsOf 47)) := by kernel_rfl
theorem held_item : Tryz.prog.stoodInHeld 47 = false := by kernel_rfl
theorem dot_dec (d e : PDot) : decide (d = e) = (decide (d.node = e.node) && (decide (d.seq = e.seq) && decide (d.pos = e.pos))) := by
 rw [Bool.eq_iff_iff, Bool.and_eq_true, Bool.and_eq_true, decide_eq_true_iff, decide_eq_true_iff, decide_eq_true_iff, decide_eq_true_iff];exact ⟨fun h => by subst h; exact ⟨rfl, rfl, rfl⟩, fun ⟨h1, h2, h3⟩ => pdot_ext h1 h2 h3⟩
theorem item_dec (x y : PItem) : decide (x = y) = (decide (x.key = y.key) && (decide (x.field = y.field) && (decide (x.kind = y.kind) && (decide (x.elem = y.elem) && (decide (x.n = y.n) && decide (x.dot = y.dot)))))) := by
 rw [Bool.eq_iff_iff];simp only [Bool.and_eq_true, decide_eq_true_iff]
 exact ⟨fun h => by subst h; exact ⟨rfl, rfl, rfl, rfl, rfl, rfl⟩, fun ⟨h1, h2, h3, h4, h5, h6⟩ => pitem_ext h1 h2 h3 h4 h5 h6⟩
theorem eq_dot (k : Nat) (d e : PDot) (w : World) : (Op.equalIn (k + 2) 45 (.agg #[.int .i64 d.node, .int .i64 d.seq, .int .i64 d.pos]) (.agg #[.int .i64 e.node, .int .i64 e.seq, .int .i64 e.pos])).run Tryz.prog w = .ok (decide (d = e)) w := by
 rw [run_equalIn_agg w (k + 1) _ _ _ fields_dot held_dot, dot_dec];simp [Program.fieldsOf, Tryz.underlying45, Tryz.underlying3, Tryz.isAgg3, Tryz.sizeOf3, Op.eqFields, go_sem]
 by_cases h1 : d.node = e.node
 ·by_cases h2 : d.seq = e.seq
  ·by_cases h3 : d.pos = e.pos <;> simp [h1, h2, h3]
  ·simp [h1, h2]
 ·simp [h1]
theorem txt_dec (s t : Txt) : ((bt s).toList == (bt t).toList) = decide (s = t) := text_eq s t
theorem eq_item (k : Nat) (x y : PItem) (w : World) : (Op.equalIn (k + 3) 47 (.agg #[.string (bt x.key), .string (bt x.field), .int .i64 x.kind, .string (bt x.elem), .int .i64 x.n, .int .i64 x.dot.node, .int .i64 x.dot.seq, .int .i64 x.dot.pos])
  (.agg #[.string (bt y.key), .string (bt y.field), .int .i64 y.kind, .string (bt y.elem), .int .i64 y.n, .int .i64 y.dot.node, .int .i64 y.dot.seq, .int .i64 y.dot.pos])).run Tryz.prog w = .ok (decide (x = y)) w := by
 rw [run_equalIn_agg w (k + 2) _ _ _ fields_item held_item, item_dec];have e1 := txt_dec x.key y.key;have e2 := txt_dec x.field y.field;have e3 := txt_dec x.elem y.elem;have e4 := eq_dot k x.dot y.dot w;generalize bt x.key = K1 at *;generalize bt y.key = K2 at *;generalize bt x.field = F1 at *;generalize bt y.field = F2 at *;generalize bt x.elem = E1 at *;generalize bt y.elem = E2 at *
 by_cases h1 : x.key = y.key
 ·by_cases h2 : x.field = y.field
  ·by_cases h3 : x.kind = y.kind
   ·by_cases h4 : x.elem = y.elem
    ·by_cases h5 : x.n = y.n
     ·generalize decide (x.dot = y.dot) = b at *
      cases b
      ·simp [Program.fieldsOf, Tryz.underlying47, Tryz.underlying3, Tryz.underlying2, Tryz.underlying9, Tryz.isAgg3, Tryz.isAgg2, Tryz.isAgg9, Tryz.isAgg45, Tryz.sizeOf45, Op.eqFields, run_equalIn_int, run_equalIn_string, part, e1, e2, e3, e4, h1, h2, h3, h4, h5]
      ·simp [Program.fieldsOf, Tryz.underlying47, Tryz.underlying3, Tryz.underlying2, Tryz.underlying9, Tryz.isAgg3, Tryz.isAgg2, Tryz.isAgg9, Tryz.isAgg45, Tryz.sizeOf45, Op.eqFields, run_equalIn_int, run_equalIn_string, part, e1, e2, e3, e4, h1, h2, h3, h4, h5]
     ·simp [Program.fieldsOf, Tryz.underlying47, Tryz.underlying3, Tryz.underlying2, Tryz.underlying9, Tryz.isAgg3, Tryz.isAgg2, Tryz.isAgg9, Op.eqFields, run_equalIn_int, run_equalIn_string, part, e1, e2, e3, h1, h2, h3, h4, h5]
    ·simp [Program.fieldsOf, Tryz.underlying47, Tryz.underlying3, Tryz.underlying2, Tryz.underlying9, Tryz.isAgg3, Tryz.isAgg2, Tryz.isAgg9, Op.eqFields, run_equalIn_int, run_equalIn_string, part, e1, e2, e3, h1, h2, h3, h4]
   ·simp [Program.fieldsOf, Tryz.underlying47, Tryz.underlying3, Tryz.underlying2, Tryz.underlying9, Tryz.isAgg3, Tryz.isAgg2, Tryz.isAgg9, Op.eqFields, run_equalIn_int, run_equalIn_string, part, e1, e2, h1, h2, h3]
  ·simp [Program.fieldsOf, Tryz.underlying47, Tryz.underlying3, Tryz.underlying2, Tryz.underlying9, Tryz.isAgg3, Tryz.isAgg2, Tryz.isAgg9, Op.eqFields, run_equalIn_int, run_equalIn_string, part, e1, e2, h1, h2]
 ·simp [Program.fieldsOf, Tryz.underlying47, Tryz.underlying3, Tryz.underlying2, Tryz.underlying9, Tryz.isAgg3, Tryz.isAgg2, Tryz.isAgg9, Op.eqFields, run_equalIn_int, run_equalIn_string, part, e1, h1]
theorem eql_dot (d e : PDot) (w : World) : (binOp .eql 45 (.agg #[.int .i64 d.node, .int .i64 d.seq, .int .i64 d.pos]) (.agg #[.int .i64 e.node, .int .i64 e.seq, .int .i64 e.pos])).run Tryz.prog w = .ok (.bool (decide (d = e))) w := by
 rw [run_eql_struct, eq_dot 9998]
 rfl
theorem neq_item (x y : PItem) (w : World) : (binOp .neq 47 (.agg #[.string (bt x.key), .string (bt x.field), .int .i64 x.kind, .string (bt x.elem), .int .i64 x.n, .int .i64 x.dot.node, .int .i64 x.dot.seq, .int .i64 x.dot.pos])
  (.agg #[.string (bt y.key), .string (bt y.field), .int .i64 y.kind, .string (bt y.elem), .int .i64 y.n, .int .i64 y.dot.node, .int .i64 y.dot.seq, .int .i64 y.dot.pos])).run Tryz.prog w = .ok (.bool (!decide (x = y))) w := by
 rw [run_neq_struct, eq_item 9997]
 rfl
theorem eql_item (x y : PItem) (w : World) : (binOp .eql 47 (.agg #[.string (bt x.key), .string (bt x.field), .int .i64 x.kind, .string (bt x.elem), .int .i64 x.n, .int .i64 x.dot.node, .int .i64 x.dot.seq, .int .i64 x.dot.pos])
  (.agg #[.string (bt y.key), .string (bt y.field), .int .i64 y.kind, .string (bt y.elem), .int .i64 y.n, .int .i64 y.dot.node, .int .i64 y.dot.seq, .int .i64 y.dot.pos])).run Tryz.prog w = .ok (.bool (decide (x = y))) w := by
 rw [run_eql_struct, eq_item 9997]
 rfl
end Go.Proofs.YtfapkepfngddlaaGreat
