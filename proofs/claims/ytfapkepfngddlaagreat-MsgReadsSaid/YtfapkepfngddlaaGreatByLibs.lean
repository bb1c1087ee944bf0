/- WORDS FOR BYTES, OF NO PACKAGE: slices that read as a list of bytes (nil, empty, cut); slices of the call's own; append of any such slice or text; texts and bytes; what the row hands over. (Third edition: lengths up to 2^30.) What the library's functions and the document's own helpers leave, for bytes: slices.Grow of nil, slices.Concat, bytes.Clone, Copy, Same; over any slices that read as lists of bytes. -/
import Derived.Test.YtfapkepfngddlaaGreatRows
import Derived.Test.YtfapkepfngddlaaGreatBCodes
import Derived.WalkKit
import Derived.Outline
import Derived.Lib.Hide
import Derived.Laws.BitsAllLaws
import Derived.Maps.AppendAt
import Derived.OpenShut
import Derived.Laws.AppendOwnNone
import Derived.Lib.AppendStr
import Derived.Laws.IdiomStrings
import Derived.Laws.BytesArg
import Derived.BigQuiet
import Derived.Deep.QuietTactic
import Derived.WalkSmall
import Derived.Lib.AppendZeros
import Derived.WalkSpells
set_option maxRecDepth 100000
set_option maxHeartbeats 64000000
namespace Go.Proofs.YtfapkepfngddlaaGreat.By
open Go.RowKit Plain
set_option linter.unusedVariables false
def bv (c : BitVec 8) : Value := .int .u8 c.toNat
theorem bv_eq {n : Int} {c : BitVec 8} (h : n = c.toNat) : Value.int .u8 n = bv c := by unfold bv; rw [h]
def Seq (w : World) (v : Value) (xs : Bytes) : Prop :=
 ∃ a cap, v = .slice a xs.length cap ∧ xs.length ≤ cap ∧ cap ≤ maxLen ∧ (a = none → cap = 0) ∧
  (0 < xs.length → ∃ b off, a = some ⟨b, off, none⟩ ∧ ∀ j, j < xs.length → w.cell? ⟨b, off + j, none⟩ = some (bv (xs.getD j 0#8)))
theorem Seq.nil (w : World) : Seq w (.slice none 0 0) [] := ⟨none, 0, rfl, Nat.zero_le _, Nat.zero_le _, fun _ => rfl, fun h => absurd h (by simp)⟩
theorem Seq.empty (w : World) (a : Addr) (cap : Nat) (h : cap ≤ maxLen) : Seq w (.slice (some a) 0 cap) [] := ⟨some a, cap, rfl, Nat.zero_le _, h, (by simp), fun h => absurd h (by simp)⟩
theorem Seq.of_cell {w w' : World} {v : Value} {xs : Bytes} (h : Seq w v xs) (hc : ∀ a, w'.cell? a = w.cell? a) : Seq w' v xs := by
 obtain ⟨a, cap, rfl, h1, h2, h0, h3⟩ := h;refine ⟨a, cap, rfl, h1, h2, h0, fun hp => ?_⟩;obtain ⟨b, off, rfl, g⟩ := h3 hp;exact ⟨b, off, rfl, fun j hj => (hc _).trans (g j hj)⟩
theorem Seq.below' {N : Nat} {w w' : World} {v : Value} {xs : Bytes} (h : Seq w v xs) (hb : Below N w w') (hN : w.heap.size ≤ N) : Seq w' v xs := by
 obtain ⟨a, cap, rfl, h1, h2, h0, h3⟩ := h;refine ⟨a, cap, rfl, h1, h2, h0, fun hp => ?_⟩;obtain ⟨b, off, rfl, hc⟩ := h3 hp;refine ⟨b, off, rfl, fun j hj => ?_⟩;have hlt : b < w.heap.size := World.block_lt_of_cell? w ⟨b, off + j, none⟩ (hc j hj);exact (hb.cell (p := ⟨b, off + j, none⟩) (show b < N by omega)).trans (hc j hj)
theorem Seq.below {w w' : World} {v : Value} {xs : Bytes} (h : Seq w v xs) (hb : Below w.heap.size w w') : Seq w' v xs := Seq.below' h hb (Nat.le_refl _)
theorem Seq.below_alloc {w : World} {v : Value} {xs : Bytes} (h : Seq w v xs) (o : Obj) : Seq (w.alloc o) v xs := h.below ((Below.refl _ _).alloc (Nat.le_refl _) _)
theorem Seq.parts {w : World} {v : Value} {xs : Bytes} (h : Seq w v xs) : ∃ a cap, v = .slice a xs.length cap ∧ xs.length ≤ cap ∧ cap ≤ maxLen ∧ (a = none → cap = 0) ∧ Seq w (.slice a xs.length cap) xs := by
 have h' := h;obtain ⟨a, cap, rfl, h1, h2, h0, h3⟩ := h;exact ⟨a, cap, rfl, h1, h2, h0, h'⟩
theorem Seq.spot {w : World} {v : Value} {xs : Bytes} (h : Seq w v xs) (hp : 0 < xs.length) : ∃ b o cap, v = .slice (some ⟨b, o, none⟩) xs.length cap ∧ xs.length ≤ cap ∧ cap ≤ maxLen ∧ Seq w (.slice (some ⟨b, o, none⟩) xs.length cap) xs ∧ ∀ j, j < xs.length → w.cell? ⟨b, o + j, none⟩ = some (bv (xs.getD j 0#8)) := by
 have h' := h;obtain ⟨a, cap, rfl, h1, h2, h0, h3⟩ := h;obtain ⟨b, o, rfl, hc⟩ := h3 hp;exact ⟨b, o, cap, rfl, h1, h2, h', hc⟩
theorem Seq.first {w : World} {a : Option Addr} {n cap : Nat} {xs : Bytes} (h : Seq w (.slice a n cap) xs) (k : Nat) (hk : k ≤ xs.length) : Seq w (.slice a k cap) (xs.take k) := by
 obtain ⟨a', cap', hv, h1, h2, h0, h3⟩ := h;simp only [Value.slice.injEq] at hv
 obtain ⟨rfl, rfl, rfl⟩ := hv;have hl : (xs.take k).length = k := by rw [List.length_take]; omega
 refine ⟨a, cap, by rw [hl], by omega, h2, h0, fun hp => ?_⟩;obtain ⟨b, off, rfl, hc⟩ := h3 (by omega);refine ⟨b, off, rfl, fun j hj => ?_⟩;rw [hc j (by omega)];simp [List.getD, show j < k by omega]
theorem Seq.from {w : World} {b o n cap : Nat} {xs : Bytes} (h : Seq w (.slice (some ⟨b, o, none⟩) n cap) xs) (k : Nat) (hk : k ≤ xs.length) : Seq w (.slice (some ⟨b, if cap = k then o else o + k, none⟩) (n - k) (cap - k)) (xs.drop k) := by
 obtain ⟨a', cap', hv, h1, h2, h0, h3⟩ := h;simp only [Value.slice.injEq] at hv
 obtain ⟨rfl, rfl, rfl⟩ := hv;refine ⟨_, cap - k, by rw [List.length_drop], by rw [List.length_drop]; omega, by omega, (by simp), fun hp => ?_⟩;rw [List.length_drop] at hp;rw [if_neg (by omega)];obtain ⟨b', o', he, hc⟩ := h3 (by omega)
 cases he
 refine ⟨b, o + k, rfl, fun j hj => ?_⟩;rw [List.length_drop] at hj;have := hc (k + j) (by omega);rw [show o + k + j = o + (k + j) by omega, this];simp [List.getD]
def Owns (B : Nat) (w : World) (v : Value) (xs : Bytes) : Prop := w.ownsRow B 5 1 v xs.length (xs.map bv)
theorem Owns.nil (B : Nat) (w : World) : Owns B w (.slice none 0 0) [] := World.ownsRow_nil _ _ _ _
theorem getD_map (xs : Bytes) (j : Nat) (hj : j < xs.length) : (xs.map bv)[j]? = some (bv (xs.getD j 0#8)) := by
 simp [List.getD, List.getElem?_eq_getElem hj]
theorem Owns.seq {B : Nat} {w : World} {v : Value} {xs : Bytes} (h : Owns B w v xs) : Seq w v xs := by
 have h' := h
 rcases h.2 with ⟨rfl, hn⟩ | ⟨g, cap, cur, rfl, hb, hg, hnc, hcm, hcs, htake⟩
 ·obtain rfl : xs = [] := List.eq_nil_of_length_eq_zero hn
  exact Seq.nil w
 ·refine ⟨_, cap, rfl, hnc, hcm, (by simp), fun hp => ⟨g, 0, rfl, fun j hj => ?_⟩⟩
  have := World.ownsRow.cellAt h' j (by omega);rw [Nat.zero_add, this, getD_map xs j hj]
theorem Owns.parts {B : Nat} {w : World} {v : Value} {xs : Bytes} (h : Owns B w v xs) : ∃ a cap, v = .slice a xs.length cap ∧ xs.length ≤ cap ∧ cap ≤ maxLen ∧ Owns B w (.slice a xs.length cap) xs ∧ (a = none → cap = 0) := by
 obtain ⟨a, cap, rfl, h1, h2, h0, hs⟩ := h.seq.parts;exact ⟨a, cap, rfl, h1, h2, h, h0⟩
theorem Owns.lt {B : Nat} {w : World} {v : Value} {xs : Bytes} (h : Owns B w v xs) : ∀ k, v.ownBlock = some k → B ≤ k ∧ k < w.heap.size := World.ownsRow.lt h
theorem Owns.alloc {B : Nat} {w : World} {v : Value} {xs : Bytes} (h : Owns B w v xs) (o : Obj) : Owns B (w.alloc o) v xs := World.ownsRow.alloc h o
theorem Owns.mono {B C : Nat} {w : World} {v : Value} {xs : Bytes} (h : Owns B w v xs) (hc : C ≤ B) : Owns C w v xs := by
 refine ⟨h.1, ?_⟩
 rcases h.2 with hn | ⟨g, cap, cur, hv, hb, hg⟩
 ·exact .inl hn
 ·exact .inr ⟨g, cap, cur, hv, by omega, hg⟩
theorem Owns.below {B N : Nat} {w w' : World} {v : Value} {xs : Bytes} (h : Owns B w v xs) (hb : Below N w w') (hN : w.heap.size ≤ N) : Owns B w' v xs := by
 refine ⟨h.1, ?_⟩
 rcases h.2 with hn | ⟨g, cap, cur, hv, hb', hg, hr⟩
 ·exact .inl hn
 ·have hlt : g < w.heap.size := (Array.getElem?_eq_some_iff.1 hg).1
  exact .inr ⟨g, cap, cur, hv, hb', (hb.block g (by omega)).trans hg, hr⟩
theorem Owns.empty (w : World) (B : Nat) (hB : B ≤ w.heap.size) : Owns B (w.alloc (.cells #[] 5)) (.slice (some ⟨w.heap.size, 0, none⟩) 0 0) [] :=
 World.ownsRow_lit w #[] 0 hB (Nat.zero_le _) rfl
theorem Owns.one (w : World) (B : Nat) (x : BitVec 8) (hB : B ≤ w.heap.size) : Owns B (w.alloc (.cells #[bv x] 5)) (.slice (some ⟨w.heap.size, 0, none⟩) 1 1) [x] :=
 World.ownsRow_lit w #[bv x] 1 hB (by unfold maxLen; omega) rfl
theorem Seq.one (w : World) (n : Int) (x : BitVec 8) (h : n = x.toNat) : Seq (w.alloc (.cells #[.int .u8 n] 5)) (.slice (some ⟨w.heap.size, 0, none⟩) 1 1) [x] := by
 rw [bv_eq h];exact (Owns.one w w.heap.size x (Nat.le_refl _)).seq
def Made (w : World) (xs : Bytes) (e : Ending) (w' : World) : Prop := ∃ v, e = .returned v ∧ Owns w.heap.size w' v xs ∧ Below w.heap.size w w'
theorem info2' : (Tryz.prog.info? 5).map (fun i => (i.zero, i.size, i.bytes)) = some (some (.int .u8 0), 1, 1) := by kernel_rfl
theorem bytes_oneCell (ys : Bytes) : ∀ u ∈ ys.map bv, u.oneCell' = true := by
 intro u hu;obtain ⟨c, -, rfl⟩ := List.mem_map.1 hu
 rfl
theorem wpList_append_seq {w : World} {ops : Array Oper} {rest : List Oper} {o : Oper} {act : Act} {Q : Exit → Act → World → Prop} (hgd : o.guard = none) (s x : Operand)
  (ho : o.op = .call { callee := .builtin .append, args := #[s, x], argTypes := #[31, 31] }) (B : Nat) {v u : Value} {xs ys : Bytes}
  (hs : act.eval s = v) (hown : Owns B w v xs) (hx : act.eval x = u) (hseq : Seq w u ys) (hlen : xs.length + ys.length ≤ 1073741824) (hbase : B ≤ w.heap.size)
  (h : ∀ v' w', Owns B w' v' (xs ++ ys) → w.grownBy w' v.ownBlock → (v'.ownBlock = v.ownBlock ∨ v'.ownBlock = some w.heap.size) → wpList Tryz.prog ops Q rest (act.put o.dst v') w') : wpList Tryz.prog ops Q (o :: rest) act w := by
 obtain ⟨i0, hi, hz0, hz1, hz2⟩ := info_parts info2';obtain ⟨a, cap, rfl, h1, h2, h0, h3⟩ := hseq
 cases a with
 | none =>
  obtain rfl := h0 rfl;obtain rfl : ys = [] := List.eq_nil_of_length_eq_zero (by omega);refine wpList_append_own_none hgd s x 31 ho B 5 i0 1 Tryz.underlying31 hi v _ _ hs hown hx (h v w ?_ (World.grownBy.refl _ _) (.inl rfl));rw [List.append_nil]; exact hown
 | some ad =>
  refine wpList_append_own_at _ hgd s x 31 ho B 5 i0 (.int .u8 0) 1 1 Tryz.underlying31 hi hz0 hz1 hz2 rfl (by decide) v _ _ hs hown ad ys.length cap (ys.map bv) hx (by simp) ?_ (bytes_oneCell _) (by unfold maxLen; omega) (by omega) hbase ?_
  ·intro j u hu
   have hj : j < ys.length := by
    have := (List.getElem?_eq_some_iff.1 hu).1
    simpa using this
   obtain ⟨b, off, he, hc⟩ := h3 (by omega)
   cases he
   rw [getD_map ys j hj] at hu
   cases hu
   rw [Addr.add_lit];exact hc j hj
  ·intro v' w' hown' hg _ hat
   exact h v' w' (by unfold Owns; rw [List.length_append, List.map_append]; exact hown') hg hat
theorem run_append_seq {w : World} (B : Nat) (ty : TypeId) {v u : Value} {xs ys : Bytes} (hown : Owns B w v xs) (hseq : Seq w u ys) (hlen : xs.length + ys.length ≤ 1073741824) (hbase : B ≤ w.heap.size) :
  ∃ v' w', (Builtin.append_ #[31, 31] ty #[v, u]).run Tryz.prog w = .ok v' w' ∧ Owns B w' v' (xs ++ ys) ∧ w.grownBy w' v.ownBlock ∧ (v'.ownBlock = v.ownBlock ∨ v'.ownBlock = some w.heap.size) := by
 obtain ⟨i0, hi, hz0, hz1, hz2⟩ := info_parts info2';obtain ⟨a, cap, rfl, h1, h2, h0, h3⟩ := hseq
 cases a with
 | none =>
  obtain rfl := h0 rfl;obtain rfl : ys = [] := List.eq_nil_of_length_eq_zero (by omega);refine ⟨v, w, run_append_owned_none (P := Tryz.prog) (w := w) B 31 ty 5 i0 1 Tryz.underlying31 hi v _ _ hown, ?_, World.grownBy.refl _ _, .inl rfl⟩;rw [List.append_nil]; exact hown
 | some ad =>
  obtain ⟨v', w', hr, ho, hg, -, hat⟩ := run_append_own_at (P := Tryz.prog) w B 31 ty 5 i0 (.int .u8 0) 1 1 Tryz.underlying31 hi hz0 hz1 hz2 rfl (by decide) v _ _ hown ad ys.length cap (ys.map bv) (by simp) (fun j u hu => by
    have hj : j < ys.length := by
     have := (List.getElem?_eq_some_iff.1 hu).1
     simpa using this
    obtain ⟨b, off, he, hc⟩ := h3 (by omega)
    cases he
    rw [getD_map ys j hj] at hu
    cases hu
    rw [Addr.add_lit];exact hc j hj) (bytes_oneCell _) (by unfold maxLen; omega) (by omega) hbase
  exact ⟨v', w', hr, by unfold Owns; rw [List.length_append, List.map_append]; exact ho, hg, hat⟩
theorem strCells_bs (s : ByteArray) : Lib.strCells s = (bs s).map bv := by
 unfold Lib.strCells bs;rw [List.map_map]
 rfl
theorem wpList_append_text {w : World} {ops : Array Oper} {rest : List Oper} {o : Oper} {act : Act} {Q : Exit → Act → World → Prop} (hgd : o.guard = none) (s x : Operand)
  (ho : o.op = .call { callee := .builtin .append, args := #[s, x], argTypes := #[31, 9] }) (B : Nat) {v : Value} {xs : Bytes} {t : ByteArray}
  (hs : act.eval s = v) (hown : Owns B w v xs) (hx : act.eval x = .string t) (hlen : xs.length + t.size ≤ 1073741824) (hbase : B ≤ w.heap.size)
  (h : ∀ v' w', Owns B w' v' (xs ++ bs t) → w.grownBy w' v.ownBlock → wpList Tryz.prog ops Q rest (act.put o.dst v') w') : wpList Tryz.prog ops Q (o :: rest) act w := by
 obtain ⟨i0, hi, hz0, hz1, hz2⟩ := info_parts info2';refine Lib.wpList_append_own_string w hgd s x 31 9 ho B 5 i0 Tryz.underlying31 Tryz.underlying9 hi hz0 hz1 hz2 v _ _ hs hown t hx (by unfold maxLen; omega) (by omega) hbase ?_;intro v' w' hown' hg _;exact h v' w' (by unfold Owns; rw [List.length_append, List.map_append, bs_len, ← strCells_bs]; exact hown') hg
theorem seq_text (w : World) (s : ByteArray) (hs : s.size ≤ 1073741824) (cap : Nat) (hc : s.size ≤ cap) (hm : cap ≤ maxLen) (fr : Nat × Nat) : Seq (w.drew.alloc (.cells (bytesRow s cap) 5 fr)) (.slice (some ⟨w.heap.size, 0, none⟩) s.size cap) (bs s) := by
 refine ⟨_, cap, by rw [bs_len], by rw [bs_len]; exact hc, hm, (by simp), fun hp => ⟨w.heap.size, 0, rfl, fun j hj => ?_⟩⟩;rw [bs_len] at hj;have hj' : j < s.data.size := hj;rw [Nat.zero_add];have := World.cell?_alloc_mark w.drew (bytesRow s cap) 5 fr j;refine this.trans ?_;rw [bytesRow_at s cap j hj'];unfold bv bs;simp only [List.getD, List.getElem?_map, Array.getElem?_toList, Array.getElem?_eq_getElem hj', Option.map_some, Option.getD_some]
 rfl
theorem bytes_run (w : World) (s : ByteArray) : (convert 9 31 (.string s)).run Tryz.prog w = .ok (.slice (some ⟨w.heap.size, 0, none⟩) s.size (grownCap w s.size 0 5))
   (w.drew.alloc (.cells (bytesRow s (grownCap w s.size 0 5)) 5 ((bytesRow s (grownCap w s.size 0 5)).size, (bytesRow s (grownCap w s.size 0 5)).size + 1))) :=
 run_bytes_of_string w 9 31 5 s Tryz.underlying9 Tryz.underlying31 Tryz.underlying5
theorem sb_nums (xs : Bytes) : strOfNums (xs.map fun c => (c.toNat : Int)) = sb xs := by
 unfold strOfNums sb;rw [List.map_map]
 congr 2
 apply List.map_congr_left
 intro c _
 apply UInt8.toNat_inj.1
 have := c.isLt;simp
theorem text_run {w : World} {v : Value} {xs : Bytes} (h : Seq w v xs) : (convert 31 9 v).run Tryz.prog w = .ok (.string (sb xs)) w := by
 obtain ⟨a, cap, rfl, h1, h2, h0, h3⟩ := h
 by_cases hp : 0 < xs.length
 ·obtain ⟨b, off, rfl, hc⟩ := h3 hp
  rw [← sb_nums];refine run_convert_bytes_arg w 31 5 Tryz.underlying31 Tryz.underlying5 b off xs.length cap _ (by simp) (fun i hi => ?_) 9 Tryz.underlying9;rw [hc i hi];simp [bv, List.getD, hi]
 ·obtain rfl : xs = [] := List.eq_nil_of_length_eq_zero (by omega)
  cases a with
  | none => exact run_convert_bytes_nil w 31 5 Tryz.underlying31 Tryz.underlying5 0 cap 9 Tryz.underlying9
  | some ad => exact run_convert_bytes_back w 31 9 5 ad cap [] Tryz.underlying31 Tryz.underlying5 Tryz.underlying9 (by simp)
theorem quiet_left {P : Program} {f : FuncId} {args : Array Value} {w : World} {n : Nat} {v : Value}
  (h : Calls P f args (w.drewN n) fun e w' => e = .returned v ∧ w.drewN n = w') : Calls P f args (w.drewN n) fun e w'' => e = .returned v ∧ ∃ m, w'' = w.drewN m :=
 h.mono fun _ _ ⟨he, hm⟩ => ⟨he, n, hm.symm⟩
theorem below_drewN {B : Nat} {w w' : World} (h : Below B w w') : ∀ n, Below B w (w'.drewN n)
 | 0 => h
 | n + 1 => (below_drewN h n).drew
def flat (f : Nat → Bytes) : Nat → Bytes
 | 0 => []
 | k + 1 => flat f k ++ f k
theorem flat_len (f : Nat → Bytes) (k n : Nat) (h : k ≤ n) : (flat f k).length ≤ (flat f n).length := by
 induction n with
 | zero =>
  obtain rfl : k = 0 := by omega
  exact Nat.le_refl _
 | succ n ih =>
  by_cases e : k = n + 1
  ·subst e; exact Nat.le_refl _
  ·have := ih (by omega)
   rw [flat, List.length_append]; omega
theorem grow_nil (n : Nat) (hn : n ≤ 1048576) (w : World) : Calls Tryz.prog 148 #[.slice none 0 0, .int .i64 n] w (Made w []) := by
 obtain ⟨i0, hi, hz0, hz1, hz2⟩ := info_parts info2'
 by_cases h0 : n = 0
 ·subst h0
  go_enter Tryz.func148, Tryz.ntmps148
  go_wp2_with fail
  go_ret
  exact ⟨_, rfl, Owns.nil _ _, Below.refl _ _⟩
 ·have hp : 0 < n := by omega
  have hr := Lib.run_append_nil_zeros (P := Tryz.prog) w 31 3 31 5 i0 (.int .u8 0) .i64 .i64 Tryz.underlying31 Tryz.underlying3 hi hz0 n hp (by omega) (by omega) (by rw [hz2]; omega);have hge := grownCap_ge w n 0 5;have hcm : grownCap w n 0 5 ≤ maxLen := grownCap_le_maxLen w n 0 5 (by unfold maxLen; omega);have hO : Owns w.heap.size (w.drew.alloc (.cells (Builtin.zeroCells (Value.int .u8 0).cells n ++ Builtin.zeroCells (Value.int .u8 0).cells (grownCap w n 0 5 - n)) 5)) (.slice (some ⟨w.heap.size, 0, none⟩) 0 (grownCap w n 0 5)) [] := by
   refine World.ownsRow_made w.drew _ _ (Nat.le_refl _) hcm ?_;have hz1 : (Value.int IntKind.u8 0).cells.size = 1 := rfl;simp only [Array.size_append, size_zeroCells, hz1]
   omega
  have hB : Below w.heap.size w (w.drew.alloc (.cells (Builtin.zeroCells (Value.int .u8 0).cells n ++ Builtin.zeroCells (Value.int .u8 0).cells (grownCap w n 0 5 - n)) 5)) := (Below.refl _ _).drew.alloc (Nat.le_refl _) _;have HO := Lib.hid hO;have HB := Lib.hid hB;have HR := Lib.hid hr;have hm : maxLen = 9223372036854775807 := rfl;rw [hm] at hcm;clear hO hB hr hz0 hz1 hz2 hi hm h0;generalize hG : grownCap w n 0 5 = G at *;clear hG;go_enter Tryz.func148, Tryz.ntmps148
  go_wp2_with (at_builtin; refine Lib.wpList_append_run _ rfl _ _ _ _ rfl _ _ rfl rfl _ _ HR.out ?_)
  go_ret
  exact ⟨_, rfl, HO.out, HB.out⟩
theorem copy_any {v : Value} {xs : Bytes} {w : World} (hs : Seq w v xs) (hlen : xs.length ≤ 1000000) :
  Calls Tryz.prog 17 #[v] w (Made w xs) := by
 obtain ⟨a, cap, rfl, h1, h2, h0, hs⟩ := hs.parts;have hga : Below w.heap.size w (w.alloc (.cells #[] 5)) := (Below.refl _ _).alloc (Nat.le_refl _) _;have S1 := Lib.hid (Seq.below hs hga);clear hs h0;go_enter Tryz.func17, Tryz.ntmps17
 go_wp2_with (at_builtin; refine wpList_append_seq rfl (.tmp 3) (.tmp 4) rfl w.heap.size rfl (Owns.empty w _ (Nat.le_refl _)) rfl S1.out (by simp; omega) (by simp) ?_)
 intro v1 W3 hv1 hg3 _;have hgb : Below w.heap.size w W3 := hga.grown hg3 (by simp) (by intro k hk; cases hk; exact Nat.le_refl _);have V := Lib.hid hv1;clear hg3 hga hv1;go_wp2_with fail
 go_ret
 exact ⟨_, rfl, V.out, hgb⟩
theorem clone_some {a : Addr} {n cap : Nat} {xs : Bytes} {w : World} (hs : Seq w (.slice (some a) n cap) xs) (hlen : xs.length ≤ 1000000) :
  Calls Tryz.prog 170 #[.slice (some a) n cap] w (Made w xs) := by
 have hga : Below w.heap.size w (w.alloc (.cells #[] 5)) := (Below.refl _ _).alloc (Nat.le_refl _) _;have S1 := Lib.hid (Seq.below hs hga);have q22 : ∀ (w : World) (a : Option Addr) (n c n' c' : Nat), (binOp .eql 31 (.slice a n c) (.slice none n' c')).run Tryz.prog w = .ok (.bool a.isNone) w := fun w a n c n' c' => Lib.run_eql_slice_nil w _ _ a n c n' c' Tryz.underlying31
 clear hs;go_enter Tryz.func170, Tryz.ntmps170
 go_wp2_with (at_builtin; refine wpList_append_seq rfl (.tmp 5) (.tmp 6) rfl w.heap.size rfl (Owns.empty w _ (Nat.le_refl _)) rfl S1.out (by simp; omega) (by simp) ?_)
 intro v1 W3 hv1 hg3 _;have hgb : Below w.heap.size w W3 := hga.grown hg3 (by simp) (by intro k hk; cases hk; exact Nat.le_refl _);have V := Lib.hid hv1;clear hg3 hga hv1;go_wp2_with fail
 go_ret
 exact ⟨_, rfl, V.out, hgb⟩
theorem concat_any (b n c : Nat) (vs : Nat → Value) (f : Nat → Bytes) (w : World) (hn : n ≤ 1000) (hc : ∀ j, j < n → w.cell? ⟨b, j, none⟩ = some (vs j)) (hs : ∀ j, j < n → Seq w (vs j) (f j)) (hlen : (flat f n).length ≤ 1000000) :
  Calls Tryz.prog 111 #[.slice (some ⟨b, 0, none⟩) n c] w (Made w (flat f n)) := by
 have HC := Lib.hid hc;have HS := Lib.hid hs;clear hc hs;go_enter Tryz.func111, Tryz.ntmps111
 go_wp2_with fail
 go_loop [3, 11] (fun s i => ∃ k : Nat, k ≤ n ∧ i = .int .i64 k ∧ s = .int .i64 (flat f k).length) (fun _ i => n - (intOf i).toNat)
 case atStart => exact ⟨0, Nat.zero_le _, rfl, rfl⟩
 case round =>
  obtain ⟨k, hk, rfl, rfl⟩ := hrel;have hl := flat_len f k n hk
  by_cases hlt : k < n
  ·have hcell := HC.out k hlt
   obtain ⟨a, cap, hv, h1, h2, h0, hs⟩ := (HS.out k hlt).parts;rw [hv] at hcell;have hl' := flat_len f (k + 1) n (by omega);have e : (flat f (k + 1)).length = (flat f k).length + (f k).length := by rw [flat, List.length_append]
   have E := Lib.hid e;have hl2 : (flat f k).length + (f k).length ≤ 1000000 := by omega
   clear h0 hs hv e hl';go_wp2_with fail
   go_round
   case rel => exact ⟨k + 1, by omega, by go_num, by rw [E.out]; go_num⟩
   case measure => simp [intOf]; omega
  ·obtain rfl : k = n := by omega
   go_wp2_with fail
   refine (grow_nil _ (by omega) _).mono ?_;rintro e w1 ⟨v1, rfl, ho1, hb1⟩;have O1 := Lib.hid ho1;clear ho1;go_wp2_with fail
   go_loopw [6, 27] (fun v i wr => ∃ j : Nat, j ≤ k ∧ i = .int .i64 j ∧ Owns w.heap.size wr v (flat f j) ∧ Below w.heap.size w wr) (fun _ i _ => k - (intOf i).toNat)
   case atStart => exact ⟨0, Nat.zero_le _, rfl, O1.out, hb1⟩
   case round =>
    obtain ⟨j, hj, rfl, ho, hb⟩ := hrel;have hl3 := flat_len f j k hj
    by_cases hlt : j < k
    ·have hcell0 := HC.out j hlt
     have hblt : b < w.heap.size := World.block_lt_of_cell? w ⟨b, j, none⟩ hcell0;obtain ⟨a, cap, hv, h1, h2, h0, hs⟩ := (HS.out j hlt).parts;rw [hv] at hcell0;have hcell := (hb.cell (p := ⟨b, j, none⟩) hblt).trans hcell0;have hl' := flat_len f (j + 1) k (by omega);have E : Hid (flat f (j + 1) = flat f j ++ f j) := Lib.hid rfl;have hl2 : (flat f j).length + (f j).length ≤ 1000000 := by rw [E.out, List.length_append] at hl'; omega
     have hsz := hb.size;have S1 := Lib.hid (Seq.below hs hb);have O2 := Lib.hid ho;have B2 := Lib.hid hb;clear h0 hs hv hl' ho hb hcell0;go_wp2_with (at_builtin; refine wpList_append_seq rfl (.tmp 31) (.tmp 32) rfl w.heap.size rfl O2.out rfl S1.out (by omega) (by omega) ?_)
     intro v2 w2 ho2 hg2 _;have hb2 : Below w.heap.size w w2 := B2.out.grown hg2 (by omega) (fun k hk => (O2.out.lt k hk).1);have O3 := Lib.hid ho2;clear ho2 hg2 hcell;go_wp2_with fail
     go_roundw
     case rel => exact ⟨j + 1, by omega, by go_num, by rw [E.out]; exact O3.out, hb2⟩
     case measure => simp [intOf]; omega
    ·obtain rfl : j = k := by omega
     have O2 := Lib.hid ho;clear ho;go_wp2_with fail
     go_ret
     exact ⟨_, rfl, O2.out, hb⟩
theorem concat_two (b c : Nat) {u v : Value} {xs ys : Bytes} (w : World) (h0 : w.cell? ⟨b, 0, none⟩ = some u) (h1 : w.cell? ⟨b, 1, none⟩ = some v) (hu : Seq w u xs) (hv : Seq w v ys) (hlen : xs.length + ys.length ≤ 1000000) :
  Calls Tryz.prog 111 #[.slice (some ⟨b, 0, none⟩) 2 c] w (Made w (xs ++ ys)) := by
 have h := concat_any b 2 c (fun j => if j = 0 then u else v) (fun j => if j = 0 then xs else ys) w (by omega)
  (fun j hj => by match j, hj with | 0, _ => exact h0 | 1, _ => exact h1) (fun j hj => by match j, hj with | 0, _ => exact hu | 1, _ => exact hv) (by simp [flat]; omega)
 simpa [flat] using h
theorem concat_three (b c : Nat) {u v x : Value} {xs ys zs : Bytes} (w : World) (h0 : w.cell? ⟨b, 0, none⟩ = some u) (h1 : w.cell? ⟨b, 1, none⟩ = some v) (h2 : w.cell? ⟨b, 2, none⟩ = some x) (hu : Seq w u xs) (hv : Seq w v ys) (hx : Seq w x zs) (hlen : xs.length + ys.length + zs.length ≤ 1000000) :
  Calls Tryz.prog 111 #[.slice (some ⟨b, 0, none⟩) 3 c] w (Made w (xs ++ (ys ++ zs))) := by
 have h := concat_any b 3 c (fun j => if j = 0 then u else if j = 1 then v else x) (fun j => if j = 0 then xs else if j = 1 then ys else zs) w (by omega)
  (fun j hj => by match j, hj with | 0, _ => exact h0 | 1, _ => exact h1 | 2, _ => exact h2) (fun j hj => by match j, hj with | 0, _ => exact hu | 1, _ => exact hv | 2, _ => exact hx) (by simp [flat]; omega)
 simpa [flat, List.append_assoc] using h
theorem same_yes {u v : Value} {xs : Bytes} {w : World} (hu : Seq w u xs) (hv : Seq w v xs) :
  Calls Tryz.prog 13 #[u, v] w fun e w' => e = .returned (.bool true) ∧ ∃ n, w' = w.drewN n := by
 by_cases hp : 0 < xs.length
 ·obtain ⟨b1, o1, c1, rfl, g1, m1, -, k1⟩ := hu.spot hp
  obtain ⟨b2, o2, c2, rfl, g2, m2, -, k2⟩ := hv.spot hp;have HU := Lib.hid k1;have HV := Lib.hid k2;have hm : maxLen = 9223372036854775807 := rfl;rw [hm] at m1 m2;clear hu hv k1 k2 hm;go_enter Tryz.func13, Tryz.ntmps13
  go_wp2_with fail
  go_loopw [5] (fun i wr => ∃ k : Nat, k ≤ xs.length ∧ i = .int .i64 k ∧ ∃ n, wr = w.drewN n) (fun i _ => xs.length - (intOf i).toNat)
  case atStart => exact ⟨0, Nat.zero_le _, rfl, 0, rfl⟩
  case round =>
   obtain ⟨k, hk, rfl, n, rfl⟩ := hrel
   by_cases hlt : k < xs.length
   ·have c1' := HU.out k hlt
    have c2' := HV.out k hlt;unfold bv at c1' c2';generalize xs.getD k 0#8 = x at *;have hx := x.isLt;go_wp2_with fail
    go_quiet (fail)
    go_wp2_with fail
    go_roundw
    case rel => exact ⟨k + 1, by omega, by go_num, _, rfl⟩
    case measure => simp [intOf]; omega
   ·obtain rfl : k = xs.length := by omega
    go_wp2_with fail
    go_ret
    exact ⟨rfl, _, rfl⟩
 ·obtain rfl : xs = [] := List.eq_nil_of_length_eq_zero (by omega)
  obtain ⟨a1, c1, rfl, -⟩ := hu;obtain ⟨a2, c2, rfl, -⟩ := hv;simp only [List.length_nil]
  go_enter Tryz.func13, Tryz.ntmps13
  go_wp2_with fail
  go_loop [5] (fun i => i = .int .i64 0) (fun _ => 0)
  case atStart => rfl
  case round =>
   obtain rfl := hrel;go_wp2_with fail
   go_ret
   exact ⟨rfl, 0, rfl⟩
end Go.Proofs.YtfapkepfngddlaaGreat.By
