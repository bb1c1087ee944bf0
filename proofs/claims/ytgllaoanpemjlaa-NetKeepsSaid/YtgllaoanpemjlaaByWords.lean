/- WORDS FOR BYTES, OF NO PACKAGE: slices that read as a list of bytes (nil, empty, cut); slices of the call's own; append of any such slice or text; texts and bytes; what the row hands over. (Third edition: lengths up to 2^30.) -/
import Derived.Test.YtgllaoanpemjlaaRows
import Derived.Test.YtgllaoanpemjlaaBMath
import Derived.WalkKit
import Derived.Outline
import Derived.Lib.Hide
import Derived.Laws.BitsAllLaws
import Derived.Maps.AppendAt
import Derived.OpenShut
import Derived.Laws.AppendOwnNone
import Derived.Lib.AppendStr
import Derived.Laws.IdiomStrings
import Derived.Laws.BytesArg
import Derived.BigQuiet
import Derived.Deep.QuietTactic
import Derived.WalkSmall
namespace Go.Proofs.Ytgllaoanpemjlaa.By
open Go.RowKit Plain
set_option linter.unusedVariables false

set_option maxRecDepth 100000 in
theorem ret_int {k : IntKind} {a b : Int} (h : a = b) : Ending.returned (.int k a) = .returned (.int k b) := by rw [h]
/-- the byte as the model has it -/
def bv (c : BitVec 8) : Value := .int .u8 c.toNat
theorem bv_eq {n : Int} {c : BitVec 8} (h : n = c.toNat) : Value.int .u8 n = bv c := by unfold bv; rw [h]
/-- v is a slice whose elements read as xs -/
def Seq (w : World) (v : Value) (xs : Bytes) : Prop :=
  ∃ a cap, v = .slice a xs.length cap ∧ xs.length ≤ cap ∧ cap ≤ maxLen ∧ (a = none → cap = 0) ∧
    (0 < xs.length → ∃ b off, a = some ⟨b, off, none⟩ ∧ ∀ j, j < xs.length → w.cell? ⟨b, off + j, none⟩ = some (bv (xs.getD j 0#8)))

set_option maxRecDepth 100000 in
theorem Seq.nil (w : World) : Seq w (.slice none 0 0) [] := ⟨none, 0, rfl, Nat.zero_le _, Nat.zero_le _, fun _ => rfl, fun h => absurd h (by simp)⟩
theorem Seq.empty (w : World) (a : Addr) (cap : Nat) (h : cap ≤ maxLen) : Seq w (.slice (some a) 0 cap) [] := ⟨some a, cap, rfl, Nat.zero_le _, h, (by simp), fun h => absurd h (by simp)⟩

theorem Seq.of_cell {w w' : World} {v : Value} {xs : Bytes} (h : Seq w v xs) (hc : ∀ a, w'.cell? a = w.cell? a) : Seq w' v xs := by
  obtain ⟨a, cap, rfl, h1, h2, h0, h3⟩ := h
  refine ⟨a, cap, rfl, h1, h2, h0, fun hp => ?_⟩
  obtain ⟨b, off, rfl, g⟩ := h3 hp
  exact ⟨b, off, rfl, fun j hj => (hc _).trans (g j hj)⟩

set_option maxRecDepth 100000 in
/-- what stands below N stays -/
theorem Seq.below' {N : Nat} {w w' : World} {v : Value} {xs : Bytes} (h : Seq w v xs) (hb : Below N w w') (hN : w.heap.size ≤ N) : Seq w' v xs := by
  obtain ⟨a, cap, rfl, h1, h2, h0, h3⟩ := h
  refine ⟨a, cap, rfl, h1, h2, h0, fun hp => ?_⟩
  obtain ⟨b, off, rfl, hc⟩ := h3 hp
  refine ⟨b, off, rfl, fun j hj => ?_⟩
  have hlt : b < w.heap.size := World.block_lt_of_cell? w ⟨b, off + j, none⟩ (hc j hj)
  exact (hb.cell (p := ⟨b, off + j, none⟩) (show b < N by omega)).trans (hc j hj)
set_option maxRecDepth 100000 in
theorem Seq.below {w w' : World} {v : Value} {xs : Bytes} (h : Seq w v xs) (hb : Below w.heap.size w w') : Seq w' v xs := Seq.below' h hb (Nat.le_refl _)
theorem Seq.below_alloc {w : World} {v : Value} {xs : Bytes} (h : Seq w v xs) (o : Obj) : Seq (w.alloc o) v xs := h.below ((Below.refl _ _).alloc (Nat.le_refl _) _)

set_option maxRecDepth 100000 in
/-- its parts -/
theorem Seq.parts {w : World} {v : Value} {xs : Bytes} (h : Seq w v xs) : ∃ a cap, v = .slice a xs.length cap ∧ xs.length ≤ cap ∧ cap ≤ maxLen ∧ (a = none → cap = 0) ∧ Seq w (.slice a xs.length cap) xs := by
  have h' := h
  obtain ⟨a, cap, rfl, h1, h2, h0, h3⟩ := h
  exact ⟨a, cap, rfl, h1, h2, h0, h'⟩
set_option maxRecDepth 100000 in
/-- where there is something it lies in a block -/
theorem Seq.spot {w : World} {v : Value} {xs : Bytes} (h : Seq w v xs) (hp : 0 < xs.length) : ∃ b o cap, v = .slice (some ⟨b, o, none⟩) xs.length cap ∧ xs.length ≤ cap ∧ cap ≤ maxLen ∧ Seq w (.slice (some ⟨b, o, none⟩) xs.length cap) xs ∧ ∀ j, j < xs.length → w.cell? ⟨b, o + j, none⟩ = some (bv (xs.getD j 0#8)) := by
  have h' := h
  obtain ⟨a, cap, rfl, h1, h2, h0, h3⟩ := h
  obtain ⟨b, o, rfl, hc⟩ := h3 hp
  exact ⟨b, o, cap, rfl, h1, h2, h', hc⟩

set_option maxRecDepth 100000 in
/-- the first k -/
theorem Seq.first {w : World} {a : Option Addr} {n cap : Nat} {xs : Bytes} (h : Seq w (.slice a n cap) xs) (k : Nat) (hk : k ≤ xs.length) : Seq w (.slice a k cap) (xs.take k) := by
  obtain ⟨a', cap', hv, h1, h2, h0, h3⟩ := h
  simp only [Value.slice.injEq] at hv
  obtain ⟨rfl, rfl, rfl⟩ := hv
  have hl : (xs.take k).length = k := by rw [List.length_take]; omega
  refine ⟨a, cap, by rw [hl], by omega, h2, h0, fun hp => ?_⟩
  obtain ⟨b, off, rfl, hc⟩ := h3 (by omega)
  refine ⟨b, off, rfl, fun j hj => ?_⟩
  rw [hc j (by omega)]
  simp [List.getD, show j < k by omega]

set_option maxRecDepth 100000 in
/-- what stands from the k-th on -/
theorem Seq.from {w : World} {b o n cap : Nat} {xs : Bytes} (h : Seq w (.slice (some ⟨b, o, none⟩) n cap) xs) (k : Nat) (hk : k ≤ xs.length) : Seq w (.slice (some ⟨b, if cap = k then o else o + k, none⟩) (n - k) (cap - k)) (xs.drop k) := by
  obtain ⟨a', cap', hv, h1, h2, h0, h3⟩ := h
  simp only [Value.slice.injEq] at hv
  obtain ⟨rfl, rfl, rfl⟩ := hv
  refine ⟨_, cap - k, by rw [List.length_drop], by rw [List.length_drop]; omega, by omega, (by simp), fun hp => ?_⟩
  rw [List.length_drop] at hp
  rw [if_neg (by omega)]
  obtain ⟨b', o', he, hc⟩ := h3 (by omega)
  cases he
  refine ⟨b, o + k, rfl, fun j hj => ?_⟩
  rw [List.length_drop] at hj
  have := hc (k + j) (by omega)
  rw [show o + k + j = o + (k + j) by omega, this]
  simp [List.getD]

/-! ### slices of the call's own -/
def Owns (B : Nat) (w : World) (v : Value) (xs : Bytes) : Prop := w.ownsRow B 5 1 v xs.length (xs.map bv)

set_option maxRecDepth 100000 in
theorem Owns.nil (B : Nat) (w : World) : Owns B w (.slice none 0 0) [] := World.ownsRow_nil _ _ _ _

theorem getD_map (xs : Bytes) (j : Nat) (hj : j < xs.length) : (xs.map bv)[j]? = some (bv (xs.getD j 0#8)) := by
  simp [List.getD, List.getElem?_eq_getElem hj]

set_option maxRecDepth 100000 in
theorem Owns.seq {B : Nat} {w : World} {v : Value} {xs : Bytes} (h : Owns B w v xs) : Seq w v xs := by
  have h' := h
  rcases h.2 with ⟨rfl, hn⟩ | ⟨g, cap, cur, rfl, hb, hg, hnc, hcm, hcs, htake⟩
  · obtain rfl : xs = [] := List.eq_nil_of_length_eq_zero hn
    exact Seq.nil w
  · refine ⟨_, cap, rfl, hnc, hcm, (by simp), fun hp => ⟨g, 0, rfl, fun j hj => ?_⟩⟩
    have := World.ownsRow.cellAt h' j (by omega)
    rw [Nat.zero_add, this, getD_map xs j hj]
set_option maxRecDepth 100000 in
theorem Owns.parts {B : Nat} {w : World} {v : Value} {xs : Bytes} (h : Owns B w v xs) : ∃ a cap, v = .slice a xs.length cap ∧ xs.length ≤ cap ∧ cap ≤ maxLen ∧ Owns B w (.slice a xs.length cap) xs ∧ (a = none → cap = 0) := by
  obtain ⟨a, cap, rfl, h1, h2, h0, hs⟩ := h.seq.parts
  exact ⟨a, cap, rfl, h1, h2, h, h0⟩
theorem Owns.lt {B : Nat} {w : World} {v : Value} {xs : Bytes} (h : Owns B w v xs) : ∀ k, v.ownBlock = some k → B ≤ k ∧ k < w.heap.size := World.ownsRow.lt h
set_option maxRecDepth 100000 in
theorem Owns.alloc {B : Nat} {w : World} {v : Value} {xs : Bytes} (h : Owns B w v xs) (o : Obj) : Owns B (w.alloc o) v xs := World.ownsRow.alloc h o
theorem Owns.mono {B C : Nat} {w : World} {v : Value} {xs : Bytes} (h : Owns B w v xs) (hc : C ≤ B) : Owns C w v xs := by
  refine ⟨h.1, ?_⟩
  rcases h.2 with hn | ⟨g, cap, cur, hv, hb, hg⟩
  · exact .inl hn
  · exact .inr ⟨g, cap, cur, hv, by omega, hg⟩
set_option maxRecDepth 100000 in
/-- a later world in which what is old stands -/
theorem Owns.below {B N : Nat} {w w' : World} {v : Value} {xs : Bytes} (h : Owns B w v xs) (hb : Below N w w') (hN : w.heap.size ≤ N) : Owns B w' v xs := by
  refine ⟨h.1, ?_⟩
  rcases h.2 with hn | ⟨g, cap, cur, hv, hb', hg, hr⟩
  · exact .inl hn
  · have hlt : g < w.heap.size := (Array.getElem?_eq_some_iff.1 hg).1
    exact .inr ⟨g, cap, cur, hv, hb', (hb.block g (by omega)).trans hg, hr⟩
set_option maxRecDepth 100000 in
theorem Owns.empty (w : World) (B : Nat) (hB : B ≤ w.heap.size) : Owns B (w.alloc (.cells #[] 5)) (.slice (some ⟨w.heap.size, 0, none⟩) 0 0) [] :=
  World.ownsRow_lit w #[] 0 hB (Nat.zero_le _) rfl
theorem Owns.one (w : World) (B : Nat) (x : BitVec 8) (hB : B ≤ w.heap.size) : Owns B (w.alloc (.cells #[bv x] 5)) (.slice (some ⟨w.heap.size, 0, none⟩) 1 1) [x] :=
  World.ownsRow_lit w #[bv x] 1 hB (by unfold maxLen; omega) rfl
set_option maxRecDepth 100000 in
/-- the one byte that an append of one lays -/
theorem Seq.one (w : World) (n : Int) (x : BitVec 8) (h : n = x.toNat) : Seq (w.alloc (.cells #[.int .u8 n] 5)) (.slice (some ⟨w.heap.size, 0, none⟩) 1 1) [x] := by
  rw [bv_eq h]
  exact (Owns.one w w.heap.size x (Nat.le_refl _)).seq

/-- what a function that makes bytes answers: a slice of its own that reads as xs -/
def Made (w : World) (xs : Bytes) (e : Ending) (w' : World) : Prop := ∃ v, e = .returned v ∧ Owns w.heap.size w' v xs ∧ Below w.heap.size w w'

/-- a slice that came in: nil, or cells that hold the numbers zs, each of its kind -/
def IsRow (k : IntKind) (w : World) (a : Option Addr) (len cap : Nat) (zs : List Int) : Prop :=
  (a = none ∧ len = 0 ∧ cap = 0 ∧ zs = []) ∨
  ∃ x, a = some x ∧ len ≤ cap ∧ cap ≤ maxLen ∧ zs.length = cap ∧ (∀ i, i < zs.length → w.cell? (x.add i) = some (.int k (zs.getD i 0))) ∧ ∀ n ∈ zs, (Lit.int k n).wf = true
set_option maxRecDepth 100000 in
/-- integers that fit the kind, as bytes -/
theorem ints_bytes (zs : List Int) (h : ∀ n ∈ zs, (Lit.int .u8 n).wf = true) (i : Nat) (hi : i < zs.length) : Value.int .u8 (zs.getD i 0) = bv ((zs.map (BitVec.ofInt 8)).getD i 0#8) := by
  have hg : zs.getD i 0 = zs[i] := by simp [List.getD, List.getElem?_eq_getElem hi]
  have hg' : (zs.map (BitVec.ofInt 8)).getD i 0#8 = BitVec.ofInt 8 zs[i] := by simp [List.getD, List.getElem?_eq_getElem hi]
  have hw := h _ (List.getElem_mem hi)
  rw [hg, hg']
  generalize zs[i] = n at *
  have : 0 ≤ n ∧ n < 256 := by
    have : 0 ≤ n ∧ n ≤ 255 := by simpa [Lit.wf, IntKind.min, IntKind.max, IntKind.signed, IntKind.bits] using hw
    omega
  unfold bv
  rw [BitVec.toNat_ofInt]
  congr 1
  omega
set_option maxRecDepth 100000 in
theorem row_seq {w : World} {a : Option Addr} {len cap : Nat} {zs : List Int} (h : IsRow .u8 w a len cap zs) :
    ∃ xs : Bytes, Seq w (.slice a len cap) xs ∧ xs.length = len ∧ len ≤ cap := by
  rcases h with ⟨rfl, rfl, rfl, rfl⟩ | ⟨x, rfl, hl, hm, hz, hc, hw⟩
  · exact ⟨[], Seq.nil w, rfl, Nat.le_refl _⟩
  · have hlen : ((zs.map (BitVec.ofInt 8)).take len).length = len := by rw [List.length_take, List.length_map]; omega
    refine ⟨(zs.map (BitVec.ofInt 8)).take len, ⟨some x, cap, by rw [hlen], by omega, hm, (by simp), fun hp => ?_⟩, hlen, hl⟩
    obtain ⟨b, off, rfl, g⟩ := ints_at hc (by omega)
    refine ⟨b, off, rfl, fun j hj => ?_⟩
    rw [g j (by omega), ints_bytes zs hw j (by omega)]
    simp [List.getD, show j < len by omega]

set_option maxRecDepth 100000 in
/-- its first n: what 'b[:min(len(b), n)]' reads as, and whether it is cut -/
theorem row_cut {w : World} {a : Option Addr} {len cap : Nat} {zs : List Int} (h : IsRow .u8 w a len cap zs) (n : Nat) :
    ∃ (xs : Bytes) (m : Nat), ((len ≤ n ∧ len = m) ∨ (¬ len ≤ n ∧ m = n)) ∧ xs.length = m ∧ Seq w (.slice a m cap) xs ∧ m ≤ n ∧ len ≤ cap := by
  obtain ⟨xs, hs, hl, hlc⟩ := row_seq h
  by_cases hb : len ≤ n
  · exact ⟨xs, len, .inl ⟨hb, rfl⟩, hl, hs, hb, hlc⟩
  · exact ⟨xs.take n, n, .inr ⟨hb, rfl⟩, by rw [List.length_take]; omega, Seq.first hs n (by omega), Nat.le_refl _, hlc⟩

/-! ### append -/
set_option maxRecDepth 100000 in
theorem info2' : (Try.prog.info? 5).map (fun i => (i.zero, i.size, i.bytes)) = some (some (.int .u8 0), 1, 1) := by kernel_rfl

theorem bytes_oneCell (ys : Bytes) : ∀ u ∈ ys.map bv, u.oneCell' = true := by
  intro u hu
  obtain ⟨c, -, rfl⟩ := List.mem_map.1 hu
  rfl

set_option maxRecDepth 100000 in
/-- append of whatever slice reads as ys to a slice of the call's own -/
theorem wpList_append_seq {w : World} {ops : Array Oper} {rest : List Oper} {o : Oper} {act : Act} {Q : Exit → Act → World → Prop} (hgd : o.guard = none) (s x : Operand)
    (ho : o.op = .call { callee := .builtin .append, args := #[s, x], argTypes := #[25, 25] }) (B : Nat) {v u : Value} {xs ys : Bytes}
    (hs : act.eval s = v) (hown : Owns B w v xs) (hx : act.eval x = u) (hseq : Seq w u ys) (hlen : xs.length + ys.length ≤ 1073741824) (hbase : B ≤ w.heap.size)
    (h : ∀ v' w', Owns B w' v' (xs ++ ys) → w.grownBy w' v.ownBlock → (v'.ownBlock = v.ownBlock ∨ v'.ownBlock = some w.heap.size) → wpList Try.prog ops Q rest (act.put o.dst v') w') : wpList Try.prog ops Q (o :: rest) act w := by
  obtain ⟨i0, hi, hz0, hz1, hz2⟩ := info_parts info2'
  obtain ⟨a, cap, rfl, h1, h2, h0, h3⟩ := hseq
  cases a with
  | none =>
    obtain rfl := h0 rfl
    obtain rfl : ys = [] := List.eq_nil_of_length_eq_zero (by omega)
    refine wpList_append_own_none hgd s x 25 ho B 5 i0 1 Try.underlying25 hi v _ _ hs hown hx (h v w ?_ (World.grownBy.refl _ _) (.inl rfl))
    rw [List.append_nil]; exact hown
  | some ad =>
    refine wpList_append_own_at _ hgd s x 25 ho B 5 i0 (.int .u8 0) 1 1 Try.underlying25 hi hz0 hz1 hz2 rfl (by decide) v _ _ hs hown ad ys.length cap (ys.map bv) hx (by simp) ?_ (bytes_oneCell _) (by unfold maxLen; omega) (by omega) hbase ?_
    · intro j u hu
      have hj : j < ys.length := by
        have := (List.getElem?_eq_some_iff.1 hu).1
        simpa using this
      obtain ⟨b, off, he, hc⟩ := h3 (by omega)
      cases he
      rw [getD_map ys j hj] at hu
      cases hu
      rw [Addr.add_lit]
      exact hc j hj
    · intro v' w' hown' hg _ hat
      exact h v' w' (by unfold Owns; rw [List.length_append, List.map_append]; exact hown') hg hat

set_option maxRecDepth 100000 in
theorem run_append_seq {w : World} (B : Nat) (ty : TypeId) {v u : Value} {xs ys : Bytes} (hown : Owns B w v xs) (hseq : Seq w u ys) (hlen : xs.length + ys.length ≤ 1073741824) (hbase : B ≤ w.heap.size) :
    ∃ v' w', (Builtin.append_ #[25, 25] ty #[v, u]).run Try.prog w = .ok v' w' ∧ Owns B w' v' (xs ++ ys) ∧ w.grownBy w' v.ownBlock ∧ (v'.ownBlock = v.ownBlock ∨ v'.ownBlock = some w.heap.size) := by
  obtain ⟨i0, hi, hz0, hz1, hz2⟩ := info_parts info2'
  obtain ⟨a, cap, rfl, h1, h2, h0, h3⟩ := hseq
  cases a with
  | none =>
    obtain rfl := h0 rfl
    obtain rfl : ys = [] := List.eq_nil_of_length_eq_zero (by omega)
    refine ⟨v, w, run_append_owned_none (P := Try.prog) (w := w) B 25 ty 5 i0 1 Try.underlying25 hi v _ _ hown, ?_, World.grownBy.refl _ _, .inl rfl⟩
    rw [List.append_nil]; exact hown
  | some ad =>
    obtain ⟨v', w', hr, ho, hg, -, hat⟩ := run_append_own_at (P := Try.prog) w B 25 ty 5 i0 (.int .u8 0) 1 1 Try.underlying25 hi hz0 hz1 hz2 rfl (by decide) v _ _ hown ad ys.length cap (ys.map bv) (by simp) (fun j u hu => by
        have hj : j < ys.length := by
          have := (List.getElem?_eq_some_iff.1 hu).1
          simpa using this
        obtain ⟨b, off, he, hc⟩ := h3 (by omega)
        cases he
        rw [getD_map ys j hj] at hu
        cases hu
        rw [Addr.add_lit]
        exact hc j hj) (bytes_oneCell _) (by unfold maxLen; omega) (by omega) hbase
    exact ⟨v', w', hr, by unfold Owns; rw [List.length_append, List.map_append]; exact ho, hg, hat⟩
set_option maxRecDepth 100000 in
/-- the same behind '&&' and '||': an operation that is wanted, whatever its guard -/
theorem wpList_append_want {w : World} {ops : Array Oper} {rest : List Oper} {o : Oper} {act : Act} {Q : Exit → Act → World → Prop} (hw : Region.wanted o (yielded ops act.tmps) = true) (s x : Operand)
    (ho : o.op = .call { callee := .builtin .append, args := #[s, x], argTypes := #[25, 25] }) (B : Nat) {v u : Value} {xs ys : Bytes}
    (hs : act.eval s = v) (hown : Owns B w v xs) (hx : act.eval x = u) (hseq : Seq w u ys) (hlen : xs.length + ys.length ≤ 1073741824) (hbase : B ≤ w.heap.size)
    (h : ∀ v' w', Owns B w' v' (xs ++ ys) → w.grownBy w' v.ownBlock → (v'.ownBlock = v.ownBlock ∨ v'.ownBlock = some w.heap.size) → wpList Try.prog ops Q rest (act.put o.dst v') w') : wpList Try.prog ops Q (o :: rest) act w := by
  refine wpList_step fun K hK => ?_
  rw [if_pos hw]
  obtain ⟨v', w', hr, h2, h3, h4⟩ := run_append_seq B o.type hown hseq hlen hbase
  unfold Oper.wp execOp
  simp only [ho, resolve, invoke, builtin, Sem.run_bind, Sem.run_pure, Result.andThen_ok, List.map_toArray, List.map_cons, List.map_nil, hs, hx, hr]
  exact hK _ _ (h v' w' h2 h3 h4)

set_option maxRecDepth 100000 in
theorem strCells_bs (s : ByteArray) : Lib.strCells s = (bs s).map bv := by
  unfold Lib.strCells bs
  rw [List.map_map]
  rfl
set_option maxRecDepth 100000 in
/-- append of a text to a slice of the call's own -/
theorem wpList_append_text {w : World} {ops : Array Oper} {rest : List Oper} {o : Oper} {act : Act} {Q : Exit → Act → World → Prop} (hgd : o.guard = none) (s x : Operand)
    (ho : o.op = .call { callee := .builtin .append, args := #[s, x], argTypes := #[25, 9] }) (B : Nat) {v : Value} {xs : Bytes} {t : ByteArray}
    (hs : act.eval s = v) (hown : Owns B w v xs) (hx : act.eval x = .string t) (hlen : xs.length + t.size ≤ 1073741824) (hbase : B ≤ w.heap.size)
    (h : ∀ v' w', Owns B w' v' (xs ++ bs t) → w.grownBy w' v.ownBlock → wpList Try.prog ops Q rest (act.put o.dst v') w') : wpList Try.prog ops Q (o :: rest) act w := by
  obtain ⟨i0, hi, hz0, hz1, hz2⟩ := info_parts info2'
  refine Lib.wpList_append_own_string w hgd s x 25 9 ho B 5 i0 Try.underlying25 Try.underlying9 hi hz0 hz1 hz2 v _ _ hs hown t hx (by unfold maxLen; omega) (by omega) hbase ?_
  intro v' w' hown' hg _
  exact h v' w' (by unfold Owns; rw [List.length_append, List.map_append, bs_len, ← strCells_bs]; exact hown') hg

/-! ### texts and bytes -/
set_option maxRecDepth 100000 in
theorem seq_text (w : World) (s : ByteArray) (hs : s.size ≤ 1073741824) (cap : Nat) (hc : s.size ≤ cap) (hm : cap ≤ maxLen) (fr : Nat × Nat) : Seq (w.drew.alloc (.cells (bytesRow s cap) 5 fr)) (.slice (some ⟨w.heap.size, 0, none⟩) s.size cap) (bs s) := by
  refine ⟨_, cap, by rw [bs_len], by rw [bs_len]; exact hc, hm, (by simp), fun hp => ⟨w.heap.size, 0, rfl, fun j hj => ?_⟩⟩
  rw [bs_len] at hj
  have hj' : j < s.data.size := hj
  rw [Nat.zero_add]
  have := World.cell?_alloc_mark w.drew (bytesRow s cap) 5 fr j
  refine this.trans ?_
  rw [bytesRow_at s cap j hj']
  unfold bv bs
  simp only [List.getD, List.getElem?_map, Array.getElem?_toList, Array.getElem?_eq_getElem hj', Option.map_some, Option.getD_some]
  rfl
set_option maxRecDepth 100000 in
theorem bytes_run (w : World) (s : ByteArray) : (convert 9 25 (.string s)).run Try.prog w = .ok (.slice (some ⟨w.heap.size, 0, none⟩) s.size (grownCap w s.size 0 5))
      (w.drew.alloc (.cells (bytesRow s (grownCap w s.size 0 5)) 5 ((bytesRow s (grownCap w s.size 0 5)).size, (bytesRow s (grownCap w s.size 0 5)).size + 1))) :=
  run_bytes_of_string w 9 25 5 s Try.underlying9 Try.underlying25 Try.underlying5

set_option maxRecDepth 100000 in
theorem sb_nums (xs : Bytes) : strOfNums (xs.map fun c => (c.toNat : Int)) = sb xs := by
  unfold strOfNums sb
  rw [List.map_map]
  congr 2
  apply List.map_congr_left
  intro c _
  apply UInt8.toNat_inj.1
  have := c.isLt
  simp
set_option maxRecDepth 100000 in
theorem text_run {w : World} {v : Value} {xs : Bytes} (h : Seq w v xs) : (convert 25 9 v).run Try.prog w = .ok (.string (sb xs)) w := by
  obtain ⟨a, cap, rfl, h1, h2, h0, h3⟩ := h
  by_cases hp : 0 < xs.length
  · obtain ⟨b, off, rfl, hc⟩ := h3 hp
    rw [← sb_nums]
    refine run_convert_bytes_arg w 25 5 Try.underlying25 Try.underlying5 b off xs.length cap _ (by simp) (fun i hi => ?_) 9 Try.underlying9
    rw [hc i hi]
    simp [bv, List.getD, hi]
  · obtain rfl : xs = [] := List.eq_nil_of_length_eq_zero (by omega)
    cases a with
    | none => exact run_convert_bytes_nil w 25 5 Try.underlying25 Try.underlying5 0 cap 9 Try.underlying9
    | some ad => exact run_convert_bytes_back w 25 9 5 ad cap [] Try.underlying25 Try.underlying5 Try.underlying9 (by simp)

set_option maxRecDepth 100000 in
/-- a contract that leaves the world alone, in a region that draws -/
theorem quiet_left {P : Program} {f : FuncId} {args : Array Value} {w : World} {n : Nat} {v : Value}
    (h : Calls P f args (w.drewN n) fun e w' => e = .returned v ∧ w.drewN n = w') : Calls P f args (w.drewN n) fun e w'' => e = .returned v ∧ ∃ m, w'' = w.drewN m :=
  h.mono fun _ _ ⟨he, hm⟩ => ⟨he, n, hm.symm⟩
set_option maxRecDepth 100000 in
theorem below_drewN {B : Nat} {w w' : World} (h : Below B w w') : ∀ n, Below B w (w'.drewN n)
  | 0 => h
  | n + 1 => (below_drewN h n).drew
end Go.Proofs.Ytgllaoanpemjlaa.By
