/- What num.Add, num.Total and the document's own Add answer: the sum where it is one of 64 bits, else 0 and 5; for all integers of 64 bits, lists of at most 2^30. Slices that read as a list of 64-bit integers; num.Total over them. The document's own Total: the sum of at most 2^30 integers where it is one of 64 bits, else 0 and 5. -/
import Derived.Test.YtkmiodpaanohoaaGreatRows
import Derived.Test.YtkmiodpaanohoaaGreatNms
import Derived.WalkKit
import Derived.Outline
import Derived.Lib.Hide
import Derived.Maps.AppendAt
import Derived.OpenShut
import Derived.BigQuiet
import Derived.WalkSmall
import Derived.Deep.QuietTactic
namespace Go.Proofs.YtkmiodpaanohoaaGreat.Nm
open Go.RowKit Plain
set_option linter.unusedVariables false

theorem ret2_int {k l : IntKind} {a b c d : Int} (h : a = b) (i : c = d) : Ending.returned (.tuple #[.int k a, .int l c]) = .returned (.tuple #[.int k b, .int l d]) := by rw [h, i]
theorem no (a : Int) (h : ¬ fits a) : sumV a = 0 ∧ sumE a = 5 := by simp [sumV, sumE, h]
theorem yes (a : Int) (h : fits a) : sumV a = a ∧ sumE a = 0 := by simp [sumV, sumE, h]
theorem tot_any (b off len cap : Nat) (zs : List Int) (w : World) (hz : len ≤ zs.length) (hbig : len ≤ 1073741824) (hwf : ∀ n ∈ zs, fits n) (hc : ∀ j, j < zs.length → w.cell? ⟨b, off + j, none⟩ = some (.int .i64 (zs.getD j 0))) :
    Calls Tryz.prog 37 #[.slice (some ⟨b, off, none⟩) len cap] w fun e w' => e = .returned (.tuple #[.int .i64 (sumV (tot (zs.take len))), .int .i64 (sumE (tot (zs.take len)))]) ∧ w = w' := by
  go_enter Tryz.func37, Tryz.ntmps37
  go_wp2
  go_loop [4, 5, 13] (fun u l i => ∃ k : Nat, k ≤ len ∧ i = .int .i64 k ∧ u = .int .i64 (ups (zs.take k)) ∧ l = .int .i64 (los (zs.take k))) (fun _ _ i => len - (intOf i).toNat)
  case atStart => exact ⟨0, Nat.zero_le _, rfl, rfl, rfl⟩
  case round =>
    obtain ⟨k, hk, rfl, rfl, rfl⟩ := hrel
    have b1 := ups_bd (zs.take k) (fun n hn => hwf n (List.mem_of_mem_take hn))
    have b2 := los_bd (zs.take k)
    have hl : (zs.take k).length = k := by rw [List.length_take]; omega
    rw [hl] at b1 b2
    have b3 : -2305843009213693952 ≤ ups (zs.take k) ∧ ups (zs.take k) ≤ 2305843009213693952 ∧ los (zs.take k) ≤ 4611686018427387904 ∧ 0 ≤ los (zs.take k) := by omega
    clear b1 b2 hl
    by_cases hlt : k < len
    · have hcell := hc k (by omega)
      have hx : fits (zs.getD k 0) := by
        have : k < zs.length := by omega
        have e : zs.getD k 0 = zs[k] := by simp [List.getD, List.getElem?_eq_getElem this]
        rw [e]; exact hwf _ (List.getElem_mem _)
      have e1 := ups_snoc zs k (by omega)
      have e2 := los_snoc zs k (by omega)
      have e3 := and_low (zs.getD k 0)
      generalize zs.getD k 0 = x at *
      generalize ups (zs.take k) = u at *
      generalize los (zs.take k) = l at *
      have hx1 : -9223372036854775808 ≤ x := hx.1
      have hx2 : x ≤ 9223372036854775807 := hx.2
      have hm1 : 0 ≤ x % 4294967296 := by omega
      have hm2 : x % 4294967296 < 4294967296 := by omega
      have E1 := Lib.hid e1
      have E2 := Lib.hid e2
      clear e1 e2 hx hc hwf
      go_wp2
      go_round
      case rel => exact ⟨k + 1, by omega, by go_num, by rw [E1.out], by rw [E2.out]⟩
      case measure => simp [intOf]; omega
    · obtain rfl : k = len := by omega
      have e := tot_halves (zs.take k)
      have E := Lib.hid e
      have e3 := and_low (los (zs.take k))
      generalize ups (zs.take k) = u at *
      generalize los (zs.take k) = l at *
      clear e hc hwf
      have hm1 : 0 ≤ l % 4294967296 := by omega
      have hm2 : l % 4294967296 < 4294967296 := by omega
      have hd1 : 0 ≤ l / 4294967296 := by omega
      have hd2 : l / 4294967296 ≤ 1073741824 := by omega
      by_cases hr : -2147483648 ≤ u + l / 4294967296 ∧ u + l / 4294967296 ≤ 2147483647
      · obtain ⟨hr1, hr2⟩ := hr
        have e4 := or_join (u + l / 4294967296) (l % 4294967296) hr1 hr2 hm1 hm2
        have F := Lib.hid (join_halves u l)
        have G := Lib.hid ((fits_halves u l).2 ⟨hr1, hr2⟩)
        go_wp2
        go_ret2
        exact ⟨ret2_int (by rw [E.out, F.out, (yes _ G.out).1]) (by rw [E.out, (yes _ G.out).2]), rfl⟩
      · have G := Lib.hid (fun h => hr ((fits_halves u l).1 h))
        by_cases hr1 : u + l / 4294967296 < -2147483648
        · go_wp2
          go_ret2
          exact ⟨ret2_int (by rw [E.out, (no _ G.out).1]) (by rw [E.out, (no _ G.out).2]), rfl⟩
        · have hr2 : 2147483647 < u + l / 4294967296 := by omega
          clear hr
          go_wp2
          go_ret2
          exact ⟨ret2_int (by rw [E.out, (no _ G.out).1]) (by rw [E.out, (no _ G.out).2]), rfl⟩

theorem tot_none (cap : Nat) (w : World) :
    Calls Tryz.prog 37 #[.slice none 0 cap] w fun e w' => e = .returned (.tuple #[.int .i64 0, .int .i64 0]) ∧ w = w' := by
  go_enter Tryz.func37, Tryz.ntmps37
  go_wp2
  go_loop [4, 5, 13] (fun u l i => i = .int .i64 0 ∧ u = .int .i64 0 ∧ l = .int .i64 0) (fun _ _ i => 0)
  case atStart => exact ⟨rfl, rfl, rfl⟩
  case round =>
    obtain ⟨rfl, rfl, rfl⟩ := hrel
    have e3 := and_low 0
    have e4 := or_join 0 0 (by omega) (by omega) (by omega) (by omega)
    simp only [Int.zero_mul, Int.zero_emod, Int.zero_add] at e3 e4
    go_wp2
    go_ret2
    exact ⟨rfl, rfl⟩

end Go.Proofs.YtkmiodpaanohoaaGreat.Nm
namespace Go.Proofs.YtkmiodpaanohoaaGreat.Nm
open Go.RowKit Plain
set_option linter.unusedVariables false

/-- v is a slice whose elements read as xs -/
def Seq (w : World) (v : Value) (xs : List Int) : Prop :=
  ∃ a cap, v = .slice a xs.length cap ∧ xs.length ≤ cap ∧ cap ≤ maxLen ∧
    (0 < xs.length → ∃ b off, a = some ⟨b, off, none⟩ ∧ ∀ j, j < xs.length → w.cell? ⟨b, off + j, none⟩ = some (.int .i64 (xs.getD j 0)))

theorem Seq.nil (w : World) (a : Option Addr) (cap : Nat) (h : cap ≤ maxLen) : Seq w (.slice a 0 cap) [] := ⟨a, cap, rfl, Nat.zero_le _, h, fun h => absurd h (by simp)⟩

theorem Seq.of_cell {w w' : World} {v : Value} {xs : List Int} (h : Seq w v xs) (hc : ∀ a, w'.cell? a = w.cell? a) : Seq w' v xs := by
  obtain ⟨a, cap, rfl, h1, h2, h3⟩ := h
  refine ⟨a, cap, rfl, h1, h2, fun hp => ?_⟩
  obtain ⟨b, off, rfl, g⟩ := h3 hp
  exact ⟨b, off, rfl, fun j hj => (hc _).trans (g j hj)⟩

theorem Seq.below {w w' : World} {v : Value} {xs : List Int} (h : Seq w v xs) (hb : Below w.heap.size w w') : Seq w' v xs := by
  obtain ⟨a, cap, rfl, h1, h2, h3⟩ := h
  refine ⟨a, cap, rfl, h1, h2, fun hp => ?_⟩
  obtain ⟨b, off, rfl, hc⟩ := h3 hp
  refine ⟨b, off, rfl, fun j hj => ?_⟩
  have hlt : b < w.heap.size := World.block_lt_of_cell? w ⟨b, off + j, none⟩ (hc j hj)
  exact (hb.cell (p := ⟨b, off + j, none⟩) hlt).trans (hc j hj)

theorem Seq.cut {w : World} {v : Value} {xs : List Int} (h : Seq w v xs) (n : Nat) : ∃ a cap, v = .slice a xs.length cap ∧ xs.length ≤ cap ∧ cap ≤ maxLen ∧ Seq w (.slice a (xs.take n).length cap) (xs.take n) := by
  obtain ⟨a, cap, rfl, h1, h2, h3⟩ := h
  refine ⟨a, cap, rfl, h1, h2, a, cap, rfl, ?_, h2, fun hp => ?_⟩
  · have := List.length_take_le n xs; have := List.length_take (i := n) (l := xs); omega
  · have hl := List.length_take (i := n) (l := xs)
    obtain ⟨b, off, rfl, hc⟩ := h3 (by omega)
    refine ⟨b, off, rfl, fun j hj => ?_⟩
    rw [hc j (by omega)]
    simp [List.getD, show j < n by omega]

/-- the first element, and what is left -/
theorem Seq.head {w : World} {v : Value} {x : Int} {xs : List Int} (h : Seq w v (x :: xs)) :
    ∃ b o cap, v = .slice (some ⟨b, o, none⟩) (xs.length + 1) cap ∧ xs.length + 1 ≤ cap ∧ cap ≤ maxLen ∧ w.cell? ⟨b, o, none⟩ = some (.int .i64 x) ∧
      (cap ≠ 1 → Seq w (.slice (some ⟨b, o + 1, none⟩) xs.length (cap - 1)) xs) ∧ (cap = 1 → xs = []) := by
  obtain ⟨a, cap, rfl, h1, h2, h3⟩ := h
  obtain ⟨b, o, rfl, hc⟩ := h3 (by simp)
  simp only [List.length_cons] at h1 hc
  refine ⟨b, o, cap, rfl, h1, h2, by simpa using hc 0 (by omega), fun hne => ⟨_, _, rfl, by omega, by omega, fun hp => ⟨b, o + 1, rfl, fun j hj => ?_⟩⟩, fun he => List.eq_nil_of_length_eq_zero (by omega)⟩
  have := hc (j + 1) (by omega)
  rw [show o + 1 + j = o + (j + 1) by omega, this]
  simp [List.getD]

theorem tot_none' (a : Option Addr) (cap : Nat) (w : World) :
    Calls Tryz.prog 37 #[.slice a 0 cap] w fun e w' => e = .returned (.tuple #[.int .i64 0, .int .i64 0]) ∧ w = w' := by
  go_enter Tryz.func37, Tryz.ntmps37
  go_wp2
  go_loop [4, 5, 13] (fun u l i => i = .int .i64 0 ∧ u = .int .i64 0 ∧ l = .int .i64 0) (fun _ _ i => 0)
  case atStart => exact ⟨rfl, rfl, rfl⟩
  case round =>
    obtain ⟨rfl, rfl, rfl⟩ := hrel
    have e3 := and_low 0
    have e4 := or_join 0 0 (by omega) (by omega) (by omega) (by omega)
    simp only [Int.zero_mul, Int.zero_emod, Int.zero_add] at e3 e4
    go_wp2
    go_ret2
    exact ⟨rfl, rfl⟩

/-- num.Total over a slice that reads as xs -/
theorem tot_seq {w : World} {v : Value} {xs : List Int} (h : Seq w v xs) (hn : xs.length ≤ 1073741824) (hf : ∀ n ∈ xs, fits n) :
    Calls Tryz.prog 37 #[v] w fun e w' => e = .returned (.tuple #[.int .i64 (sumV (tot xs)), .int .i64 (sumE (tot xs))]) ∧ w = w' := by
  obtain ⟨a, cap, rfl, h1, h2, h3⟩ := h
  by_cases hp : 0 < xs.length
  · obtain ⟨b, off, rfl, hc⟩ := h3 hp
    have := tot_any b off xs.length cap xs w (Nat.le_refl _) hn hf hc
    rw [List.take_length] at this
    exact this
  · obtain rfl : xs = [] := List.eq_nil_of_length_eq_zero (by omega)
    exact tot_none' a cap w

/-- a slice of the call's own that reads as xs -/
def Owns (B : Nat) (w : World) (v : Value) (xs : List Int) : Prop := w.ownsRow B 2 1 v xs.length (xs.map (Value.int .i64))

theorem Owns.nil (B : Nat) (w : World) : Owns B w (.slice none 0 0) [] := World.ownsRow_nil _ _ _ _

theorem getD_map (xs : List Int) (j : Nat) (hj : j < xs.length) : (xs.map (Value.int .i64))[j]? = some (.int .i64 (xs.getD j 0)) := by
  simp [List.getD, List.getElem?_eq_getElem hj]

theorem Owns.seq {B : Nat} {w : World} {v : Value} {xs : List Int} (h : Owns B w v xs) : Seq w v xs := by
  have h' := h
  rcases h.2 with ⟨rfl, hn⟩ | ⟨g, cap, cur, rfl, hb, hg, hnc, hcm, hcs, htake⟩
  · obtain rfl : xs = [] := List.eq_nil_of_length_eq_zero hn
    exact Seq.nil w none 0 (Nat.zero_le _)
  · refine ⟨_, cap, rfl, hnc, hcm, fun hp => ⟨g, 0, rfl, fun j hj => ?_⟩⟩
    have := World.ownsRow.cellAt h' j (by omega)
    rw [Nat.zero_add, this, getD_map xs j hj]

def Apart (u v : Value) : Prop := u.ownBlock = none ∨ u.ownBlock ≠ v.ownBlock

/-- one element more: what the law on append leaves -/
theorem Owns.push {B : Nat} {w wr w1 : World} {u u' v : Value} {xs ys : List Int} {x : Int} {o : Obj} (hB : B ≤ wr.heap.size)
    (hu : Owns B wr u xs) (hv : Owns B wr v ys) (ha : Apart v u) (hb : Below B w wr)
    (hown : w1.ownsRow B 2 1 u' (xs.length + 1) (xs.map (Value.int .i64) ++ [.int .i64 x])) (hgrow : (wr.alloc o).grownBy w1 u.ownBlock)
    (hat : u'.ownBlock = u.ownBlock ∨ u'.ownBlock = some (wr.heap.size + 1)) :
    Owns B w1 u' (xs ++ [x]) ∧ Owns B w1 v ys ∧ Apart v u' ∧ Below B w w1 ∧ B ≤ w1.heap.size := by
  have hs : (wr.alloc o).heap.size = wr.heap.size + 1 := by simp
  refine ⟨by unfold Owns; simpa using hown, World.ownsRow.kept (World.ownsRow.alloc hv o) hgrow ha, ?_, (hb.alloc hB o).grown hgrow (by omega) (fun k hk => (World.ownsRow.lt hu k hk).1), by have := hgrow.size; omega⟩
  rcases hat with h | h
  · unfold Apart; rw [h]; exact ha
  · unfold Apart; rw [h]
    cases hvb : v.ownBlock with
    | none => exact .inl rfl
    | some k => right; have := (World.ownsRow.lt hv k hvb).2; intro e; cases e; omega
/-- a slice that came in: nil, or cells that hold the numbers zs, each of its kind -/
def IsRow (k : IntKind) (w : World) (a : Option Addr) (len cap : Nat) (zs : List Int) : Prop :=
  (a = none ∧ len = 0 ∧ cap = 0 ∧ zs = []) ∨
  ∃ x, a = some x ∧ len ≤ cap ∧ cap ≤ maxLen ∧ zs.length = cap ∧ (∀ i, i < zs.length → w.cell? (x.add i) = some (.int k (zs.getD i 0))) ∧ ∀ n ∈ zs, (Lit.int k n).wf = true

theorem row_seq {w : World} {a : Option Addr} {len cap : Nat} {zs : List Int} (h : IsRow .i64 w a len cap zs) :
    Seq w (.slice a len cap) (zs.take len) ∧ (zs.take len).length = len ∧ (a = none → cap = 0) ∧ ∀ n ∈ zs.take len, fits n := by
  rcases h with ⟨rfl, rfl, rfl, rfl⟩ | ⟨x, rfl, hl, hm, hz, hc, hw⟩
  · exact ⟨Seq.nil w none 0 (Nat.zero_le _), rfl, fun _ => rfl, by simp⟩
  · have hlen : (zs.take len).length = len := by rw [List.length_take]; omega
    refine ⟨⟨some x, cap, by rw [hlen], by omega, hm, fun hp => ?_⟩, hlen, (by simp), fun n hn => ?_⟩
    · obtain ⟨b, off, rfl, g⟩ := ints_at hc (by omega)
      refine ⟨b, off, rfl, fun j hj => ?_⟩
      rw [g j (by omega)]
      simp [List.getD, show j < len by omega]
    · have := hw n (List.mem_of_mem_take hn)
      simpa [Lit.wf, IntKind.min, IntKind.max, IntKind.signed, IntKind.bits, fits] using this

/-- its first n: what 'l[:min(len(l), n)]' reads as, and whether it is cut -/
theorem row_cut {w : World} {a : Option Addr} {len cap : Nat} {zs : List Int} (h : IsRow .i64 w a len cap zs) (n : Nat) :
    ∃ (xs : List Int) (m : Nat), ((len ≤ n ∧ len = m) ∨ (¬ len ≤ n ∧ m = n)) ∧ xs.length = m ∧ Seq w (.slice a m cap) xs ∧ m ≤ n ∧ len ≤ cap ∧ (a = none → cap = 0) ∧ ∀ x ∈ xs, fits x := by
  obtain ⟨hs, hl, hn, hf⟩ := row_seq h
  obtain ⟨a', cap', hv, h1, h2, hcut⟩ := Seq.cut hs n
  simp only [Value.slice.injEq] at hv
  obtain ⟨rfl, -, rfl⟩ := hv
  have hlen := List.length_take (i := n) (l := zs.take len)
  refine ⟨(zs.take len).take n, _, ?_, rfl, hcut, by omega, by omega, hn, fun x hx => hf x (List.mem_of_mem_take hx)⟩
  by_cases hb : len ≤ n
  · left; omega
  · right; omega
end Go.Proofs.YtkmiodpaanohoaaGreat.Nm
namespace Go.Proofs.YtkmiodpaanohoaaGreat.Nm
open Go.RowKit Plain
set_option linter.unusedVariables false

def pos (xs : List Int) : List Int := xs.filter (fun x => decide (0 < x))
def neg (xs : List Int) : List Int := xs.filter (fun x => decide (x < 0))
theorem pos_neg (xs : List Int) : tot (pos xs) + tot (neg xs) = tot xs := by
  induction xs with
  | nil => rfl
  | cons a l ih =>
    unfold pos neg at *
    simp only [List.filter_cons]
    by_cases h1 : 0 < a <;> by_cases h2 : a < 0 <;> simp only [h1, h2, decide_true, decide_false, if_true, if_false, tot_cons, Bool.false_eq_true] <;> omega
theorem pos_le (xs : List Int) : (pos xs).length ≤ xs.length := List.length_filter_le _ _
theorem neg_le (xs : List Int) : (neg xs).length ≤ xs.length := List.length_filter_le _ _
theorem pos_up (xs : List Int) (k : Nat) (hk : k < xs.length) (h : 0 < xs.getD k 0) : pos (xs.take (k + 1)) = pos (xs.take k) ++ [xs.getD k 0] ∧ neg (xs.take (k + 1)) = neg (xs.take k) := by
  rw [take_snoc xs k hk]; unfold pos neg; simp only [List.filter_append]
  generalize xs.getD k 0 = x at *
  simp [h, show ¬ x < 0 by omega]
theorem pos_down (xs : List Int) (k : Nat) (hk : k < xs.length) (h : xs.getD k 0 < 0) : pos (xs.take (k + 1)) = pos (xs.take k) ∧ neg (xs.take (k + 1)) = neg (xs.take k) ++ [xs.getD k 0] := by
  rw [take_snoc xs k hk]; unfold pos neg; simp only [List.filter_append]
  generalize xs.getD k 0 = x at *
  simp [h, show ¬ 0 < x by omega]
theorem pos_zero (xs : List Int) (k : Nat) (hk : k < xs.length) (h : xs.getD k 0 = 0) : pos (xs.take (k + 1)) = pos (xs.take k) ∧ neg (xs.take (k + 1)) = neg (xs.take k) := by
  rw [take_snoc xs k hk]; unfold pos neg; simp only [List.filter_append, h]
  simp

theorem Apart.symm {u v : Value} (h : Apart u v) : Apart v u := by
  rcases h with h | h
  · by_cases e : v.ownBlock = none
    · exact .inl e
    · right; rw [h]; exact e
  · right; exact fun e => h e.symm
def lenV : Value → Nat
  | .slice _ n _ => n
  | _ => 0
/-- between the two loops and in the second: what is left above 0, what is left below 0, and the sum so far make the whole -/
def Mid (w : World) (T : Int) (u v s : Value) (wr : World) : Prop :=
  ∃ ps ns t, s = .int .i64 t ∧ Seq wr u ps ∧ Seq wr v ns ∧ (∀ x ∈ ps, 0 < x ∧ fits x) ∧ (∀ x ∈ ns, x < 0 ∧ fits x) ∧ fits t ∧ t + tot ps + tot ns = T ∧ Below w.heap.size w wr ∧ ps.length ≤ 1073741824 ∧ ns.length ≤ 1073741824
theorem Mid.down {w wr : World} {T t y : Int} {u v : Value} {ps ns : List Int} (hu : Seq wr u ps) (hv : Seq wr v ns) (hp : ∀ x ∈ ps, 0 < x ∧ fits x) (hn : ∀ x ∈ y :: ns, x < 0 ∧ fits x)
    (ht : fits (t + y)) (hs : t + tot ps + tot (y :: ns) = T) (hb : Below w.heap.size w wr) (lp : ps.length ≤ 1073741824) (ln : ns.length + 1 ≤ 1073741824) : Mid w T u v (.int .i64 (t + y)) wr :=
  ⟨ps, ns, t + y, rfl, hu, hv, hp, fun x hx => hn x (List.mem_cons_of_mem _ hx), ht, by rw [tot_cons] at hs; omega, hb, lp, by omega⟩
theorem Mid.up {w wr : World} {T t x : Int} {u v : Value} {ps ns : List Int} (hu : Seq wr u ps) (hv : Seq wr v ns) (hp : ∀ z ∈ x :: ps, 0 < z ∧ fits z) (hn : ∀ x ∈ ns, x < 0 ∧ fits x)
    (ht : fits (t + x)) (hs : t + tot (x :: ps) + tot ns = T) (hb : Below w.heap.size w wr) (lp : ps.length + 1 ≤ 1073741824) (ln : ns.length ≤ 1073741824) : Mid w T u v (.int .i64 (t + x)) wr :=
  ⟨ps, ns, t + x, rfl, hu, hv, fun z hz => hp z (List.mem_cons_of_mem _ hz), hn, ht, by rw [tot_cons] at hs; omega, hb, by omega, ln⟩
theorem tot_pos (l : List Int) (h : ∀ x ∈ l, 0 < x ∧ fits x) : 0 ≤ tot l := by
  induction l with
  | nil => simp [tot_nil]
  | cons a l ih => have := ih (fun x hx => h x (List.mem_cons_of_mem _ hx)); have := (h a List.mem_cons_self).1; rw [tot_cons]; omega
theorem tot_neg (l : List Int) (h : ∀ x ∈ l, x < 0 ∧ fits x) : tot l ≤ 0 := by
  induction l with
  | nil => simp [tot_nil]
  | cons a l ih => have := ih (fun x hx => h x (List.mem_cons_of_mem _ hx)); have := (h a List.mem_cons_self).1; rw [tot_cons]; omega
theorem Mid.drewN {w wr : World} {T : Int} {u v s : Value} (h : Mid w T u v s wr) (n : Nat) : Mid w T u v s (wr.drewN n) := by
  obtain ⟨ps, ns, t, rfl, hu, hv, hp, hn, ht, hs, hb, lp, ln⟩ := h
  exact ⟨ps, ns, t, rfl, hu.of_cell (fun _ => rfl), hv.of_cell (fun _ => rfl), hp, hn, ht, hs, below_drewN hb n, lp, ln⟩
theorem not_down {t y : Int} {T : Int} {ns : List Int} (hp : ∀ x ∈ ([] : List Int), 0 < x ∧ fits x) (hn : ∀ x ∈ y :: ns, x < 0 ∧ fits x) (ht : fits t) (h0 : t < 0) (hf : ¬ fits (t + y)) (hs : t + tot [] + tot (y :: ns) = T) : ¬ fits T := by
  have := tot_neg ns (fun x hx => hn x (List.mem_cons_of_mem _ hx))
  have := (hn y List.mem_cons_self).1
  rw [tot_cons, tot_nil] at hs
  unfold fits at *
  omega
theorem not_up {t x : Int} {T : Int} {ps : List Int} (hp : ∀ z ∈ x :: ps, 0 < z ∧ fits z) (hn : ∀ x ∈ ([] : List Int), x < 0 ∧ fits x) (ht : fits t) (h0 : 0 < t) (hf : ¬ fits (t + x)) (hs : t + tot (x :: ps) + tot [] = T) : ¬ fits T := by
  have := tot_pos ps (fun z hz => hp z (List.mem_cons_of_mem _ hz))
  have := (hp x List.mem_cons_self).1
  rw [tot_cons, tot_nil] at hs
  unfold fits at *
  omega
theorem info2 : (Tryz.prog.info? 2).map (fun i => (i.zero, i.size, i.bytes)) = some (some (.int .i64 0), 1, 8) := by kernel_rfl

end Go.Proofs.YtkmiodpaanohoaaGreat.Nm
