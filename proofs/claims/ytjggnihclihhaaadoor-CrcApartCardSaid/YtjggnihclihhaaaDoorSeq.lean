/- Slices that read as a list of bytes; crc.More and crc.Sum over them. -/
import Derived.Test.YtjggnihclihhaaaDoorFour
import Derived.Maps.AppendAt
import Derived.OpenShut
namespace Go.Proofs.YtjggnihclihhaaaDoor
open Go.RowKit Plain
set_option linter.unusedVariables false

theorem not_u32 (s : BitVec 32) : bits .xor .u32 IntKind.u32.max (s.toNat : Int) = ((~~~ s).toNat : Int) := by
  have h := u32_xor_nat 4294967295 s.toNat (by omega) s.isLt
  have e : (~~~ s).toNat = 4294967295 ^^^ s.toNat := by
    rw [← BitVec.allOnes_xor, BitVec.toNat_xor]
    rfl
  rw [e]
  exact h
theorem xor_u32 (r s : BitVec 32) : bits .xor .u32 (r.toNat : Int) (s.toNat : Int) = ((r ^^^ s).toNat : Int) := by
  rw [u32_xor_nat _ _ r.isLt s.isLt, BitVec.toNat_xor]
theorem xor_byte (r : BitVec 32) (c : BitVec 8) : bits .xor .u32 (r.toNat : Int) (c.toNat : Int) = ((r ^^^ wide c).toNat : Int) := by
  rw [← wide_toNat]; exact xor_u32 r (wide c)

/-- the byte as the model has it -/
def bv (c : BitVec 8) : Value := .int .u8 c.toNat
/-- v is a slice whose elements read as xs -/
def Seq (w : World) (v : Value) (xs : Bytes) : Prop :=
  ∃ a cap, v = .slice a xs.length cap ∧ xs.length ≤ cap ∧ cap ≤ maxLen ∧
    (0 < xs.length → ∃ b off, a = some ⟨b, off, none⟩ ∧ ∀ j, j < xs.length → w.cell? ⟨b, off + j, none⟩ = some (bv (xs.getD j 0#8)))

theorem Seq.nil (w : World) (a : Option Addr) (cap : Nat) (h : cap ≤ maxLen) : Seq w (.slice a 0 cap) [] := ⟨a, cap, rfl, Nat.zero_le _, h, fun h => absurd h (by simp)⟩

theorem Seq.of_cell {w w' : World} {v : Value} {xs : Bytes} (h : Seq w v xs) (hc : ∀ a, w'.cell? a = w.cell? a) : Seq w' v xs := by
  obtain ⟨a, cap, rfl, h1, h2, h3⟩ := h
  refine ⟨a, cap, rfl, h1, h2, fun hp => ?_⟩
  obtain ⟨b, off, rfl, g⟩ := h3 hp
  exact ⟨b, off, rfl, fun j hj => (hc _).trans (g j hj)⟩

theorem Seq.below {w w' : World} {v : Value} {xs : Bytes} (h : Seq w v xs) (hb : Below w.heap.size w w') : Seq w' v xs := by
  obtain ⟨a, cap, rfl, h1, h2, h3⟩ := h
  refine ⟨a, cap, rfl, h1, h2, fun hp => ?_⟩
  obtain ⟨b, off, rfl, hc⟩ := h3 hp
  refine ⟨b, off, rfl, fun j hj => ?_⟩
  have hlt : b < w.heap.size := World.block_lt_of_cell? w ⟨b, off + j, none⟩ (hc j hj)
  exact (hb.cell (p := ⟨b, off + j, none⟩) hlt).trans (hc j hj)

theorem Seq.cut {w : World} {v : Value} {xs : Bytes} (h : Seq w v xs) (n : Nat) : ∃ a cap, v = .slice a xs.length cap ∧ xs.length ≤ cap ∧ cap ≤ maxLen ∧ Seq w (.slice a (xs.take n).length cap) (xs.take n) := by
  obtain ⟨a, cap, rfl, h1, h2, h3⟩ := h
  refine ⟨a, cap, rfl, h1, h2, a, cap, rfl, ?_, h2, fun hp => ?_⟩
  · have := List.length_take_le n xs; have := List.length_take (i := n) (l := xs); omega
  · have hl := List.length_take (i := n) (l := xs)
    obtain ⟨b, off, rfl, hc⟩ := h3 (by omega)
    refine ⟨b, off, rfl, fun j hj => ?_⟩
    rw [hc j (by omega)]
    simp [List.getD, show j < n by omega]

/-- the first element, and what is left -/
theorem Seq.head {w : World} {v : Value} {x : BitVec 8} {xs : Bytes} (h : Seq w v (x :: xs)) :
    ∃ b o cap, v = .slice (some ⟨b, o, none⟩) (xs.length + 1) cap ∧ xs.length + 1 ≤ cap ∧ cap ≤ maxLen ∧ w.cell? ⟨b, o, none⟩ = some (bv x) ∧
      (cap ≠ 1 → Seq w (.slice (some ⟨b, o + 1, none⟩) xs.length (cap - 1)) xs) ∧ (cap = 1 → xs = []) := by
  obtain ⟨a, cap, rfl, h1, h2, h3⟩ := h
  obtain ⟨b, o, rfl, hc⟩ := h3 (by simp)
  simp only [List.length_cons] at h1 hc
  refine ⟨b, o, cap, rfl, h1, h2, by simpa using hc 0 (by omega), fun hne => ⟨_, _, rfl, by omega, by omega, fun hp => ⟨b, o + 1, rfl, fun j hj => ?_⟩⟩, fun he => List.eq_nil_of_length_eq_zero (by omega)⟩
  have := hc (j + 1) (by omega)
  rw [show o + 1 + j = o + (j + 1) by omega, this]
  simp [List.getD]


/-- the first k -/
theorem Seq.first {w : World} {a : Option Addr} {cap : Nat} {xs : Bytes} (h : Seq w (.slice a xs.length cap) xs) (k : Nat) (hk : k ≤ xs.length) : Seq w (.slice a k cap) (xs.take k) := by
  obtain ⟨a', cap', hv, h1, h2, hcut⟩ := Seq.cut h k
  simp only [Value.slice.injEq, true_and] at hv
  obtain ⟨rfl, rfl⟩ := hv
  have : (xs.take k).length = k := by rw [List.length_take]; omega
  rw [this] at hcut
  exact hcut

/-- what stands from the k-th on -/
theorem Seq.from {w : World} {b o cap : Nat} {xs : Bytes} (h : Seq w (.slice (some ⟨b, o, none⟩) xs.length cap) xs) (k : Nat) (hk : k ≤ xs.length) : Seq w (.slice (some ⟨b, if cap = k then o else o + k, none⟩) (xs.length - k) (cap - k)) (xs.drop k) := by
  obtain ⟨a', cap', hv, h1, h2, h3⟩ := h
  simp only [Value.slice.injEq, true_and] at hv
  obtain ⟨rfl, rfl⟩ := hv
  refine ⟨_, cap - k, by rw [List.length_drop], by rw [List.length_drop]; omega, by omega, fun hp => ?_⟩
  rw [List.length_drop] at hp
  rw [if_neg (by omega)]
  obtain ⟨b', o', he, hc⟩ := h3 (by omega)
  cases he
  refine ⟨b, o + k, rfl, fun j hj => ?_⟩
  rw [List.length_drop] at hj
  have := hc (k + j) (by omega)
  rw [show o + k + j = o + (k + j) by omega, this]
  simp [List.getD]

theorem more_some (b off len cap : Nat) (xs : Bytes) (s : BitVec 32) (w : World) (hT : HasTab w) (hlen : xs.length = len) (hbig : len ≤ 9223372036854775807) (hc : ∀ j, j < xs.length → w.cell? ⟨b, off + j, none⟩ = some (bv (xs.getD j 0#8))) :
    Calls Tryd.prog 11 #[.int .u32 s.toNat, .slice (some ⟨b, off, none⟩) len cap] w fun e w' => e = .returned (.int .u32 (more s xs).toNat) ∧ w = w' := by
  have HL := Lib.hid hlen
  have HC := Lib.hid hc
  have e0 := not_u32 s
  have hs := s.isLt
  have E : Hid (more s xs = ~~~ feed (~~~ s) xs) := Lib.hid rfl
  generalize more s xs = z at *
  have H0 : Hid (feed (~~~ s) [] = ~~~ s) := Lib.hid rfl
  generalize (~~~ s) = t at *
  clear hlen hc
  go_enter Tryd.func11, Tryd.ntmps11
  go_wp2_with fail
  clear e0 hs
  go_loop [5, 12] (fun r i => ∃ k : Nat, k ≤ len ∧ i = .int .i64 k ∧ r = .int .u32 (feed t (xs.take k)).toNat) (fun _ i => len - (intOf i).toNat)
  case atStart => exact ⟨0, Nat.zero_le _, rfl, rfl⟩
  case round =>
    obtain ⟨k, hk, rfl, rfl⟩ := hrel
    by_cases hlt : k < len
    · have hcell := HC.out k (by rw [HL.out]; exact hlt)
      unfold bv at hcell
      have FS := Lib.hid (feed_snoc t xs k (by rw [HL.out]; exact hlt))
      generalize feed t (xs.take k) = r at *
      generalize xs.getD k 0#8 = c at *
      have hr := r.isLt
      have hcc := c.isLt
      have e1 := xor_byte r c
      have K1 := Lib.hid (fun u h => four_any (r ^^^ wide c) u h)
      have K2 := Lib.hid (fun u h => four_any (s4 (r ^^^ wide c)) u h)
      have G := Lib.hid hT
      clear HC HL
      have FE : Hid (stepB r c = s4 (s4 (r ^^^ wide c))) := Lib.hid rfl
      generalize (r ^^^ wide c) = r1 at *
      clear hT
      go_wp2_with fail
      refine (K1.out _ G.out).mono ?_
      rintro e u ⟨rfl, rfl⟩
      go_wp2_with fail
      refine (K2.out _ G.out).mono ?_
      rintro e u ⟨rfl, rfl⟩
      go_wp2_with fail
      go_round
      case rel => exact ⟨k + 1, by omega, by go_num, by rw [FS.out, FE.out]⟩
      case measure => simp [intOf]; omega
    · obtain rfl : k = len := by omega
      have ht : xs.take k = xs := List.take_of_length_le (by rw [HL.out]; omega)
      rw [ht]
      have e1 := not_u32 (feed t xs)
      clear ht HC HL
      generalize feed t xs = r at *
      generalize (~~~ r) = q at *
      have hr := r.isLt
      go_wp2_with fail
      go_ret
      exact ⟨ret_int (by rw [E.out]), rfl⟩

theorem more_zero (a : Option Addr) (cap : Nat) (s : BitVec 32) (w : World) :
    Calls Tryd.prog 11 #[.int .u32 s.toNat, .slice a 0 cap] w fun e w' => e = .returned (.int .u32 s.toNat) ∧ w = w' := by
  have e0 := not_u32 s
  have hs := s.isLt
  have E : Hid (~~~ (~~~ s) = s) := Lib.hid (BitVec.not_not ..)
  generalize (~~~ s) = t at *
  go_enter Tryd.func11, Tryd.ntmps11
  go_wp2_with fail
  clear e0 hs
  go_loop [5, 12] (fun r i => i = .int .i64 0 ∧ r = .int .u32 t.toNat) (fun _ _ => 0)
  case atStart => exact ⟨rfl, rfl⟩
  case round =>
    obtain ⟨rfl, rfl⟩ := hrel
    have e1 := not_u32 t
    generalize (~~~ t) = q at *
    have ht := t.isLt
    go_wp2_with fail
    go_ret
    exact ⟨ret_int (by rw [E.out]), rfl⟩

/-- crc.More over a slice that reads as xs -/
theorem more_seq {w : World} {v : Value} {xs : Bytes} (h : Seq w v xs) (hT : HasTab w) (s : BitVec 32) :
    Calls Tryd.prog 11 #[.int .u32 s.toNat, v] w fun e w' => e = .returned (.int .u32 (more s xs).toNat) ∧ w = w' := by
  obtain ⟨a, cap, rfl, h1, h2, h3⟩ := h
  by_cases hp : 0 < xs.length
  · obtain ⟨b, off, rfl, hc⟩ := h3 hp
    exact more_some b off xs.length cap xs s w hT rfl (by unfold maxLen at h2; omega) hc
  · obtain rfl : xs = [] := List.eq_nil_of_length_eq_zero (by omega)
    rw [more_nil]
    exact more_zero a cap s w

/-- crc.Sum over a slice that reads as xs -/
theorem sum_seq {w : World} {v : Value} {xs : Bytes} (h : Seq w v xs) (hT : HasTab w) :
    Calls Tryd.prog 9 #[v] w fun e w' => e = .returned (.int .u32 (sum xs).toNat) ∧ w = w' := by
  have K := Lib.hid (more_seq h hT 0#32)
  obtain ⟨a, cap, rfl, h1, h2, h3⟩ := h
  have E : Hid (sum xs = more 0#32 xs) := Lib.hid rfl
  have Z : Hid ((0#32).toNat = 0) := Lib.hid rfl
  generalize sum xs = z at *
  generalize more 0#32 xs = y at *
  generalize (0#32).toNat = o at *
  have K2 := K.out
  rw [Z.out] at K2
  have K3 := Lib.hid K2
  clear K2 K h3 hT
  go_enter Tryd.func9, Tryd.ntmps9
  go_wp2_with fail
  refine K3.out.mono ?_
  rintro e u ⟨rfl, rfl⟩
  go_wp2_with fail
  go_ret
  exact ⟨ret_int (by rw [E.out]), rfl⟩

/-- a slice of the call's own that reads as xs -/
def Owns (B : Nat) (w : World) (v : Value) (xs : Bytes) : Prop := w.ownsRow B 5 1 v xs.length (xs.map bv)

theorem Owns.nil (B : Nat) (w : World) : Owns B w (.slice none 0 0) [] := World.ownsRow_nil _ _ _ _

theorem getD_map (xs : Bytes) (j : Nat) (hj : j < xs.length) : (xs.map bv)[j]? = some (bv (xs.getD j 0#8)) := by
  simp [List.getD, List.getElem?_eq_getElem hj]

theorem Owns.seq {B : Nat} {w : World} {v : Value} {xs : Bytes} (h : Owns B w v xs) : Seq w v xs := by
  have h' := h
  rcases h.2 with ⟨rfl, hn⟩ | ⟨g, cap, cur, rfl, hb, hg, hnc, hcm, hcs, htake⟩
  · obtain rfl : xs = [] := List.eq_nil_of_length_eq_zero hn
    exact Seq.nil w none 0 (Nat.zero_le _)
  · refine ⟨_, cap, rfl, hnc, hcm, fun hp => ⟨g, 0, rfl, fun j hj => ?_⟩⟩
    have := World.ownsRow.cellAt h' j (by omega)
    rw [Nat.zero_add, this, getD_map xs j hj]

def Apart (u v : Value) : Prop := u.ownBlock = none ∨ u.ownBlock ≠ v.ownBlock

/-- one element more: what the law on append leaves -/
theorem Owns.push {B : Nat} {w wr w1 : World} {u u' v : Value} {xs ys : Bytes} {x : BitVec 8} {o : Obj} (hB : B ≤ wr.heap.size)
    (hu : Owns B wr u xs) (hv : Owns B wr v ys) (ha : Apart v u) (hb : Below B w wr)
    (hown : w1.ownsRow B 5 1 u' (xs.length + 1) (xs.map bv ++ [bv x])) (hgrow : (wr.alloc o).grownBy w1 u.ownBlock)
    (hat : u'.ownBlock = u.ownBlock ∨ u'.ownBlock = some (wr.heap.size + 1)) :
    Owns B w1 u' (xs ++ [x]) ∧ Owns B w1 v ys ∧ Apart v u' ∧ Below B w w1 ∧ B ≤ w1.heap.size := by
  have hs : (wr.alloc o).heap.size = wr.heap.size + 1 := by simp
  refine ⟨by unfold Owns; simpa using hown, World.ownsRow.kept (World.ownsRow.alloc hv o) hgrow ha, ?_, (hb.alloc hB o).grown hgrow (by omega) (fun k hk => (World.ownsRow.lt hu k hk).1), by have := hgrow.size; omega⟩
  rcases hat with h | h
  · unfold Apart; rw [h]; exact ha
  · unfold Apart; rw [h]
    cases hvb : v.ownBlock with
    | none => exact .inl rfl
    | some k => right; have := (World.ownsRow.lt hv k hvb).2; intro e; cases e; omega

/-- a slice that came in: nil, or cells that hold the numbers zs, each of its kind -/
def IsRow (k : IntKind) (w : World) (a : Option Addr) (len cap : Nat) (zs : List Int) : Prop :=
  (a = none ∧ len = 0 ∧ cap = 0 ∧ zs = []) ∨
  ∃ x, a = some x ∧ len ≤ cap ∧ cap ≤ maxLen ∧ zs.length = cap ∧ (∀ i, i < zs.length → w.cell? (x.add i) = some (.int k (zs.getD i 0))) ∧ ∀ n ∈ zs, (Lit.int k n).wf = true
/-- integers that fit the kind, as bytes -/
theorem ints_bytes (zs : List Int) (h : ∀ n ∈ zs, (Lit.int .u8 n).wf = true) (i : Nat) (hi : i < zs.length) : Value.int .u8 (zs.getD i 0) = bv ((zs.map (BitVec.ofInt 8)).getD i 0#8) := by
  have hg : zs.getD i 0 = zs[i] := by simp [List.getD, List.getElem?_eq_getElem hi]
  have hg' : (zs.map (BitVec.ofInt 8)).getD i 0#8 = BitVec.ofInt 8 zs[i] := by simp [List.getD, List.getElem?_eq_getElem hi]
  have hw := h _ (List.getElem_mem hi)
  rw [hg, hg']
  generalize zs[i] = n at *
  have : 0 ≤ n ∧ n < 256 := by
    have : 0 ≤ n ∧ n ≤ 255 := by simpa [Lit.wf, IntKind.min, IntKind.max, IntKind.signed, IntKind.bits] using hw
    omega
  unfold bv
  rw [BitVec.toNat_ofInt]
  congr 1
  omega
theorem row_seq {w : World} {a : Option Addr} {len cap : Nat} {zs : List Int} (h : IsRow .u8 w a len cap zs) :
    ∃ xs : Bytes, Seq w (.slice a len cap) xs ∧ xs.length = len ∧ len ≤ cap ∧ (a = none → cap = 0) := by
  rcases h with ⟨rfl, rfl, rfl, rfl⟩ | ⟨x, rfl, hl, hm, hz, hc, hw⟩
  · exact ⟨[], Seq.nil w none 0 (Nat.zero_le _), rfl, Nat.le_refl _, fun _ => rfl⟩
  · have hlen : ((zs.map (BitVec.ofInt 8)).take len).length = len := by rw [List.length_take, List.length_map]; omega
    refine ⟨(zs.map (BitVec.ofInt 8)).take len, ⟨some x, cap, by rw [hlen], by omega, hm, fun hp => ?_⟩, hlen, hl, (by simp)⟩
    obtain ⟨b, off, rfl, g⟩ := ints_at hc (by omega)
    refine ⟨b, off, rfl, fun j hj => ?_⟩
    rw [g j (by omega), ints_bytes zs hw j (by omega)]
    simp [List.getD, show j < len by omega]

/-- its first n: what 'b[:min(len(b), n)]' reads as, and whether it is cut -/
theorem row_cut {w : World} {a : Option Addr} {len cap : Nat} {zs : List Int} (h : IsRow .u8 w a len cap zs) (n : Nat) :
    ∃ (xs : Bytes) (m : Nat), ((len ≤ n ∧ len = m) ∨ (¬ len ≤ n ∧ m = n)) ∧ xs.length = m ∧ Seq w (.slice a m cap) xs ∧ m ≤ n ∧ len ≤ cap ∧ (a = none → cap = 0) := by
  obtain ⟨xs, hs, hl, hlc, hn⟩ := row_seq h
  obtain ⟨a', cap', hv, h1, h2, hcut⟩ := Seq.cut hs n
  simp only [Value.slice.injEq] at hv
  obtain ⟨rfl, -, rfl⟩ := hv
  have hlen := List.length_take (i := n) (l := xs)
  subst hl
  refine ⟨xs.take n, _, ?_, rfl, hcut, by omega, by omega, hn⟩
  by_cases hb : xs.length ≤ n
  · left; omega
  · right; omega
end Go.Proofs.YtjggnihclihhaaaDoor
