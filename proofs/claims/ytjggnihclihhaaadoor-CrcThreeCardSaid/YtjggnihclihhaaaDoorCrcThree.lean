/-
  For any three lists of bytes the law CrcThree answers true: of their first bytes, as many as the shortest has and 2000 at most, the sum of what comes of laying them over one another is that of laying their sums over one another. Conditions: the package variable crc.halves holds what the program's text lays (the card ties it).
  (The frame was written by the guide's proof-skeleton.mjs; the walk is ours.)
-/
import Derived.Test.YtjggnihclihhaaaDoorRows
import Derived.WalkKit
import Derived.ProofKit
import Derived.OpenShut
import Derived.ShutString
import Derived.ChangeOld
import Derived.Below
import Derived.Test.YtjggnihclihhaaaDoorAwake
import Derived.Test.YtjggnihclihhaaaDoorPut
import Derived.Deep.RegionWith
import Derived.Deep.RegionHeld3
import Derived.Deep.AppendLies
import Derived.WalkSpells
import Derived.OwnWalk
import Derived.LaidMore
import Derived.Stop.Joined
import Derived.SevenTiedAt
import Derived.Test.YtjggnihclihhaaaDoorLaid
namespace Go.Proofs.YtjggnihclihhaaaDoor.crcThree
open Go.ChangeShapes Go.WideShapes Go.ChangeAt Go.RowKit
open Go.ChangeMaps (open_string shut_string)
set_option linter.unusedVariables false

open Plain

theorem min4 (a b c n : Nat) (h : n ≤ a ∧ n ≤ b ∧ n ≤ c ∧ n ≤ 2000) (h' : n = a ∨ n = b ∨ n = c ∨ n = 2000) (ts : Array TypeId) (t : TypeId) (w : World) :
    (Builtin.min_ ts t #[.int .i64 a, .int .i64 b, .int .i64 c, .int .i64 2000]).run Tryd.prog w = .ok (.int .i64 n) w := by
  have e1 : (if (b : Int) < (a : Int) then (b : Int) else a) = ((min a b : Nat) : Int) := by split <;> omega
  have e2 : (if (c : Int) < ((min a b : Nat) : Int) then (c : Int) else ((min a b : Nat) : Int)) = ((min (min a b) c : Nat) : Int) := by split <;> omega
  have e3 : (if (2000 : Int) < ((min (min a b) c : Nat) : Int) then (2000 : Int) else ((min (min a b) c : Nat) : Int)) = (n : Int) := by split <;> omega
  have s : (Builtin.min_ ts t #[.int .i64 a, .int .i64 b, .int .i64 c, .int .i64 2000]).run Tryd.prog w = .ok (.int .i64 (if (2000 : Int) < (if (c : Int) < (if (b : Int) < (a : Int) then (b : Int) else a) then (c : Int) else (if (b : Int) < (a : Int) then (b : Int) else a)) then (2000 : Int) else (if (c : Int) < (if (b : Int) < (a : Int) then (b : Int) else a) then (c : Int) else (if (b : Int) < (a : Int) then (b : Int) else a)))) w := by
    simp [Builtin.min_, Builtin.min2]
  rw [s, e1, e2, e3]
theorem take_snoc (xs : Bytes) (k : Nat) (h : k < xs.length) : xs.take (k + 1) = xs.take k ++ [xs.getD k 0#8] := by
  rw [List.take_succ_eq_append_getElem h]
  simp [List.getD, List.getElem?_eq_getElem h]
theorem lay_snoc (xs ys zs : Bytes) (k : Nat) (h : k < xs.length) (hy : ys.length = xs.length) (hz : zs.length = xs.length) :
    lay3 (xs.take (k + 1)) (ys.take (k + 1)) (zs.take (k + 1)) = lay3 (xs.take k) (ys.take k) (zs.take k) ++ [xs.getD k 0#8 ^^^ ys.getD k 0#8 ^^^ zs.getD k 0#8] := by
  rw [take_snoc xs k h, take_snoc ys k (by omega), take_snoc zs k (by omega), lay3_snoc _ _ _ _ _ _ (by simp [List.length_take]; omega) (by simp [List.length_take]; omega)]
theorem lay_len (xs ys zs : Bytes) (k : Nat) (h : k ≤ xs.length) (hy : ys.length = xs.length) (hz : zs.length = xs.length) : (lay3 (xs.take k) (ys.take k) (zs.take k)).length = k := by
  rw [lay3_length _ _ _ (by simp [List.length_take]; omega) (by simp [List.length_take]; omega), List.length_take]; omega
theorem byte_xor (a b : BitVec 8) : bits .xor .u8 (a.toNat : Int) (b.toNat : Int) = ((a ^^^ b).toNat : Int) := by
  rw [u8_xor_nat _ _ a.isLt b.isLt, BitVec.toNat_xor]

set_option maxHeartbeats 4000000 in
set_option maxRecDepth 100000 in
theorem three (a0 a1 a2 : Option Addr) (len0 cap0 len1 cap1 len2 cap2 n : Nat) (xs ys zs : Bytes) (w : World) (h0 : len0 ≤ cap0) (h1 : len1 ≤ cap1) (h2 : len2 ≤ cap2)
    (hn : n ≤ len0 ∧ n ≤ len1 ∧ n ≤ len2 ∧ n ≤ 2000) (hn' : n = len0 ∨ n = len1 ∨ n = len2 ∨ n = 2000)
    (lx : xs.length = n) (ly : ys.length = n) (lz : zs.length = n) (sx : Seq w (.slice a0 n cap0) xs) (sy : Seq w (.slice a1 n cap1) ys) (sz : Seq w (.slice a2 n cap2) zs) (hT : HasTab w) :
    Calls Tryd.prog 7 #[.slice a0 len0 cap0, .slice a1 len1 cap1, .slice a2 len2 cap2] w fun e w' => e = .returned (.bool true) ∧ Below w.heap.size w w' := by
  have KA := Lib.hid (awake_any w hT)
  have SX := Lib.hid sx
  have SY := Lib.hid sy
  have SZ := Lib.hid sz
  have K0 := Lib.hid (fun (u : World) (hb : Below w.heap.size w u) => sum_seq (Seq.below sx hb) (hT.below hb))
  have K1 := Lib.hid (fun (u : World) (hb : Below w.heap.size w u) => sum_seq (Seq.below sy hb) (hT.below hb))
  have K2 := Lib.hid (fun (u : World) (hb : Below w.heap.size w u) => sum_seq (Seq.below sz hb) (hT.below hb))
  have KO := Lib.hid (fun (u : World) (v : Value) (ys : Bytes) (hb : Below w.heap.size w u) (h : Owns w.heap.size u v ys) => sum_seq (Owns.seq (h : Owns w.heap.size u v ys)) (hT.below hb))
  have SUM := Lib.hid (sum_three xs ys zs (by omega) (by omega))
  have LS := Lib.hid (fun k (hk : k < n) => lay_snoc xs ys zs k (by omega) (by omega) (by omega))
  have LL := Lib.hid (fun k (hk : k ≤ n) => lay_len xs ys zs k (by omega) (by omega) (by omega))
  have TX := Lib.hid (show xs.take n = xs from List.take_of_length_le (by omega))
  have TY := Lib.hid (show ys.take n = ys from List.take_of_length_le (by omega))
  have TZ := Lib.hid (show zs.take n = zs from List.take_of_length_le (by omega))
  have MN := min4 len0 len1 len2 n hn hn'
  obtain ⟨n0, n1, n2, n3⟩ := hn
  have LX := Lib.hid lx
  have LY := Lib.hid ly
  have LZ := Lib.hid lz
  clear sx sy sz hT hn' lx ly lz
  go_enter Tryd.func7, Tryd.ntmps7
  go_wp2_with fail
  refine KA.out.mono ?_
  rintro e w' ⟨rfl, hg⟩
  go_wp2_with fail
  clear MN
  go_loopw [8, 9] (fun v i wr => ∃ k : Nat, k ≤ n ∧ i = .int .i64 k ∧ Owns w.heap.size wr v (lay3 (xs.take k) (ys.take k) (zs.take k)) ∧ Below w.heap.size w wr ∧ w.heap.size ≤ wr.heap.size)
    (fun _ i _ => n - (intOf i).toNat)
  case atStart => exact ⟨0, Nat.zero_le _, rfl, Owns.nil _ _, hg, hg.size⟩
  case round =>
    clear hg
    obtain ⟨k, hk, rfl, hv, hb, hB⟩ := hrel
    by_cases hlt : k < n
    · obtain ⟨_, _, e0, -, -, g0⟩ := SX.out
      obtain ⟨_, _, e1, -, -, g1⟩ := SY.out
      obtain ⟨_, _, e2, -, -, g2⟩ := SZ.out
      simp only [Value.slice.injEq] at e0 e1 e2
      obtain ⟨rfl, -, rfl⟩ := e0
      obtain ⟨rfl, -, rfl⟩ := e1
      obtain ⟨rfl, -, rfl⟩ := e2
      obtain ⟨b0, o0, rfl, c0⟩ := g0 (by rw [LX.out]; omega)
      obtain ⟨b1, o1, rfl, c1⟩ := g1 (by rw [LY.out]; omega)
      obtain ⟨b2, o2, rfl, c2⟩ := g2 (by rw [LZ.out]; omega)
      have d0 := c0 k (by rw [LX.out]; exact hlt)
      have d1 := c1 k (by rw [LY.out]; exact hlt)
      have d2 := c2 k (by rw [LZ.out]; exact hlt)
      have p0 : wr.cell? ⟨b0, o0 + k, none⟩ = some (bv (xs.getD k 0#8)) := (hb.cell (p := ⟨b0, o0 + k, none⟩) (World.block_lt_of_cell? w _ d0)).trans d0
      have p1 : wr.cell? ⟨b1, o1 + k, none⟩ = some (bv (ys.getD k 0#8)) := (hb.cell (p := ⟨b1, o1 + k, none⟩) (World.block_lt_of_cell? w _ d1)).trans d1
      have p2 : wr.cell? ⟨b2, o2 + k, none⟩ = some (bv (zs.getD k 0#8)) := (hb.cell (p := ⟨b2, o2 + k, none⟩) (World.block_lt_of_cell? w _ d2)).trans d2
      have l0 := World.block_lt_of_cell? w _ d0
      have l1 := World.block_lt_of_cell? w _ d1
      have l2 := World.block_lt_of_cell? w _ d2
      simp only at l0 l1 l2
      have far : ∀ b : Nat, b < w.heap.size → some b ≠ Value.ownBlock u8 := fun b hl e => by have := (World.ownsRow.lt hv b e.symm).1; omega
      have ag0 := far b0 l0
      have ag1 := far b1 l1
      have ag2 := far b2 l2
      clear c0 c1 c2 d0 d1 d2 g0 g1 g2 far
      have LSk := Lib.hid (LS.out k hlt)
      have LLk := Lib.hid (LL.out k hk)
      have LLk' : (lay3 (xs.take k) (ys.take k) (zs.take k)).length ≤ 2000 := by rw [LLk.out]; omega
      generalize hl : lay3 (xs.take k) (ys.take k) (zs.take k) = l at *
      clear hl
      unfold bv at p0 p1 p2
      generalize xs.getD k 0#8 = x at *
      generalize ys.getD k 0#8 = y at *
      generalize zs.getD k 0#8 = z at *
      have q1 := byte_xor x y
      have q2 := byte_xor (x ^^^ y) z
      have x0 := x.isLt
      have x1 := y.isLt
      have x2 := z.isLt
      have i0' : (0 : Int) ≤ (k : Int) := Int.natCast_nonneg _
      have i1 : (k : Int) < (len0 : Int) := by omega
      have i2 : (k : Int) < (len1 : Int) := by omega
      have i3 : (k : Int) < (len2 : Int) := by omega
      clear K0 K1 K2 KO SX SY SZ KA SUM TX TY TZ LS LL LX LY LZ
      generalize (x ^^^ y ^^^ z) = t at *
      generalize (x ^^^ y) = s at *
      have x3 := s.isLt
      have x4 := t.isLt
      go_wp2_with fail
      obtain ⟨i0, hi, hz0, hz1, hz2⟩ := info_parts info2'
      have hown : wr.ownsRow w.heap.size 5 1 u8 l.length (l.map bv) := hv
      have hm1 : l.length + 1 ≤ maxLen := by unfold maxLen; omega
      have hm2 : (l.length + 1) * 1 ≤ 140737488355328 := by omega
      go_region_held3 (fun w' => w'.cell? ⟨b0, o0 + k, none⟩ = some (.int .u8 x.toNat) ∧ w'.cell? ⟨b1, o1 + k, none⟩ = some (.int .u8 y.toNat) ∧ w'.cell? ⟨b2, o2 + k, none⟩ = some (.int .u8 z.toNat))
        (first
          | go_keep
          | (go_split_ands
             refine ⟨?_, ?_, ?_⟩
             · (rw [hgrow.cell_far _ (by simp; omega) (by exact ag0)]; assumption)
             · (rw [hgrow.cell_far _ (by simp; omega) (by exact ag1)]; assumption)
             · (rw [hgrow.cell_far _ (by simp; omega) (by assumption)]; assumption)))
        ((refine step_append_lies _ (by rfl) _ _ _ (by rfl) w.heap.size 5 i0 _ 1 1 Tryd.underlying22 hi hz0 hz1 hz2 rfl (by omega) _ l.length (l.map bv) (by rfl) ((hown.alloc _).drew)
            ⟨wr.heap.size, 0, none⟩ 1 1 [.int .u8 t.toNat] (by rfl) (by rfl) (World.news_of_block (cs := #[.int .u8 t.toNat]) (t := 5) (fr := (0, 0)) (heap_alloc_new wr _)) (by simp [Value.oneCell'])
            (by omega) hm1 hm2 (by simp; omega) (wr.heap.size + 1) (by simp) ?_; intro gg cap w1 hown1 hgrow hat hlt1))
      have r1 : Owns w.heap.size w1 (.slice (some ⟨gg, 0, none⟩) (l.length + 1) cap) (l ++ [t]) := by
        unfold Owns
        rw [List.length_append, List.map_append]
        exact hown1
      have r2 : Below w.heap.size w w1 := ((hb.alloc hB _).drew).grown hgrow (by simp; omega) (fun g hg => (World.ownsRow.lt hv g hg).1)
      have r3 : w.heap.size ≤ w1.heap.size := by have := hgrow.size; simp at this; omega
      rw [← LSk.out] at r1
      clear hown hown1 hgrow hat hlt1 hv hb hB p0 p1 p2 q1 q2
      go_wp2_with fail
      go_roundw
      case rel => exact ⟨k + 1, by omega, by go_num, r1, r2, r3⟩
      case measure => simp [intOf]; omega
    · obtain rfl : k = n := by omega
      rw [TX.out, TY.out, TZ.out] at hv
      have K3 := Lib.hid (fun (nq : Nat) => KO.out (wr.drewN nq) u8 _ (below_drewN hb nq) (by exact hv))
      rw [SUM.out] at K3
      clear KO SUM LS LL TX TY TZ LX LY LZ SX SY SZ KA hv hlt
      have q1 := xor_u32 (sum xs) (sum ys)
      have q2 := xor_u32 (sum xs ^^^ sum ys) (sum zs)
      generalize (sum xs ^^^ sum ys ^^^ sum zs) = t at *
      generalize (sum xs ^^^ sum ys) = s at *
      generalize sum xs = x at *
      generalize sum ys = y at *
      generalize sum zs = z at *
      have i0 : (k : Int) ≤ cap0 := by omega
      have i1 : (k : Int) ≤ cap1 := by omega
      have i2 : (k : Int) ≤ cap2 := by omega
      go_wp2_with fail
      go_quiet ((first | (go_at_call_of 9 cap0; exact quiet_left (K0.out _ (below_drewN hb _))) | (go_at_call_of 9 cap1; exact quiet_left (K1.out _ (below_drewN hb _))) | (go_at_call_of 9 cap2; exact quiet_left (K2.out _ (below_drewN hb _))) | (go_at_call 9; exact quiet_left (K3.out _))))
      go_wp2_with fail
      go_ret
      exact ⟨rfl, below_drewN hb _⟩

theorem walk (a0 : Option Addr) (len0 cap0 : Nat) (z0 : List Int) (a1 : Option Addr) (len1 cap1 : Nat) (z1 : List Int) (a2 : Option Addr) (len2 cap2 : Nat) (z2 : List Int) (w : World) (w0 : IsRow .u8 w a0 len0 cap0 z0) (w1 : IsRow .u8 w a1 len1 cap1 z1) (w2 : IsRow .u8 w a2 len2 cap2 z2) (hT : HasTab w) :
    Calls Tryd.prog 7 #[.slice a0 len0 cap0, .slice a1 len1 cap1, .slice a2 len2 cap2] w fun e w' => e = .returned (.bool true) ∧ Below w.heap.size w w' := by
  obtain ⟨xs, sx, lx, hl0, hn0⟩ := row_seq w0
  obtain ⟨ys, sy, ly, hl1, hn1⟩ := row_seq w1
  obtain ⟨zs, sz, lz, hl2, hn2⟩ := row_seq w2
  obtain ⟨n, hn, hn'⟩ : ∃ n, (n ≤ len0 ∧ n ≤ len1 ∧ n ≤ len2 ∧ n ≤ 2000) ∧ (n = len0 ∨ n = len1 ∨ n = len2 ∨ n = 2000) := ⟨min (min (min len0 len1) len2) 2000, by omega, by omega⟩
  subst lx ly lz
  exact three a0 a1 a2 xs.length cap0 ys.length cap1 zs.length cap2 n (xs.take n) (ys.take n) (zs.take n) w hl0 hl1 hl2 hn hn' (by rw [List.length_take]; omega) (by rw [List.length_take]; omega) (by rw [List.length_take]; omega)
    (Seq.first sx n hn.1) (Seq.first sy n hn.2.1) (Seq.first sz n hn.2.2.1) hT

set_option maxRecDepth 100000 in
theorem lifted (os : Os) (started : os.Started) (H : Type) (enc : TypeId × Value → H) :
    ReturnsInHanded {} Tryd.checked os 7 .any (fun w args => (Rows.crcThreeSpec.pre enc Tryd.prog Tryd.f7 [] false w args ∧ laidMetH Tryd.prog laid1 w) ∧ sizedMet enc Tryd.prog Tryd.f7 (OpenSpec.ofChange Rows.crcThreeSpec) false w args)
      (Rows.crcThreeSpec.post enc Tryd.prog Tryd.f7 false true false false) := by
  refine returnsInHanded_of_change_and (C := Tryd.checked) (X := fun w _ => laidMetH Tryd.prog laid1 w) (fun _ _ _ hh h => h.of_heap hh) own started (by kernel_rfl) Tryd.func7
    (ChangeSpec.witness_shaped (enc := enc) (C := Tryd.checked) (os := os) (X := fun w _ => laidMetH Tryd.prog laid1 w) false (World.doorLaid Tryd.prog 400 os) #[.slice none 0 0, .slice none 0 0, .slice none 0 0] 8 rfl (World.shaped_of_RefB (by kernel_rfl) (by kernel_rfl)) (by kernel_rfl) (by kernel_rfl) (by kernel_rfl) (door_met os _)) ?_
  intro W base args ds gs before hval0 hW _ _ hL _
  have hval : ∀ (j : Nat) t v, Tryd.f7.params[j]? = some t → args[j]? = some v → Value.okWide Tryd.prog W .any base t v := hval0
  have hW' := hW
  obtain ⟨p, q, hA0, hV, rfl, hfz, hnd⟩ := hW
  have hA : DataW.TrodAll enc Tryd.prog W 0 (fun _ => true) true Tryd.f7.params.toList args.toList ds p := hA0
  rw [Tryd.params7] at hA hval
  obtain ⟨v0, vs0, d0, ds0, p0, q0, hargs, rfl, rfl, h0, r0⟩ := trodAll_cons hA
  obtain ⟨v1, vs1, d1, ds1, p1, q1, rfl, rfl, rfl, h1, r1⟩ := trodAll_cons r0
  obtain ⟨v2, vs2, d2, ds2, p2, q2, rfl, rfl, rfl, h2, r2⟩ := trodAll_cons r1
  obtain ⟨rfl, rfl, rfl⟩ := trodAll_nil r2
  obtain rfl : args = #[v0, v1, v2] := by cases args; simp_all
  obtain ⟨rfl, rfl⟩ := trodVars_none hV
  obtain ⟨a0, len0, cap0, rfl⟩ := okWide_slice Tryd.underlying22 (hval 0 22 v0 rfl rfl)
  have k0 := h0
  have lt0 : ∀ x ∈ p0, x.block < W.heap.size := by obtain ⟨m, hm⟩ := k0; exact DataW.trod_lt m _ _ _ hm
  obtain ⟨z0, w0⟩ : ∃ zs, IsRow .u8 W a0 len0 cap0 zs := by
    obtain ⟨fuel, hf⟩ := h0
    rcases open_ints Tryd.underlying22 Tryd.underlying5 (by kernel_rfl) hf with ⟨hcs, _⟩ | ⟨x, l, c, zs, hcs, _, hl, hm, hz, _, hcell, hwz⟩
    · simp [Value.cells] at hcs
      obtain ⟨rfl, rfl, rfl⟩ := hcs
      exact ⟨[], .inl ⟨rfl, rfl, rfl, rfl⟩⟩
    · simp [Value.cells] at hcs
      obtain ⟨rfl, rfl, rfl⟩ := hcs
      exact ⟨zs, .inr ⟨_, rfl, hl, hm, by simpa using hz, hcell, hwz⟩⟩
  obtain ⟨a1, len1, cap1, rfl⟩ := okWide_slice Tryd.underlying22 (hval 1 22 v1 rfl rfl)
  have k1 := h1
  have lt1 : ∀ x ∈ p1, x.block < W.heap.size := by obtain ⟨m, hm⟩ := k1; exact DataW.trod_lt m _ _ _ hm
  obtain ⟨z1, w1⟩ : ∃ zs, IsRow .u8 W a1 len1 cap1 zs := by
    obtain ⟨fuel, hf⟩ := h1
    rcases open_ints Tryd.underlying22 Tryd.underlying5 (by kernel_rfl) hf with ⟨hcs, _⟩ | ⟨x, l, c, zs, hcs, _, hl, hm, hz, _, hcell, hwz⟩
    · simp [Value.cells] at hcs
      obtain ⟨rfl, rfl, rfl⟩ := hcs
      exact ⟨[], .inl ⟨rfl, rfl, rfl, rfl⟩⟩
    · simp [Value.cells] at hcs
      obtain ⟨rfl, rfl, rfl⟩ := hcs
      exact ⟨zs, .inr ⟨_, rfl, hl, hm, by simpa using hz, hcell, hwz⟩⟩
  obtain ⟨a2, len2, cap2, rfl⟩ := okWide_slice Tryd.underlying22 (hval 2 22 v2 rfl rfl)
  have k2 := h2
  have lt2 : ∀ x ∈ p2, x.block < W.heap.size := by obtain ⟨m, hm⟩ := k2; exact DataW.trod_lt m _ _ _ hm
  obtain ⟨z2, w2⟩ : ∃ zs, IsRow .u8 W a2 len2 cap2 zs := by
    obtain ⟨fuel, hf⟩ := h2
    rcases open_ints Tryd.underlying22 Tryd.underlying5 (by kernel_rfl) hf with ⟨hcs, _⟩ | ⟨x, l, c, zs, hcs, _, hl, hm, hz, _, hcell, hwz⟩
    · simp [Value.cells] at hcs
      obtain ⟨rfl, rfl, rfl⟩ := hcs
      exact ⟨[], .inl ⟨rfl, rfl, rfl, rfl⟩⟩
    · simp [Value.cells] at hcs
      obtain ⟨rfl, rfl, rfl⟩ := hcs
      exact ⟨zs, .inr ⟨_, rfl, hl, hm, by simpa using hz, hcell, hwz⟩⟩
  clear hA0 hval0
  refine (walk a0 len0 cap0 z0 a1 len1 cap1 z1 a2 len2 cap2 z2 W w0 w1 w2 (of_laid hL)).mono fun e W' ⟨he, bel⟩ => ?_
  subst he
  exact ⟨_, rfl, _, _, _, [], _, [], hW', trodAll_mk1 (shut_bool Tryd.underlying4 _), (trodAll_cons_mk (Below.trod laidOut (by kernel_rfl) (of_decide_eq_true (by kernel_rfl)) k0 bel lt0) (trodAll_cons_mk (Below.trod laidOut (by kernel_rfl) (of_decide_eq_true (by kernel_rfl)) k1 bel lt1) (trodAll_cons_mk (Below.trod laidOut (by kernel_rfl) (of_decide_eq_true (by kernel_rfl)) k2 bel lt2) trodAll_mk0))), rfl, bel.frame _, fun h => by cases h⟩

theorem over : Rows.crcThreeRow.holds Tryd.pinned (OpenSpec.ofChange Rows.crcThreeSpec) :=
  OpenClaim.holds_of_wide 7 Tryd.f7 rfl rfl rfl rfl rfl rfl rfl ⟨rfl, rfl, rfl, rfl, rfl⟩ rfl rfl rfl rfl rfl (by kernel_rfl) Tryd.func7 (by kernel_rfl)
    (of_decide_eq_true (by kernel_rfl)) (by unfold Func.isWrapper; first | (rw [if_pos (by decide +kernel)]; kernel_rfl) | (rw [if_neg (by decide +kernel)]; exact ⟨rfl, rfl⟩))
    (fun os started H enc _ => lifted os started H enc)

/-- the tied card: the given statement -/
theorem proved : Rows.CrcThreeCardSaid :=
  Claim7.holds_tied_plain_at .later [] [.data] true (true, "47813847ea8efad5780a9e05143364231a61c83c9b7eea62c56cd8b66b29b407") false
    over (fun _ h => by cases h) (by kernel_rfl) (fun _ h => by cases h) crcThree_row_tie rfl ⟨rfl, rfl⟩ (by kernel_rfl) rfl
    (fun f fn hf hfn => by
      obtain rfl : f = 7 := Option.some.inj ((show Tryd.prog.funcNamed "buttery/butterylaw02.CrcThree" = some 7 by kernel_rfl).symm.trans hf) |>.symm
      obtain rfl : fn = Tryd.f7 := (Option.some.inj (Tryd.func7.symm.trans hfn)).symm
      exact ⟨by kernel_rfl, fun j t ht => by
        rw [Tryd.params7] at ht
        have hm : t ∈ [22, 22, 22] := by simpa using Array.mem_of_getElem? ht
        have hall : ([22, 22, 22].all fun u => !Tryd.prog.wantsStandIn u) = true := by kernel_rfl
        exact (show Tryd.prog.wantsStandIn t = false by simpa using List.all_eq_true.1 hall t hm)⟩)
    (by kernel_rfl)
#print axioms proved
end Go.Proofs.YtjggnihclihhaaaDoor.crcThree
