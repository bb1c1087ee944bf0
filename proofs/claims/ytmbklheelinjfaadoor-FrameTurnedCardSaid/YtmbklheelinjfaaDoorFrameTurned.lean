/-
  For any records, any record of them, any place in its sum or in itself, and any way to turn the byte there, the law FrameTurned answers true: just those ahead of it are scanned; of more than 60 records, or more than 3000 bytes together, nothing is asked. Conditions: the package variable crc.halves holds what the program's text lays (the card ties it).
  (The frame was written by the guide's proof-skeleton.mjs, and turned for a slice of slices; the walk is ours.)
-/
import Derived.Test.YtmbklheelinjfaaDoorRows
import Derived.WalkKit
import Derived.ProofKit
import Derived.OpenShut
import Derived.ShutString
import Derived.ChangeOld
import Derived.Below
import Derived.Test.YtmbklheelinjfaaDoorAwake
import Derived.LaidMore
import Derived.Stop.Joined
import Derived.SevenTiedAt
import Derived.Test.YtmbklheelinjfaaDoorLaid
import Derived.Test.YtmbklheelinjfaaDoorList
namespace Go.Proofs.YtmbklheelinjfaaDoor.frameTurned
open Go.ChangeShapes Go.WideShapes Go.ChangeAt Go.RowKit
open Go.ChangeMaps (open_string shut_string)
set_option linter.unusedVariables false

open Plain

theorem u8_of (n : Int) (h : (Lit.int .u8 n).wf = true) : ∃ a : BitVec 8, n = (a.toNat : Int) := by
  have h : 0 ≤ n ∧ n ≤ 255 := by simpa [Lit.wf, IntKind.min, IntKind.max, IntKind.signed, IntKind.bits] using h
  refine ⟨BitVec.ofInt 8 n, ?_⟩
  rw [BitVec.toNat_ofInt]
  omega
theorem byte_xor (a b : BitVec 8) : bits .xor .u8 (a.toNat : Int) (b.toNat : Int) = ((a ^^^ b).toNat : Int) := by
  rw [u8_xor_nat _ _ a.isLt b.isLt, BitVec.toNat_xor]
theorem map_set (xs : Bytes) (k : Nat) (c : BitVec 8) : (xs.set k c).map bv = (xs.map bv).set k (bv c) := by
  simp [List.map_set]
theorem turn_place {ls : List Bytes} {k j : Nat} {y : BitVec 8} (hs : Small ls) (hk : k < ls.length) (hy : y ≠ 0#8) (hj : j < 4 + (ls.getD k []).length) :
    Scans (turn (flatF ls) (sizeF (ls.take k) + 4 + j) y) (ls.take k) (sizeF (ls.take k)) ∧ sizeF (ls.take k) + 4 + j < sizeF ls := by
  refine ⟨?_, ?_⟩
  · rw [Nat.add_assoc]
    exact scans_turned hs (part_at ls k hk) hy hj
  · have h := sizeF_snoc ls k hk
    have := sizeF_take ls (k + 1)
    omega

set_option maxRecDepth 100000 in
set_option maxHeartbeats 1000000 in
theorem turned_big (a0 : Option Addr) (len0 cap0 : Nat) (ls : List Bytes) (k j y : Int) (w : World) (hs : SeqR w (.slice a0 len0 cap0) ls) (hT : HasTab w) (hsh : shB ls = false) :
    Calls Tryd.prog 6 #[.slice a0 len0 cap0, .int .i64 k, .int .i64 j, .int .u8 y] w fun e w' => e = .returned (.bool true) ∧ Below w.heap.size w w' := by
  have KA := Lib.hid (awake_any w hT)
  have KS0 : Hid (∀ u, Below w.heap.size w u → _) := Lib.hid (fun u (hb : Below w.heap.size w u) => short_any (hs.below hb))
  rw [hsh] at KS0
  clear hs hT hsh
  go_enter Tryd.func6, Tryd.ntmps6
  go_wp2_with fail
  refine KA.out.mono ?_
  rintro e u1 ⟨rfl, hg1⟩
  have G1 := Lib.hid hg1
  clear hg1
  go_wp2_with fail
  refine (KS0.out _ G1.out).mono ?_
  rintro e u1' ⟨rfl, rfl⟩
  go_wp2_with fail
  go_ret
  exact ⟨rfl, G1.out⟩

set_option maxRecDepth 100000 in
set_option maxHeartbeats 1000000 in
theorem turned_b1 (a0 : Option Addr) (len0 cap0 : Nat) (ls : List Bytes) (k j y : Int) (w : World) (hl : ls.length = len0) (hlc : len0 ≤ cap0) (hs : SeqR w (.slice a0 len0 cap0) ls) (hT : HasTab w) (hsh : shB ls = true) (h : k < 0) :
    Calls Tryd.prog 6 #[.slice a0 len0 cap0, .int .i64 k, .int .i64 j, .int .u8 y] w fun e w' => e = .returned (.bool true) ∧ Below w.heap.size w w' := by
  have KA := Lib.hid (awake_any w hT)
  have KS0 : Hid (∀ u, Below w.heap.size w u → _) := Lib.hid (fun u (hb : Below w.heap.size w u) => short_any (hs.below hb))
  rw [hsh] at KS0
  clear hs hT hsh hl
  go_enter Tryd.func6, Tryd.ntmps6
  go_wp2_with fail
  refine KA.out.mono ?_
  rintro e u1 ⟨rfl, hg1⟩
  have G1 := Lib.hid hg1
  clear hg1
  go_wp2_with fail
  refine (KS0.out _ G1.out).mono ?_
  rintro e u1' ⟨rfl, rfl⟩
  go_wp2_with fail
  go_ret
  exact ⟨rfl, G1.out⟩

set_option maxRecDepth 100000 in
set_option maxHeartbeats 1000000 in
theorem turned_b2 (a0 : Option Addr) (len0 cap0 : Nat) (ls : List Bytes) (k : Nat) (j y : Int) (w : World) (hl : ls.length = len0) (hlc : len0 ≤ cap0) (hs : SeqR w (.slice a0 len0 cap0) ls) (hT : HasTab w) (hsh : shB ls = true) (h : len0 ≤ k) :
    Calls Tryd.prog 6 #[.slice a0 len0 cap0, .int .i64 k, .int .i64 j, .int .u8 y] w fun e w' => e = .returned (.bool true) ∧ Below w.heap.size w w' := by
  have KA := Lib.hid (awake_any w hT)
  have KS0 : Hid (∀ u, Below w.heap.size w u → _) := Lib.hid (fun u (hb : Below w.heap.size w u) => short_any (hs.below hb))
  rw [hsh] at KS0
  have hi : (len0 : Int) ≤ k := by omega
  clear hs hT hsh hl
  go_enter Tryd.func6, Tryd.ntmps6
  go_wp2_with fail
  refine KA.out.mono ?_
  rintro e u1 ⟨rfl, hg1⟩
  have G1 := Lib.hid hg1
  clear hg1
  go_wp2_with fail
  refine (KS0.out _ G1.out).mono ?_
  rintro e u1' ⟨rfl, rfl⟩
  go_wp2_with fail
  go_ret
  exact ⟨rfl, G1.out⟩

set_option maxRecDepth 100000 in
set_option maxHeartbeats 1000000 in
theorem turned_b3 (a0 : Option Addr) (len0 cap0 : Nat) (ls : List Bytes) (k : Nat) (j y : Int) (w : World) (hl : ls.length = len0) (hlc : len0 ≤ cap0) (hs : SeqR w (.slice a0 len0 cap0) ls) (hT : HasTab w) (hsh : shB ls = true) (h : k < len0) (hj : j < 0) :
    Calls Tryd.prog 6 #[.slice a0 len0 cap0, .int .i64 k, .int .i64 j, .int .u8 y] w fun e w' => e = .returned (.bool true) ∧ Below w.heap.size w w' := by
  have KA := Lib.hid (awake_any w hT)
  have KS0 : Hid (∀ u, Below w.heap.size w u → _) := Lib.hid (fun u (hb : Below w.heap.size w u) => short_any (hs.below hb))
  rw [hsh] at KS0
  have hi : (k : Int) < len0 := by omega
  clear hs hT hsh hl
  go_enter Tryd.func6, Tryd.ntmps6
  go_wp2_with fail
  refine KA.out.mono ?_
  rintro e u1 ⟨rfl, hg1⟩
  have G1 := Lib.hid hg1
  clear hg1
  go_wp2_with fail
  refine (KS0.out _ G1.out).mono ?_
  rintro e u1' ⟨rfl, rfl⟩
  go_wp2_with fail
  go_ret
  exact ⟨rfl, G1.out⟩

set_option maxRecDepth 100000 in
set_option maxHeartbeats 1000000 in
theorem turned_b4 (a0 : Option Addr) (len0 cap0 : Nat) (ls : List Bytes) (k j : Nat) (y : Int) (w : World) (hl : ls.length = len0) (hlc : len0 ≤ cap0) (hs : SeqR w (.slice a0 len0 cap0) ls) (hT : HasTab w) (hsh : shB ls = true) (h : k < len0) (hj : 4 + (ls.getD k []).length ≤ j) :
    Calls Tryd.prog 6 #[.slice a0 len0 cap0, .int .i64 k, .int .i64 j, .int .u8 y] w fun e w' => e = .returned (.bool true) ∧ Below w.heap.size w w' := by
  have KA := Lib.hid (awake_any w hT)
  have KS0 : Hid (∀ u, Below w.heap.size w u → _) := Lib.hid (fun u (hb : Below w.heap.size w u) => short_any (hs.below hb))
  rw [hsh] at KS0
  obtain ⟨b, o, cap1, hv, g1, m1, -, hcells⟩ := hs.spot (by omega)
  simp only [Value.slice.injEq] at hv
  obtain ⟨rfl, -, rfl⟩ := hv
  obtain ⟨ar, nr, cr, hcell, e1, l1, l2, l0, sq⟩ := hcells k (by omega)
  have hblt : b < w.heap.size := World.block_lt_of_cell? w ⟨b, o + k, none⟩ hcell
  obtain ⟨s1, s2, s3, s4, s5⟩ := small_sh hsh
  have h5 := s5 k (by omega)
  rw [← e1] at h5
  have hn5 : (nr : Int) ≤ 3000 := by omega
  have hi : (k : Int) < len0 := by omega
  rw [← e1] at hj
  have hji : 4 + (nr : Int) ≤ j := by omega
  have HCELL := Lib.hid hcell
  have HBLT := Lib.hid hblt
  clear hs hT hsh hl hcells sq l0 e1 h5 s1 s2 s3 s4 s5 g1 m1 hcell hblt
  go_enter Tryd.func6, Tryd.ntmps6
  go_wp2_with fail
  refine KA.out.mono ?_
  rintro e u1 ⟨rfl, hg1⟩
  have G1 := Lib.hid hg1
  clear hg1
  have hcell1 := (G1.out.cell (p := ⟨b, o + k, none⟩) HBLT.out).trans HCELL.out
  go_wp2_with fail
  refine (KS0.out _ G1.out).mono ?_
  rintro e u1' ⟨rfl, rfl⟩
  go_wp2_with fail
  go_ret
  exact ⟨rfl, G1.out⟩

set_option maxRecDepth 100000 in
set_option maxHeartbeats 1000000 in
theorem turned_b5 (a0 : Option Addr) (len0 cap0 : Nat) (ls : List Bytes) (k j : Nat) (w : World) (hl : ls.length = len0) (hlc : len0 ≤ cap0) (hs : SeqR w (.slice a0 len0 cap0) ls) (hT : HasTab w) (hsh : shB ls = true) (h : k < len0) (hj : j < 4 + (ls.getD k []).length) :
    Calls Tryd.prog 6 #[.slice a0 len0 cap0, .int .i64 k, .int .i64 j, .int .u8 0] w fun e w' => e = .returned (.bool true) ∧ Below w.heap.size w w' := by
  have KA := Lib.hid (awake_any w hT)
  have KS0 : Hid (∀ u, Below w.heap.size w u → _) := Lib.hid (fun u (hb : Below w.heap.size w u) => short_any (hs.below hb))
  rw [hsh] at KS0
  obtain ⟨b, o, cap1, hv, g1, m1, -, hcells⟩ := hs.spot (by omega)
  simp only [Value.slice.injEq] at hv
  obtain ⟨rfl, -, rfl⟩ := hv
  obtain ⟨ar, nr, cr, hcell, e1, l1, l2, l0, sq⟩ := hcells k (by omega)
  have hblt : b < w.heap.size := World.block_lt_of_cell? w ⟨b, o + k, none⟩ hcell
  obtain ⟨s1, s2, s3, s4, s5⟩ := small_sh hsh
  have h5 := s5 k (by omega)
  rw [← e1] at h5
  have hn5 : (nr : Int) ≤ 3000 := by omega
  have hi : (k : Int) < len0 := by omega
  rw [← e1] at hj
  have hji : (j : Int) < 4 + (nr : Int) := by omega
  have HCELL := Lib.hid hcell
  have HBLT := Lib.hid hblt
  clear hs hT hsh hl hcells sq l0 e1 h5 s1 s2 s3 s4 s5 g1 m1 hcell hblt
  go_enter Tryd.func6, Tryd.ntmps6
  go_wp2_with fail
  refine KA.out.mono ?_
  rintro e u1 ⟨rfl, hg1⟩
  have G1 := Lib.hid hg1
  clear hg1
  have hcell1 := (G1.out.cell (p := ⟨b, o + k, none⟩) HBLT.out).trans HCELL.out
  go_wp2_with fail
  refine (KS0.out _ G1.out).mono ?_
  rintro e u1' ⟨rfl, rfl⟩
  go_wp2_with fail
  go_ret
  exact ⟨rfl, G1.out⟩

set_option maxRecDepth 100000 in
set_option maxHeartbeats 4000000 in
theorem turned_in (a0 : Option Addr) (len0 cap0 : Nat) (ls : List Bytes) (k j : Nat) (y : BitVec 8) (w : World) (hl : ls.length = len0) (hlc : len0 ≤ cap0) (hs : SeqR w (.slice a0 len0 cap0) ls) (hT : HasTab w) (hsh : shB ls = true) (h : k < len0) (hj : j < 4 + (ls.getD k []).length) (hy : y ≠ 0#8) :
    Calls Tryd.prog 6 #[.slice a0 len0 cap0, .int .i64 k, .int .i64 j, .int .u8 y.toNat] w fun e w' => e = .returned (.bool true) ∧ Below w.heap.size w w' := by
  have KA := Lib.hid (awake_any w hT)
  have KS0 : Hid (∀ u, Below w.heap.size w u → _) := Lib.hid (fun u (hb : Below w.heap.size w u) => short_any (hs.below hb))
  rw [hsh] at KS0
  have KL : Hid (∀ u, Below w.heap.size w u → _) := Lib.hid (fun u (hb : Below w.heap.size w u) => laid_ok (hs.below hb) (hT.below hb) hsh)
  obtain ⟨b, o, cap1, hv, g1, m1, -, hcells⟩ := hs.spot (by omega)
  simp only [Value.slice.injEq] at hv
  obtain ⟨rfl, -, rfl⟩ := hv
  obtain ⟨s1, s2, s3, s4, s5⟩ := small_sh hsh
  obtain ⟨hsc, hpl⟩ := turn_place s1 (by omega : k < ls.length) hy hj
  have SC := Lib.hid hsc
  have HV := Lib.hid hcells
  obtain ⟨ar, nr, cr, hcell, e1, l1, l2, l0, sq⟩ := hcells k (by omega)
  have hblt : b < w.heap.size := World.block_lt_of_cell? w ⟨b, o + k, none⟩ hcell
  have h5 := s5 k (by omega)
  rw [← e1] at h5 hj
  have hn5 : (nr : Int) ≤ 3000 := by omega
  have hi : (k : Int) < len0 := by omega
  have hji : (j : Int) < 4 + (nr : Int) := by omega
  have hy0 : ((y.toNat : Int) == 0) = false := beq_eq_false_iff_ne.2 fun e => hy (BitVec.eq_of_toNat_eq (by simp; omega))
  have hyl := y.isLt
  have SL := Lib.hid hs
  have HT := Lib.hid hT
  have LL := Lib.hid hl
  have FL : Hid ((flatF ls).length = sizeF ls) := Lib.hid (flatF_len ls)
  have LB : Hid (sizeF ls ≤ 3480) := Lib.hid s4
  have H5 := Lib.hid s5
  have FS := Lib.hid (sizeF_snoc ls)
  have FT := Lib.hid (sizeF_take ls)
  have hl60 : (len0 : Int) ≤ 60 := by omega
  have hli : (len0 : Int) ≤ cap0 := by omega
  have HPL := Lib.hid hpl
  have HCELL := Lib.hid hcell
  have HBLT := Lib.hid hblt
  have hkl : k < len0 := h
  clear hs hT hsh hl hcells sq l0 e1 h5 s1 s2 s3 s4 s5 g1 m1 hcell hblt hsc hpl hj hy h
  go_enter Tryd.func6, Tryd.ntmps6
  go_wp2_with fail
  refine KA.out.mono ?_
  rintro e u1 ⟨rfl, hg1⟩
  have G1 := Lib.hid hg1
  clear hg1
  have hcell1 := (G1.out.cell (p := ⟨b, o + k, none⟩) HBLT.out).trans HCELL.out
  go_wp2_with fail
  refine (KS0.out _ G1.out).mono ?_
  rintro e u1' ⟨rfl, rfl⟩
  go_wp2_with fail
  clear hcell1
  refine (KL.out _ G1.out).mono ?_
  rintro e u2 ⟨v2, rfl, ho2, hb2⟩
  obtain ⟨g, cb, rfl, hgb, hgl⟩ := World.ownsRow.form ho2 (by rw [FL.out]; have := HPL.out; omega)
  have G2 := Lib.hid (G1.out.trans (hb2.mono G1.out.size))
  have O2 := Lib.hid ho2
  have HGB := Lib.hid (Nat.le_trans G1.out.size hgb)
  rw [FL.out] at O2 ⊢
  have LB1 := LB.out
  have hLi : (sizeF ls : Int) ≤ 3480 := by omega
  have hPi : (sizeF (ls.take k) : Int) + 4 + j < sizeF ls := by have := HPL.out; omega
  clear ho2 hb2 LB1 hgb hgl
  generalize hLL : sizeF ls = L at *
  have HLL := Lib.hid hLL
  clear hLL
  go_wp2_with fail
  go_loop [11, 12] (fun n i => ∃ q : Nat, q ≤ k ∧ i = .int .i64 q ∧ n = .int .i64 (sizeF (ls.take q))) (fun _ i => k - (intOf i).toNat)
  case atStart => exact ⟨0, Nat.zero_le _, rfl, rfl⟩
  case round =>
    obtain ⟨q, hq, rfl, rfl⟩ := hrel
    have hft := FT.out q
    have hbd := LB.out
    by_cases hlt : q < k
    · obtain ⟨ar2, nr2, cr2, hcell, e1, l1', l2', l0, sq⟩ := HV.out q (by rw [LL.out]; omega)
      have hcell2 := (G2.out.cell (p := ⟨b, o + q, none⟩) HBLT.out).trans hcell
      have h5 := H5.out q (by rw [LL.out]; omega)
      have fs := FS.out q (by rw [LL.out]; omega)
      rw [← e1] at fs h5
      have hn52 : (nr2 : Int) ≤ 3000 := by omega
      have hti : (sizeF (ls.take q) : Int) ≤ 3480 := by omega
      have FSK := Lib.hid fs
      have hql : (q : Int) < len0 := by omega
      have hql2 : q < len0 := by omega
      clear hcell sq l0 e1 fs h5 hft hbd hPi
      generalize sizeF (ls.take q) = t at *
      go_wp2_with fail
      go_round
      case rel => exact ⟨q + 1, by omega, by go_num, by rw [FSK.out]; go_num⟩
      case measure => simp [intOf]; omega
    · obtain rfl : q = k := by omega
      have hti : (sizeF (ls.take q) : Int) ≤ 3480 := by omega
      have hpx := HPL.out
      have hidx : sizeF (ls.take q) + 4 + j < (flatF ls).length := by rw [FL.out]; exact hpx
      have hc := O2.out.cell (sizeF (ls.take q) + 4 + j) hidx
      have hcl0 := O2.out.seq.dims
      have h' : u2.ownsRow u1.heap.size 5 1 (.slice (some ⟨g, 0, none⟩) L cb) L ((flatF ls).map bv) := by have h := O2.out; unfold Owns at h; rw [FL.out] at h; exact h
      have hfr : u2.frozen? ⟨g, sizeF (ls.take q) + 4 + j, none⟩ = false := World.ownsRow.frozenAt h' _
      have hst := (World.ownsRow.stored h' (sizeF (ls.take q) + 4 + j) (bv ((flatF ls).getD (sizeF (ls.take q) + 4 + j) 0#8 ^^^ y))).1
      rw [← map_set] at hst
      have hG4 : Below w.heap.size w (u2.setCell ⟨g, sizeF (ls.take q) + 4 + j, none⟩ (bv ((flatF ls).getD (sizeF (ls.take q) + 4 + j) 0#8 ^^^ y))) := G2.out.setCell (p := ⟨g, _, none⟩) HGB.out _
      have hTo : Owns u1.heap.size (u2.setCell ⟨g, sizeF (ls.take q) + 4 + j, none⟩ (bv ((flatF ls).getD (sizeF (ls.take q) + 4 + j) 0#8 ^^^ y))) (.slice (some ⟨g, 0, none⟩) L cb) (turn (flatF ls) (sizeF (ls.take q) + 4 + j) y) := by
        unfold Owns; rw [turn_len, FL.out]; exact hst
      have KS := Lib.hid (scan_of hTo.seq (HT.out.below hG4) (by rw [turn_len, FL.out]; have := LB.out; omega) SC.out)
      have G4 := Lib.hid hG4
      have EX := byte_xor ((flatF ls).getD (sizeF (ls.take q) + 4 + j) 0#8) y
      have hqc : (q : Int) ≤ cap0 := by omega
      have hq0 : q ≤ len0 := by omega
      clear hft hbd hst hG4 hTo h' hidx hpx
      unfold bv at hc G4 KS
      generalize ((flatF ls).getD (sizeF (ls.take q) + 4 + j) 0#8 ^^^ y) = xy at *
      generalize (flatF ls).getD (sizeF (ls.take q) + 4 + j) 0#8 = x at *
      have hxl := x.isLt
      have hxyl := xy.isLt
      generalize sizeF (ls.take q) = t at *
      have hcbi : (L : Int) ≤ cb := by have := hcl0.2.1; omega
      clear hcl0
      go_wp2_with fail
      refine KS.out.mono ?_
      rintro e u3 ⟨v3, rfl, ho3, hb3⟩
      have G3 := Lib.hid (G4.out.trans (hb3.mono G4.out.size))
      have R3 := Lib.hid ho3.seqR
      have RL := Lib.hid ((SL.out.first q (by rw [LL.out]; omega)).below G3.out)
      clear hb3 ho3
      go_wp2_with fail
      refine (rowsB R3.out RL.out).mono ?_
      rintro e u4 ⟨rfl, hb4⟩
      have G5 := Lib.hid (G3.out.trans (hb4.mono G3.out.size))
      clear hb4
      go_wp2_with fail
      go_ret
      exact ⟨rfl, G5.out⟩

theorem walk (a0 : Option Addr) (len0 cap0 : Nat) (l0 : List Bytes) (a1 : Int) (a2 : Int) (a3 : Int) (w : World) (w0 : IsRows w a0 len0 cap0 l0) (w1 : (Lit.int .i64 a1).wf = true) (w2 : (Lit.int .i64 a2).wf = true) (w3 : (Lit.int .u8 a3).wf = true) (hT : HasTab w) :
    Calls Tryd.prog 6 #[.slice a0 len0 cap0, .int .i64 a1, .int .i64 a2, .int .u8 a3] w fun e w' => e = .returned (.bool true) ∧ Below w.heap.size w w' := by
  obtain ⟨hl, hlc, -, hs⟩ := w0
  obtain ⟨y, rfl⟩ := u8_of a3 w3
  cases hsh : shB l0 with
  | false => exact turned_big a0 len0 cap0 l0 a1 a2 _ w hs hT hsh
  | true =>
    by_cases h1 : a1 < 0
    · exact turned_b1 a0 len0 cap0 l0 a1 a2 _ w hl hlc hs hT hsh h1
    · obtain ⟨k, rfl⟩ := Int.eq_ofNat_of_zero_le (show 0 ≤ a1 by omega)
      by_cases h2 : len0 ≤ k
      · exact turned_b2 a0 len0 cap0 l0 k a2 _ w hl hlc hs hT hsh h2
      · by_cases h3 : a2 < 0
        · exact turned_b3 a0 len0 cap0 l0 k a2 _ w hl hlc hs hT hsh (by omega) h3
        · obtain ⟨j, rfl⟩ := Int.eq_ofNat_of_zero_le (show 0 ≤ a2 by omega)
          by_cases h4 : 4 + (l0.getD k []).length ≤ j
          · exact turned_b4 a0 len0 cap0 l0 k j _ w hl hlc hs hT hsh (by omega) h4
          · by_cases h5 : y = 0#8
            · subst h5
              exact turned_b5 a0 len0 cap0 l0 k j w hl hlc hs hT hsh (by omega) (by omega)
            · exact turned_in a0 len0 cap0 l0 k j y w hl hlc hs hT hsh (by omega) (by omega) h5

set_option maxRecDepth 100000 in
theorem lifted (os : Os) (started : os.Started) (H : Type) (enc : TypeId × Value → H) :
    ReturnsInHanded {} Tryd.checked os 6 .any (fun w args => (Rows.frameTurnedSpec.pre enc Tryd.prog Tryd.f6 [] false w args ∧ laidMetH Tryd.prog laid1 w) ∧ sizedMet enc Tryd.prog Tryd.f6 (OpenSpec.ofChange Rows.frameTurnedSpec) false w args)
      (Rows.frameTurnedSpec.post enc Tryd.prog Tryd.f6 false true false false) := by
  refine returnsInHanded_of_change_and (C := Tryd.checked) (X := fun w _ => laidMetH Tryd.prog laid1 w) (fun _ _ _ hh h => h.of_heap hh) own started (by kernel_rfl) Tryd.func6
    (ChangeSpec.witness_shaped (enc := enc) (C := Tryd.checked) (os := os) (X := fun w _ => laidMetH Tryd.prog laid1 w) false (World.doorLaid Tryd.prog 400 os) #[.slice none 0 0, .int .i64 0, .int .i64 0, .int .u8 0] 8 rfl (World.shaped_of_RefB (by kernel_rfl) (by kernel_rfl)) (by kernel_rfl) (by kernel_rfl) (by kernel_rfl) (door_met os _)) ?_
  intro W base args ds gs before hval0 hW _ _ hL _
  have hval : ∀ (j : Nat) t v, Tryd.f6.params[j]? = some t → args[j]? = some v → Value.okWide Tryd.prog W .any base t v := hval0
  have hW' := hW
  obtain ⟨p, q, hA0, hV, rfl, hfz, hnd⟩ := hW
  have hA : DataW.TrodAll enc Tryd.prog W 0 (fun _ => true) true Tryd.f6.params.toList args.toList ds p := hA0
  rw [Tryd.params6] at hA hval
  obtain ⟨v0, vs0, d0, ds0, p0, q0, hargs, rfl, rfl, h0, r0⟩ := trodAll_cons hA
  obtain ⟨v1, vs1, d1, ds1, p1, q1, rfl, rfl, rfl, h1, r1⟩ := trodAll_cons r0
  obtain ⟨v2, vs2, d2, ds2, p2, q2, rfl, rfl, rfl, h2, r2⟩ := trodAll_cons r1
  obtain ⟨v3, vs3, d3, ds3, p3, q3, rfl, rfl, rfl, h3, r3⟩ := trodAll_cons r2
  obtain ⟨rfl, rfl, rfl⟩ := trodAll_nil r3
  obtain rfl : args = #[v0, v1, v2, v3] := by cases args; simp_all
  obtain ⟨rfl, rfl⟩ := trodVars_none hV
  obtain ⟨a0, len0, cap0, rfl⟩ := okWide_slice Tryd.underlying29 (hval 0 29 v0 rfl rfl)
  have k0 := h0
  have lt0 : ∀ x ∈ p0, x.block < W.heap.size := by obtain ⟨m, hm⟩ := k0; exact DataW.trod_lt m _ _ _ hm
  obtain ⟨z0, w0⟩ := seqR_of_trod h0
  obtain ⟨a1, rfl, rfl, rfl, w1⟩ := open_int Tryd.underlying3 (hval 1 3 v1 rfl rfl) h1
  obtain ⟨a2, rfl, rfl, rfl, w2⟩ := open_int Tryd.underlying3 (hval 2 3 v2 rfl rfl) h2
  obtain ⟨a3, rfl, rfl, rfl, w3⟩ := open_int Tryd.underlying5 (hval 3 5 v3 rfl rfl) h3
  clear hA0 hval0
  refine (walk a0 len0 cap0 z0 a1 a2 a3 W w0 w1 w2 w3 (of_laid hL)).mono fun e W' ⟨he, bel⟩ => ?_
  subst he
  exact ⟨_, rfl, _, _, _, [], _, [], hW', trodAll_mk1 (shut_bool Tryd.underlying4 _), (trodAll_cons_mk (Below.trod laidOut (by kernel_rfl) (of_decide_eq_true (by kernel_rfl)) k0 bel lt0) (trodAll_cons_mk (shut_int Tryd.underlying3 w1) (trodAll_cons_mk (shut_int Tryd.underlying3 w2) (trodAll_cons_mk (shut_int Tryd.underlying5 w3) trodAll_mk0)))), rfl, bel.frame _, fun h => by cases h⟩

theorem over : Rows.frameTurnedRow.holds Tryd.pinned (OpenSpec.ofChange Rows.frameTurnedSpec) :=
  OpenClaim.holds_of_wide 6 Tryd.f6 rfl rfl rfl rfl rfl rfl rfl ⟨rfl, rfl, rfl, rfl, rfl⟩ rfl rfl rfl rfl rfl (by kernel_rfl) Tryd.func6 (by kernel_rfl)
    (of_decide_eq_true (by kernel_rfl)) (by unfold Func.isWrapper; first | (rw [if_pos (by decide +kernel)]; kernel_rfl) | (rw [if_neg (by decide +kernel)]; exact ⟨rfl, rfl⟩))
    (fun os started H enc _ => lifted os started H enc)

/-- the tied card: the given statement -/
theorem proved : Rows.FrameTurnedCardSaid :=
  Claim7.holds_tied_plain_at .later [] [.data] true (true, "a1b14acc35b2acff1145171695e5051c90f458bf3a780dbdb4bb14623109a6af") false
    over (fun _ h => by cases h) (by kernel_rfl) (fun _ h => by cases h) frameTurned_row_tie rfl ⟨rfl, rfl⟩ (by kernel_rfl) rfl
    (fun f fn hf hfn => by
      obtain rfl : f = 6 := Option.some.inj ((show Tryd.prog.funcNamed "buttery/butterylaw04.FrameTurned" = some 6 by kernel_rfl).symm.trans hf) |>.symm
      obtain rfl : fn = Tryd.f6 := (Option.some.inj (Tryd.func6.symm.trans hfn)).symm
      exact ⟨by kernel_rfl, fun j t ht => by
        rw [Tryd.params6] at ht
        have hm : t ∈ [29, 3, 3, 5] := by simpa using Array.mem_of_getElem? ht
        have hall : ([29, 3, 3, 5].all fun u => !Tryd.prog.wantsStandIn u) = true := by kernel_rfl
        exact (show Tryd.prog.wantsStandIn t = false by simpa using List.all_eq_true.1 hall t hm)⟩)
    (by kernel_rfl)
#print axioms proved
end Go.Proofs.YtmbklheelinjfaaDoor.frameTurned
