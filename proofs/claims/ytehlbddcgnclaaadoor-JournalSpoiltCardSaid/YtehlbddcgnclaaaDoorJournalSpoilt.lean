/-
  For any records, any record of them, any place in its sum or in itself, any way to turn the byte there, and any record more, the law JournalSpoilt answers true: a journal in which that byte was turned is opened up to there, and goes on from there; of more than 60 records, or more than 3000 bytes together, and of a record more of more than 1000 bytes nothing is asked. Conditions: the package variable crc.halves holds what the program's text lays (the card ties it).
  (The frame was written by the guide's proof-skeleton.mjs, and turned for a slice of slices; the walk is ours.)
-/
import Derived.Test.YtehlbddcgnclaaaDoorRows
import Derived.WalkKit
import Derived.ProofKit
import Derived.OpenShut
import Derived.ShutString
import Derived.ChangeOld
import Derived.Below
import Derived.Test.YtehlbddcgnclaaaDoorAwakeJ
import Derived.Test.YtehlbddcgnclaaaDoorRowsSame
import Derived.Test.YtehlbddcgnclaaaDoorSame
import Derived.Lib.MinMax
import Derived.Deep.DeepCutAuto
import Derived.Deep.AppendLies
import Derived.LaidMore
import Derived.Stop.Joined
import Derived.SevenTiedAt
import Derived.Test.YtehlbddcgnclaaaDoorLaid
import Derived.Test.YtehlbddcgnclaaaDoorList
namespace Go.Proofs.YtehlbddcgnclaaaDoor.journalSpoilt
open Go.ChangeShapes Go.WideShapes Go.ChangeAt Go.RowKit
open Go.ChangeMaps (open_string shut_string)
set_option linter.unusedVariables false

open Plain

theorem turn_place {ls : List Bytes} {k j : Nat} {y : BitVec 8} (hs : Small ls) (hk : k < ls.length) (hy : y ≠ 0#8) (hj : j < 4 + (ls.getD k []).length) :
    Scans (turn (flatF ls) (sizeF (ls.take k) + 4 + j) y) (ls.take k) (sizeF (ls.take k)) ∧ sizeF (ls.take k) + 4 + j < sizeF ls := by
  refine ⟨?_, ?_⟩
  · rw [Nat.add_assoc]
    exact scans_turned hs (part_at ls k hk) hy hj
  · have h := sizeF_snoc ls k hk
    have := sizeF_take ls (k + 1)
    omega

set_option maxRecDepth 100000 in
set_option maxHeartbeats 1000000 in
theorem spoilt_big (a0 : Option Addr) (len0 cap0 : Nat) (ls : List Bytes) (k j y : Int) (a4 : Option Addr) (len4 cap4 : Nat) (w : World) (hs : SeqR w (.slice a0 len0 cap0) ls) (hT : HasTab w) (hsh : shB ls = false) :
    Calls Tryd.prog 5 #[.slice a0 len0 cap0, .int .i64 k, .int .i64 j, .int .u8 y, .slice a4 len4 cap4] w fun e w' => e = .returned (.bool true) ∧ Below w.heap.size w w' := by
  have KA := Lib.hid (awake_any w hT)
  have KS0 : Hid (∀ u, Below w.heap.size w u → _) := Lib.hid (fun u (hb : Below w.heap.size w u) => short_any (hs.below hb))
  rw [hsh] at KS0
  clear hs hT hsh
  go_enter Tryd.func5, Tryd.ntmps5
  go_wp2_with fail
  refine KA.out.mono ?_
  rintro e u1 ⟨rfl, hg1⟩
  have G1 := Lib.hid hg1
  clear hg1
  go_wp2_with fail
  refine (KS0.out _ G1.out).mono ?_
  rintro e u1' ⟨rfl, rfl⟩
  go_wp2_with fail
  go_ret
  exact ⟨rfl, G1.out⟩

set_option maxRecDepth 100000 in
set_option maxHeartbeats 1000000 in
theorem spoilt_b1 (a0 : Option Addr) (len0 cap0 : Nat) (ls : List Bytes) (k j y : Int) (a4 : Option Addr) (len4 cap4 : Nat) (w : World) (hl : ls.length = len0) (hlc : len0 ≤ cap0) (hs : SeqR w (.slice a0 len0 cap0) ls) (hT : HasTab w) (hsh : shB ls = true) (h : k < 0) :
    Calls Tryd.prog 5 #[.slice a0 len0 cap0, .int .i64 k, .int .i64 j, .int .u8 y, .slice a4 len4 cap4] w fun e w' => e = .returned (.bool true) ∧ Below w.heap.size w w' := by
  have KA := Lib.hid (awake_any w hT)
  have KS0 : Hid (∀ u, Below w.heap.size w u → _) := Lib.hid (fun u (hb : Below w.heap.size w u) => short_any (hs.below hb))
  rw [hsh] at KS0
  clear hs hT hsh hl
  go_enter Tryd.func5, Tryd.ntmps5
  go_wp2_with fail
  refine KA.out.mono ?_
  rintro e u1 ⟨rfl, hg1⟩
  have G1 := Lib.hid hg1
  clear hg1
  go_wp2_with fail
  refine (KS0.out _ G1.out).mono ?_
  rintro e u1' ⟨rfl, rfl⟩
  go_wp2_with fail
  go_ret
  exact ⟨rfl, G1.out⟩

set_option maxRecDepth 100000 in
set_option maxHeartbeats 1000000 in
theorem spoilt_b2 (a0 : Option Addr) (len0 cap0 : Nat) (ls : List Bytes) (k : Nat) (j y : Int) (a4 : Option Addr) (len4 cap4 : Nat) (w : World) (hl : ls.length = len0) (hlc : len0 ≤ cap0) (hs : SeqR w (.slice a0 len0 cap0) ls) (hT : HasTab w) (hsh : shB ls = true) (h : len0 ≤ k) :
    Calls Tryd.prog 5 #[.slice a0 len0 cap0, .int .i64 k, .int .i64 j, .int .u8 y, .slice a4 len4 cap4] w fun e w' => e = .returned (.bool true) ∧ Below w.heap.size w w' := by
  have KA := Lib.hid (awake_any w hT)
  have KS0 : Hid (∀ u, Below w.heap.size w u → _) := Lib.hid (fun u (hb : Below w.heap.size w u) => short_any (hs.below hb))
  rw [hsh] at KS0
  have hi : (len0 : Int) ≤ k := by omega
  clear hs hT hsh hl
  go_enter Tryd.func5, Tryd.ntmps5
  go_wp2_with fail
  refine KA.out.mono ?_
  rintro e u1 ⟨rfl, hg1⟩
  have G1 := Lib.hid hg1
  clear hg1
  go_wp2_with fail
  refine (KS0.out _ G1.out).mono ?_
  rintro e u1' ⟨rfl, rfl⟩
  go_wp2_with fail
  go_ret
  exact ⟨rfl, G1.out⟩

set_option maxRecDepth 100000 in
set_option maxHeartbeats 1000000 in
theorem spoilt_b3 (a0 : Option Addr) (len0 cap0 : Nat) (ls : List Bytes) (k : Nat) (j y : Int) (a4 : Option Addr) (len4 cap4 : Nat) (w : World) (hl : ls.length = len0) (hlc : len0 ≤ cap0) (hs : SeqR w (.slice a0 len0 cap0) ls) (hT : HasTab w) (hsh : shB ls = true) (h : k < len0) (hj : j < 0) :
    Calls Tryd.prog 5 #[.slice a0 len0 cap0, .int .i64 k, .int .i64 j, .int .u8 y, .slice a4 len4 cap4] w fun e w' => e = .returned (.bool true) ∧ Below w.heap.size w w' := by
  have KA := Lib.hid (awake_any w hT)
  have KS0 : Hid (∀ u, Below w.heap.size w u → _) := Lib.hid (fun u (hb : Below w.heap.size w u) => short_any (hs.below hb))
  rw [hsh] at KS0
  have hi : (k : Int) < len0 := by omega
  clear hs hT hsh hl
  go_enter Tryd.func5, Tryd.ntmps5
  go_wp2_with fail
  refine KA.out.mono ?_
  rintro e u1 ⟨rfl, hg1⟩
  have G1 := Lib.hid hg1
  clear hg1
  go_wp2_with fail
  refine (KS0.out _ G1.out).mono ?_
  rintro e u1' ⟨rfl, rfl⟩
  go_wp2_with fail
  go_ret
  exact ⟨rfl, G1.out⟩

set_option maxRecDepth 100000 in
set_option maxHeartbeats 1000000 in
theorem spoilt_b4 (a0 : Option Addr) (len0 cap0 : Nat) (ls : List Bytes) (k j : Nat) (y : Int) (a4 : Option Addr) (len4 cap4 : Nat) (w : World) (hl : ls.length = len0) (hlc : len0 ≤ cap0) (hs : SeqR w (.slice a0 len0 cap0) ls) (hT : HasTab w) (hsh : shB ls = true) (h : k < len0) (hj : 4 + (ls.getD k []).length ≤ j) :
    Calls Tryd.prog 5 #[.slice a0 len0 cap0, .int .i64 k, .int .i64 j, .int .u8 y, .slice a4 len4 cap4] w fun e w' => e = .returned (.bool true) ∧ Below w.heap.size w w' := by
  have KA := Lib.hid (awake_any w hT)
  have KS0 : Hid (∀ u, Below w.heap.size w u → _) := Lib.hid (fun u (hb : Below w.heap.size w u) => short_any (hs.below hb))
  rw [hsh] at KS0
  obtain ⟨b, o, cap1, hv, g1, m1, -, hcells⟩ := hs.spot (by omega)
  simp only [Value.slice.injEq] at hv
  obtain ⟨rfl, -, rfl⟩ := hv
  obtain ⟨ar, nr, cr, hcell, e1, l1, l2, l0, sq⟩ := hcells k (by omega)
  have hblt : b < w.heap.size := World.block_lt_of_cell? w ⟨b, o + k, none⟩ hcell
  obtain ⟨s1, s2, s3, s4, s5⟩ := small_sh hsh
  have h5 := s5 k (by omega)
  rw [← e1] at h5
  have hn5 : (nr : Int) ≤ 3000 := by omega
  have hi : (k : Int) < len0 := by omega
  rw [← e1] at hj
  have hji : 4 + (nr : Int) ≤ j := by omega
  have HCELL := Lib.hid hcell
  have HBLT := Lib.hid hblt
  clear hs hT hsh hl hcells sq l0 e1 h5 s1 s2 s3 s4 s5 g1 m1 hcell hblt
  go_enter Tryd.func5, Tryd.ntmps5
  go_wp2_with fail
  refine KA.out.mono ?_
  rintro e u1 ⟨rfl, hg1⟩
  have G1 := Lib.hid hg1
  clear hg1
  have hcell1 := (G1.out.cell (p := ⟨b, o + k, none⟩) HBLT.out).trans HCELL.out
  go_wp2_with fail
  refine (KS0.out _ G1.out).mono ?_
  rintro e u1' ⟨rfl, rfl⟩
  go_wp2_with fail
  go_ret
  exact ⟨rfl, G1.out⟩

set_option maxRecDepth 100000 in
set_option maxHeartbeats 1000000 in
theorem spoilt_b5 (a0 : Option Addr) (len0 cap0 : Nat) (ls : List Bytes) (k j : Nat) (a4 : Option Addr) (len4 cap4 : Nat) (w : World) (hl : ls.length = len0) (hlc : len0 ≤ cap0) (hs : SeqR w (.slice a0 len0 cap0) ls) (hT : HasTab w) (hsh : shB ls = true) (h : k < len0) (hj : j < 4 + (ls.getD k []).length) :
    Calls Tryd.prog 5 #[.slice a0 len0 cap0, .int .i64 k, .int .i64 j, .int .u8 0, .slice a4 len4 cap4] w fun e w' => e = .returned (.bool true) ∧ Below w.heap.size w w' := by
  have KA := Lib.hid (awake_any w hT)
  have KS0 : Hid (∀ u, Below w.heap.size w u → _) := Lib.hid (fun u (hb : Below w.heap.size w u) => short_any (hs.below hb))
  rw [hsh] at KS0
  obtain ⟨b, o, cap1, hv, g1, m1, -, hcells⟩ := hs.spot (by omega)
  simp only [Value.slice.injEq] at hv
  obtain ⟨rfl, -, rfl⟩ := hv
  obtain ⟨ar, nr, cr, hcell, e1, l1, l2, l0, sq⟩ := hcells k (by omega)
  have hblt : b < w.heap.size := World.block_lt_of_cell? w ⟨b, o + k, none⟩ hcell
  obtain ⟨s1, s2, s3, s4, s5⟩ := small_sh hsh
  have h5 := s5 k (by omega)
  rw [← e1] at h5
  have hn5 : (nr : Int) ≤ 3000 := by omega
  have hi : (k : Int) < len0 := by omega
  rw [← e1] at hj
  have hji : (j : Int) < 4 + (nr : Int) := by omega
  have HCELL := Lib.hid hcell
  have HBLT := Lib.hid hblt
  clear hs hT hsh hl hcells sq l0 e1 h5 s1 s2 s3 s4 s5 g1 m1 hcell hblt
  go_enter Tryd.func5, Tryd.ntmps5
  go_wp2_with fail
  refine KA.out.mono ?_
  rintro e u1 ⟨rfl, hg1⟩
  have G1 := Lib.hid hg1
  clear hg1
  have hcell1 := (G1.out.cell (p := ⟨b, o + k, none⟩) HBLT.out).trans HCELL.out
  go_wp2_with fail
  refine (KS0.out _ G1.out).mono ?_
  rintro e u1' ⟨rfl, rfl⟩
  go_wp2_with fail
  go_ret
  exact ⟨rfl, G1.out⟩

set_option maxRecDepth 100000 in
set_option maxHeartbeats 1000000 in
theorem spoilt_b6 (a0 : Option Addr) (len0 cap0 : Nat) (ls : List Bytes) (k j : Nat) (y : BitVec 8) (a4 : Option Addr) (len4 cap4 : Nat) (w : World) (hl : ls.length = len0) (hlc : len0 ≤ cap0) (hs : SeqR w (.slice a0 len0 cap0) ls) (hT : HasTab w) (hsh : shB ls = true) (h : k < len0) (hj : j < 4 + (ls.getD k []).length) (hy : y ≠ 0#8) (h4 : 1000 < len4) :
    Calls Tryd.prog 5 #[.slice a0 len0 cap0, .int .i64 k, .int .i64 j, .int .u8 y.toNat, .slice a4 len4 cap4] w fun e w' => e = .returned (.bool true) ∧ Below w.heap.size w w' := by
  have KA := Lib.hid (awake_any w hT)
  have KS0 : Hid (∀ u, Below w.heap.size w u → _) := Lib.hid (fun u (hb : Below w.heap.size w u) => short_any (hs.below hb))
  rw [hsh] at KS0
  obtain ⟨b, o, cap1, hv, g1, m1, -, hcells⟩ := hs.spot (by omega)
  simp only [Value.slice.injEq] at hv
  obtain ⟨rfl, -, rfl⟩ := hv
  obtain ⟨ar, nr, cr, hcell, e1, l1, l2, l0, sq⟩ := hcells k (by omega)
  have hblt : b < w.heap.size := World.block_lt_of_cell? w ⟨b, o + k, none⟩ hcell
  obtain ⟨s1, s2, s3, s4, s5⟩ := small_sh hsh
  have h5 := s5 k (by omega)
  rw [← e1] at h5
  have hn5 : (nr : Int) ≤ 3000 := by omega
  have hi : (k : Int) < len0 := by omega
  rw [← e1] at hj
  have hji : (j : Int) < 4 + (nr : Int) := by omega
  have hy0 : ((y.toNat : Int) == 0) = false := beq_eq_false_iff_ne.2 fun e => hy (BitVec.eq_of_toNat_eq (by simp; omega))
  have h4i : (1000 : Int) < len4 := by omega
  clear hy h4
  have HCELL := Lib.hid hcell
  have HBLT := Lib.hid hblt
  clear hs hT hsh hl hcells sq l0 e1 h5 s1 s2 s3 s4 s5 g1 m1 hcell hblt
  go_enter Tryd.func5, Tryd.ntmps5
  go_wp2_with fail
  refine KA.out.mono ?_
  rintro e u1 ⟨rfl, hg1⟩
  have G1 := Lib.hid hg1
  clear hg1
  have hcell1 := (G1.out.cell (p := ⟨b, o + k, none⟩) HBLT.out).trans HCELL.out
  go_wp2_with fail
  refine (KS0.out _ G1.out).mono ?_
  rintro e u1' ⟨rfl, rfl⟩
  go_wp2_with fail
  go_ret
  exact ⟨rfl, G1.out⟩

/-- what Append left in the variable g8 -/
def Wrote (s1 : World) (g8 : Nat) (X Y : Value) (f l : Bytes) (wy : World) : Prop := Below s1.heap.size s1 wy ∧ IsBox 24 wy g8 X Y ∧ Seq wy X f ∧ Seq wy Y l
/-- the disk in the variable g, behind k records -/
def Kept (w : World) (g : Nat) (ls : List Bytes) (k : Nat) (wr : World) : Prop := ∃ a1 c1 a2 n2 c2, Below w.heap.size w wr ∧ IsBox 24 wr g (.slice a1 0 c1) (.slice a2 n2 c2) ∧ Seq wr (.slice a1 0 c1) [] ∧ Seq wr (.slice a2 n2 c2) (flatF (ls.take k))

set_option maxRecDepth 100000 in
set_option maxHeartbeats 16000000 in
theorem spoilt_in (a0 : Option Addr) (len0 cap0 : Nat) (ls : List Bytes) (q j : Nat) (y : BitVec 8) (a4 : Option Addr) (len4 cap4 : Nat) (more : Bytes) (w : World) (hl : ls.length = len0) (hlc : len0 ≤ cap0) (hs : SeqR w (.slice a0 len0 cap0) ls) (hT : HasTab w) (hsh : shB ls = true) (h : q < len0) (hj : j < 4 + (ls.getD q []).length) (hy : y ≠ 0#8) (hm : Seq w (.slice a4 len4 cap4) more) (hm4 : len4 ≤ 1000) :
    Calls Tryd.prog 5 #[.slice a0 len0 cap0, .int .i64 q, .int .i64 j, .int .u8 y.toNat, .slice a4 len4 cap4] w fun e w' => e = .returned (.bool true) ∧ Below w.heap.size w w' := by
  have KA := Lib.hid (awake_any w hT)
  have KS0 : Hid (∀ u, Below w.heap.size w u → _) := Lib.hid (fun u (hb : Below w.heap.size w u) => short_any (hs.below hb))
  rw [hsh] at KS0
  obtain ⟨b, o, cap1, hv, g1, m1, -, hcells⟩ := hs.spot (by omega)
  simp only [Value.slice.injEq] at hv
  obtain ⟨rfl, -, rfl⟩ := hv
  obtain ⟨s1, s2, s3, s4, s5⟩ := small_sh hsh
  obtain ⟨hsc, hpl⟩ := turn_place s1 (by omega : q < ls.length) hy hj
  have SC := Lib.hid hsc
  have HV := Lib.hid hcells
  obtain ⟨ar, nr, cr, hcell, e1, l1, l2, l0, sq⟩ := hcells q (by omega)
  have hblt : b < w.heap.size := World.block_lt_of_cell? w ⟨b, o + q, none⟩ hcell
  have h5 := s5 q (by omega)
  rw [← e1] at h5 hj
  have hn5 : (nr : Int) ≤ 3000 := by omega
  have hi : (q : Int) < len0 := by omega
  have hji : (j : Int) < 4 + (nr : Int) := by omega
  have hy0 : ((y.toNat : Int) == 0) = false := beq_eq_false_iff_ne.2 fun e => hy (BitVec.eq_of_toNat_eq (by simp; omega))
  have hyl := y.isLt
  have dm := hm.dims
  have LM : Hid (more.length = len4 ∧ len4 ≤ 1000) := Lib.hid ⟨dm.1, hm4⟩
  have hm4i : (len4 : Int) ≤ 1000 := by omega
  have hm4c : (len4 : Int) ≤ cap4 := by omega
  have SMo := Lib.hid hm
  have SL := Lib.hid hs
  have HT := Lib.hid hT
  have LL := Lib.hid hl
  have FL : Hid ((flatF ls).length = sizeF ls) := Lib.hid (flatF_len ls)
  have LB : Hid (sizeF ls ≤ 3480) := Lib.hid s4
  have H5 := Lib.hid s5
  have SMA := Lib.hid s1
  have FS := Lib.hid (sizeF_snoc ls)
  have FF := Lib.hid (flatF_snoc ls)
  have FT := Lib.hid (sizeF_take ls)
  have hl60 : (len0 : Int) ≤ 60 := by omega
  have hli : (len0 : Int) ≤ cap0 := by omega
  have HPL := Lib.hid hpl
  have HCELL := Lib.hid hcell
  have HBLT := Lib.hid hblt
  have hkl : q < len0 := h
  have b0 : decide ((q : Int) < 0) = false := decide_eq_false (by omega)
  have b1 : decide (len0 ≤ q) = false := decide_eq_false (by omega)
  have b2 : decide ((j : Int) < 0) = false := decide_eq_false (by omega)
  have b3 : decide (4 + (nr : Int) ≤ j) = false := decide_eq_false (by omega)
  have b4 : decide ((1000 : Int) < len4) = false := decide_eq_false (by omega)
  clear hs hT hsh hl hcells sq l0 e1 h5 s1 s2 s3 s4 s5 g1 m1 hcell hblt hsc hpl hj hy h hm hm4 dm
  go_enter Tryd.func5, Tryd.ntmps5
  go_wp2_with fail
  refine KA.out.mono ?_
  rintro e x1 ⟨rfl, hg1⟩
  have G1 := Lib.hid hg1
  clear hg1
  have hcell1 := (G1.out.cell (p := ⟨b, o + q, none⟩) HBLT.out).trans HCELL.out
  go_wp2_with fail
  refine (KS0.out _ G1.out).mono ?_
  rintro e x1' ⟨rfl, rfl⟩
  go_wp2_with fail
  clear hcell1
  go_loopw [12, 13] (fun fr i wr => ∃ k : Nat, k ≤ len0 ∧ i = .int .i64 k ∧ fr = .int .i64 (sizeF (ls.take (min k q))) ∧ Kept w x1.heap.size ls k wr) (fun _ i _ => len0 - (intOf i).toNat)
  case atStart => exact ⟨0, Nat.zero_le _, rfl, by rw [Nat.zero_min]; rfl, none, 0, none, 0, 0, G1.out.alloc G1.out.size _, IsBox.new _ _ _ _, Seq.nil _, Seq.nil _⟩
  case round =>
    obtain ⟨k, hk, rfl, rfl, a1, c1, a2, n2, c2, hB, hI, hf, hd⟩ := hrel
    have GB := Lib.hid hB
    have I0 := Lib.hid hI
    have SF := Lib.hid hf
    have SD := Lib.hid hd
    have d2 := hd.dims
    have ft := FT.out k
    have lb := LB.out
    rw [flatF_len] at d2
    have LN2 : Hid (n2 ≤ 3480) := Lib.hid (by omega)
    have hft2 := FT.out (min k q)
    have hti : (sizeF (ls.take (min k q)) : Int) ≤ 3480 := by omega
    have hti0 : (0 : Int) ≤ sizeF (ls.take (min k q)) := by omega
    clear hB hI hf hd d2 ft lb hft2
    by_cases hlt : k < len0
    · obtain ⟨ar2, nr2, cr2, hcell, e1, l1', l2', l0, sq⟩ := HV.out k (by rw [LL.out]; omega)
      have hcell2 := (GB.out.cell (p := ⟨b, o + k, none⟩) HBLT.out).trans hcell
      have h5 := H5.out k (by rw [LL.out]; omega)
      have hn52 : (nr2 : Int) ≤ 3000 := by omega
      have fs := FS.out k (by rw [LL.out]; omega)
      have ff := FF.out k (by rw [LL.out]; omega)
      have FSK := Lib.hid fs
      have L5 := Lib.hid h5
      have E1 := Lib.hid e1
      have hlti : (k : Int) < len0 := by omega
      have SQ := Lib.hid sq
      have HC := Lib.hid hcell
      have LN3 : Hid ((flatF (ls.take (k + 1))).length ≤ 3480) := Lib.hid (by rw [flatF_len]; have := FT.out (k + 1); have := LB.out; omega)
      obtain ⟨n3, hn3⟩ : ∃ n3, n3 = (flatF (ls.take (k + 1))).length := ⟨_, rfl⟩
      have LE3 := Lib.hid hn3.symm
      have KA2 : Hid (∀ u, Below wr.heap.size wr u → Calls _ _ _ u (MadeDN u [] (flatF (ls.take (k + 1))) 0)) := Lib.hid (fun u (hb : Below wr.heap.size wr u) => by
        have := append_ok (SF.out.below hb) (SD.out.below hb) ((SQ.out.below GB.out).below hb) ((HT.out.below GB.out).below hb) (by have := L5.out; omega) (by have := LN2.out; have := L5.out; have := SD.out.dims; rw [this.1, List.length_nil]; omega)
        rw [← ff] at this
        exact this)
      have KE : Hid (∀ u', Below wr.heap.size wr u' → Below wr.heap.size wr u' ∧ ((u'.cell? ⟨x1.heap.size, 0, none⟩ = some (.slice a1 0 c1) ∧ u'.cell? ⟨x1.heap.size, 1, none⟩ = some (.slice a2 n2 c2)) ∧ u'.cell? ⟨b, o + k, none⟩ = some (.slice ar2 nr2 cr2))) :=
        Lib.hid (fun u' h => ⟨h, (I0.out.below h).cells, (h.cell (Nat.lt_of_lt_of_le HBLT.out GB.out.size)).trans ((GB.out.cell (p := ⟨b, o + k, none⟩) HBLT.out).trans HC.out)⟩)
      obtain ⟨y1, y2⟩ := I0.out.cells
      clear e1 l0 sq hcell h5 fs ff hn3
      generalize hft3 : sizeF (ls.take (min k q)) = fr at *
      have HFR := Lib.hid hft3
      clear hft3
      go_wp2_with fail
      go_cut [14, 15] (fun s14 s15 wy => ∃ (g8 : Nat) (x y : Option Addr) (cx cy : Nat), s14 = .pointer (some ⟨g8, 0, none⟩) ∧ s15 = .int .i64 0 ∧ Wrote wr g8 (.slice x 0 cx) (.slice y n3 cy) [] (flatF (ls.take (k + 1))) wy)
      case first =>
        go_region_held3 (fun u' => Below wr.heap.size wr u' ∧ ((u'.cell? ⟨x1.heap.size, 0, none⟩ = some (.slice a1 0 c1) ∧ u'.cell? ⟨x1.heap.size, 1, none⟩ = some (.slice a2 n2 c2)) ∧ u'.cell? ⟨b, o + k, none⟩ = some (.slice ar2 nr2 cr2)))
          (first | assumption | (exact KE.out _ (Below.refl _ _).drew) | (exact KE.out _ (hold (by assumption) hb)) | (exact KE.out _ (holdA hk2 _)) | (exact KE.out _ (holdA (by assumption) _)) | (exact KE.out _ (below_set hk2.1 (Nat.le_refl _) _ _)))
          (first
            | (go_at_call 9; (with_reducible refine (KA2.out _ (by assumption : _ ∧ _).1).mono ?_); rintro e s2 ⟨v2, x2, rfl, ho2, hx2, hb⟩; have hk2 := KE.out _ (hold (by assumption) hb); have hbx : IsBox 24 s2 wr.heap.size (.slice none 0 0) (.slice none 0 0) := (hb.block _ (by simp)).trans (by exact heap_alloc_new wr _); obtain ⟨y3, y4⟩ := hbx.cells; obtain ⟨y5, y6⟩ := hbx.free; obtain ⟨e2, f2, rfl, -, -, ho2⟩ := ho2.at 0 rfl; obtain ⟨g2, h2, rfl, -, -, hx2⟩ := hx2.at n3 LE3.out)
            | (go_at_call 9; (with_reducible refine (KA2.out _ (by assumption : _ ∧ _).1).mono ?_); rintro e s2 ⟨v2, x2, rfl, ho2, hx2, hb⟩; have hk2 := KE.out _ (hold (by assumption) hb); obtain ⟨e2, f2, rfl, -, -, ho2⟩ := ho2.at 0 rfl; obtain ⟨g2, h2, rfl, -, -, hx2⟩ := hx2.at n3 LE3.out))
        all_goals (go_wp2_with fail; go_meet)
        · exact ⟨_, e2, g2, f2, h2, rfl, rfl, hk2.1.alloc hk2.1.size _, IsBox.new _ _ _ _, ho2.seq.below_alloc _, hx2.seq.below_alloc _⟩
        · exact ⟨_, e2, g2, f2, h2, rfl, rfl, below_set hk2.1 (Nat.le_refl _) _ _, hbx.set _ _, ho2.seq.setBox hbx _ _, hx2.seq.setBox hbx _ _⟩
      case rest =>
        obtain ⟨g8, x, z, cx, cz, rfl, rfl, hW1, hW2, hW3, hW4⟩ := hcut
        have I3 := Lib.hid (I0.out.below hW1)
        have G4 := Lib.hid (below_set (GB.out.trans (hW1.mono GB.out.size)) G1.out.size (.slice x 0 cx) (.slice z n3 cz))
        have I4 := Lib.hid (I3.out.set (.slice x 0 cx) (.slice z n3 cz))
        have S4 := Lib.hid (hW3.setBox I3.out (.slice x 0 cx) (.slice z n3 cz))
        have D4 := Lib.hid (hW4.setBox I3.out (.slice x 0 cx) (.slice z n3 cz))
        have hc4 := (G4.out.cell (p := ⟨b, o + k, none⟩) HBLT.out).trans HC.out
        clear y1 y2
        obtain ⟨y1, y2⟩ := hW2.cells
        obtain ⟨y3, y4⟩ := I3.out.cells
        obtain ⟨y5, y6⟩ := I3.out.free
        clear hW1 hW2 hW3 hW4 KA2 KE
        by_cases hkq : k < q
        · have hkqi : (k : Int) < q := by omega
          have NEXT : Hid (sizeF (ls.take (min (k + 1) q)) = fr + (8 + nr2)) := Lib.hid (by rw [Nat.min_eq_left (by omega), FSK.out, ← HFR.out, Nat.min_eq_left (by omega), E1.out])
          go_wp2_with fail
          go_roundw
          case rel => exact ⟨k + 1, by omega, by go_num, by rw [NEXT.out]; go_num, x, cx, z, n3, cz, G4.out, I4.out, S4.out, D4.out⟩
          case measure => simp [intOf]; omega
        · have hkqi : (q : Int) ≤ k := by omega
          have NEXT : Hid (sizeF (ls.take (min (k + 1) q)) = fr) := Lib.hid (by rw [Nat.min_eq_right (by omega), ← HFR.out, Nat.min_eq_right (by omega)])
          go_wp2_with fail
          go_roundw
          case rel => exact ⟨k + 1, by omega, by go_num, by rw [NEXT.out], x, cx, z, n3, cz, G4.out, I4.out, S4.out, D4.out⟩
          case measure => simp [intOf]; omega
    · obtain rfl : k = len0 := by omega
      have TL : ls.take k = ls := List.take_of_length_le (by rw [LL.out]; exact Nat.le_refl _)
      have MQ : min k q = q := by omega
      rw [TL] at SD
      rw [MQ] at hti hti0 ⊢
      have KAll := Lib.hid (all_any SF.out SD.out (by rw [FL.out, List.length_nil]; have := LB.out; omega))
      rw [List.nil_append] at KAll
      have I5 := I0
      clear TL MQ SF SD
      obtain ⟨y1, y2⟩ := I0.out.cells
      go_wp2_with fail
      refine KAll.out.mono ?_
      rintro e s2 ⟨v2, rfl, ho2, hb2⟩
      obtain ⟨g, cb, rfl, hgb, hgl⟩ := World.ownsRow.form ho2 (by rw [FL.out]; have := HPL.out; omega)
      have G2 := Lib.hid (GB.out.trans (hb2.mono GB.out.size))
      have O2 := Lib.hid ho2
      have HGB := Lib.hid (Nat.le_trans GB.out.size hgb)
      rw [FL.out] at O2 ⊢
      have LB1 := LB.out
      have hLi : (sizeF ls : Int) ≤ 3480 := by omega
      have hPi : (sizeF (ls.take q) : Int) + 4 + j < sizeF ls := by have := HPL.out; omega
      have hidx : sizeF (ls.take q) + 4 + j < (flatF ls).length := by rw [FL.out]; exact HPL.out
      have hc := O2.out.cell (sizeF (ls.take q) + 4 + j) hidx
      have hcl0 := O2.out.seq.dims
      have h' : s2.ownsRow wr.heap.size 5 1 (.slice (some ⟨g, 0, none⟩) (sizeF ls) cb) (sizeF ls) ((flatF ls).map bv) := by have h := O2.out; unfold Owns at h; rw [FL.out] at h; exact h
      have hfr : s2.frozen? ⟨g, sizeF (ls.take q) + 4 + j, none⟩ = false := World.ownsRow.frozenAt h' _
      have hst := (World.ownsRow.stored h' (sizeF (ls.take q) + 4 + j) (bv ((flatF ls).getD (sizeF (ls.take q) + 4 + j) 0#8 ^^^ y))).1
      rw [← map_set] at hst
      have hG4 : Below w.heap.size w (s2.setCell ⟨g, sizeF (ls.take q) + 4 + j, none⟩ (bv ((flatF ls).getD (sizeF (ls.take q) + 4 + j) 0#8 ^^^ y))) := G2.out.setCell (p := ⟨g, _, none⟩) HGB.out _
      have hTo : Owns wr.heap.size (s2.setCell ⟨g, sizeF (ls.take q) + 4 + j, none⟩ (bv ((flatF ls).getD (sizeF (ls.take q) + 4 + j) 0#8 ^^^ y))) (.slice (some ⟨g, 0, none⟩) (sizeF ls) cb) (turn (flatF ls) (sizeF (ls.take q) + 4 + j) y) := by
        unfold Owns; rw [turn_len, FL.out]; exact hst
      have KO := Lib.hid (open_of hTo.seq (Seq.nil _) (HT.out.below hG4) (by rw [turn_len, FL.out]; have := LB.out; omega) (by simp) (by rw [List.append_nil]; exact SC.out))
      have G4 := Lib.hid hG4
      have EX := byte_xor ((flatF ls).getD (sizeF (ls.take q) + 4 + j) 0#8) y
      have hqc : (q : Int) ≤ cap0 := by omega
      have hq0 : q ≤ k := by omega
      have LQ : Hid ((ls.take q).length = q) := Lib.hid (by rw [List.length_take, LL.out]; omega)
      have LFQ : Hid ((flatF (ls.take q)).length = sizeF (ls.take q) ∧ sizeF (ls.take q) ≤ 3480) := Lib.hid ⟨flatF_len _, by omega⟩
      have hcbi : (sizeF ls : Int) ≤ cb := by have := hcl0.2.1; omega
      clear hst hG4 hTo h' hidx hcl0 ho2 hb2 LB1 hgb hgl y1 y2
      unfold bv at hc G4 KO
      generalize ((flatF ls).getD (sizeF (ls.take q) + 4 + j) 0#8 ^^^ y) = xy at *
      generalize (flatF ls).getD (sizeF (ls.take q) + 4 + j) 0#8 = x at *
      have hxl := x.isLt
      have hxyl := xy.isLt
      generalize hLL : sizeF ls = L at *
      have HLL := Lib.hid hLL
      clear hLL
      have SMA2 := Lib.hid (small_take SMA.out q)
      generalize hft3 : sizeF (ls.take q) = t at *
      have HFT := Lib.hid hft3
      clear hft3
      go_wp2_with fail
      refine KO.out.mono ?_
      rintro e s3 ⟨v3, d3, x3, rfl, ho3, hd3, hx3, hb3⟩
      obtain ⟨a7, c7, rfl, -, -, hd3⟩ := hd3.at t LFQ.out.1
      obtain ⟨a8, c8, rfl, -, -, hx3⟩ := hx3.at 0 rfl
      have A3 : Below s3.heap.size s3 (s3.alloc (.cells #[.slice a7 t c7, .slice a8 0 c8] 24)) := (Below.refl _ _).alloc (Nat.le_refl _) _
      have A2 := hb3.trans (A3.mono hb3.size)
      have G5 := Lib.hid (G4.out.trans (A2.mono G4.out.size))
      have HZ3 : Hid (w.heap.size ≤ s3.heap.size) := Lib.hid (Nat.le_trans G4.out.size hb3.size)
      have R5 := Lib.hid (ho3.seqR.below A3)
      have P5 := Lib.hid (hd3.seq.below A3)
      have Q5 := Lib.hid (hx3.seq.below A3)
      have J5 := Lib.hid (IsBox.new 24 s3 (.slice a7 t c7) (.slice a8 0 c8))
      have RL := Lib.hid ((SL.out.first q (by rw [LL.out]; exact hq0)).below G5.out)
      clear ho3 hd3 hx3 hb3 A3 A2 hc hfr KO
      go_wp2_with fail
      generalize s3.alloc (.cells #[.slice a7 t c7, .slice a8 0 c8] 24) = s4 at *
      refine (rowsB R5.out RL.out).mono ?_
      rintro e s5 ⟨rfl, hb5⟩
      have G6 := Lib.hid (G5.out.trans (hb5.mono G5.out.size))
      have P6 := Lib.hid (P5.out.below hb5)
      have Q6 := Lib.hid (Q5.out.below hb5)
      have J6 := Lib.hid (J5.out.below hb5)
      clear hb5 R5 P5 Q5 J5 RL
      obtain ⟨y1, y2⟩ := J6.out.cells
      obtain ⟨y3, y4⟩ := J6.out.free
      go_wp2_with fail
      have LFM : Hid ((frm more).length = 8 + len4) := Lib.hid (by rw [frm_len, LM.out.1])
      have KP := Lib.hid (append_ok P6.out Q6.out (SMo.out.below G6.out) (HT.out.below G6.out) (by have := LM.out; omega) (by have := LM.out; have := LFQ.out; rw [List.length_nil]; omega))
      rw [List.nil_append] at KP
      refine KP.out.mono ?_
      rintro e s6 ⟨v6, x6, rfl, ho6, hx6, hb6⟩
      obtain ⟨a9, c9, rfl, -, -, ho6⟩ := ho6.at t LFQ.out.1
      obtain ⟨a10, c10, rfl, -, -, hx6⟩ := hx6.at (8 + len4) LFM.out
      have J7 := J6.out.below hb6
      have G7 := Lib.hid (below_set (G6.out.trans (hb6.mono G6.out.size)) HZ3.out (.slice a9 t c9) (.slice a10 (8 + len4) c10))
      have P7 := Lib.hid (ho6.seq.setBox J7 (.slice a9 t c9) (.slice a10 (8 + len4) c10))
      have Q7 := Lib.hid (hx6.seq.setBox J7 (.slice a9 t c9) (.slice a10 (8 + len4) c10))
      have J8 := Lib.hid (J7.set (.slice a9 t c9) (.slice a10 (8 + len4) c10))
      clear y1 y2 y3 y4
      obtain ⟨y1, y2⟩ := J7.cells
      obtain ⟨y3, y4⟩ := J7.free
      clear J7 ho6 hx6 hb6 KP P6 Q6 J6
      go_wp2_with fail
      clear y1 y2 y3 y4
      generalize (s6.setCell ⟨s3.heap.size, 0, none⟩ (.slice a9 t c9)).setCell ⟨s3.heap.size, 1, none⟩ (.slice a10 (8 + len4) c10) = s7 at *
      have KO2 := Lib.hid (open_of (ls := ls.take q ++ [more]) P7.out Q7.out (HT.out.below G7.out) (by have := LFQ.out; rw [this.1]; omega) (by have := LM.out; rw [LFM.out]; omega) (by rw [← flatF_push]; exact scans_all (small_snoc SMA2.out (by have := LM.out; omega))))
      refine KO2.out.mono ?_
      rintro e s8 ⟨v8, d8, x8, rfl, ho8, hd8, hx8, hb8⟩
      obtain ⟨a11, c11, rfl, -, -, hd8, -⟩ := hd8.parts
      obtain ⟨a12, c12, rfl, -, -, hx8⟩ := hx8.at 0 rfl
      have G8 := Lib.hid (G7.out.trans (hb8.mono G7.out.size))
      have SM8 := Lib.hid (SMo.out.below G8.out)
      obtain ⟨b', o', cap', rfl, hq1, hq2, -, hel⟩ := ho8.seqR.spot (by simp)
      have LN : (ls.take q ++ [more]).length = q + 1 := by rw [List.length_append, LQ.out]; rfl
      have GD : (ls.take q ++ [more]).getD q [] = more := by simp [List.getD, LQ.out]
      obtain ⟨a13, n13, c13, hc13, hn13, hn14, hn15, -, hs13⟩ := hel q (by rw [LN]; omega)
      rw [LN] at hq1 ⊢
      rw [GD] at hs13 hn13
      have hm : maxLen = 9223372036854775807 := rfl
      rw [hm] at hq2
      have S13 := Lib.hid hs13
      have hqi : (q : Int) + 1 ≤ cap' := by omega
      clear LN GD hel ho8 hd8 hx8 hb8 hs13 hn13 hn15 hm KO2
      go_wp2_with fail
      refine (sameB S13.out SM8.out).mono ?_
      rintro e s9 ⟨rfl, hb9⟩
      have G9 := Lib.hid (G8.out.trans (hb9.mono G8.out.size))
      clear hb9
      go_wp2_with fail
      go_ret
      exact ⟨rfl, G9.out⟩

theorem walk (a0 : Option Addr) (len0 cap0 : Nat) (l0 : List Bytes) (a1 : Int) (a2 : Int) (a3 : Int) (a4 : Option Addr) (len4 cap4 : Nat) (z4 : List Int) (w : World) (w0 : IsRows w a0 len0 cap0 l0) (w1 : (Lit.int .i64 a1).wf = true) (w2 : (Lit.int .i64 a2).wf = true) (w3 : (Lit.int .u8 a3).wf = true) (w4 : IsRow .u8 w a4 len4 cap4 z4) (hT : HasTab w) :
    Calls Tryd.prog 5 #[.slice a0 len0 cap0, .int .i64 a1, .int .i64 a2, .int .u8 a3, .slice a4 len4 cap4] w fun e w' => e = .returned (.bool true) ∧ Below w.heap.size w w' := by
  obtain ⟨hl, hlc, -, hs⟩ := w0
  obtain ⟨y, rfl⟩ := u8_of a3 w3
  obtain ⟨more, hm, hml, -⟩ := row_seq w4
  cases hsh : shB l0 with
  | false => exact spoilt_big a0 len0 cap0 l0 a1 a2 _ a4 len4 cap4 w hs hT hsh
  | true =>
    by_cases h1 : a1 < 0
    · exact spoilt_b1 a0 len0 cap0 l0 a1 a2 _ a4 len4 cap4 w hl hlc hs hT hsh h1
    · obtain ⟨k, rfl⟩ := Int.eq_ofNat_of_zero_le (show 0 ≤ a1 by omega)
      by_cases h2 : len0 ≤ k
      · exact spoilt_b2 a0 len0 cap0 l0 k a2 _ a4 len4 cap4 w hl hlc hs hT hsh h2
      · by_cases h3 : a2 < 0
        · exact spoilt_b3 a0 len0 cap0 l0 k a2 _ a4 len4 cap4 w hl hlc hs hT hsh (by omega) h3
        · obtain ⟨j, rfl⟩ := Int.eq_ofNat_of_zero_le (show 0 ≤ a2 by omega)
          by_cases h4 : 4 + (l0.getD k []).length ≤ j
          · exact spoilt_b4 a0 len0 cap0 l0 k j _ a4 len4 cap4 w hl hlc hs hT hsh (by omega) h4
          · by_cases h5 : y = 0#8
            · subst h5
              exact spoilt_b5 a0 len0 cap0 l0 k j a4 len4 cap4 w hl hlc hs hT hsh (by omega) (by omega)
            · by_cases h6 : 1000 < len4
              · exact spoilt_b6 a0 len0 cap0 l0 k j y a4 len4 cap4 w hl hlc hs hT hsh (by omega) (by omega) h5 h6
              · exact spoilt_in a0 len0 cap0 l0 k j y a4 len4 cap4 more w hl hlc hs hT hsh (by omega) (by omega) h5 hm (by omega)

set_option maxRecDepth 100000 in
theorem lifted (os : Os) (started : os.Started) (H : Type) (enc : TypeId × Value → H) :
    ReturnsInHanded {} Tryd.checked os 5 .any (fun w args => (Rows.journalSpoiltSpec.pre enc Tryd.prog Tryd.f5 [] false w args ∧ laidMetH Tryd.prog laid1 w) ∧ sizedMet enc Tryd.prog Tryd.f5 (OpenSpec.ofChange Rows.journalSpoiltSpec) false w args)
      (Rows.journalSpoiltSpec.post enc Tryd.prog Tryd.f5 false true false false) := by
  refine returnsInHanded_of_change_and (C := Tryd.checked) (X := fun w _ => laidMetH Tryd.prog laid1 w) (fun _ _ _ hh h => h.of_heap hh) own started (by kernel_rfl) Tryd.func5
    (ChangeSpec.witness_shaped (enc := enc) (C := Tryd.checked) (os := os) (X := fun w _ => laidMetH Tryd.prog laid1 w) false (World.doorLaid Tryd.prog 400 os) #[.slice none 0 0, .int .i64 0, .int .i64 0, .int .u8 0, .slice none 0 0] 8 rfl (World.shaped_of_RefB (by kernel_rfl) (by kernel_rfl)) (by kernel_rfl) (by kernel_rfl) (by kernel_rfl) (door_met os _)) ?_
  intro W base args ds gs before hval0 hW _ _ hL _
  have hval : ∀ (j : Nat) t v, Tryd.f5.params[j]? = some t → args[j]? = some v → Value.okWide Tryd.prog W .any base t v := hval0
  have hW' := hW
  obtain ⟨p, q, hA0, hV, rfl, hfz, hnd⟩ := hW
  have hA : DataW.TrodAll enc Tryd.prog W 0 (fun _ => true) true Tryd.f5.params.toList args.toList ds p := hA0
  rw [Tryd.params5] at hA hval
  obtain ⟨v0, vs0, d0, ds0, p0, q0, hargs, rfl, rfl, h0, r0⟩ := trodAll_cons hA
  obtain ⟨v1, vs1, d1, ds1, p1, q1, rfl, rfl, rfl, h1, r1⟩ := trodAll_cons r0
  obtain ⟨v2, vs2, d2, ds2, p2, q2, rfl, rfl, rfl, h2, r2⟩ := trodAll_cons r1
  obtain ⟨v3, vs3, d3, ds3, p3, q3, rfl, rfl, rfl, h3, r3⟩ := trodAll_cons r2
  obtain ⟨v4, vs4, d4, ds4, p4, q4, rfl, rfl, rfl, h4, r4⟩ := trodAll_cons r3
  obtain ⟨rfl, rfl, rfl⟩ := trodAll_nil r4
  obtain rfl : args = #[v0, v1, v2, v3, v4] := by cases args; simp_all
  obtain ⟨rfl, rfl⟩ := trodVars_none hV
  obtain ⟨a0, len0, cap0, rfl⟩ := okWide_slice Tryd.underlying34 (hval 0 34 v0 rfl rfl)
  have k0 := h0
  have lt0 : ∀ x ∈ p0, x.block < W.heap.size := by obtain ⟨m, hm⟩ := k0; exact DataW.trod_lt m _ _ _ hm
  obtain ⟨z0, w0⟩ := seqR_of_trod h0
  obtain ⟨a1, rfl, rfl, rfl, w1⟩ := open_int Tryd.underlying3 (hval 1 3 v1 rfl rfl) h1
  obtain ⟨a2, rfl, rfl, rfl, w2⟩ := open_int Tryd.underlying3 (hval 2 3 v2 rfl rfl) h2
  obtain ⟨a3, rfl, rfl, rfl, w3⟩ := open_int Tryd.underlying5 (hval 3 5 v3 rfl rfl) h3
  obtain ⟨a4, len4, cap4, rfl⟩ := okWide_slice Tryd.underlying22 (hval 4 22 v4 rfl rfl)
  have k4 := h4
  have lt4 : ∀ x ∈ p4, x.block < W.heap.size := by obtain ⟨m, hm⟩ := k4; exact DataW.trod_lt m _ _ _ hm
  obtain ⟨z4, w4⟩ : ∃ zs, IsRow .u8 W a4 len4 cap4 zs := by
    obtain ⟨fuel, hf⟩ := h4
    rcases open_ints Tryd.underlying22 Tryd.underlying5 (by kernel_rfl) hf with ⟨hcs, _⟩ | ⟨x, l, c, zs, hcs, _, hl, hm, hz, _, hcell, hwz⟩
    · simp [Value.cells] at hcs
      obtain ⟨rfl, rfl, rfl⟩ := hcs
      exact ⟨[], .inl ⟨rfl, rfl, rfl, rfl⟩⟩
    · simp [Value.cells] at hcs
      obtain ⟨rfl, rfl, rfl⟩ := hcs
      exact ⟨zs, .inr ⟨_, rfl, hl, hm, by simpa using hz, hcell, hwz⟩⟩
  clear hA0 hval0
  refine (walk a0 len0 cap0 z0 a1 a2 a3 a4 len4 cap4 z4 W w0 w1 w2 w3 w4 (of_laid hL)).mono fun e W' ⟨he, bel⟩ => ?_
  subst he
  exact ⟨_, rfl, _, _, _, [], _, [], hW', trodAll_mk1 (shut_bool Tryd.underlying4 _), (trodAll_cons_mk (Below.trod laidOut (by kernel_rfl) (of_decide_eq_true (by kernel_rfl)) k0 bel lt0) (trodAll_cons_mk (shut_int Tryd.underlying3 w1) (trodAll_cons_mk (shut_int Tryd.underlying3 w2) (trodAll_cons_mk (shut_int Tryd.underlying5 w3) (trodAll_cons_mk (Below.trod laidOut (by kernel_rfl) (of_decide_eq_true (by kernel_rfl)) k4 bel lt4) trodAll_mk0))))), rfl, bel.frame _, fun h => by cases h⟩

theorem over : Rows.journalSpoiltRow.holds Tryd.pinned (OpenSpec.ofChange Rows.journalSpoiltSpec) :=
  OpenClaim.holds_of_wide 5 Tryd.f5 rfl rfl rfl rfl rfl rfl rfl ⟨rfl, rfl, rfl, rfl, rfl⟩ rfl rfl rfl rfl rfl (by kernel_rfl) Tryd.func5 (by kernel_rfl)
    (of_decide_eq_true (by kernel_rfl)) (by unfold Func.isWrapper; first | (rw [if_pos (by decide +kernel)]; kernel_rfl) | (rw [if_neg (by decide +kernel)]; exact ⟨rfl, rfl⟩))
    (fun os started H enc _ => lifted os started H enc)

/-- the tied card: the given statement -/
theorem proved : Rows.JournalSpoiltCardSaid :=
  Claim7.holds_tied_plain_at .later [] [.data] true (true, "a427ed33cc0ea91030093835fd4bde5cbe54613f3f0df61ccbee41e16516e237") false
    over (fun _ h => by cases h) (by kernel_rfl) (fun _ h => by cases h) journalSpoilt_row_tie rfl ⟨rfl, rfl⟩ (by kernel_rfl) rfl
    (fun f fn hf hfn => by
      obtain rfl : f = 5 := Option.some.inj ((show Tryd.prog.funcNamed "buttery/butterylaw06.JournalSpoilt" = some 5 by kernel_rfl).symm.trans hf) |>.symm
      obtain rfl : fn = Tryd.f5 := (Option.some.inj (Tryd.func5.symm.trans hfn)).symm
      exact ⟨by kernel_rfl, fun j t ht => by
        rw [Tryd.params5] at ht
        have hm : t ∈ [34, 3, 3, 5, 22] := by simpa using Array.mem_of_getElem? ht
        have hall : ([34, 3, 3, 5, 22].all fun u => !Tryd.prog.wantsStandIn u) = true := by kernel_rfl
        exact (show Tryd.prog.wantsStandIn t = false by simpa using List.all_eq_true.1 hall t hm)⟩)
    (by kernel_rfl)
#print axioms proved
end Go.Proofs.YtehlbddcgnclaaaDoor.journalSpoilt
