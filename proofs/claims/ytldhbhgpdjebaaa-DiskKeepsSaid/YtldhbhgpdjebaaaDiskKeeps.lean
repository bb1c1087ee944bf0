/-
  For any list of steps the law DiskKeeps answers true: of its first 60 steps, of 100 bytes each, whatever is written, and however often it crashes, what stood fast stays, and of the rest a beginning. No condition.
  (The frame was written by the guide's proof-skeleton.mjs, and turned for a slice of structs; the walk is ours.)
-/
import Derived.Test.YtldhbhgpdjebaaaRows
import Derived.WalkKit
import Derived.ProofKit
import Derived.OpenShut
import Derived.ShutString
import Derived.ChangeOld
import Derived.Below
import Derived.Test.YtldhbhgpdjebaaaOps
import Derived.Lib.MinMax
import Derived.Deep.DeepCutAuto
namespace Go.Proofs.Ytldhbhgpdjebaaa.diskKeeps
open Go.ChangeShapes Go.WideShapes Go.ChangeAt Go.RowKit
open Go.ChangeMaps (open_string shut_string)
set_option linter.unusedVariables false

theorem own : ownKnob Try.prog.godebug = none := by kernel_rfl
theorem laidOut : laidOutB Try.prog = true := by kernel_rfl

open Plain

theorem open0 {H : Type} {enc : TypeId × Value → H} {W : World} {r : Reach} {b : Nat} {v : Value} {d : DataW H} {p : List MemPlace} (hv : Value.okWide Try.prog W r b 40 v) (h : DataW.Trod enc Try.prog W 0 (fun _ => true) true 40 v d p) : IsOps W v := ops_of_trod hv h

/-- the disk in the variable g, behind k steps -/
def Kept (w : World) (g k : Nat) (wr : World) : Prop := ∃ f l : Bytes, ∃ a1 n1 c1 a2 n2 c2, Below w.heap.size w wr ∧ IsBox 24 wr g (.slice a1 n1 c1) (.slice a2 n2 c2) ∧ Seq wr (.slice a1 n1 c1) f ∧ Seq wr (.slice a2 n2 c2) l ∧ f.length + l.length ≤ 100 * k ∧ k ≤ 60

/-- what Write left in the variable g8 -/
def Wrote (s1 : World) (g8 : Nat) (X Y : Value) (f lb : Bytes) (wy : World) : Prop := Below s1.heap.size s1 wy ∧ IsBox 24 wy g8 X Y ∧ Owns s1.heap.size wy X f ∧ Owns s1.heap.size wy Y lb
/-- what stays while a written disk is looked at -/
def Inv (w : World) (g g8 g5 N : Nat) (A B X Y : Value) (cs : Array Value) (f lb : Bytes) (u : World) : Prop :=
  Below w.heap.size w u ∧ IsBox 24 u g A B ∧ IsBox 24 u g8 X Y ∧ Blk u g5 cs 42 ∧ Owns N u X f ∧ Owns N u Y lb
theorem Inv.below {w u u' : World} {g g8 g5 N : Nat} {A B X Y : Value} {cs : Array Value} {f lb : Bytes} (h : Inv w g g8 g5 N A B X Y cs f lb u) (hb : Below u.heap.size u u') : Inv w g g8 g5 N A B X Y cs f lb u' :=
  ⟨h.1.trans (hb.mono h.1.size), h.2.1.below hb, h.2.2.1.below hb, h.2.2.2.1.below hb, h.2.2.2.2.1.below hb (Nat.le_refl _), h.2.2.2.2.2.below hb (Nat.le_refl _)⟩
theorem Inv.low {w u : World} {g g8 g5 N : Nat} {A B X Y : Value} {cs : Array Value} {f lb : Bytes} (h : Inv w g g8 g5 N A B X Y cs f lb u) : Below w.heap.size w u := h.1
theorem kept_low {N M : Nat} {w w' : World} {u v : Value} {xs ys : Bytes} {B : Nat} (hu : Owns N w u xs) (hv : Owns B w v ys) (hlt : ∀ k, v.ownBlock = some k → k < N) (hg : w.grownBy w' v.ownBlock) : Owns N w' u xs := by
  refine World.ownsRow.kept hu hg ?_
  cases hb : u.ownBlock with
  | none => exact .inl rfl
  | some k =>
    right
    intro e
    have h1 := (hu.lt k hb).1
    have h2 := hlt k e.symm
    omega
theorem Inv.grown {w u u' : World} {g g8 g5 N B : Nat} {A C X Y v : Value} {cs : Array Value} {f lb xs : Bytes} (h : Inv w g g8 g5 N A C X Y cs f lb u) (hv : Owns B u v xs) (hlt : ∀ k, v.ownBlock = some k → k < N) (hB : w.heap.size ≤ B) (hg : u.grownBy u' v.ownBlock) : Inv w g g8 g5 N A C X Y cs f lb u' :=
  ⟨h.1.grown hg h.1.size (fun k hk => Nat.le_trans hB (hv.lt k hk).1), Blk.grown (cs := #[A, C]) h.2.1 hv hg (by decide), Blk.grown (cs := #[X, Y]) h.2.2.1 hv hg (by decide), h.2.2.2.1.grown hv hg (by decide), kept_low (M := 0) h.2.2.2.2.1 hv hlt hg, kept_low (M := 0) h.2.2.2.2.2 hv hlt hg⟩

set_option maxRecDepth 100000 in
set_option maxHeartbeats 16000000 in
theorem walk (v0 : Value) (w : World) (w0 : IsOps w v0) :
    Calls Try.prog 4 #[v0] w fun e w' => e = .returned (.bool true) ∧ Below w.heap.size w w' := by
  obtain ⟨a, n, c, rfl, hnc, hcm, hops⟩ := w0
  have hm : maxLen = 9223372036854775807 := rfl
  rw [hm] at hcm
  have KA := Lib.hid (awake_any w)
  have OPS := Lib.hid hops
  have hni : (n : Int) ≤ c := by omega
  have hci : (c : Int) ≤ 9223372036854775807 := by omega
  clear hm hops
  go_enter Try.func4, Try.ntmps4
  go_wp2_with fail
  refine KA.out.mono ?_
  rintro e wa ⟨rfl, hg1⟩
  have G1 := Lib.hid hg1
  clear hg1
  go_wp2_with fail
  go_loopw [4] (fun i wr => ∃ k : Nat, k ≤ n ∧ i = .int .i64 k ∧ Kept w wa.heap.size k wr) (fun i _ => n - (intOf i).toNat)
  case atStart => exact ⟨0, Nat.zero_le _, rfl, [], [], none, 0, 0, none, 0, 0, G1.out.alloc G1.out.size _, IsBox.new _ _ _ _, Seq.nil _, Seq.nil _, by simp, by omega⟩
  case round =>
    obtain ⟨k, hk, rfl, f, l, a1, n1, c1, a2, n2, c2, hB, hI, hf, hl, hlen, hk60⟩ := hrel
    have GB := Lib.hid hB
    have I0 := Lib.hid hI
    have SF := Lib.hid hf
    have SL := Lib.hid hl
    have LE := Lib.hid hlen
    have d1 := hf.dims
    have d2 := hl.dims
    have ki : (k : Int) ≤ 60 := by omega
    have hn1 : (n1 : Int) ≤ 6000 := by omega
    have hn2 : (n2 : Int) ≤ 6000 := by omega
    have LF : Hid (f.length = n1) := Lib.hid d1.1
    have LL : Hid (l.length = n2) := Lib.hid d2.1
    have DC1 : (n1 : Int) ≤ c1 := by omega
    have DC2 : (n2 : Int) ≤ c2 := by omega
    clear hB hI hf hl hlen d1 d2
    by_cases hin : k < n ∧ k < 60
    · obtain ⟨hkn, hk6⟩ := hin
      have hkni : (k : Int) < n := by omega
      have hk6i : (k : Int) < 60 := by omega
      obtain ⟨b, o, rfl, hel⟩ := OPS.out (by omega)
      obtain ⟨d, kp, a3, n3, c3, z3, e0, e1, e2, wd, wk, hrow⟩ := hel k hkn
      have hbw : b < w.heap.size := World.block_lt_of_cell? w _ e0
      have E0 : wr.cell? ⟨b, o + k * 3, none⟩ = some (.int .i64 d) := (GB.out.cell (p := ⟨b, o + (k * 3 + 0), none⟩) hbw).trans e0
      have E1 : wr.cell? ⟨b, o + k * 3 + 1, none⟩ = some (.int .i64 kp) := (GB.out.cell (p := ⟨b, o + (k * 3 + 1), none⟩) hbw).trans e1
      have E2 : wr.cell? ⟨b, o + k * 3 + 2, none⟩ = some (.slice a3 n3 c3) := (GB.out.cell (p := ⟨b, o + (k * 3 + 2), none⟩) hbw).trans e2
      obtain ⟨bb, m3, hm3, hl3, sb', hlt3, hc3⟩ := row_cut hrow 100
      have M3 : min (n3 : Int) 100 = (m3 : Int) := by omega
      have q1 : (m3 : Int) ≤ c3 := by omega
      have q2 : (m3 : Int) ≤ 100 := by omega
      have q3 : (0 : Int) ≤ m3 := by omega
      have LB := Lib.hid hl3
      have SBW := Lib.hid sb'
      have SB := Lib.hid (sb'.below GB.out)
      clear e0 e1 e2 hel hrow hm3 hl3 sb' hlt3 hc3
      have A0 : Below wr.heap.size wr (wr.alloc (.cells #[.int .i64 d, .int .i64 kp, .slice a3 n3 c3] 42)) := (Below.refl _ _).alloc (Nat.le_refl _) _
      have GB1 := Lib.hid (GB.out.trans (A0.mono GB.out.size))
      have I1 := Lib.hid (I0.out.below A0)
      have SF1 := Lib.hid (SF.out.below A0)
      have SL1 := Lib.hid (SL.out.below A0)
      have SB1 := Lib.hid (SB.out.below A0)
      have T1 := Lib.hid (Blk.new wr #[.int .i64 d, .int .i64 kp, .slice a3 n3 c3] 42)
      obtain ⟨y1, y2⟩ := I1.out.cells
      clear A0
      go_wp2_with fail
      clear E0 E1 E2 y1 y2 SF SL SB I0
      generalize wr.alloc (.cells #[.int .i64 d, .int .i64 kp, .slice a3 n3 c3] 42) = s0 at *
      have LQ : Hid ((f ++ l).length = n1 + n2) := Lib.hid (by rw [List.length_append, LF.out, LL.out])
      refine (all_any SF1.out SL1.out (by rw [LF.out, LL.out]; omega)).mono ?_
      rintro e s1 ⟨v1, rfl, ho1, hb1⟩
      obtain ⟨aw, cw, rfl, -, -, ho1⟩ := ho1.at (n1 + n2) LQ.out
      have WAS := Lib.hid ho1
      have GB2 := Lib.hid (GB1.out.trans (hb1.mono GB1.out.size))
      have I2 := Lib.hid (I1.out.below hb1)
      have SF2 := Lib.hid (SF1.out.below hb1)
      have SL2 := Lib.hid (SL1.out.below hb1)
      have SB2 := Lib.hid (SB1.out.below hb1)
      have T2 := Lib.hid (T1.out.below hb1)
      have Z01 := Lib.hid hb1.size
      clear hb1 ho1
      obtain ⟨y1, y2⟩ := I2.out.cells
      have z0 := T2.out.cell 0 (.int .i64 d) rfl
      have z1 := T2.out.cell 1 (.int .i64 kp) rfl
      have r0 : 0 ≤ IntKind.u64.wrap d := by simp [IntKind.wrap, IntKind.signed, IntKind.bits]; omega
      go_wp2_with fail
      · clear z0 z1 r0
        have z2 := T2.out.cell 2 (.slice a3 n3 c3) rfl
        have KW : Hid (∀ u, Below s1.heap.size s1 u → Calls _ _ _ u (MadeDN u f (l ++ bb) 0)) := Lib.hid (fun u h => write_ok (SF2.out.below h) (SL2.out.below h) (SB2.out.below h) (by rw [LF.out, LL.out, LB.out]; omega))
        have LLB : Hid ((l ++ bb).length = n2 + m3) := Lib.hid (by rw [List.length_append, LL.out, LB.out])
        have KE : Hid (∀ u', Below s1.heap.size s1 u' → Below s1.heap.size s1 u' ∧ ((u'.cell? ⟨wa.heap.size, 0, none⟩ = some (.slice a1 n1 c1) ∧ u'.cell? ⟨wa.heap.size, 1, none⟩ = some (.slice a2 n2 c2)) ∧ u'.cell? ⟨wr.heap.size, 2, none⟩ = some (.slice a3 n3 c3))) :=
          Lib.hid (fun u' h => ⟨h, (I2.out.below h).cells, (T2.out.below h).cell 2 _ rfl⟩)
        go_cut [8, 9, 68] (fun s8 s9 s68 wy => ∃ (g8 : Nat) (x y : Option Addr) (cx cy : Nat), s8 = .pointer (some ⟨g8, 0, none⟩) ∧ s9 = .int .i64 0 ∧ Wrote s1 g8 (.slice x n1 cx) (.slice y (n2 + m3) cy) f (l ++ bb) wy)
        case first =>
          go_region_held3 (fun u' => Below s1.heap.size s1 u' ∧ ((u'.cell? ⟨wa.heap.size, 0, none⟩ = some (.slice a1 n1 c1) ∧ u'.cell? ⟨wa.heap.size, 1, none⟩ = some (.slice a2 n2 c2)) ∧ u'.cell? ⟨wr.heap.size, 2, none⟩ = some (.slice a3 n3 c3)))
            (first | assumption | (exact KE.out _ (Below.refl _ _).drew) | (exact KE.out _ (hold (by assumption) hb)) | (exact KE.out _ (holdA hk _)) | (exact KE.out _ (holdA (by assumption) _)) | (exact KE.out _ (below_set hk.1 (Nat.le_refl _) _ _)))
            (first
              | (go_at_call 9; (with_reducible refine (KW.out _ (by assumption : _ ∧ _).1).mono ?_); rintro e s2 ⟨v2, x2, rfl, ho2, hx2, hb⟩; have hk := KE.out _ (hold (by assumption) hb); have hbx : IsBox 24 s2 s1.heap.size (.slice none 0 0) (.slice none 0 0) := (hb.block _ (by simp)).trans (by exact heap_alloc_new s1 _); obtain ⟨y3, y4⟩ := hbx.cells; obtain ⟨y5, y6⟩ := hbx.free; obtain ⟨e2, f2, rfl, -, -, ho2⟩ := ho2.at n1 LF.out; obtain ⟨g2, h2, rfl, -, -, hx2⟩ := hx2.at (n2 + m3) LLB.out)
              | (go_at_call 9; (with_reducible refine (KW.out _ (by assumption : _ ∧ _).1).mono ?_); rintro e s2 ⟨v2, x2, rfl, ho2, hx2, hb⟩; have hk := KE.out _ (hold (by assumption) hb); obtain ⟨e2, f2, rfl, -, -, ho2⟩ := ho2.at n1 LF.out; obtain ⟨g2, h2, rfl, -, -, hx2⟩ := hx2.at (n2 + m3) LLB.out))
          all_goals (go_wp2_with fail; go_meet)
          · exact ⟨_, e2, g2, f2, h2, rfl, rfl, hk.1.alloc hk.1.size _, IsBox.new _ _ _ _, (ho2.alloc _).mono (by simp), (hx2.alloc _).mono (by simp)⟩
          · exact ⟨_, e2, g2, f2, h2, rfl, rfl, below_set hk.1 (Nat.le_refl _) _ _, hbx.set _ _, ((ho2.setLow (by simp) _).setLow (by simp) _).mono (by simp), ((hx2.setLow (by simp) _).setLow (by simp) _).mono (by simp)⟩
          · exact ⟨_, e2, g2, f2, h2, rfl, rfl, below_set hk.1 (Nat.le_refl _) _ _, hbx.set _ _, ((ho2.setLow (by simp) _).setLow (by simp) _).mono (by simp), ((hx2.setLow (by simp) _).setLow (by simp) _).mono (by simp)⟩
        case rest =>
          obtain ⟨g8, x, y, cx, cy, rfl, rfl, hW1, hW2, hW3, hW4⟩ := hcut
          have WAS3 := Lib.hid (WAS.out.below hW1 (Nat.le_refl _))
          have WLT : Hid (∀ j, (Value.slice aw (n1 + n2) cw).ownBlock = some j → j < s1.heap.size) := Lib.hid (fun j hj => (WAS.out.lt j hj).2)
          have WLT2 : Hid (∀ j, (Value.slice aw (n1 + n2) cw).ownBlock = some j → j < wc.heap.size) := Lib.hid (fun j hj => Nat.lt_of_lt_of_le (WAS.out.lt j hj).2 hW1.size)
          have Z0c : Hid (s0.heap.size ≤ wc.heap.size) := Lib.hid (Nat.le_trans Z01.out hW1.size)
          have IV : Hid (Inv w wa.heap.size g8 wr.heap.size s1.heap.size (.slice a1 n1 c1) (.slice a2 n2 c2) (.slice x n1 cx) (.slice y (n2 + m3) cy) #[.int .i64 d, .int .i64 kp, .slice a3 n3 c3] f (l ++ bb) wc) := Lib.hid ⟨GB2.out.trans (hW1.mono GB2.out.size), I2.out.below hW1, hW2, T2.out.below hW1, hW3, hW4⟩
          have LQ2 : Hid ((f ++ (l ++ bb)).length = n1 + (n2 + m3)) := Lib.hid (by rw [List.length_append, LLB.out, LF.out])
          have LQ3 : Hid (((f ++ l) ++ bb).length = n1 + (n2 + m3)) := Lib.hid (by rw [List.append_assoc, LQ2.out])
          have LA : Hid ((f ++ l).length + bb.length ≤ 1073741824) := Lib.hid (by rw [LQ.out, LB.out]; omega)
          have KA2 : Hid (∀ u, Inv w wa.heap.size g8 wr.heap.size s1.heap.size (.slice a1 n1 c1) (.slice a2 n2 c2) (.slice x n1 cx) (.slice y (n2 + m3) cy) #[.int .i64 d, .int .i64 kp, .slice a3 n3 c3] f (l ++ bb) u → Calls _ _ _ u (Made u (f ++ (l ++ bb)))) :=
            Lib.hid (fun u h => all_any h.2.2.2.2.1.seq h.2.2.2.2.2.seq (by rw [LF.out, LLB.out]; omega))
          have KE2 : Hid (∀ u, Inv w wa.heap.size g8 wr.heap.size s1.heap.size (.slice a1 n1 c1) (.slice a2 n2 c2) (.slice x n1 cx) (.slice y (n2 + m3) cy) #[.int .i64 d, .int .i64 kp, .slice a3 n3 c3] f (l ++ bb) u → Inv w wa.heap.size g8 wr.heap.size s1.heap.size (.slice a1 n1 c1) (.slice a2 n2 c2) (.slice x n1 cx) (.slice y (n2 + m3) cy) #[.int .i64 d, .int .i64 kp, .slice a3 n3 c3] f (l ++ bb) u ∧ ((u.cell? ⟨g8, 0, none⟩ = some (.slice x n1 cx) ∧ u.cell? ⟨g8, 1, none⟩ = some (.slice y (n2 + m3) cy)) ∧ u.cell? ⟨wr.heap.size, 2, none⟩ = some (.slice a3 n3 c3))) :=
            Lib.hid (fun u h => ⟨h, h.2.2.1.cells, h.2.2.2.1.cell 2 _ rfl⟩)
          have hs0 : Hid (w.heap.size ≤ s0.heap.size) := Lib.hid GB1.out.size
          clear y1 y2 z2 hW1 hW2 hW3 hW4
          go_wp2_with fail
          go_region_held3 (fun u => Inv w wa.heap.size g8 wr.heap.size s1.heap.size (.slice a1 n1 c1) (.slice a2 n2 c2) (.slice x n1 cx) (.slice y (n2 + m3) cy) #[.int .i64 d, .int .i64 kp, .slice a3 n3 c3] f (l ++ bb) u ∧ ((u.cell? ⟨g8, 0, none⟩ = some (.slice x n1 cx) ∧ u.cell? ⟨g8, 1, none⟩ = some (.slice y (n2 + m3) cy)) ∧ u.cell? ⟨wr.heap.size, 2, none⟩ = some (.slice a3 n3 c3)))
            (first | assumption | (exact KE2.out _ (IV.out.below (Below.refl _ _).drew)) | (exact KE2.out _ (Inv.below (And.left (by assumption)) hb)) | (exact KE2.out _ hgi))
            (first
              | (go_at_call 19; (with_reducible refine (KA2.out _ (by assumption : _ ∧ _).1).mono ?_); rintro e s3 ⟨v3, rfl, ho3, hb⟩; have ow := (WAS3.out.below (Below.refl _ _).drew (Nat.le_refl _)).below hb (Nat.le_refl _); have hz3 := Nat.le_trans Z0c.out hb.size; obtain ⟨e3, f3, rfl, -, -, ho3⟩ := ho3.at (n1 + (n2 + m3)) LQ2.out)
              | (go_at_call 19; (with_reducible refine (KA2.out _ (by assumption : _ ∧ _).1).mono ?_); rintro e s3 ⟨v3, rfl, ho3, hb⟩; obtain ⟨e3, f3, rfl, -, -, ho3⟩ := ho3.at (n1 + (n2 + m3)) LQ2.out)
              | (refine step_append_seq (by rfl) _ _ (by rfl) s0.heap.size (by rfl) ow (by rfl) (SBW.out.below (Inv.low (And.left (by assumption)))) (by exact LA.out) hz3 ?_; intro v4 s4 ho4 hg4; have hgi := Inv.grown (And.left (by assumption)) ow WLT.out hs0.out hg4; have ho3' := kept_low (M := 0) ho3 ow WLT2.out hg4; rw [List.append_assoc] at ho4; obtain ⟨e4, f4, rfl, -, -, ho4⟩ := ho4.at (n1 + (n2 + m3)) LQ2.out)
              | (refine step_append_seq (by rfl) _ _ (by rfl) s0.heap.size (by rfl) (WAS3.out.below (Below.refl _ _).drew (Nat.le_refl _)) (by rfl) (SBW.out.below (Inv.low (And.left (by assumption)))) (by exact LA.out) Z0c.out ?_; intro v4 s4 ho4 hg4; have hgi := Inv.grown (And.left (by assumption)) (WAS3.out.below (Below.refl _ _).drew (Nat.le_refl _)) WLT.out hs0.out hg4; rw [List.append_assoc] at ho4; obtain ⟨e4, f4, rfl, -, -, ho4⟩ := ho4.at (n1 + (n2 + m3)) LQ2.out)
              | (go_at_call 18; (with_reducible refine (sameB ho3'.seq ho4.seq).mono ?_); rintro e s5 ⟨rfl, hb⟩)
              | (go_at_call 18; (with_reducible refine (sameB ho3.seq (ho4.seq.below hb)).mono ?_); rintro e s5 ⟨rfl, hb⟩))
          all_goals
            have HI := Lib.hid (And.left (by assumption : Inv w wa.heap.size g8 wr.heap.size s1.heap.size (.slice a1 n1 c1) (.slice a2 n2 c2) (.slice x n1 cx) (.slice y (n2 + m3) cy) #[.int .i64 d, .int .i64 kp, .slice a3 n3 c3] f (l ++ bb) s5 ∧ _))
            obtain ⟨y1, y2⟩ := HI.out.2.1.cells
            obtain ⟨y3, y4⟩ := HI.out.2.1.free
            clear hgi ho3 ho4 hb
            go_wp2_with fail
            go_roundw
            case rel => exact ⟨k + 1, by omega, by go_num, f, l ++ bb, x, n1, cx, y, n2 + m3, cy, below_set HI.out.1 G1.out.size _ _, HI.out.2.1.set _ _, HI.out.2.2.2.2.1.seq.setBox HI.out.2.1 _ _, HI.out.2.2.2.2.2.seq.setBox HI.out.2.1 _ _, (by have h1 := LE.out; rw [List.length_append, LB.out]; omega), by omega⟩
            case measure => simp [intOf]; omega
      · clear z0 z1 r0
        have z2 := T2.out.cell 2 (.slice a3 n3 c3) rfl
        have KW : Hid (∀ u, Below s1.heap.size s1 u → Calls _ _ _ u (MadeDN u f (l ++ bb) 0)) := Lib.hid (fun u h => write_ok (SF2.out.below h) (SL2.out.below h) (SB2.out.below h) (by rw [LF.out, LL.out, LB.out]; omega))
        have LLB : Hid ((l ++ bb).length = n2 + m3) := Lib.hid (by rw [List.length_append, LL.out, LB.out])
        have KE : Hid (∀ u', Below s1.heap.size s1 u' → Below s1.heap.size s1 u' ∧ ((u'.cell? ⟨wa.heap.size, 0, none⟩ = some (.slice a1 n1 c1) ∧ u'.cell? ⟨wa.heap.size, 1, none⟩ = some (.slice a2 n2 c2)) ∧ u'.cell? ⟨wr.heap.size, 2, none⟩ = some (.slice a3 n3 c3))) :=
          Lib.hid (fun u' h => ⟨h, (I2.out.below h).cells, (T2.out.below h).cell 2 _ rfl⟩)
        go_cut [8, 9, 68] (fun s8 s9 s68 wy => ∃ (g8 : Nat) (x y : Option Addr) (cx cy : Nat), s8 = .pointer (some ⟨g8, 0, none⟩) ∧ s9 = .int .i64 0 ∧ Wrote s1 g8 (.slice x n1 cx) (.slice y (n2 + m3) cy) f (l ++ bb) wy)
        case first =>
          go_region_held3 (fun u' => Below s1.heap.size s1 u' ∧ ((u'.cell? ⟨wa.heap.size, 0, none⟩ = some (.slice a1 n1 c1) ∧ u'.cell? ⟨wa.heap.size, 1, none⟩ = some (.slice a2 n2 c2)) ∧ u'.cell? ⟨wr.heap.size, 2, none⟩ = some (.slice a3 n3 c3)))
            (first | assumption | (exact KE.out _ (Below.refl _ _).drew) | (exact KE.out _ (hold (by assumption) hb)) | (exact KE.out _ (holdA hk _)) | (exact KE.out _ (holdA (by assumption) _)) | (exact KE.out _ (below_set hk.1 (Nat.le_refl _) _ _)))
            (first
              | (go_at_call 9; (with_reducible refine (KW.out _ (by assumption : _ ∧ _).1).mono ?_); rintro e s2 ⟨v2, x2, rfl, ho2, hx2, hb⟩; have hk := KE.out _ (hold (by assumption) hb); have hbx : IsBox 24 s2 s1.heap.size (.slice none 0 0) (.slice none 0 0) := (hb.block _ (by simp)).trans (by exact heap_alloc_new s1 _); obtain ⟨y3, y4⟩ := hbx.cells; obtain ⟨y5, y6⟩ := hbx.free; obtain ⟨e2, f2, rfl, -, -, ho2⟩ := ho2.at n1 LF.out; obtain ⟨g2, h2, rfl, -, -, hx2⟩ := hx2.at (n2 + m3) LLB.out)
              | (go_at_call 9; (with_reducible refine (KW.out _ (by assumption : _ ∧ _).1).mono ?_); rintro e s2 ⟨v2, x2, rfl, ho2, hx2, hb⟩; have hk := KE.out _ (hold (by assumption) hb); obtain ⟨e2, f2, rfl, -, -, ho2⟩ := ho2.at n1 LF.out; obtain ⟨g2, h2, rfl, -, -, hx2⟩ := hx2.at (n2 + m3) LLB.out))
          all_goals (go_wp2_with fail; go_meet)
          · exact ⟨_, e2, g2, f2, h2, rfl, rfl, hk.1.alloc hk.1.size _, IsBox.new _ _ _ _, (ho2.alloc _).mono (by simp), (hx2.alloc _).mono (by simp)⟩
          · exact ⟨_, e2, g2, f2, h2, rfl, rfl, below_set hk.1 (Nat.le_refl _) _ _, hbx.set _ _, ((ho2.setLow (by simp) _).setLow (by simp) _).mono (by simp), ((hx2.setLow (by simp) _).setLow (by simp) _).mono (by simp)⟩
          · exact ⟨_, e2, g2, f2, h2, rfl, rfl, below_set hk.1 (Nat.le_refl _) _ _, hbx.set _ _, ((ho2.setLow (by simp) _).setLow (by simp) _).mono (by simp), ((hx2.setLow (by simp) _).setLow (by simp) _).mono (by simp)⟩
        case rest =>
          obtain ⟨g8, x, y, cx, cy, rfl, rfl, hW1, hW2, hW3, hW4⟩ := hcut
          have WAS3 := Lib.hid (WAS.out.below hW1 (Nat.le_refl _))
          have WLT : Hid (∀ j, (Value.slice aw (n1 + n2) cw).ownBlock = some j → j < s1.heap.size) := Lib.hid (fun j hj => (WAS.out.lt j hj).2)
          have WLT2 : Hid (∀ j, (Value.slice aw (n1 + n2) cw).ownBlock = some j → j < wc.heap.size) := Lib.hid (fun j hj => Nat.lt_of_lt_of_le (WAS.out.lt j hj).2 hW1.size)
          have Z0c : Hid (s0.heap.size ≤ wc.heap.size) := Lib.hid (Nat.le_trans Z01.out hW1.size)
          have IV : Hid (Inv w wa.heap.size g8 wr.heap.size s1.heap.size (.slice a1 n1 c1) (.slice a2 n2 c2) (.slice x n1 cx) (.slice y (n2 + m3) cy) #[.int .i64 d, .int .i64 kp, .slice a3 n3 c3] f (l ++ bb) wc) := Lib.hid ⟨GB2.out.trans (hW1.mono GB2.out.size), I2.out.below hW1, hW2, T2.out.below hW1, hW3, hW4⟩
          have LQ2 : Hid ((f ++ (l ++ bb)).length = n1 + (n2 + m3)) := Lib.hid (by rw [List.length_append, LLB.out, LF.out])
          have LQ3 : Hid (((f ++ l) ++ bb).length = n1 + (n2 + m3)) := Lib.hid (by rw [List.append_assoc, LQ2.out])
          have LA : Hid ((f ++ l).length + bb.length ≤ 1073741824) := Lib.hid (by rw [LQ.out, LB.out]; omega)
          have KA2 : Hid (∀ u, Inv w wa.heap.size g8 wr.heap.size s1.heap.size (.slice a1 n1 c1) (.slice a2 n2 c2) (.slice x n1 cx) (.slice y (n2 + m3) cy) #[.int .i64 d, .int .i64 kp, .slice a3 n3 c3] f (l ++ bb) u → Calls _ _ _ u (Made u (f ++ (l ++ bb)))) :=
            Lib.hid (fun u h => all_any h.2.2.2.2.1.seq h.2.2.2.2.2.seq (by rw [LF.out, LLB.out]; omega))
          have KE2 : Hid (∀ u, Inv w wa.heap.size g8 wr.heap.size s1.heap.size (.slice a1 n1 c1) (.slice a2 n2 c2) (.slice x n1 cx) (.slice y (n2 + m3) cy) #[.int .i64 d, .int .i64 kp, .slice a3 n3 c3] f (l ++ bb) u → Inv w wa.heap.size g8 wr.heap.size s1.heap.size (.slice a1 n1 c1) (.slice a2 n2 c2) (.slice x n1 cx) (.slice y (n2 + m3) cy) #[.int .i64 d, .int .i64 kp, .slice a3 n3 c3] f (l ++ bb) u ∧ ((u.cell? ⟨g8, 0, none⟩ = some (.slice x n1 cx) ∧ u.cell? ⟨g8, 1, none⟩ = some (.slice y (n2 + m3) cy)) ∧ u.cell? ⟨wr.heap.size, 2, none⟩ = some (.slice a3 n3 c3))) :=
            Lib.hid (fun u h => ⟨h, h.2.2.1.cells, h.2.2.2.1.cell 2 _ rfl⟩)
          have hs0 : Hid (w.heap.size ≤ s0.heap.size) := Lib.hid GB1.out.size
          clear y1 y2 z2 hW1 hW2 hW3 hW4
          go_wp2_with fail
          go_region_held3 (fun u => Inv w wa.heap.size g8 wr.heap.size s1.heap.size (.slice a1 n1 c1) (.slice a2 n2 c2) (.slice x n1 cx) (.slice y (n2 + m3) cy) #[.int .i64 d, .int .i64 kp, .slice a3 n3 c3] f (l ++ bb) u ∧ ((u.cell? ⟨g8, 0, none⟩ = some (.slice x n1 cx) ∧ u.cell? ⟨g8, 1, none⟩ = some (.slice y (n2 + m3) cy)) ∧ u.cell? ⟨wr.heap.size, 2, none⟩ = some (.slice a3 n3 c3)))
            (first | assumption | (exact KE2.out _ (IV.out.below (Below.refl _ _).drew)) | (exact KE2.out _ (Inv.below (And.left (by assumption)) hb)) | (exact KE2.out _ hgi))
            (first
              | (go_at_call 19; (with_reducible refine (KA2.out _ (by assumption : _ ∧ _).1).mono ?_); rintro e s3 ⟨v3, rfl, ho3, hb⟩; have ow := (WAS3.out.below (Below.refl _ _).drew (Nat.le_refl _)).below hb (Nat.le_refl _); have hz3 := Nat.le_trans Z0c.out hb.size; obtain ⟨e3, f3, rfl, -, -, ho3⟩ := ho3.at (n1 + (n2 + m3)) LQ2.out)
              | (go_at_call 19; (with_reducible refine (KA2.out _ (by assumption : _ ∧ _).1).mono ?_); rintro e s3 ⟨v3, rfl, ho3, hb⟩; obtain ⟨e3, f3, rfl, -, -, ho3⟩ := ho3.at (n1 + (n2 + m3)) LQ2.out)
              | (refine step_append_seq (by rfl) _ _ (by rfl) s0.heap.size (by rfl) ow (by rfl) (SBW.out.below (Inv.low (And.left (by assumption)))) (by exact LA.out) hz3 ?_; intro v4 s4 ho4 hg4; have hgi := Inv.grown (And.left (by assumption)) ow WLT.out hs0.out hg4; have ho3' := kept_low (M := 0) ho3 ow WLT2.out hg4; rw [List.append_assoc] at ho4; obtain ⟨e4, f4, rfl, -, -, ho4⟩ := ho4.at (n1 + (n2 + m3)) LQ2.out)
              | (refine step_append_seq (by rfl) _ _ (by rfl) s0.heap.size (by rfl) (WAS3.out.below (Below.refl _ _).drew (Nat.le_refl _)) (by rfl) (SBW.out.below (Inv.low (And.left (by assumption)))) (by exact LA.out) Z0c.out ?_; intro v4 s4 ho4 hg4; have hgi := Inv.grown (And.left (by assumption)) (WAS3.out.below (Below.refl _ _).drew (Nat.le_refl _)) WLT.out hs0.out hg4; rw [List.append_assoc] at ho4; obtain ⟨e4, f4, rfl, -, -, ho4⟩ := ho4.at (n1 + (n2 + m3)) LQ2.out)
              | (go_at_call 18; (with_reducible refine (sameB ho3'.seq ho4.seq).mono ?_); rintro e s5 ⟨rfl, hb⟩)
              | (go_at_call 18; (with_reducible refine (sameB ho3.seq (ho4.seq.below hb)).mono ?_); rintro e s5 ⟨rfl, hb⟩))
          all_goals
            have HI := Lib.hid (And.left (by assumption : Inv w wa.heap.size g8 wr.heap.size s1.heap.size (.slice a1 n1 c1) (.slice a2 n2 c2) (.slice x n1 cx) (.slice y (n2 + m3) cy) #[.int .i64 d, .int .i64 kp, .slice a3 n3 c3] f (l ++ bb) s5 ∧ _))
            obtain ⟨y1, y2⟩ := HI.out.2.1.cells
            obtain ⟨y3, y4⟩ := HI.out.2.1.free
            clear hgi ho3 ho4 hb
            go_wp2_with fail
            go_roundw
            case rel => exact ⟨k + 1, by omega, by go_num, f, l ++ bb, x, n1, cx, y, n2 + m3, cy, below_set HI.out.1 G1.out.size _ _, HI.out.2.1.set _ _, HI.out.2.2.2.2.1.seq.setBox HI.out.2.1 _ _, HI.out.2.2.2.2.2.seq.setBox HI.out.2.1 _ _, (by have h1 := LE.out; rw [List.length_append, LB.out]; omega), by omega⟩
            case measure => simp [intOf]; omega
      · clear z0 z1 r0
        have KS : Hid (Calls _ _ _ s1 (MadeD s1 (f ++ l) [])) := Lib.hid (sync_any SF2.out SL2.out (by rw [LF.out, LL.out]; omega))
        refine KS.out.mono ?_
        rintro e s2 ⟨v2, x2, rfl, ho2, hx2, hb2⟩
        obtain ⟨e2, f2, rfl, -, -, ho2⟩ := ho2.at (n1 + n2) LQ.out
        obtain ⟨g2, h2, rfl, -, -, hx2⟩ := hx2.at 0 rfl
        have I3 := Lib.hid (I2.out.below hb2)
        have GB3 := Lib.hid (GB2.out.trans (hb2.mono GB2.out.size))
        have J3 := Lib.hid (I3.out.set (.slice e2 (n1 + n2) f2) (.slice g2 0 h2))
        have GB4 := Lib.hid (below_set GB3.out G1.out.size (.slice e2 (n1 + n2) f2) (.slice g2 0 h2))
        have OF := Lib.hid (ho2.seq.setBox I3.out (.slice e2 (n1 + n2) f2) (.slice g2 0 h2))
        have OL := Lib.hid (hx2.seq.setBox I3.out (.slice e2 (n1 + n2) f2) (.slice g2 0 h2))
        have OW := Lib.hid ((WAS.out.seq.below hb2).setBox I3.out (.slice e2 (n1 + n2) f2) (.slice g2 0 h2))
        clear y1 y2
        obtain ⟨y1, y2⟩ := I3.out.cells
        obtain ⟨y3, y4⟩ := I3.out.free
        clear ho2 hx2 hb2
        go_wp2_with fail
        clear y1 y2 y3 y4
        generalize (s2.setCell ⟨wa.heap.size, 0, none⟩ (.slice e2 (n1 + n2) f2)).setCell ⟨wa.heap.size, 1, none⟩ (.slice g2 0 h2) = s3 at *
        have KA3 : Hid (Calls _ _ _ s3 (Made s3 (f ++ l))) := Lib.hid (by have := all_any OF.out OL.out (by rw [LQ.out]; simp; omega); simpa using this)
        refine KA3.out.mono ?_
        rintro e s4 ⟨v4, rfl, ho4, hb4⟩
        obtain ⟨e4, f4, rfl, -, -, ho4⟩ := ho4.at (n1 + n2) LQ.out
        have KM := Lib.hid (sameB ho4.seq (OW.out.below hb4))
        have GB5 := Lib.hid (GB4.out.trans (hb4.mono GB4.out.size))
        have J5 := Lib.hid (J3.out.below hb4)
        have OF5 := Lib.hid (OF.out.below hb4)
        have OL5 := Lib.hid (OL.out.below hb4)
        clear ho4 hb4
        go_wp2_with fail
        refine KM.out.mono ?_
        rintro e s5 ⟨rfl, hb5⟩
        have GB6 := Lib.hid (GB5.out.trans (hb5.mono GB5.out.size))
        have J6 := Lib.hid (J5.out.below hb5)
        have OF6 := Lib.hid (OF5.out.below hb5)
        have OL6 := Lib.hid (OL5.out.below hb5)
        obtain ⟨y1, y2⟩ := J6.out.cells
        clear hb5
        go_wp2_with fail
        go_roundw
        case rel => exact ⟨k + 1, by omega, by go_num, f ++ l, [], e2, n1 + n2, f2, g2, 0, h2, GB6.out, J6.out, OF6.out, OL6.out, (by have h1 := LE.out; rw [List.length_append]; simp; omega), by omega⟩
        case measure => simp [intOf]; omega
      · obtain ⟨kk, hkk⟩ : ∃ kk : Nat, min (max kp 0) (n2 : Int) = (kk : Int) := ⟨(min (max kp 0) (n2 : Int)).toNat, by omega⟩
        have hkn : (kk : Int) ≤ n2 := by omega
        have hk0 : (0 : Int) ≤ kk := by omega
        have hkq : (n1 : Int) + kk ≤ cw := by have := WAS.out.seq.dims; omega
        have LP : Hid ((f ++ l.take kk).length = n1 + kk) := Lib.hid (by rw [List.length_append, List.length_take, LF.out, LL.out]; omega)
        have PT : Hid ((f ++ l).take (n1 + kk) = f ++ l.take kk) := Lib.hid (by rw [← LF.out, List.take_length_add_append])
        have KS : Hid (Calls _ _ _ s1 (MadeD s1 (f ++ l.take kk) [])) := Lib.hid (crash_any SF2.out SL2.out hkk (by rw [LF.out, LL.out]; omega))
        have PW := Lib.hid (WAS.out.seq.first (n1 + kk) (by rw [LQ.out]; omega))
        rw [PT.out] at PW
        clear hkk r0
        generalize f ++ l.take kk = p at *
        refine KS.out.mono ?_
        rintro e s2 ⟨v2, x2, rfl, ho2, hx2, hb2⟩
        obtain ⟨e2, f2, rfl, -, -, ho2⟩ := ho2.at (n1 + kk) LP.out
        obtain ⟨g2, h2, rfl, -, -, hx2⟩ := hx2.at 0 rfl
        have I3 := Lib.hid (I2.out.below hb2)
        have GB3 := Lib.hid (GB2.out.trans (hb2.mono GB2.out.size))
        have J3 := Lib.hid (I3.out.set (.slice e2 (n1 + kk) f2) (.slice g2 0 h2))
        have GB4 := Lib.hid (below_set GB3.out G1.out.size (.slice e2 (n1 + kk) f2) (.slice g2 0 h2))
        have OF := Lib.hid (ho2.seq.setBox I3.out (.slice e2 (n1 + kk) f2) (.slice g2 0 h2))
        have OL := Lib.hid (hx2.seq.setBox I3.out (.slice e2 (n1 + kk) f2) (.slice g2 0 h2))
        have OW := Lib.hid ((PW.out.below hb2).setBox I3.out (.slice e2 (n1 + kk) f2) (.slice g2 0 h2))
        clear y1 y2 z0 z1
        obtain ⟨y1, y2⟩ := I3.out.cells
        obtain ⟨y3, y4⟩ := I3.out.free
        obtain ⟨y5, y6⟩ := J3.out.cells
        clear ho2 hx2 hb2
        go_wp2_with fail
        clear y1 y2 y3 y4 y5 y6
        generalize (s2.setCell ⟨wa.heap.size, 0, none⟩ (.slice e2 (n1 + kk) f2)).setCell ⟨wa.heap.size, 1, none⟩ (.slice g2 0 h2) = s3 at *
        have KA3 : Hid (Calls _ _ _ s3 (Made s3 p)) := Lib.hid (by have := all_any OF.out OL.out (by rw [LP.out]; simp; omega); simpa using this)
        refine KA3.out.mono ?_
        rintro e s4 ⟨v4, rfl, ho4, hb4⟩
        obtain ⟨e4, f4, rfl, -, -, ho4⟩ := ho4.at (n1 + kk) LP.out
        have KM := Lib.hid (sameB ho4.seq (OW.out.below hb4))
        have GB5 := Lib.hid (GB4.out.trans (hb4.mono GB4.out.size))
        have J5 := Lib.hid (J3.out.below hb4)
        have OF5 := Lib.hid (OF.out.below hb4)
        have OL5 := Lib.hid (OL.out.below hb4)
        obtain ⟨y1, y2⟩ := J5.out.cells
        clear ho4 hb4
        go_wp2_with fail
        refine KM.out.mono ?_
        rintro e s5 ⟨rfl, hb5⟩
        have GB6 := Lib.hid (GB5.out.trans (hb5.mono GB5.out.size))
        have J6 := Lib.hid (J5.out.below hb5)
        have OF6 := Lib.hid (OF5.out.below hb5)
        have OL6 := Lib.hid (OL5.out.below hb5)
        clear hb5 y1 y2
        go_wp2_with fail
        go_roundw
        case rel => exact ⟨k + 1, by omega, by go_num, p, [], e2, n1 + kk, f2, g2, 0, h2, GB6.out, J6.out, OF6.out, OL6.out, (by have h1 := LE.out; have h2 := LP.out; have h3 := LF.out; have h4 := LL.out; simp; omega), by omega⟩
        case measure => simp [intOf]; omega
    · have hx : n ≤ k ∨ k = 60 := by omega
      by_cases hx2 : n ≤ k
      · have hxi : (n : Int) ≤ k := by omega
        clear hin hx
        go_wp2_with fail
        go_ret
        exact ⟨rfl, GB.out⟩
      · have hxi : (k : Int) < n := by omega
        obtain rfl : k = 60 := by omega
        clear hin hx hx2
        go_wp2_with fail
        go_ret
        exact ⟨rfl, GB.out⟩

set_option maxRecDepth 100000 in
theorem lifted (os : Os) (started : os.Started) (H : Type) (enc : TypeId × Value → H) :
    ReturnsInHanded {} Try.checked os 4 .any (Rows.diskKeepsSpec.pre6 enc Try.prog Try.f4 Rows.diskKeepsRow.domain false) (Rows.diskKeepsSpec.post enc Try.prog Try.f4 false true false false) := by
  refine returnsInHanded_of_change (C := Try.checked) own started (by kernel_rfl) Try.func4
    (ChangeSpec.witness6 (enc := enc) (C := Try.checked) false ⟨#[], #[.slice none 0 0], []⟩ 8 (by kernel_rfl) (by kernel_rfl) (by kernel_rfl) (by kernel_rfl)) ?_
  intro W base args ds gs before hval0 hW hcnd _
  have hval : ∀ (j : Nat) t v, Try.f4.params[j]? = some t → args[j]? = some v → Value.okWide Try.prog W .any base t v := hval0
  have hW' := hW
  obtain ⟨p, q, hA0, hV, rfl, hfz, hnd⟩ := hW
  have hA : DataW.TrodAll enc Try.prog W 0 (fun _ => true) true Try.f4.params.toList args.toList ds p := hA0
  rw [Try.params4] at hA hval
  obtain ⟨v0, vs0, d0, ds0, p0, q0, hargs, rfl, rfl, h0, r0⟩ := trodAll_cons hA
  obtain ⟨rfl, rfl, rfl⟩ := trodAll_nil r0
  obtain rfl : args = #[v0] := by cases args; simp_all
  obtain ⟨rfl, rfl⟩ := trodVars_none hV
  have k0 := h0
  have lt0 : ∀ x ∈ p0, x.block < W.heap.size := by obtain ⟨m, hm⟩ := k0; exact DataW.trod_lt m _ _ _ hm
  have w0 := open0 (hval 0 40 v0 rfl rfl) h0
  clear hA0 hval0
  refine (walk v0 W w0).mono fun e W' ⟨he, bel⟩ => ?_
  subst he
  exact ⟨_, rfl, _, _, _, [], _, [], hW', trodAll_mk1 (shut_bool Try.underlying4 _), (trodAll_cons_mk (Below.trod laidOut (by kernel_rfl) (of_decide_eq_true (by kernel_rfl)) k0 bel lt0) trodAll_mk0), rfl, bel.frame _, fun h => by cases h⟩

theorem over : Rows.diskKeepsRow.holds Try.pinned (OpenSpec.ofChange Rows.diskKeepsSpec) :=
  OpenClaim.holds_of_wide 4 Try.f4 rfl rfl rfl rfl rfl rfl rfl ⟨rfl, rfl, rfl, rfl, rfl⟩ rfl rfl rfl rfl rfl (by kernel_rfl) Try.func4 (by kernel_rfl)
    (of_decide_eq_true (by kernel_rfl)) (by unfold Func.isWrapper; first | (rw [if_pos (by decide +kernel)]; kernel_rfl) | (rw [if_neg (by decide +kernel)]; exact ⟨rfl, rfl⟩))
    (fun os started H enc _ => lifted os started H enc)

/-- the given statement -/
theorem proved : Rows.DiskKeepsSaid := over
#print axioms proved
end Go.Proofs.Ytldhbhgpdjebaaa.diskKeeps
