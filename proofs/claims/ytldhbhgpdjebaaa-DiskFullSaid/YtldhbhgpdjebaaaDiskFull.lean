/-
  For any three numbers the law DiskFull answers true: a disk takes just as many bytes as there may be. No condition.
  (The frame was written by the guide's proof-skeleton.mjs; the walk is ours.)
-/
import Derived.Test.YtldhbhgpdjebaaaRows
import Derived.WalkKit
import Derived.ProofKit
import Derived.OpenShut
import Derived.ShutString
import Derived.Test.YtldhbhgpdjebaaaAwakeD
import Derived.Test.YtldhbhgpdjebaaaMake
import Derived.Deep.DeepCutAuto
import Derived.Deep.RegionHeld3
import Derived.Laws.MakeOwn
import Derived.Below
import Derived.ChangeOld
namespace Go.Proofs.Ytldhbhgpdjebaaa.diskFull
open Go.ChangeShapes Go.WideShapes Go.ChangeAt Go.RowKit
open Go.ChangeMaps (open_string shut_string)
set_option linter.unusedVariables false      -- a walk need not use every 'w<i>' (that an integer argument fits its kind)

theorem own : ownKnob Try.prog.godebug = none := by kernel_rfl
theorem laidOut : laidOutB Try.prog = true := by kernel_rfl

open Plain

/-- n noughts, behind a name -/
def zrow (n : Nat) : Array Value := madeCells #[.int .u8 0] n
theorem run_mk (n : Nat) (hn : n ≤ 16777216) (w : World) : (Instr.makeSlice 22 (.int .i64 (n : Int)) (.int .i64 (n : Int))).run Try.prog w = .ok (.slice (some ⟨w.heap.size, 0, none⟩) n n) (w.alloc (.cells (zrow n) 5)) := by
  obtain ⟨i0, hi, hz0, hz1, hz2⟩ := info_parts info2'
  have h := run_make (P := Try.prog) w 22 5 i0 (.int .u8 0) Try.underlying22 hi hz0 .i64 .i64 n n (by omega) (by omega) (by rw [hz2]; omega) (by omega)
  simp only [Int.toNat_natCast, hz1, Nat.mul_one] at h
  exact h
theorem zrow_seq {w : World} {g n : Nat} (h : w.heap[g]? = some (.cells (zrow n) 5 (0, 0))) (hn : n ≤ 16777216) : Seq w (.slice (some ⟨g, 0, none⟩) n n) (List.replicate n 0#8) := by
  refine ⟨_, n, by rw [List.length_replicate], by rw [List.length_replicate]; exact Nat.le_refl _, by unfold maxLen; omega, (by simp), fun _ => ⟨g, 0, rfl, fun j hj => ?_⟩⟩
  rw [List.length_replicate] at hj
  rw [cell_of_row _ g (0 + j) _ _ _ h, Nat.zero_add, ← Array.getElem?_toList]
  unfold zrow
  rw [toList_madeCells_one]
  simp [hj, List.getD, bv]

def Two (f l : Nat) (w : World) (g a b : Nat) (wx : World) : Prop := wx.cell? ⟨g, 0, none⟩ = some (.slice (some ⟨a, 0, none⟩) f f) ∧ wx.cell? ⟨g, 1, none⟩ = some (.slice (some ⟨b, 0, none⟩) l l) ∧ wx.heap[a]? = some (.cells (zrow f) 5 (0, 0)) ∧ wx.heap[b]? = some (.cells (zrow l) 5 (0, 0)) ∧ Below w.heap.size w wx
theorem two_of {f l : Nat} {w : World} {g a b : Nat} {W : World} (hg : W.heap[g]? = some (.cells #[.slice (some ⟨a, 0, none⟩) f f, .slice (some ⟨b, 0, none⟩) l l] 24 (0, 0))) (ha : W.heap[a]? = some (.cells (zrow f) 5 (0, 0))) (hb : W.heap[b]? = some (.cells (zrow l) 5 (0, 0))) (hB : Below w.heap.size w W) : Two f l w g a b W :=
  ⟨cell_of_row _ _ 0 _ _ _ hg, cell_of_row _ _ 1 _ _ _ hg, ha, hb, hB⟩
theorem below3 {w u : World} (h : Below w.heap.size w u) (x y z : Obj) : Below w.heap.size w (((u.alloc x).alloc y).alloc z).drew :=
  (((h.alloc h.size _).alloc (by have := h.size; simp; omega) _).alloc (by have := h.size; simp; omega) _).drew

set_option maxRecDepth 100000 in
set_option maxHeartbeats 4000000 in
theorem bad (a0 a1 a2 : Int) (w : World) (w0 : (Lit.int .i64 a0).wf = true) (w1 : (Lit.int .i64 a1).wf = true) (w2 : (Lit.int .i64 a2).wf = true) (h : ¬ (0 ≤ a0 ∧ 0 ≤ a1 ∧ 0 ≤ a2 ∧ a0 ≤ 4194304 ∧ a1 ≤ 4194304 - a0 ∧ a2 ≤ 1000)) :
    Calls Try.prog 5 #[.int .i64 a0, .int .i64 a1, .int .i64 a2] w fun e w' => e = .returned (.bool true) ∧ Below w.heap.size w w' := by
  have KA := Lib.hid (awake_any w)
  have H := Lib.hid h
  have b0 := i64_in w0
  have b1 := i64_in w1
  have b2 := i64_in w2
  clear h w0 w1 w2
  by_cases h0 : a0 < 0
  · go_enter Try.func5, Try.ntmps5
    go_wp2_with fail
    refine KA.out.mono ?_
    rintro e u1 ⟨rfl, hg1⟩
    go_wp2_with fail
    go_ret
    exact ⟨rfl, hg1⟩
  · go_enter Try.func5, Try.ntmps5
    go_wp2_with fail
    refine KA.out.mono ?_
    rintro e u1 ⟨rfl, hg1⟩
    go_wp2_with fail
    all_goals first | (go_ret; exact ⟨rfl, hg1⟩) | (exfalso; have hh := H.out; omega)

set_option maxRecDepth 100000 in
set_option maxHeartbeats 8000000 in
theorem walk_ok (f l m : Nat) (w : World) (hf : f + l ≤ 4194304) (hm : m ≤ 1000) :
    Calls Try.prog 5 #[.int .i64 f, .int .i64 l, .int .i64 m] w fun e w' => e = .returned (.bool true) ∧ Below w.heap.size w w' := by
  have KA := Lib.hid (awake_any w)
  have mk1 := run_mk f (by omega)
  have mk2 := run_mk l (by omega)
  have mk3 := run_mk m (by omega)
  have ZS : Hid (∀ (u : World) (g n : Nat), n ≤ 4194304 → u.heap[g]? = some (.cells (zrow n) 5 (0, 0)) → _) := Lib.hid (fun u g n hn h => zrow_seq h (by omega))
  have e0 : (0 : Int) ≤ f := by omega
  have e1 : (0 : Int) ≤ l := by omega
  have e2 : (0 : Int) ≤ m := by omega
  have e3 : (f : Int) ≤ 4194304 := by omega
  have e4 : (l : Int) ≤ 4194304 - f := by omega
  have e5 : (m : Int) ≤ 1000 := by omega
  have HF := Lib.hid hf
  have HM := Lib.hid hm
  clear hf hm
  go_enter Try.func5, Try.ntmps5
  go_wp2_with fail
  refine KA.out.mono ?_
  rintro e u1 ⟨rfl, hg1⟩
  have G1 := Lib.hid hg1
  clear hg1
  go_upto_region 5 with fail
  go_cut [7] (fun s7 wx => ∃ g a b : Nat, s7 = .pointer (some ⟨g, 0, none⟩) ∧ Two f l w g a b wx)
  case first =>
    go_region
    all_goals (go_wp2_with fail; go_meet)
    · exact ⟨_, _, _, rfl, two_of (three u1 _ _ _).2.2 (three u1 _ _ _).1 (three u1 _ _ _).2.1 (below3 G1.out _ _ _)⟩
    · exact ⟨_, _, _, rfl, two_of (three u1 _ _ _).2.1 (three u1 _ _ _).1 (three u1 _ _ _).2.2 (below3 G1.out _ _ _)⟩
    · exact ⟨_, _, _, rfl, two_of (three u1 _ _ _).2.2 (three u1 _ _ _).2.1 (three u1 _ _ _).1 (below3 G1.out _ _ _)⟩
    · exact ⟨_, _, _, rfl, two_of (three u1 _ _ _).2.1 (three u1 _ _ _).2.2 (three u1 _ _ _).1 (below3 G1.out _ _ _)⟩
    · exact ⟨_, _, _, rfl, two_of (three u1 _ _ _).1 (three u1 _ _ _).2.1 (three u1 _ _ _).2.2 (below3 G1.out _ _ _)⟩
    · exact ⟨_, _, _, rfl, two_of (three u1 _ _ _).1 (three u1 _ _ _).2.2 (three u1 _ _ _).2.1 (below3 G1.out _ _ _)⟩
  case rest =>
    obtain ⟨g, a, b, rfl, h0, h1, h2, h3, hB⟩ := hcut
    have la : a < wc.heap.size := (Array.getElem?_eq_some_iff.1 h2).1
    have lb : b < wc.heap.size := (Array.getElem?_eq_some_iff.1 h3).1
    have KF : Hid (∀ u, Below wc.heap.size wc u → Seq u (.slice (some ⟨a, 0, none⟩) f f) (List.replicate f 0#8) ∧ Seq u (.slice (some ⟨b, 0, none⟩) l l) (List.replicate l 0#8)) :=
      Lib.hid (fun u hu => ⟨zrow_seq ((hu.block a la).trans h2) (by have := HF.out; omega), zrow_seq ((hu.block b lb).trans h3) (by have := HF.out; omega)⟩)
    have GX := Lib.hid hB
    clear h2 h3 hB la lb
    go_wp2_with fail
    by_cases hfit : f + l + m ≤ 4194304
    · have KW : Hid (∀ (u : World) (k : Nat), Below wc.heap.size wc u → Seq u (.slice (some ⟨k, 0, none⟩) m m) (List.replicate m 0#8) → _) := Lib.hid (fun u k hu hm => write_ok (KF.out u hu).1 (KF.out u hu).2 hm (by simp only [List.length_replicate]; exact hfit))
      go_cut [8, 9] (fun s8 s9 wy => ∃ (g2 : Nat) (x y : Option Addr) (c d : Nat), s8 = .pointer (some ⟨g2, 0, none⟩) ∧ s9 = .int .i64 0 ∧ wy.cell? ⟨g2, 0, none⟩ = some (.slice x f c) ∧ wy.cell? ⟨g2, 1, none⟩ = some (.slice y (l + m) d) ∧ Below w.heap.size w wy)
      case first =>
        have hgl : g < wc.heap.size := World.block_lt_of_cell? wc _ h0
        go_region_held3 (fun w' => Below wc.heap.size wc w' ∧ w'.cell? ⟨g, 0, none⟩ = some (.slice (some ⟨a, 0, none⟩) f f) ∧ w'.cell? ⟨g, 1, none⟩ = some (.slice (some ⟨b, 0, none⟩) l l))
          (first | (exact ⟨(Below.refl _ _).drew, h0, h1⟩) | (exact keepB hk ((Below.refl _ _).alloc (Nat.le_refl _) _)) | (exact keepB (by assumption) ((Below.refl _ _).alloc (Nat.le_refl _) _)) | (exact keepB (by assumption) hb) | (exact keepBS _ _ hk (by simp) (by simp) hgl hgl))
          (first
            | (go_at_call 9; refine (KW.out _ _ ?_ ?_).mono ?_; exact (by assumption : _ ∧ _).1; exact zrow_seq (by exact heap_new2 wc (.cells #[.slice none 0 0, .slice none 0 0] 24) _) (by have := HM.out; omega); rintro e u2 ⟨v2, x2, rfl, ho2, hx2, hb⟩; have hk := keepB (by assumption) hb; obtain ⟨y1, y2, y3, y4⟩ := box_cells (k := wc.heap.size) (by exact heap_old2 wc _ _) hb (by simp; omega); obtain ⟨b2, d2, rfl, -, -, ho2⟩ := ho2.at f (by simp); obtain ⟨b3, d3, rfl, -, -, hx2⟩ := hx2.at (l + m) (by simp))
            | (go_at_call 9; refine (KW.out _ _ ?_ ?_).mono ?_; exact (by assumption : _ ∧ _).1; exact zrow_seq (by exact heap_old2 wc _ (.cells #[.slice none 0 0, .slice none 0 0] 24)) (by have := HM.out; omega); rintro e u2 ⟨v2, x2, rfl, ho2, hx2, hb⟩; have hk := keepB (by assumption) hb; obtain ⟨y1, y2, y3, y4⟩ := box_cells (k := wc.heap.size + 1) (by exact heap_new2 wc _ _) hb (by simp); obtain ⟨b2, d2, rfl, -, -, ho2⟩ := ho2.at f (by simp); obtain ⟨b3, d3, rfl, -, -, hx2⟩ := hx2.at (l + m) (by simp))
            | (go_at_call 9; refine (KW.out _ _ ?_ ?_).mono ?_; exact (by assumption : _ ∧ _).1; exact zrow_seq (by exact heap_alloc_new wc.drew _) (by have := HM.out; omega); rintro e u2 ⟨v2, x2, rfl, ho2, hx2, hb⟩; have hk := keepB (by assumption) hb; obtain ⟨b2, d2, rfl, -, -, ho2⟩ := ho2.at f (by simp); obtain ⟨b3, d3, rfl, -, -, hx2⟩ := hx2.at (l + m) (by simp)))
        all_goals (go_wp2_with fail; go_meet)
        · exact ⟨_, b2, b3, d2, d3, rfl, rfl, by simp, by simp, (GX.out.trans (hk.1.mono GX.out.size)).alloc (GX.out.trans (hk.1.mono GX.out.size)).size _⟩
        · have C := stored2' (a := .slice b2 f d2) (b := .slice b3 (l + m) d3) y1 y2 (by simp)
          exact ⟨_, _, _, _, _, rfl, rfl, C.1, C.2, ((GX.out.trans (hk.1.mono GX.out.size)).setCell (by have := GX.out.size; simp; omega) _).setCell (by have := GX.out.size; simp; omega) _⟩
        · have C := stored2' (a := .slice b2 f d2) (b := .slice b3 (l + m) d3) y1 y2 (by simp)
          exact ⟨_, _, _, _, _, rfl, rfl, C.1, C.2, ((GX.out.trans (hk.1.mono GX.out.size)).setCell (by have := GX.out.size; simp; omega) _).setCell (by have := GX.out.size; simp; omega) _⟩
      case rest =>
        obtain ⟨g2, x, y, c, d, rfl, rfl, c1, c2, hB⟩ := hcut
        have ei : (f : Int) + l + m ≤ 4194304 := by omega
        clear hfit
        go_wp2_with fail
        go_ret
        exact ⟨rfl, hB⟩
    · have KW : Hid (∀ (u : World) (k : Nat), Below wc.heap.size wc u → Seq u (.slice (some ⟨k, 0, none⟩) m m) (List.replicate m 0#8) → _) := Lib.hid (fun u k hu hm => write_full (a1 := some ⟨a, 0, none⟩) (a2 := some ⟨b, 0, none⟩) (a3 := some ⟨k, 0, none⟩) (c1 := f) (c2 := l) (c3 := m) (w := u) (by have := HF.out; omega : f ≤ 1073741824) (by have := HF.out; omega : l ≤ 1073741824) (by have := HM.out; omega : m ≤ 1073741824) (by omega))
      go_cut [8, 9] (fun s8 s9 wy => ∃ (g2 : Nat), s8 = .pointer (some ⟨g2, 0, none⟩) ∧ s9 = .int .i64 6 ∧ wy.cell? ⟨g2, 0, none⟩ = some (.slice none 0 0) ∧ wy.cell? ⟨g2, 1, none⟩ = some (.slice none 0 0) ∧ Below w.heap.size w wy)
      case first =>
        have hgl : g < wc.heap.size := World.block_lt_of_cell? wc _ h0
        go_region_held3 (fun w' => Below wc.heap.size wc w' ∧ w'.cell? ⟨g, 0, none⟩ = some (.slice (some ⟨a, 0, none⟩) f f) ∧ w'.cell? ⟨g, 1, none⟩ = some (.slice (some ⟨b, 0, none⟩) l l))
          (first | (exact ⟨(Below.refl _ _).drew, h0, h1⟩) | (exact keepB hk ((Below.refl _ _).alloc (Nat.le_refl _) _)) | (exact keepB (by assumption) ((Below.refl _ _).alloc (Nat.le_refl _) _)) | (exact keepB (by assumption) hb) | (exact keepBS _ _ hk (by simp) (by simp) hgl hgl))
          (first
            | (go_at_call 9; refine (KW.out _ _ ?_ ?_).mono ?_; exact (by assumption : _ ∧ _).1; exact zrow_seq (by exact heap_new2 wc (.cells #[.slice none 0 0, .slice none 0 0] 24) _) (by have := HM.out; omega); rintro e u2 ⟨rfl, hb⟩; have hk := keepB (by assumption) hb; obtain ⟨y1, y2, y3, y4⟩ := box_cells (k := wc.heap.size) (by exact heap_old2 wc _ _) hb (by simp; omega))
            | (go_at_call 9; refine (KW.out _ _ ?_ ?_).mono ?_; exact (by assumption : _ ∧ _).1; exact zrow_seq (by exact heap_old2 wc _ (.cells #[.slice none 0 0, .slice none 0 0] 24)) (by have := HM.out; omega); rintro e u2 ⟨rfl, hb⟩; have hk := keepB (by assumption) hb; obtain ⟨y1, y2, y3, y4⟩ := box_cells (k := wc.heap.size + 1) (by exact heap_new2 wc _ _) hb (by simp))
            | (go_at_call 9; refine (KW.out _ _ ?_ ?_).mono ?_; exact (by assumption : _ ∧ _).1; exact zrow_seq (by exact heap_alloc_new wc.drew _) (by have := HM.out; omega); rintro e u2 ⟨rfl, hb⟩; have hk := keepB (by assumption) hb))
        all_goals (go_wp2_with fail; go_meet)
        · exact ⟨_, rfl, rfl, by simp, by simp, (GX.out.trans (hk.1.mono GX.out.size)).alloc (GX.out.trans (hk.1.mono GX.out.size)).size _⟩
        · have C := stored2' (a := .slice none 0 0) (b := .slice none 0 0) y1 y2 (by simp)
          exact ⟨_, rfl, rfl, C.1, C.2, ((GX.out.trans (hk.1.mono GX.out.size)).setCell (by have := GX.out.size; simp; omega) _).setCell (by have := GX.out.size; simp; omega) _⟩
        · have C := stored2' (a := .slice none 0 0) (b := .slice none 0 0) y1 y2 (by simp)
          exact ⟨_, rfl, rfl, C.1, C.2, ((GX.out.trans (hk.1.mono GX.out.size)).setCell (by have := GX.out.size; simp; omega) _).setCell (by have := GX.out.size; simp; omega) _⟩
      case rest =>
        obtain ⟨g2, rfl, rfl, c1, c2, hB⟩ := hcut
        have ei : (4194304 : Int) < (f : Int) + l + m := by omega
        clear hfit
        go_wp2_with fail
        go_ret
        exact ⟨rfl, hB⟩

theorem walk (a0 a1 a2 : Int) (w : World) (w0 : (Lit.int .i64 a0).wf = true) (w1 : (Lit.int .i64 a1).wf = true) (w2 : (Lit.int .i64 a2).wf = true) :
    Calls Try.prog 5 #[.int .i64 a0, .int .i64 a1, .int .i64 a2] w fun e w' => e = .returned (.bool true) ∧ Below w.heap.size w w' := by
  by_cases h : 0 ≤ a0 ∧ 0 ≤ a1 ∧ 0 ≤ a2 ∧ a0 ≤ 4194304 ∧ a1 ≤ 4194304 - a0 ∧ a2 ≤ 1000
  · obtain ⟨h0, h1, h2, h3, h4, h5⟩ := h
    obtain ⟨f, rfl⟩ := Int.eq_ofNat_of_zero_le h0
    obtain ⟨l, rfl⟩ := Int.eq_ofNat_of_zero_le h1
    obtain ⟨m, rfl⟩ := Int.eq_ofNat_of_zero_le h2
    exact walk_ok f l m w (by omega) (by omega)
  · exact bad a0 a1 a2 w w0 w1 w2 h

set_option maxRecDepth 100000 in
theorem lifted (os : Os) (started : os.Started) (H : Type) (enc : TypeId × Value → H) :
    ReturnsInHanded {} Try.checked os 5 .any (Rows.diskFullSpec.pre6 enc Try.prog Try.f5 Rows.diskFullRow.domain false) (Rows.diskFullSpec.post enc Try.prog Try.f5 false true false false) := by
  refine returnsInHanded_of_change (C := Try.checked) own started (by kernel_rfl) Try.func5
    (ChangeSpec.witness6 (enc := enc) (C := Try.checked) false ⟨#[], #[.int .i64 0, .int .i64 0, .int .i64 0], []⟩ 8 (by kernel_rfl) (by kernel_rfl) (by kernel_rfl) (by kernel_rfl)) ?_
  intro W base args ds gs before hval0 hW hcnd _
  have hval : ∀ (j : Nat) t v, Try.f5.params[j]? = some t → args[j]? = some v → Value.okWide Try.prog W .any base t v := hval0
  have hW' := hW
  obtain ⟨p, q, hA0, hV, rfl, hfz, hnd⟩ := hW
  have hA : DataW.TrodAll enc Try.prog W 0 (fun _ => true) true Try.f5.params.toList args.toList ds p := hA0
  rw [Try.params5] at hA hval
  obtain ⟨v0, vs0, d0, ds0, p0, q0, hargs, rfl, rfl, h0, r0⟩ := trodAll_cons hA
  obtain ⟨v1, vs1, d1, ds1, p1, q1, rfl, rfl, rfl, h1, r1⟩ := trodAll_cons r0
  obtain ⟨v2, vs2, d2, ds2, p2, q2, rfl, rfl, rfl, h2, r2⟩ := trodAll_cons r1
  obtain ⟨rfl, rfl, rfl⟩ := trodAll_nil r2
  obtain rfl : args = #[v0, v1, v2] := by cases args; simp_all
  obtain ⟨rfl, rfl⟩ := trodVars_none hV
  obtain ⟨a0, rfl, rfl, rfl, w0⟩ := open_int Try.underlying3 (hval 0 3 v0 rfl rfl) h0
  obtain ⟨a1, rfl, rfl, rfl, w1⟩ := open_int Try.underlying3 (hval 1 3 v1 rfl rfl) h1
  obtain ⟨a2, rfl, rfl, rfl, w2⟩ := open_int Try.underlying3 (hval 2 3 v2 rfl rfl) h2
  clear hA0 hval0
  refine (walk a0 a1 a2 W w0 w1 w2).mono fun e W' ⟨he, bel⟩ => ?_
  subst he
  exact ⟨_, rfl, _, _, _, [], _, [], hW', trodAll_mk1 (shut_bool Try.underlying4 _), (trodAll_cons_mk (shut_int Try.underlying3 w0) (trodAll_cons_mk (shut_int Try.underlying3 w1) (trodAll_cons_mk (shut_int Try.underlying3 w2) trodAll_mk0))), rfl, bel.frame _, fun h => by cases h⟩

theorem over : Rows.diskFullRow.holds Try.pinned (OpenSpec.ofChange Rows.diskFullSpec) :=
  OpenClaim.holds_of_wide 5 Try.f5 rfl rfl rfl rfl rfl rfl rfl ⟨rfl, rfl, rfl, rfl, rfl⟩ rfl rfl rfl rfl rfl (by kernel_rfl) Try.func5 (by kernel_rfl)
    (of_decide_eq_true (by kernel_rfl)) (by unfold Func.isWrapper; first | (rw [if_pos (by decide +kernel)]; kernel_rfl) | (rw [if_neg (by decide +kernel)]; exact ⟨rfl, rfl⟩))
    (fun os started H enc _ => lifted os started H enc)

/-- the given statement -/
theorem proved : Rows.DiskFullSaid :=
  over
#print axioms proved
end Go.Proofs.Ytldhbhgpdjebaaa.diskFull
