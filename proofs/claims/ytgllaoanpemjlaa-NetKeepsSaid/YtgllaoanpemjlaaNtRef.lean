/- What the document's own SamePacket, Same and Short of networks leave. -/
import Derived.Test.YtgllaoanpemjlaaNet
import Derived.Test.YtgllaoanpemjlaaNtSame
import Derived.Deep.Cut
namespace Go.Proofs.Ytgllaoanpemjlaa
open Go.RowKit Plain
set_option linter.unusedVariables false

theorem ppkt_ext {p q : PPkt} (h1 : p.frm = q.frm) (h2 : p.to = q.to) (h3 : p.bytes = q.bytes) : p = q := by
  cases p; cases q
  simp only at h1 h2 h3
  rw [h1, h2, h3]
instance : DecidableEq PPkt := fun p q => if h : p.frm = q.frm ∧ p.to = q.to ∧ p.bytes = q.bytes then .isTrue (ppkt_ext h.1 h.2.1 h.2.2) else .isFalse fun e => h (by rw [e]; exact ⟨rfl, rfl, rfl⟩)
theorem ppkt_dec (p q : PPkt) : decide (p = q) = (decide (p.frm = q.frm) && (decide (p.to = q.to) && decide (p.bytes = q.bytes))) := by
  rw [Bool.eq_iff_iff]
  simp only [Bool.and_eq_true, decide_eq_true_iff]
  exact ⟨fun h => by subst h; exact ⟨rfl, rfl, rfl⟩, fun ⟨h1, h2, h3⟩ => ppkt_ext h1 h2 h3⟩
def shortN1 (x : PPkt) : Bool := decide (x.bytes.length ≤ 1000)
def shortN (l : List PPkt) : Bool := decide (l.length ≤ 70) && l.all shortN1
theorem npair_cells (w : World) (X Y : Array Value) (t u : TypeId) (i : Nat) :
    ((w.alloc (.cells X t)).alloc (.cells Y u)).cell? ⟨w.heap.size, i, none⟩ = X[i]? ∧ ((w.alloc (.cells X t)).alloc (.cells Y u)).cell? ⟨w.heap.size + 1, i, none⟩ = Y[i]? := by
  have s1 : (w.alloc (.cells X t)).heap.size = w.heap.size + 1 := by simp
  have h1 := World.cell?_alloc_new w X t i
  have h2 := World.cell?_alloc_new (w.alloc (.cells X t)) Y u i
  rw [s1] at h2
  have b2 := (Below.refl (w.heap.size + 1) (w.alloc (.cells X t))).alloc (by rw [s1]; exact Nat.le_refl _) (.cells Y u)
  exact ⟨(b2.cell (p := ⟨w.heap.size, i, none⟩) (show w.heap.size < w.heap.size + 1 by omega)).trans h1, h2⟩
theorem nall_true {α : Type} [Inhabited α] {p : α → Bool} {l : List α} (h : ∀ j, j < l.length → p (l.getD j default) = true) : l.all p = true := by
  rw [List.all_eq_true]
  intro x hx
  obtain ⟨j, hj, rfl⟩ := List.getElem_of_mem hx
  have := h j hj
  simpa [List.getD, List.getElem?_eq_getElem hj] using this
theorem nall_false {α : Type} [Inhabited α] {p : α → Bool} {l : List α} {j : Nat} (hj : j < l.length) (h : p (l.getD j default) = false) : l.all p = false := by
  rw [List.all_eq_false]
  refine ⟨l[j], List.getElem_mem hj, ?_⟩
  have e : l.getD j default = l[j] := by simp [List.getD, List.getElem?_eq_getElem hj]
  rw [e] at h
  rw [h]
  decide

set_option maxRecDepth 100000 in
set_option maxHeartbeats 4000000 in
/-- SamePacket -/
theorem rsamePk {u v : Value} {p q : PPkt} {w : World} (hu : IsPkt w u p) (hv : IsPkt w v q) (r : Bool) (hr : decide (p = q) = r) : Calls Try.prog 14 #[u, v] w (GivesB w r) := by
  have HD := Lib.hid (hr.symm.trans (ppkt_dec p q))
  obtain ⟨bv, rfl, sb⟩ := hu
  obtain ⟨bv', rfl, sb'⟩ := hv
  obtain ⟨ba, bn, bc, rfl⟩ : ∃ a n c, bv = .slice a n c := by obtain ⟨a, c, h, -⟩ := sb.parts; exact ⟨a, _, c, h⟩
  obtain ⟨ca, cn, cc, rfl⟩ : ∃ a n c, bv' = .slice a n c := by obtain ⟨a, c, h, -⟩ := sb'.parts; exact ⟨a, _, c, h⟩
  have hb := ((Below.refl w.heap.size w).alloc (Nat.le_refl _) (.cells #[.int .i64 p.frm, .int .i64 p.to, .slice ba bn bc] 27)).alloc (by simp) (.cells #[.int .i64 q.frm, .int .i64 q.to, .slice ca cn cc] 27)
  have PC := fun i => npair_cells w #[.int .i64 p.frm, .int .i64 p.to, .slice ba bn bc] #[.int .i64 q.frm, .int .i64 q.to, .slice ca cn cc] 27 27 i
  have XB : Hid (PktAt ((w.alloc (.cells #[.int .i64 p.frm, .int .i64 p.to, .slice ba bn bc] 27)).alloc (.cells #[.int .i64 q.frm, .int .i64 q.to, .slice ca cn cc] 27)) w.heap.size 0 p (.slice ba bn bc)) := Lib.hid ⟨(PC 0).1, (PC 1).1, (PC 2).1⟩
  have YB : Hid (PktAt ((w.alloc (.cells #[.int .i64 p.frm, .int .i64 p.to, .slice ba bn bc] 27)).alloc (.cells #[.int .i64 q.frm, .int .i64 q.to, .slice ca cn cc] 27)) (w.heap.size + 1) 0 q (.slice ca cn cc)) := Lib.hid ⟨(PC 0).2, (PC 1).2, (PC 2).2⟩
  have G := Lib.hid hb
  have SB := Lib.hid (by_of (sb.below hb))
  have SB' := Lib.hid (by_of (sb'.below hb))
  clear sb sb' PC hb hr
  go_enter Try.func14, Try.ntmps14
  go_upto_region 1 with fail
  generalize ((w.alloc (.cells #[.int .i64 p.frm, .int .i64 p.to, .slice ba bn bc] 27)).alloc (.cells #[.int .i64 q.frm, .int .i64 q.to, .slice ca cn cc] 27)) = w1 at *
  obtain ⟨x0, x1, x2⟩ := XB.out
  obtain ⟨y0, y1, y2⟩ := YB.out
  simp only [Nat.zero_add] at x1 x2 y1 y2
  by_cases h1 : p.frm = q.frm
  rotate_left
  · have b1 : (p.frm == q.frm) = false := beq_false_of_ne h1
    obtain rfl : r = false := by rw [HD.out, decide_eq_false h1]; rfl
    clear HD h1
    go_wp2_with fail
    go_ret
    exact ⟨rfl, G.out⟩
  have b1 : (p.frm == q.frm) = true := beq_iff_eq.2 h1
  rw [decide_eq_true h1, Bool.true_and] at HD
  by_cases h2 : p.to = q.to
  rotate_left
  · have b2 : (p.to == q.to) = false := beq_false_of_ne h2
    obtain rfl : r = false := by rw [HD.out, decide_eq_false h2]; rfl
    clear HD h1 h2
    go_wp2_with fail
    go_ret
    exact ⟨rfl, G.out⟩
  have b2 : (p.to == q.to) = true := beq_iff_eq.2 h2
  rw [decide_eq_true h2, Bool.true_and] at HD
  have K := rsameBys SB.out SB'.out r HD.out.symm
  clear h1 h2 HD
  go_wp2_with fail
  refine K.mono ?_
  rintro e w2 ⟨rfl, hb2⟩
  have G2 := Lib.hid (G.out.trans (hb2.mono G.out.size))
  clear hb2
  go_wp2_with fail
  go_ret
  exact ⟨rfl, G2.out⟩

set_option maxRecDepth 100000 in
set_option maxHeartbeats 4000000 in
/-- Short -/
theorem rshortN {v : Value} {l : List PPkt} {w : World} (hv : IsNet w v l) (r : Bool) (hr : shortN l = r) : Calls Try.prog 7 #[v] w (GivesB w r) := by
  obtain ⟨sv, rfl, hv⟩ := hv
  have HF := Lib.hid (fun j (hj : j < l.length) h => nall_false (p := shortN1) hj h)
  have HT := Lib.hid (fun h => nall_true (p := shortN1) (l := l) h)
  have RR : Hid ((decide (l.length ≤ 70) && l.all shortN1) = r) := Lib.hid hr
  obtain ⟨a, cap, rfl, g1, g2, g0, h⟩ := hv.parts
  obtain ⟨n, hN⟩ : ∃ n, l.length = n := ⟨_, rfl⟩
  rw [hN] at h g1 HF HT RR ⊢
  have LN := Lib.hid hN
  have hb := (Below.refl w.heap.size w).alloc (Nat.le_refl _) (.cells #[.slice a n cap] 24)
  have C0 : Hid ((w.alloc (.cells #[.slice a n cap] 24)).cell? ⟨w.heap.size, 0, none⟩ = some (.slice a n cap)) := Lib.hid (World.cell?_alloc_new w #[.slice a n cap] 24 0)
  have Z1 : Hid (w.heap.size < (w.alloc (.cells #[.slice a n cap] 24)).heap.size) := Lib.hid (by simp)
  have G := Lib.hid hb
  have HS := Lib.hid (h.below hb)
  clear hv h g0 hN hr hb
  go_enter Try.func7, Try.ntmps7
  go_upto_region 1 with fail
  generalize (w.alloc (.cells #[.slice a n cap] 24)) = w1 at *
  have c0 := C0.out
  by_cases h70 : n ≤ 70
  rotate_left
  · have hg : (70 : Int) < (n : Int) := by omega
    obtain rfl : r = false := by rw [← RR.out, decide_eq_false h70]; rfl
    clear RR h70
    go_wp2_with fail
    go_ret
    exact ⟨rfl, G.out⟩
  rw [decide_eq_true h70, Bool.true_and] at RR
  have hg : ¬ (70 : Int) < (n : Int) := by omega
  go_wp2_with fail
  go_loopw [3] (fun i wr => wr = w1 ∧ ∃ k : Nat, k ≤ n ∧ i = .int .i64 k ∧ (∀ j, j < k → shortN1 (l.getD j default) = true)) (fun i _ => n - (intOf i).toNat)
  case atStart => exact ⟨rfl, 0, Nat.zero_le _, rfl, fun j hj => absurd hj (by omega)⟩
  case round =>
    obtain ⟨rfl, k, hk, rfl, hall⟩ := hrel
    have HA := Lib.hid hall
    clear hall
    have c0 := C0.out
    by_cases hlt : k < n
    · obtain ⟨b, o, c, hv, -, -, -, hc⟩ := pkts_spot HS.out (by rw [LN.out]; omega)
      rw [LN.out] at hv
      simp only [Value.slice.injEq] at hv
      obtain ⟨rfl, -, rfl⟩ := hv
      obtain ⟨bv, TA, SD⟩ := hc k (by rw [LN.out]; exact hlt)
      have HFK := Lib.hid (HF.out k hlt)
      have HX : Hid (shortN1 (l.getD k default) = true → ∀ j, j < k + 1 → shortN1 (l.getD j default) = true) := Lib.hid (fun h j hj => by
        by_cases e : j = k
        · rw [e]; exact h
        · exact HA.out j (by omega))
      have HD : Hid (shortN1 (l.getD k default) = decide ((l.getD k default).bytes.length ≤ 1000)) := Lib.hid rfl
      clear hc
      generalize shortN1 (l.getD k default) = st at *
      generalize l.getD k default = x at *
      obtain ⟨da, dc, rfl, gd1, gd2, -, -⟩ := SD.parts
      obtain ⟨x0, x1, x2⟩ := TA
      clear SD
      generalize x.bytes.length = dn at *
      by_cases h60 : dn ≤ 1000
      · have hg1 : ¬ (1000 : Int) < (dn : Int) := by omega
        have HU := Lib.hid (HX.out (by rw [HD.out, decide_eq_true h60]))
        clear RR HFK HX HD h60
        go_wp2_with fail
        go_roundw
        case rel => exact ⟨by trivial, k + 1, by omega, by go_num, HU.out⟩
        case measure => simp [intOf]; omega
      · have hg1 : (1000 : Int) < (dn : Int) := by omega
        have HU := HFK.out (by rw [HD.out, decide_eq_false h60])
        obtain rfl : r = false := by rw [← RR.out]; exact HU
        clear HU RR HFK HX HD h60
        go_wp2_with fail
        go_ret
        exact ⟨rfl, G.out⟩
    · obtain rfl : k = n := by omega
      obtain rfl : r = true := by rw [← RR.out]; exact HT.out HA.out
      clear RR HF HT
      go_wp2_with fail
      go_ret
      exact ⟨rfl, G.out⟩
end Go.Proofs.Ytgllaoanpemjlaa
