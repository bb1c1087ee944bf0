/- What stage 11's walks call of layers 8 and 9, a small list; the law's own function awake. (Written by gen-awake.py.) -/
import Derived.Test.YtpkmjddjllpglaaVwCon
import Derived.Test.YtpkmjddjllpglaaRefP
import Derived.Test.YtpkmjddjllpglaaOpenZ
namespace Go.Proofs.Ytpkmjddjllpglaa
open Go.RowKit Plain
set_option linter.unusedVariables false

theorem fits_of {n : Int} (h : (Lit.int .i64 n).wf = true) : Nm.Plain.fits n := i64_in h
/-- a list that is looked at -/
def FitV (l : List PItem) : Prop := l.length ≤ 100 ∧ ∀ x ∈ l, Nm.Plain.fits x.n
theorem fitV_of {l : List PItem} (h : shortI l = true) (q : ∀ x ∈ l, itemOk x) : FitV l := ⟨by have := (shortI_iff.1 h).1; omega, fun x hx => fits_of (q x hx).2.1⟩
theorem rshortIB {u : Value} {xs : List PItem} {w : World} {r : Bool} (hu : SeqE LItem w u xs) (e : shortI xs = r) : Calls Try.prog 8 #[u] w (GivesB w r) := by
  rw [← e]
  exact (rshortI_any hu).mono fun _ _ ⟨h, hw⟩ => ⟨h, below_of_same hw⟩
theorem rshortTB {u : Value} {xs : List Txt} {w : World} {r : Bool} (hu : SeqT w u xs) (e : shortB xs = r) : Calls Try.prog 9 #[u] w (GivesB w r) := by
  rw [← e]
  exact (rshort_any hu).mono fun _ _ ⟨h, hw⟩ => ⟨h, below_of_same hw⟩
theorem ronceS {u : Value} {xs : List Txt} {w : World} (hu : SeqT w u xs) (hn : xs.length ≤ 1000000) : Calls Try.prog 21 #[u] w (GivesT w (once xs)) := (ronce_any hu hn).mono fun _ _ h => h.gives
theorem vfieldS (key field : Txt) {v : Value} {l : List PItem} {w : World} (hv : SeqE LItem w v l) (hl : FitV l) : Calls Try.prog 11 #[v, .string (bt key), .string (bt field)] w (GivesV w (vfield l key field)) := vfieldP_any key field hv (by have := hl.1; omega) hl.2
theorem vfieldsS (key : Txt) {v : Value} {l : List PItem} {w : World} (hv : SeqE LItem w v l) (hl : FitV l) : Calls Try.prog 15 #[v, .string (bt key)] w (GivesT w (vfields l key)) := vfieldsP_any key hv (by have := hl.1; omega)
theorem vsameB {u v : Value} {p q : PVal} {w : World} {r : Bool} (hu : IsVal w u p) (hv : IsVal w v q) (e : decide (p = q) = r) : Calls Try.prog 17 #[u, v] w (GivesB w r) := by
  rw [← e]
  exact vsameP_any hu hv
theorem vemptyB {u : Value} {p : PVal} {w : World} {r : Bool} (hu : IsVal w u p) (e : vempty p = r) : Calls Try.prog 18 #[u] w (GivesB w r) := by
  rw [← e]
  exact vemptyP_any hu

def vwA : PItem := ⟨[97], [], 2, [120], 0, ⟨0, 0, 0⟩⟩
def vwB : PItem := ⟨[97], [], 2, [98], 0, ⟨0, 0, 0⟩⟩
def vwC : PItem := ⟨[97], [], 3, [], 4, ⟨0, 0, 0⟩⟩
def vwV : PVal := ⟨[], [[98], [120]], 4, false⟩
theorem vw_field : vfield [vwA, vwB, vwC] [97] [] = vwV := by decide +kernel
theorem vw_empty : vempty vwV = false := by decide +kernel
theorem vw_fit : FitV [vwA, vwB, vwC] := ⟨by simp, fun x hx => by
  simp only [List.mem_cons, List.not_mem_nil, or_false] at hx
  rcases hx with rfl | rfl | rfl <;> exact ⟨by decide, by decide⟩⟩
theorem vw_lit (w : World) : SeqE LItem (w.alloc (.cells #[.string ⟨#[97]⟩, .string ⟨#[]⟩, .int .i64 2, .string ⟨#[120]⟩, .int .i64 0, .int .i64 0, .int .i64 0, .int .i64 0, .string ⟨#[97]⟩, .string ⟨#[]⟩, .int .i64 2, .string ⟨#[98]⟩, .int .i64 0, .int .i64 0, .int .i64 0, .int .i64 0, .string ⟨#[97]⟩, .string ⟨#[]⟩, .int .i64 3, .string ⟨#[]⟩, .int .i64 4, .int .i64 0, .int .i64 0, .int .i64 0] 40)) (.slice (some ⟨w.heap.size, 0, none⟩) 3 3) [vwA, vwB, vwC] :=
  SeqE.lit w #[.string ⟨#[97]⟩, .string ⟨#[]⟩, .int .i64 2, .string ⟨#[120]⟩, .int .i64 0, .int .i64 0, .int .i64 0, .int .i64 0, .string ⟨#[97]⟩, .string ⟨#[]⟩, .int .i64 2, .string ⟨#[98]⟩, .int .i64 0, .int .i64 0, .int .i64 0, .int .i64 0, .string ⟨#[97]⟩, .string ⟨#[]⟩, .int .i64 3, .string ⟨#[]⟩, .int .i64 4, .int .i64 0, .int .i64 0, .int .i64 0] [vwA, vwB, vwC] (((Rows.of_one (L := LItem) (vs := cellsIt vwA) (x := vwA) rfl).append ((Rows.of_one (L := LItem) (vs := cellsIt vwB) (x := vwB) rfl).append (Rows.of_one (L := LItem) (vs := cellsIt vwC) (x := vwC) rfl)))) (by simp)
theorem vw_texts (w : World) : SeqT (w.alloc (.cells #[.string ⟨#[98]⟩, .string ⟨#[120]⟩] 9)) (.slice (some ⟨w.heap.size, 0, none⟩) 2 2) [[98], [120]] := by
  refine ⟨_, 2, rfl, Nat.le_refl _, by unfold maxLen; simp, (by simp), fun _ => ⟨w.heap.size, 0, rfl, fun j hj => ?_⟩⟩
  rw [Nat.zero_add]
  have := World.cell?_alloc_new w #[.string ⟨#[98]⟩, .string ⟨#[120]⟩] 9 j
  rw [this]
  match j, hj with
  | 0, _ => rfl
  | 1, _ => rfl

set_option maxRecDepth 100000 in
set_option maxHeartbeats 4000000 in
theorem awake_any (w : World) : Calls Try.prog 7 #[] w (GivesB w true) := by
  have KF : Hid (Calls Try.prog 11 #[.slice (some ⟨w.heap.size, 0, none⟩) 3 3, .string ⟨#[97]⟩, .string ⟨#[]⟩] (w.alloc (.cells #[.string ⟨#[97]⟩, .string ⟨#[]⟩, .int .i64 2, .string ⟨#[120]⟩, .int .i64 0, .int .i64 0, .int .i64 0, .int .i64 0, .string ⟨#[97]⟩, .string ⟨#[]⟩, .int .i64 2, .string ⟨#[98]⟩, .int .i64 0, .int .i64 0, .int .i64 0, .int .i64 0, .string ⟨#[97]⟩, .string ⟨#[]⟩, .int .i64 3, .string ⟨#[]⟩, .int .i64 4, .int .i64 0, .int .i64 0, .int .i64 0] 40)) (GivesV (w.alloc (.cells #[.string ⟨#[97]⟩, .string ⟨#[]⟩, .int .i64 2, .string ⟨#[120]⟩, .int .i64 0, .int .i64 0, .int .i64 0, .int .i64 0, .string ⟨#[97]⟩, .string ⟨#[]⟩, .int .i64 2, .string ⟨#[98]⟩, .int .i64 0, .int .i64 0, .int .i64 0, .int .i64 0, .string ⟨#[97]⟩, .string ⟨#[]⟩, .int .i64 3, .string ⟨#[]⟩, .int .i64 4, .int .i64 0, .int .i64 0, .int .i64 0] 40)) vwV)) := Lib.hid (by
    have := vfieldS [97] [] (vw_lit w) vw_fit
    rw [vw_field] at this
    exact this)
  have G1 := Lib.hid ((Below.refl w.heap.size w).alloc (Nat.le_refl _) (.cells #[.string ⟨#[97]⟩, .string ⟨#[]⟩, .int .i64 2, .string ⟨#[120]⟩, .int .i64 0, .int .i64 0, .int .i64 0, .int .i64 0, .string ⟨#[97]⟩, .string ⟨#[]⟩, .int .i64 2, .string ⟨#[98]⟩, .int .i64 0, .int .i64 0, .int .i64 0, .int .i64 0, .string ⟨#[97]⟩, .string ⟨#[]⟩, .int .i64 3, .string ⟨#[]⟩, .int .i64 4, .int .i64 0, .int .i64 0, .int .i64 0] 40))
  go_enter Try.func7, Try.ntmps7
  go_wp2_with fail
  refine KF.out.mono ?_
  rintro e w2 ⟨v, rfl, hv, hb⟩
  have G2 := Lib.hid (G1.out.trans (hb.mono G1.out.size))
  clear hb KF G1
  obtain ⟨b1, n1, c1, b2, n2, c2, hv', s1, s2⟩ := hv
  obtain rfl : v = .agg #[.slice b1 n1 c1, .slice b2 n2 c2, .int .i64 4, .bool false] := hv'
  have IV : Hid (∀ W, Below w2.heap.size w2 W → IsVal W (.agg #[.slice b1 n1 c1, .slice b2 n2 c2, .int .i64 4, .bool false]) vwV) := Lib.hid (fun W h => ⟨b1, n1, c1, b2, n2, c2, rfl, s1.below h, s2.below h⟩)
  have S2 := Lib.hid s2
  clear s1 s2
  have B3 := (Below.refl w2.heap.size w2).alloc (Nat.le_refl _) (.cells #[.slice b1 n1 c1, .slice b2 n2 c2, .int .i64 4, .bool false] 25)
  have C3 : Hid (∀ W, Below (w2.alloc (.cells #[.slice b1 n1 c1, .slice b2 n2 c2, .int .i64 4, .bool false] 25)).heap.size (w2.alloc (.cells #[.slice b1 n1 c1, .slice b2 n2 c2, .int .i64 4, .bool false] 25)) W → W.cell? ⟨w2.heap.size, 0, none⟩ = some (.slice b1 n1 c1) ∧ W.cell? ⟨w2.heap.size, 1, none⟩ = some (.slice b2 n2 c2) ∧ W.cell? ⟨w2.heap.size, 2, none⟩ = some (.int .i64 4) ∧ W.cell? ⟨w2.heap.size, 3, none⟩ = some (.bool false)) := Lib.hid (fun W hb => by
    have c : ∀ {a : Addr} {v : Value}, (w2.alloc (.cells #[.slice b1 n1 c1, .slice b2 n2 c2, .int .i64 4, .bool false] 25)).cell? a = some v → W.cell? a = some v := fun g => (hb.cell (World.block_lt_of_cell? _ _ g)).trans g
    exact ⟨c (World.cell?_alloc_new w2 _ _ 0), c (World.cell?_alloc_new w2 _ _ 1), c (World.cell?_alloc_new w2 _ _ 2), c (World.cell?_alloc_new w2 _ _ 3)⟩)
  have G3 : Hid (Below w.heap.size w (w2.alloc (.cells #[.slice b1 n1 c1, .slice b2 n2 c2, .int .i64 4, .bool false] 25))) := Lib.hid (G2.out.trans (B3.mono G2.out.size))
  have H3 : Hid (Below w2.heap.size w2 (w2.alloc (.cells #[.slice b1 n1 c1, .slice b2 n2 c2, .int .i64 4, .bool false] 25))) := Lib.hid B3
  clear B3
  go_upto_region 3 with fail
  generalize (w2.alloc (.cells #[.slice b1 n1 c1, .slice b2 n2 c2, .int .i64 4, .bool false] 25)) = w3 at *
  have KS := Lib.hid (rsameTB ((S2.out.below H3.out).below_alloc (.cells #[.string ⟨#[98]⟩, .string ⟨#[120]⟩] 9)) (vw_texts w3) (decide_eq_true rfl))
  have H4 := Lib.hid ((Below.refl w3.heap.size w3).alloc (Nat.le_refl _) (.cells #[.string ⟨#[98]⟩, .string ⟨#[120]⟩] 9))
  obtain ⟨x0, x1, x2, x3⟩ := C3.out w3 (Below.refl _ _)
  go_wp2_with fail
  refine KS.out.mono ?_
  rintro e w5 ⟨rfl, hb⟩
  have H5 := Lib.hid (H4.out.trans (hb.mono H4.out.size))
  clear hb KS x0 x1 x2 x3
  obtain ⟨x0, x1, x2, x3⟩ := C3.out w5 H5.out
  have KE := Lib.hid (vemptyB (IV.out w5 (H3.out.trans (H5.out.mono H3.out.size))) vw_empty)
  go_wp2_with fail
  refine KE.out.mono ?_
  rintro e w6 ⟨rfl, hb⟩
  have H6 := Lib.hid (H5.out.trans (hb.mono H5.out.size))
  clear hb KE x0 x1 x2 x3
  obtain ⟨x0, x1, x2, x3⟩ := C3.out w6 H6.out
  have KV := Lib.hid (vsameB (IV.out w6 (H3.out.trans (H6.out.mono H3.out.size))) (IV.out w6 (H3.out.trans (H6.out.mono H3.out.size))) (decide_eq_true rfl))
  go_wp2_with fail
  refine KV.out.mono ?_
  rintro e w7 ⟨rfl, hb⟩
  have G7 := Lib.hid (G3.out.trans ((H6.out.trans (hb.mono H6.out.size)).mono G3.out.size))
  clear hb KV x0 x1 x2 x3
  go_wp2_with fail
  go_ret
  exact ⟨rfl, G7.out⟩
end Go.Proofs.Ytpkmjddjllpglaa
