/- The program's own Twice of networks. -/
import Derived.Test.YtgllaoanpemjlaaNtProg
namespace Go.Proofs.Ytgllaoanpemjlaa
open Go.RowKit Plain
set_option linter.unusedVariables false

theorem pk_bytes {xs : List PPkt} {i : Nat} (hi : i < xs.length) {B : Nat} (h : ∀ x ∈ xs, x.bytes.length ≤ B) : (pk xs i).bytes.length ≤ B := h _ (by unfold pk; simp [List.getD, List.getElem?_eq_getElem hi])
set_option maxRecDepth 100000 in
set_option maxHeartbeats 4000000 in
/-- Twice, where there is such a packet: what Send answers -/
theorem nttwiceP {v : Value} {xs : List PPkt} {i : Nat} {w : World} (hv : IsNet w v xs) (hn : xs.length ≤ 1000000) (hi : i < xs.length) (hx : ∀ x ∈ xs, x.bytes.length ≤ 1000000) (ys : List PPkt) (er : Int) (hr : (xs.length ≤ 63 ∧ ys = xs ++ [pk xs i] ∧ er = 0) ∨ (63 < xs.length ∧ ys = [] ∧ er = 6)) :
    Calls Try.prog 13 #[v, .int .i64 i] w (MadeNE (fun w b => w.heap.size ≤ b) w ys er) := by
  obtain ⟨v, rfl, hv⟩ := hv
  obtain ⟨a, cap, rfl, g1, g2, -, h⟩ := hv.parts
  obtain ⟨G, c0, ⟨d0, d1⟩, hz⟩ := two_nets w a xs.length cap
  have KH := Lib.hid (nthas_any ⟨_, rfl, h.below G⟩ i true (decide_eq_true ⟨by omega, by omega⟩))
  have HB := Lib.hid (pk_bytes hi hx)
  have KS : Hid (∀ (u : World) (f t : Int) (bv : Value), Below w.heap.size w u → f = (pk xs i).frm → t = (pk xs i).to → SeqE LByte u bv (pk xs i).bytes → Calls Try.prog 9 #[.agg #[.slice a xs.length cap], .int .i64 f, .int .i64 t, bv] u (MadeNE (fun w b => w.heap.size ≤ b) u ys er)) := Lib.hid (fun u f t bv hu e1 e2 hb => by
    subst e1 e2
    rcases hr with ⟨h1, h2, h3⟩ | ⟨h1, h2, h3⟩
    · subst h2 h3
      exact ntsendP ⟨_, rfl, h.below hu⟩ hb h1 hx HB.out
    · subst h2 h3
      exact ntsendFull ⟨_, rfl, h.below hu⟩ hb h1)
  obtain ⟨n, hN⟩ : ∃ n, xs.length = n := ⟨_, rfl⟩
  rw [hN] at h KH KS G c0 d0 d1 hz g1 hn hi ⊢
  have HS := Lib.hid h
  have HG := Lib.hid G
  have ZH := Lib.hid hz
  have C0 := Lib.hid c0
  have D0 := Lib.hid d0
  have D1 := Lib.hid d1
  have k1 : (i : Int) < n := by omega
  have k2 : (n : Int) ≤ cap := by omega
  have k3 : (cap : Int) ≤ 9223372036854775807 := by omega
  obtain ⟨lb, lo, rfl, hc⟩ := pkts_at HS.out (by omega)
  obtain ⟨da, dn, dc, hW⟩ := hc i hi
  have HW := Lib.hid hW
  clear hv h hN G hz hx hr c0 d0 d1 hc hW
  go_enter Try.func13, Try.ntmps13
  go_upto_region 1 with fail
  generalize ((w.alloc (.cells #[.slice (some ⟨lb, lo, none⟩) n cap] 24)).alloc (.cells #[.slice none 0 0] 24)) = w1 at *
  have c0 := C0.out
  go_wp2_with fail
  refine KH.out.mono ?_
  rintro e w2 ⟨rfl, hb2⟩
  clear c0
  have G2 := Lib.hid (HG.out.trans (hb2.mono HG.out.size))
  have B2 := Lib.hid hb2
  have E0 := Lib.hid ((hb2.cell (p := ⟨w.heap.size, 0, none⟩) (show w.heap.size < _ by rw [ZH.out]; omega)).trans C0.out)
  have E1 := Lib.hid ((hb2.cell (p := ⟨w.heap.size + 1, 0, none⟩) (show w.heap.size + 1 < _ by rw [ZH.out]; omega)).trans D0.out)
  have E2 := Lib.hid ((hb2.frozen (p := ⟨w.heap.size + 1, 0, none⟩) (show w.heap.size + 1 < _ by rw [ZH.out]; omega)).trans D1.out)
  have Z2 : Hid (w.heap.size + 2 ≤ w2.heap.size) := Lib.hid (by have := hb2.size; rw [ZH.out] at this; exact this)
  obtain ⟨⟨x0, x1, x2⟩, -, SB, -⟩ := HW.out w2 G2.out
  have c0 := E0.out
  have hb3 := (Below.refl w2.heap.size w2).alloc (Nat.le_refl _) (.cells #[.int .i64 (pk xs i).frm, .int .i64 (pk xs i).to, .slice da dn dc] 27)
  have B3 := Lib.hid hb3
  have S3 := Lib.hid (SB.below hb3)
  have YB := Lib.hid (fun j => World.cell?_alloc_new w2 #[.int .i64 (pk xs i).frm, .int .i64 (pk xs i).to, .slice da dn dc] 27 j)
  clear hb2 hb3 SB C0 D0 D1 KH
  generalize pk xs i = x at *
  go_upto_region 4 with fail
  clear c0 x0 x1 x2
  generalize (w2.alloc (.cells #[.int .i64 x.frm, .int .i64 x.to, .slice da dn dc] 27)) = w3 at *
  have y0 := YB.out 0
  have y1 := YB.out 1
  have y2 := YB.out 2
  simp only [List.getElem?_toArray, List.getElem?_cons_zero, List.getElem?_cons_succ] at y0 y1 y2
  have c0 := (B3.out.cell (p := ⟨w.heap.size, 0, none⟩) (show w.heap.size < _ by have := Z2.out; omega)).trans E0.out
  have G3 := Lib.hid (G2.out.trans (B3.out.mono G2.out.size))
  have K5 := Lib.hid (KS.out w3 x.frm x.to (.slice da dn dc) G3.out rfl rfl S3.out)
  clear KS
  go_wp2_with fail
  refine K5.out.mono ?_
  rintro e w5 ⟨v5, rfl, ho5, hb5⟩
  obtain ⟨a5, c5, rfl, -, -, -, -⟩ := ho5.own.parts
  have O5 := Lib.hid ho5
  have H5 : Below w2.heap.size w2 w5 := B3.out.trans (hb5.mono B3.out.size)
  have d0 := (H5.cell (p := ⟨w.heap.size + 1, 0, none⟩) (show w.heap.size + 1 < _ by have := Z2.out; omega)).trans E1.out
  have d1 := (H5.frozen (p := ⟨w.heap.size + 1, 0, none⟩) (show w.heap.size + 1 < _ by have := Z2.out; omega)).trans E2.out
  have G5 := Lib.hid (G2.out.trans (H5.mono G2.out.size))
  have E := Lib.hid (fun z => World.cell?_setCell_same w5 ⟨w.heap.size + 1, 0, none⟩ z d0)
  have Z3 : Hid (w2.heap.size ≤ w3.heap.size) := Lib.hid B3.out.size
  have OE : Hid (∀ z, OwnJ (fun b => w.heap.size ≤ b) LPkt w.heap.size (w5.setCell ⟨w.heap.size + 1, 0, none⟩ z) (.slice a5 ys.length c5) ys) := Lib.hid (fun z => by
    have hz := Z2.out
    have hz3 := Z3.out
    exact ((O5.out.kept (by simp [World.setCell]) fun b hb h => Below.heap_setCell _ _ _ _ (by have h2 : w3.heap.size ≤ b ∨ w3.heap.size ≤ b := h; show b ≠ w.heap.size + 1; omega)).mono (by omega)).imp fun b hb => by have h2 : w3.heap.size ≤ b := hb; omega)
  clear c0 y0 y1 y2 ho5 hb5 H5 K5
  generalize ys.length = m at *
  go_wp2_with fail
  have E := E.out
  exact bodyPost_ret (v := .tuple #[.agg #[.slice a5 m c5], .int .i64 er]) (by simp [results, Try.results13, go_sem, E]) rfl ⟨_, rfl, OE.out _, G5.out.setCell (by simp <;> omega) _⟩
set_option maxRecDepth 100000 in
set_option maxHeartbeats 4000000 in
/-- Twice, where there is no such packet -/
theorem nttwiceNone {v : Value} {xs : List PPkt} {i : Int} {w : World} (hv : IsNet w v xs) (hi : ¬ (0 ≤ i ∧ i < xs.length)) : Calls Try.prog 13 #[v, .int .i64 i] w (MadeNE (fun w b => w.heap.size ≤ b) w [] 10) := by
  obtain ⟨v, rfl, hv⟩ := hv
  obtain ⟨a, cap, rfl, g1, g2, -, h⟩ := hv.parts
  obtain ⟨G, c0, ⟨d0, d1⟩, hz⟩ := two_nets w a xs.length cap
  have KH := Lib.hid (nthas_any ⟨_, rfl, h.below G⟩ i false (decide_eq_false hi))
  clear hi
  generalize xs.length = n at *
  have HG := Lib.hid G
  have ZH := Lib.hid hz
  have C0 := Lib.hid c0
  have D0 := Lib.hid d0
  have D1 := Lib.hid d1
  clear hv h G hz c0 d0 d1
  go_enter Try.func13, Try.ntmps13
  go_upto_region 1 with fail
  generalize ((w.alloc (.cells #[.slice a n cap] 24)).alloc (.cells #[.slice none 0 0] 24)) = w1 at *
  have c0 := C0.out
  go_wp2_with fail
  refine KH.out.mono ?_
  rintro e w2 ⟨rfl, hb2⟩
  clear c0
  have G2 := Lib.hid (HG.out.trans (hb2.mono HG.out.size))
  have d0 := (hb2.cell (p := ⟨w.heap.size + 1, 0, none⟩) (show w.heap.size + 1 < _ by rw [ZH.out]; omega)).trans D0.out
  have d1 := (hb2.frozen (p := ⟨w.heap.size + 1, 0, none⟩) (show w.heap.size + 1 < _ by rw [ZH.out]; omega)).trans D1.out
  have E := Lib.hid (fun z => World.cell?_setCell_same w2 ⟨w.heap.size + 1, 0, none⟩ z d0)
  clear hb2 KH
  go_wp2_with fail
  have E := E.out
  exact bodyPost_ret (v := .tuple #[.agg #[.slice none 0 0], .int .i64 10]) (by simp [results, Try.results13, go_sem, E]) rfl ⟨_, rfl, OwnJ.nil _ _ _, G2.out.setCell (by simp <;> omega) _⟩
end Go.Proofs.Ytgllaoanpemjlaa
