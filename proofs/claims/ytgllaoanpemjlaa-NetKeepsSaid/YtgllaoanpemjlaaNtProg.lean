/- The program's own Send of networks. -/
import Derived.Test.YtgllaoanpemjlaaNtApart
import Derived.Test.YtgllaoanpemjlaaNtSend
namespace Go.Proofs.Ytgllaoanpemjlaa
open Go.RowKit Plain
set_option linter.unusedVariables false

theorem nt_lone {w1 : World} {f t : Int} {ba : Option Addr} {bn bc : Nat} {bs : Bytes} (a : Option Addr) (n cap : Nat) {xs : List PPkt} (hn : SeqE LPkt w1 (.slice a n cap) xs) (hb : SeqE LByte w1 (.slice ba bn bc) bs) (hlen : xs.length + 1 ≤ 1000000) (hx : ∀ x ∈ xs, x.bytes.length ≤ 1000000) (hbs : bs.length ≤ 1000000) :
    Below w1.heap.size w1 ((w1.alloc (.cells #[.int .i64 f, .int .i64 t, .slice ba bn bc] 27)).alloc (.cells #[.slice a n cap, .slice (some ⟨w1.heap.size, 0, none⟩) 1 1] 22)) ∧
    Calls Try.prog 17 #[.slice (some ⟨w1.heap.size + 1, 0, none⟩) 2 2] ((w1.alloc (.cells #[.int .i64 f, .int .i64 t, .slice ba bn bc] 27)).alloc (.cells #[.slice a n cap, .slice (some ⟨w1.heap.size, 0, none⟩) 1 1] 22)) (MadeN (fun w b => w.heap.size ≤ b) ((w1.alloc (.cells #[.int .i64 f, .int .i64 t, .slice ba bn bc] 27)).alloc (.cells #[.slice a n cap, .slice (some ⟨w1.heap.size, 0, none⟩) 1 1] 22)) (xs ++ [⟨f, t, bs⟩])) := by
  have h1 : Below w1.heap.size w1 (w1.alloc (.cells #[.int .i64 f, .int .i64 t, .slice ba bn bc] 27)) := (Below.refl _ _).alloc (Nat.le_refl _) _
  have h2 := h1.alloc (o := .cells #[.slice a n cap, .slice (some ⟨w1.heap.size, 0, none⟩) 1 1] 22) (by simp)
  have PC := fun i => npair_cells w1 #[.int .i64 f, .int .i64 t, .slice ba bn bc] #[.slice a n cap, .slice (some ⟨w1.heap.size, 0, none⟩) 1 1] 27 22 i
  have S1 : SeqE LPkt (w1.alloc (.cells #[.int .i64 f, .int .i64 t, .slice ba bn bc] 27)) (.slice (some ⟨w1.heap.size, 0, none⟩) 1 1) [⟨f, t, bs⟩] := by
    have h := one_pkt (W := w1) (x := ⟨f, t, bs⟩) (bv := .slice ba bn bc) (D := (· < w1.heap.size)) (N := (· < w1.heap.size + 1)) hb (fun b hb => hb) (fun b hb => by omega) (by omega)
    exact h.mono fun b hb => by simpa using hb
  refine ⟨h2, ntapart_two _ 2 _ (PC 0).2 (PC 1).2 (hn.below h2) (S1.below_alloc _) (by simpa using hlen) hx (fun x h => by rw [List.mem_singleton.1 h]; exact hbs)⟩
theorem two_nets (w : World) (a : Option Addr) (n cap : Nat) : Below w.heap.size w ((w.alloc (.cells #[.slice a n cap] 24)).alloc (.cells #[.slice none 0 0] 24)) ∧ ((w.alloc (.cells #[.slice a n cap] 24)).alloc (.cells #[.slice none 0 0] 24)).cell? ⟨w.heap.size, 0, none⟩ = some (.slice a n cap) ∧
    (((w.alloc (.cells #[.slice a n cap] 24)).alloc (.cells #[.slice none 0 0] 24)).cell? ⟨w.heap.size + 1, 0, none⟩ = some (.slice none 0 0) ∧ ((w.alloc (.cells #[.slice a n cap] 24)).alloc (.cells #[.slice none 0 0] 24)).frozen? ⟨w.heap.size + 1, 0, none⟩ = false) ∧ ((w.alloc (.cells #[.slice a n cap] 24)).alloc (.cells #[.slice none 0 0] 24)).heap.size = w.heap.size + 2 := by
  have hb := ((Below.refl w.heap.size w).alloc (Nat.le_refl _) (.cells #[.slice a n cap] 24)).alloc (by simp) (.cells #[.slice none 0 0] 24)
  have PC := npair_cells w #[.slice a n cap] #[.slice none 0 0] 24 24 0
  have hz : (w.alloc (.cells #[.slice a n cap] 24)).heap.size = w.heap.size + 1 := by simp
  have h2 := heap_alloc_new (w.alloc (.cells #[.slice a n cap] 24)) (.cells #[.slice none 0 0] 24)
  rw [hz] at h2
  exact ⟨hb, PC.1, ⟨PC.2, by unfold World.frozen?; rw [h2]; simp⟩, by simp⟩
set_option maxRecDepth 100000 in
set_option maxHeartbeats 4000000 in
/-- Send, where there is room -/
theorem ntsendP {v bv : Value} {xs : List PPkt} {f t : Int} {bs : Bytes} {w : World} (hv : IsNet w v xs) (hb : SeqE LByte w bv bs) (hn : xs.length ≤ 63) (hx : ∀ x ∈ xs, x.bytes.length ≤ 1000000) (hbs : bs.length ≤ 1000000) :
    Calls Try.prog 9 #[v, .int .i64 f, .int .i64 t, bv] w (MadeNE (fun w b => w.heap.size ≤ b) w (xs ++ [⟨f, t, bs⟩]) 0) := by
  obtain ⟨v, rfl, hv⟩ := hv
  obtain ⟨a, cap, rfl, g1, g2, -, h⟩ := hv.parts
  obtain ⟨ba, bn, bc, rfl⟩ : ∃ a n c, bv = .slice a n c := by obtain ⟨a, c, h, -⟩ := hb.parts; exact ⟨a, _, c, h⟩
  obtain ⟨G, c0, ⟨d0, d1⟩, hz⟩ := two_nets w a xs.length cap
  have KB := Lib.hid (nt_lone (f := f) (t := t) a xs.length cap (h.below G) (hb.below G) (by omega) hx hbs)
  obtain ⟨n, hN⟩ : ∃ n, xs.length = n := ⟨_, rfl⟩
  rw [hN] at KB G c0 d0 d1 hz g1 hn ⊢
  have HG := Lib.hid G
  have ZH := Lib.hid hz
  have C0 := Lib.hid c0
  have D0 := Lib.hid d0
  have D1 := Lib.hid d1
  have hlt : ¬ (64 : Int) ≤ (n : Int) := by omega
  clear hv h hN G hz hb hx hbs c0 d0 d1
  go_enter Try.func9, Try.ntmps9
  go_upto_region 1 with fail
  generalize ((w.alloc (.cells #[.slice a n cap] 24)).alloc (.cells #[.slice none 0 0] 24)) = w1 at *
  have c0 := C0.out
  go_wp2_with fail
  refine KB.out.2.mono ?_
  rintro e w5 ⟨v5, rfl, ho5, hb5⟩
  obtain ⟨a5, c5, rfl, -, -, -, -⟩ := ho5.own.parts
  have H2 := KB.out.1
  have Z2 : ((w1.alloc (.cells #[.int .i64 f, .int .i64 t, .slice ba bn bc] 27)).alloc (.cells #[.slice a n cap, .slice (some ⟨w1.heap.size, 0, none⟩) 1 1] 22)).heap.size = w1.heap.size + 2 := by simp
  have H5 : Below w1.heap.size w1 w5 := H2.trans (hb5.mono H2.size)
  have O5 : Hid (OwnJ (fun b => w1.heap.size + 2 ≤ b) LPkt (w1.heap.size + 2) w5 (.slice a5 (xs ++ [(⟨f, t, bs⟩ : PPkt)]).length c5) (xs ++ [⟨f, t, bs⟩])) := Lib.hid (by
    have q := ho5.imp (J' := fun b => w1.heap.size + 2 ≤ b) (fun b hb => by rw [← Z2]; exact hb)
    rwa [Z2] at q)
  have B5 := Lib.hid H5
  have d0 := (H5.cell (p := ⟨w.heap.size + 1, 0, none⟩) (show w.heap.size + 1 < _ by rw [ZH.out]; omega)).trans D0.out
  have d1 := (H5.frozen (p := ⟨w.heap.size + 1, 0, none⟩) (show w.heap.size + 1 < _ by rw [ZH.out]; omega)).trans D1.out
  have E := Lib.hid (fun z => World.cell?_setCell_same w5 ⟨w.heap.size + 1, 0, none⟩ z d0)
  clear H2 Z2 H5 KB c0 C0 D0 D1 ho5 hb5
  generalize hY : xs ++ [(⟨f, t, bs⟩ : PPkt)] = ys at *
  have HY := Lib.hid hY
  clear hY
  obtain ⟨m, hm⟩ : ∃ m, ys.length = m := ⟨_, rfl⟩
  rw [hm] at O5 ⊢
  clear hm
  have OE : Hid (∀ z, OwnJ (fun b => w.heap.size ≤ b) LPkt w.heap.size (w5.setCell ⟨w.heap.size + 1, 0, none⟩ z) (.slice a5 m c5) (xs ++ [(⟨f, t, bs⟩ : PPkt)])) := Lib.hid (fun z => by
    have hz := ZH.out
    rw [HY.out]
    exact ((O5.out.kept (by simp [World.setCell]) fun b hb h => Below.heap_setCell _ _ _ _ (by have h2 : w1.heap.size + 2 ≤ b ∨ w1.heap.size + 2 ≤ b := h; show b ≠ w.heap.size + 1; omega)).mono (by omega)).imp fun b hb => by omega)
  go_wp2_with fail
  have E := E.out
  exact bodyPost_ret (v := .tuple #[.agg #[.slice a5 m c5], .int .i64 0]) (by simp [results, Try.results9, go_sem, E]) rfl ⟨_, rfl, OE.out _, (HG.out.trans (B5.out.mono HG.out.size)).setCell (by simp <;> omega) _⟩
set_option maxRecDepth 100000 in
set_option maxHeartbeats 4000000 in
/-- Send, where there is none -/
theorem ntsendFull {v bv : Value} {xs : List PPkt} {f t : Int} {bs : Bytes} {w : World} (hv : IsNet w v xs) (hb : SeqE LByte w bv bs) (hn : 63 < xs.length) :
    Calls Try.prog 9 #[v, .int .i64 f, .int .i64 t, bv] w (MadeNE (fun w b => w.heap.size ≤ b) w [] 6) := by
  obtain ⟨v, rfl, hv⟩ := hv
  obtain ⟨a, cap, rfl, g1, g2, -, h⟩ := hv.parts
  obtain ⟨ba, bn, bc, rfl⟩ : ∃ a n c, bv = .slice a n c := by obtain ⟨a, c, h, -⟩ := hb.parts; exact ⟨a, _, c, h⟩
  clear hv h hb
  generalize xs.length = n at *
  obtain ⟨G, c0, ⟨d0, d1⟩, hz⟩ := two_nets w a n cap
  have HG := Lib.hid G
  have C0 := Lib.hid c0
  have D0 := Lib.hid d0
  have D1 := Lib.hid d1
  have hlt : (64 : Int) ≤ (n : Int) := by omega
  clear G hz c0 d0 d1
  go_enter Try.func9, Try.ntmps9
  go_upto_region 1 with fail
  generalize ((w.alloc (.cells #[.slice a n cap] 24)).alloc (.cells #[.slice none 0 0] 24)) = w1 at *
  have c0 := C0.out
  have d0 := D0.out
  have d1 := D1.out
  go_wp2_with fail
  have E := fun z => World.cell?_setCell_same w1 ⟨w.heap.size + 1, 0, none⟩ z D0.out
  exact bodyPost_ret (v := .tuple #[.agg #[.slice none 0 0], .int .i64 6]) (by simp [results, Try.results9, go_sem, E]) rfl ⟨_, rfl, OwnJ.nil _ _ _, HG.out.setCell (by simp <;> omega) _⟩
end Go.Proofs.Ytgllaoanpemjlaa
