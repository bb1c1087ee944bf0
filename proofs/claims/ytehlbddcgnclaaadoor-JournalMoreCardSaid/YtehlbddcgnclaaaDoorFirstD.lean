/- What the document's own at and First leave. -/
import Derived.Test.YtehlbddcgnclaaaDoorWrite
import Derived.Deep.RegionLaw
namespace Go.Proofs.YtehlbddcgnclaaaDoor
open Go.RowKit Plain
set_option linter.unusedVariables false

set_option maxHeartbeats 2000000 in
theorem at_any {a1 a2 : Option Addr} {n1 c1 n2 c2 : Nat} {f l : Bytes} {i : Nat} {w : World} (hf : Seq w (.slice a1 n1 c1) f) (hl : Seq w (.slice a2 n2 c2) l) (h1 : n1 ≤ 1000000) (h2 : n2 ≤ 1000000) (hi : i < n1 + n2) :
    Calls Tryd.prog 29 #[.agg #[.slice a1 n1 c1, .slice a2 n2 c2], .int .i64 i] w fun e w' => e = .returned (.int .u8 ((f ++ l).getD i 0#8).toNat) ∧ Below w.heap.size w w' := by
  have d1 := hf.dims
  have d2 := hl.dims
  by_cases hlt : i < n1
  · obtain ⟨b, o, cp, hv, g1, g2, -, hc⟩ := hf.spot (by omega)
    simp only [Value.slice.injEq] at hv
    obtain ⟨rfl, -, rfl⟩ := hv
    have e : (f ++ l).getD i 0#8 = f.getD i 0#8 := by simp [List.getD, List.getElem?_append_left (show i < f.length by omega)]
    rw [e]
    have hcell := hc i (by omega)
    unfold bv at hcell
    have hli : (i : Int) < n1 := by omega
    have hb : b < w.heap.size := World.block_lt_of_cell? w _ hcell
    have hcell2 : (w.alloc (.cells #[.slice (some ⟨b, o, none⟩) n1 c1, .slice a2 n2 c2] 24)).cell? ⟨b, o + i, none⟩ = some (.int .u8 (f.getD i 0#8).toNat) := (((Below.refl _ _).alloc (Nat.le_refl _) _).cell (p := ⟨b, o + i, none⟩) hb).trans hcell
    clear hc hcell d1 d2 e hf hl hb
    generalize f.getD i 0#8 = x at *
    go_enter Tryd.func29, Tryd.ntmps29
    go_wp2_with fail
    go_ret
    exact ⟨rfl, (Below.refl _ _).alloc (Nat.le_refl _) _⟩
  · obtain ⟨b, o, cp, hv, g1, g2, -, hc⟩ := hl.spot (by omega)
    simp only [Value.slice.injEq] at hv
    obtain ⟨rfl, -, rfl⟩ := hv
    have e : (f ++ l).getD i 0#8 = l.getD (i - n1) 0#8 := by simp [List.getD, List.getElem?_append_right (show f.length ≤ i by omega), d1.1]
    rw [e]
    obtain ⟨j, rfl⟩ : ∃ j, i = n1 + j := ⟨i - n1, by omega⟩
    rw [Nat.add_sub_cancel_left]
    have hcell := hc j (by omega)
    unfold bv at hcell
    have hli : (n1 : Int) ≤ (n1 : Int) + j := by omega
    have hj : (j : Int) < n2 := by omega
    have hb : b < w.heap.size := World.block_lt_of_cell? w _ hcell
    have hcell2 : (w.alloc (.cells #[.slice a1 n1 c1, .slice (some ⟨b, o, none⟩) n2 c2] 24)).cell? ⟨b, o + j, none⟩ = some (.int .u8 (l.getD j 0#8).toNat) := (((Below.refl _ _).alloc (Nat.le_refl _) _).cell (p := ⟨b, o + j, none⟩) hb).trans hcell
    clear hc hcell d1 d2 e hf hl hb hlt
    generalize l.getD j 0#8 = x at *
    have hs : ((n1 + j : Nat) : Int) = (n1 : Int) + j := by omega
    rw [hs]
    have hsub : (n1 : Int) + j - n1 = j := by omega
    clear hs
    go_enter Tryd.func29, Tryd.ntmps29
    go_wp2_with fail
    go_ret
    exact ⟨rfl, (Below.refl _ _).alloc (Nat.le_refl _) _⟩
theorem take_snoc' (p : Bytes) (k : Nat) (h : k < p.length) : p.take (k + 1) = p.take k ++ [p.getD k 0#8] := by
  rw [List.take_succ_eq_append_getElem h]
  simp [List.getD, List.getElem?_eq_getElem h]
/-- a growing slice in a cell of the call's own: the cell and the slice apart -/
theorem cells_grown {B : Nat} {w w' : World} {v : Value} {xs : Bytes} {a : Addr} {x : Value} (h : w.cell? a = some x) (ho : Owns B w v xs) (hg : w.grownBy w' v.ownBlock) (ha : a.block < B) : w'.cell? a = some x ∧ w'.frozen? a = w.frozen? a := by
  have hlt := World.block_lt_of_cell? w a h
  have hne : some a.block ≠ v.ownBlock := fun e => by
    have := (ho.lt _ e.symm).1
    omega
  have hb := hg.block a.block hlt hne
  exact ⟨(World.cell?_of_block hb).trans h, by simp only [World.frozen?, hb]⟩

set_option maxRecDepth 100000 in
set_option maxHeartbeats 4000000 in
theorem first_any {a1 a2 : Option Addr} {n1 c1 n2 c2 : Nat} {f l : Bytes} {n : Nat} {w : World} (hf : Seq w (.slice a1 n1 c1) f) (hl : Seq w (.slice a2 n2 c2) l) (h1 : n1 ≤ 1000000) (h2 : n2 ≤ 1000000) (hn : n ≤ n1 + n2) :
    Calls Tryd.prog 17 #[.agg #[.slice a1 n1 c1, .slice a2 n2 c2], .int .i64 n] w (MadeD w ((f ++ l).take n) []) := by
  have d1 := hf.dims
  have d2 := hl.dims
  have KA : Hid (∀ u, Below w.heap.size w u → ∀ i, i < n1 + n2 → _) := Lib.hid (fun u (h : Below w.heap.size w u) i (hi : i < n1 + n2) => at_any (hf.below h) (hl.below h) h1 h2 hi)
  have LN : Hid ((f ++ l).length = n1 + n2) := Lib.hid (by rw [List.length_append, d1.1, d2.1])
  have hni : (n : Int) ≤ 2000000 := by omega
  have HN := Lib.hid hn
  have H1 := Lib.hid h1
  have H2 := Lib.hid h2
  clear d1 d2 hf hl h1 h2 hn
  generalize f ++ l = p at *
  go_enter Tryd.func17, Tryd.ntmps17
  go_wp2_with fail
  go_loopw [6] (fun i wr => ∃ (k : Nat) (a : Option Addr) (m c : Nat), k ≤ n ∧ i = .int .i64 k ∧ Below w.heap.size w wr ∧ (wr.cell? ⟨w.heap.size, 0, none⟩ = some (.slice a1 n1 c1) ∧ wr.cell? ⟨w.heap.size, 1, none⟩ = some (.slice a2 n2 c2)) ∧
      (wr.cell? ⟨w.heap.size + 1, 0, none⟩ = some (.slice none 0 0) ∧ wr.cell? ⟨w.heap.size + 1, 1, none⟩ = some (.slice none 0 0) ∧ wr.frozen? ⟨w.heap.size + 1, 0, none⟩ = false ∧ wr.frozen? ⟨w.heap.size + 1, 1, none⟩ = false) ∧
      (wr.cell? ⟨w.heap.size + 1 + 1, 0, none⟩ = some (.slice a m c) ∧ wr.cell? ⟨w.heap.size + 1 + 1, 1, none⟩ = some (.slice none 0 0) ∧ wr.frozen? ⟨w.heap.size + 1 + 1, 0, none⟩ = false) ∧ Owns (w.heap.size + 3) wr (.slice a m c) (p.take k)) (fun i _ => n - (intOf i).toNat)
  case atStart =>
    have B0 : Below w.heap.size w ((w.alloc (.cells #[.slice a1 n1 c1, .slice a2 n2 c2] 24)).alloc (.cells #[.slice none 0 0, .slice none 0 0] 24)) := ((Below.refl _ _).alloc (Nat.le_refl _) _).alloc (le_alloc _ _) _
    have h3 := heap_new3 w (.cells #[.slice a1 n1 c1, .slice a2 n2 c2] 24) (.cells #[.slice none 0 0, .slice none 0 0] 24) (.cells #[.slice none 0 0, .slice none 0 0] 24)
    have B2 : Below (w.heap.size + 2) ((w.alloc (.cells #[.slice a1 n1 c1, .slice a2 n2 c2] 24)).alloc (.cells #[.slice none 0 0, .slice none 0 0] 24)) (((w.alloc (.cells #[.slice a1 n1 c1, .slice a2 n2 c2] 24)).alloc (.cells #[.slice none 0 0, .slice none 0 0] 24)).alloc (.cells #[.slice none 0 0, .slice none 0 0] 24)) := (Below.refl _ _).alloc (by simp) _
    obtain ⟨N1, N2, N3, N4⟩ := new_cells B2
    exact ⟨0, none, 0, 0, Nat.zero_le _, rfl, B0.alloc (by simp; omega) _, ⟨(B2.cell (show w.heap.size < w.heap.size + 2 by omega)).trans (by simp), (B2.cell (show w.heap.size < w.heap.size + 2 by omega)).trans (by simp)⟩, ⟨N1, N2, N3, N4⟩,
      ⟨cell_of_row _ _ 0 _ 24 (0, 0) h3, cell_of_row _ _ 1 _ 24 (0, 0) h3, free_row h3⟩, Owns.nil _ _⟩
  case round =>
    obtain ⟨k, a, m, c, hk, rfl, hB, ⟨q1, q2⟩, ⟨r1, r2, r3, r4⟩, ⟨t1, t2, t3⟩, hO⟩ := hrel
    have HB := Lib.hid hB
    have HO := Lib.hid hO
    have HM := Lib.hid hO.seq.dims.1
    clear hB hO
    by_cases hlt : k < n
    · have hki : (k : Int) < n := by omega
      have KK : Hid (∀ u, Below w.heap.size w u → _) := Lib.hid (fun u h => KA.out u h k (by have := HN.out; omega))
      have TS := Lib.hid (take_snoc' p k (by rw [LN.out]; have := HN.out; omega))
      have PL : Hid ((p.take k).length + 1 ≤ 1073741824) := Lib.hid (by rw [List.length_take]; have := HN.out; have := H1.out; have := H2.out; omega)
      have HZ : Hid (w.heap.size + 3 ≤ wr.heap.size) := Lib.hid (Nat.succ_le_of_lt (World.block_lt_of_cell? wr _ t1))
      have T1 := Lib.hid t1
      have T2 := Lib.hid t2
      have T3 := Lib.hid t3
      have Q1 := Lib.hid q1
      have Q2 := Lib.hid q2
      have R1 := Lib.hid r1
      have R2 := Lib.hid r2
      have R3 := Lib.hid r3
      have R4 := Lib.hid r4
      generalize p.getD k 0#8 = x at *
      generalize p.take k = q at *
      clear r1 r2 r3 r4
      go_wp2_with fail
      go_region_law ((first
        | (go_simp; go_at_call 29; refine (KK.out _ ?_).mono ?_; exact HB.out.drew; rintro e u1 ⟨rfl, hb⟩; have A1 : Below wr.heap.size wr u1 := ((Below.refl _ _).drew).trans hb; have B1 : Below (w.heap.size + 3) wr u1 := ((Below.refl _ _).drew).trans (hb.mono HZ.out); have y1 := (B1.cell (p := ⟨w.heap.size + 1 + 1, 0, none⟩) (show w.heap.size + 1 + 1 < _ by omega)).trans T1.out; have y2 : ∀ o, (u1.alloc o).cell? ⟨w.heap.size + 1 + 1, 0, none⟩ = some (.slice a m c) := fun o => (((Below.refl _ _).alloc (Nat.le_refl _) o).cell (World.block_lt_of_cell? u1 _ y1)).trans y1)
        | (refine step_append_seq (by rfl) _ _ (by rfl) (w.heap.size + 3) (by rfl) ((HO.out.below A1 (Nat.le_refl _)).alloc _) (by rfl) (Seq.one u1 _ x rfl) (by exact PL.out) (by have := B1.size; have := HZ.out; simp; omega) ?_; intro v2 u2 ho2 hg2; obtain ⟨a', c', rfl, -, -, ho2, -⟩ := ho2.parts; have B2 : Below (w.heap.size + 3) wr u2 := (B1.alloc (by have := B1.size; have := HZ.out; omega) _).grown hg2 (by have := B1.size; have := HZ.out; simp; omega) (fun j hj => (HO.out.lt j hj).1); have z1 := (B2.cell (p := ⟨w.heap.size + 1 + 1, 0, none⟩) (show w.heap.size + 1 + 1 < _ by omega)).trans T1.out; have z2 := (B2.frozen (p := ⟨w.heap.size + 1 + 1, 0, none⟩) (show w.heap.size + 1 + 1 < _ by omega)).trans T3.out)))
      all_goals
        simp only [List.length_append, List.length_cons, List.length_nil, Nat.zero_add] at ho2
        have C : ∀ z a v, wr.cell? a = some v → a.block < w.heap.size + 3 → (⟨w.heap.size + 1 + 1, 0, none⟩ : Addr) ≠ a → (u2.setCell ⟨w.heap.size + 1 + 1, 0, none⟩ z).cell? a = some v := fun z a v h hb ne => (World.cell?_setCell_other _ _ _ _ ne).trans ((B2.cell hb).trans h)
        have F : ∀ z a, wr.frozen? a = false → a.block < w.heap.size + 3 → (u2.setCell ⟨w.heap.size + 1 + 1, 0, none⟩ z).frozen? a = false := fun z a h hb => (World.frozen?_setCell _ _ _ _).trans ((B2.frozen hb).trans h)
        have REL := Lib.hid (And.intro (And.intro C F) (And.intro ho2 (And.intro B2 (World.cell?_setCell_same u2 ⟨w.heap.size + 1 + 1, 0, none⟩ (.slice a' (q.length + 1) c') z1))))
        clear C F ho2 B2 hg2 y1 y2 z2 hb A1 B1
        go_wp2_with fail
        go_roundw
        case rel =>
          obtain ⟨⟨C, F⟩, ho2, B2, hs⟩ := REL.out
          refine ⟨k + 1, a', q.length + 1, c', by omega, by go_num, (HB.out.trans (B2.mono (by omega))).setCell (by simp; omega) _, ⟨C _ _ _ Q1.out (by simp) (by simp), C _ _ _ Q2.out (by simp) (by simp)⟩, ⟨C _ _ _ R1.out (by simp) (by simp), C _ _ _ R2.out (by simp) (by simp), F _ _ R3.out (by simp), F _ _ R4.out (by simp)⟩,
            ⟨hs, C _ _ _ T2.out (by simp) (by simp), F _ _ T3.out (by simp)⟩, ?_⟩
          rw [TS.out]
          exact ho2.setLow (by simp) _
        case measure => simp [intOf]; omega
    · obtain rfl : k = n := by omega
      go_wp2_with fail
      have E1 : ∀ x y, ((wr.setCell ⟨w.heap.size + 1, 0, none⟩ x).setCell ⟨w.heap.size + 1, 1, none⟩ y).cell? ⟨w.heap.size + 1, 0, none⟩ = some x := fun x y => by rw [World.cell?_setCell_other _ _ _ _ (by simp), World.cell?_setCell_same _ _ _ r1]
      have E2 : ∀ x y, ((wr.setCell ⟨w.heap.size + 1, 0, none⟩ x).setCell ⟨w.heap.size + 1, 1, none⟩ y).cell? ⟨w.heap.size + 1, 1, none⟩ = some y := fun x y => by rw [World.cell?_setCell_same _ _ _ ((World.cell?_setCell_other _ _ _ _ (by simp)).trans r2)]
      refine bodyPost_ret (v := .agg #[.slice a m c, .slice none 0 0]) (by simp [results, Tryd.results17, go_sem, E1, E2]) rfl ⟨_, _, rfl, ?_, Owns.nil _ _, (HB.out.setCell (by simp) _).setCell (by simp) _⟩
      exact ((HO.out.setLow (by simp) _).setLow (by simp) _).mono (by omega)
end Go.Proofs.YtehlbddcgnclaaaDoor
