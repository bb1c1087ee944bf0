/- The program's own has and apart of networks. -/
import Derived.Test.YtgllaoanpemjlaaNtLone
import Derived.Deep.LoopGhost
import Derived.Deep.DeepCutAuto
import Derived.Deep.Cut
namespace Go.Proofs.Ytgllaoanpemjlaa
open Go.RowKit Plain
set_option linter.unusedVariables false

set_option maxRecDepth 100000 in
set_option maxHeartbeats 4000000 in
/-- has -/
theorem nthas_any {v : Value} {xs : List PPkt} {w : World} (hv : IsNet w v xs) (i : Int) (r : Bool) (hr : decide (0 ≤ i ∧ i < xs.length) = r) : Calls Try.prog 18 #[v, .int .i64 i] w (GivesB w r) := by
  obtain ⟨v, rfl, hv⟩ := hv
  obtain ⟨a, cap, rfl, g1, g2, -, h⟩ := hv.parts
  generalize xs.length = n at *
  have hb := (Below.refl w.heap.size w).alloc (Nat.le_refl _) (.cells #[.slice a n cap] 24)
  have C0 : Hid ((w.alloc (.cells #[.slice a n cap] 24)).cell? ⟨w.heap.size, 0, none⟩ = some (.slice a n cap)) := Lib.hid (World.cell?_alloc_new w #[.slice a n cap] 24 0)
  have G := Lib.hid hb
  have HR := Lib.hid hr
  clear hv h hb hr
  go_enter Try.func18, Try.ntmps18
  go_upto_region 1 with fail
  generalize (w.alloc (.cells #[.slice a n cap] 24)) = w1 at *
  have c0 := C0.out
  by_cases h0 : 0 ≤ i
  · have hn : (n : Int) ≤ 9223372036854775807 := by omega
    by_cases h1 : i < n
    · obtain rfl : r = true := by rw [← HR.out]; exact decide_eq_true ⟨h0, h1⟩
      clear HR
      go_wp2_with fail
      go_ret
      exact ⟨rfl, G.out⟩
    · obtain rfl : r = false := by rw [← HR.out]; exact decide_eq_false (fun h => h1 h.2)
      clear HR
      go_wp2_with fail
      go_ret
      exact ⟨rfl, G.out⟩
  · obtain rfl : r = false := by rw [← HR.out]; exact decide_eq_false (fun h => h0 h.1)
    clear HR
    go_wp2_with fail
    go_ret
    exact ⟨rfl, G.out⟩

set_option maxRecDepth 100000 in
set_option maxHeartbeats 16000000 in
/-- apart -/
theorem ntapart_any (b n c : Nat) (vs : Nat → Value) (f : Nat → List PPkt) (w : World) (hn : n ≤ 1000) (hc : ∀ j, j < n → w.cell? ⟨b, j, none⟩ = some (vs j)) (hs : ∀ j, j < n → SeqE LPkt w (vs j) (f j)) (hlen : (flatK f n).length ≤ 1000000) (hby : ∀ x ∈ flatK f n, x.bytes.length ≤ 1000000) :
    Calls Try.prog 17 #[.slice (some ⟨b, 0, none⟩) n c] w (MadeN (fun w b => w.heap.size ≤ b) w (flatK f n)) := by
  have hb := (Below.refl w.heap.size w).alloc (Nat.le_refl _) (.cells #[.slice none 0 0] 24)
  have KC := Lib.hid (concatK_any b n c vs f (w.alloc (.cells #[.slice none 0 0] 24)) hn (fun j hj => (hb.cell (p := ⟨b, j, none⟩) (World.block_lt_of_cell? w ⟨b, j, none⟩ (hc j hj))).trans (hc j hj)) (fun j hj => (hs j hj).below hb) (by omega))
  have D0 : Hid ((w.alloc (.cells #[.slice none 0 0] 24)).cell? ⟨w.heap.size, 0, none⟩ = some (.slice none 0 0)) := Lib.hid (World.cell?_alloc_new w #[.slice none 0 0] 24 0)
  have D1 : Hid ((w.alloc (.cells #[.slice none 0 0] 24)).frozen? ⟨w.heap.size, 0, none⟩ = false) := Lib.hid (by unfold World.frozen?; rw [heap_alloc_new w (.cells #[.slice none 0 0] 24)]; simp)
  have Z1 : Hid ((w.alloc (.cells #[.slice none 0 0] 24)).heap.size = w.heap.size + 1) := Lib.hid (by simp)
  have HBY := Lib.hid hby
  have G := Lib.hid hb
  have HL := Lib.hid hlen
  clear hc hs hb hby hlen
  generalize flatK f n = xs at *
  go_enter Try.func17, Try.ntmps17
  go_upto_region 1 with fail
  generalize (w.alloc (.cells #[.slice none 0 0] 24)) = w1 at *
  go_wp2_with fail
  refine KC.out.mono ?_
  rintro e w2 ⟨v, rfl, ho, hb2⟩
  have BT := Lib.hid hb2
  obtain ⟨a, cc, rfl, g1, g2, -, -⟩ := ho.parts
  have HO := Lib.hid ho
  obtain ⟨m, hm⟩ : ∃ m, xs.length = m := ⟨_, rfl⟩
  have HM := Lib.hid hm
  rw [hm] at g1 HO ⊢
  have T0 := Lib.hid (LoneP.start HO.out)
  have i1 : (m : Int) ≤ cc := by omega
  have i2 : (cc : Int) ≤ 9223372036854775807 := by omega
  clear hm ho hb2 HO KC g1 g2
  go_wp2_with fail
  go_loopw [10] (fun i wr => ∃ k : Nat, k ≤ m ∧ i = .int .i64 k ∧ Aside (LoneP w1.heap.size wr a m cc xs k ∧ Below w1.heap.size w1 wr)) (fun i _ => m - (intOf i).toNat)
  case atStart => exact ⟨0, Nat.zero_le _, rfl, T0.out, BT.out⟩
  case round =>
    obtain ⟨k, hk, rfl, hrel⟩ := hrel
    obtain ⟨hlo, hbb⟩ := Aside.out hrel
    have LO := Lib.hid hlo
    have GB := Lib.hid hbb
    clear hrel hlo hbb T0 BT
    by_cases hlt : k < m
    · obtain ⟨rb, vals, rfl, LA0⟩ := LO.out.2.2.1 (by omega)
      have LA := Lib.hid LA0
      have hxk := getD_pk (show k < xs.length by rw [HM.out]; exact hlt)
      have HXK := Lib.hid hxk
      obtain ⟨dv, TA, SD0⟩ := LA0.at hxk
      have HFX := Lib.hid (HBY.out (xs.getD k default) (List.mem_of_getElem? hxk))
      have RB0 := Lib.hid LA0.lt
      obtain ⟨da, dc, rfl, -, -, -, -⟩ := SeqE.parts (L := LByte) (SD0.mono fun b hb => hb.2.1)
      have SD := Lib.hid SD0
      obtain ⟨c0, c1, c2⟩ := TA
      clear LA0 hxk SD0
      generalize xs.getD k default = x at *
      obtain ⟨dn, hdn⟩ : ∃ m, m = x.bytes.length := ⟨_, rfl⟩
      rw [← hdn] at c2 SD
      have hk1 : (k : Int) < m := by omega
      have hbe := (Below.refl wr.heap.size wr).alloc (Nat.le_refl _) (.cells #[.int .i64 x.frm, .int .i64 x.to, .slice da dn dc] 27)
      have BE := Lib.hid hbe
      have BX : Hid ((wr.alloc (.cells #[.int .i64 x.frm, .int .i64 x.to, .slice da dn dc] 27)).cell? ⟨wr.heap.size, 2, none⟩ = some (.slice da dn dc)) := Lib.hid (World.cell?_alloc_new wr #[.int .i64 x.frm, .int .i64 x.to, .slice da dn dc] 27 2)
      have SB : Hid (By.Seq (wr.alloc (.cells #[.int .i64 x.frm, .int .i64 x.to, .slice da dn dc] 27)) (.slice da dn dc) x.bytes) := Lib.hid (by_of ((SD.out.agree fun b hb => hbe.block b hb.2.1).mono fun b hb => Nat.lt_of_lt_of_le hb.2.1 hbe.size))
      clear hbe hdn SD
      go_upto_region 5 with fail
      clear c0 c1 c2
      have ZR := Lib.hid GB.out.size
      generalize (wr.alloc (.cells #[.int .i64 x.frm, .int .i64 x.to, .slice da dn dc] 27)) = wd at *
      have LB := Lib.hid (LA.out.below BE.out)
      have GD := Lib.hid (GB.out.trans (BE.out.mono GB.out.size))
      have ND : Hid (w1.heap.size ≤ wd.heap.size) := Lib.hid GD.out.size
      have RB : Hid (w1.heap.size ≤ rb ∧ rb < wd.heap.size) := Lib.hid ⟨RB0.out.1, Nat.lt_of_lt_of_le RB0.out.2 BE.out.size⟩
      have KB := Lib.hid (byclone_any SB.out HFX.out)
      have y2 := BX.out
      clear LA GB BE RB0 LO ZR
      go_upto_region 6 with (go_at_call 19; refine KB.out.mono ?_; rintro e w5 ⟨v5, rfl, ho5, hb5⟩; have O5 := Lib.hid ((ownB_of ho5).new flat_byte); have G5 := Lib.hid hb5; obtain ⟨a5, c5, rfl, -, -, -, -⟩ := (ownB_of ho5).parts; have L5 := Lib.hid (LB.out.below hb5); obtain ⟨dv5, TA5, -⟩ := L5.out.at HXK.out; have t2 := TA5.c2; have f2 := World.ownsRow.frozenAt L5.out.own (k * 3 + 2); clear TA5 ho5 hb5 KB y2)
      have SET : Hid (LoneP w1.heap.size (w5.setCell ⟨rb, k * 3 + 2, none⟩ (.slice a5 x.bytes.length c5)) (some ⟨rb, 0, none⟩) m cc xs (k + 1)) := Lib.hid ⟨HM.out, ⟨by omega, by omega, fun h => by cases h⟩, fun _ => ⟨rb, _, rfl, L5.out.set HXK.out (O5.out.mono fun b hb => ⟨by have := ND.out; omega, hb.2, by have := RB.out; omega⟩)⟩, fun h => absurd h (by omega)⟩
      have GS : Hid (Below w1.heap.size w1 (w5.setCell ⟨rb, k * 3 + 2, none⟩ (.slice a5 x.bytes.length c5))) := Lib.hid ((GD.out.trans (G5.out.mono GD.out.size)).setCell (by show w1.heap.size ≤ rb; exact RB.out.1) _)
      clear t2 f2
      go_wp2_with fail
      go_roundw
      case rel => exact ⟨k + 1, by omega, by go_num, SET.out, GS.out⟩
      case measure => simp [intOf]; omega
    · obtain rfl : k = m := by omega
      have DN := Lib.hid LO.out.done
      have e0 := (GB.out.cell (p := ⟨w.heap.size, 0, none⟩) (show w.heap.size < _ by rw [Z1.out]; omega)).trans D0.out
      have e1 := (GB.out.frozen (p := ⟨w.heap.size, 0, none⟩) (show w.heap.size < _ by rw [Z1.out]; omega)).trans D1.out
      have OE : Hid (∀ z, OwnJ (fun b => w.heap.size ≤ b) LPkt w.heap.size (wr.setCell ⟨w.heap.size, 0, none⟩ z) (.slice a k cc) xs) := Lib.hid (fun z =>
        ((DN.out.kept (by simp [World.setCell]) fun b hb h => Below.heap_setCell _ _ _ _ (by have h2 : w1.heap.size ≤ b ∨ w1.heap.size ≤ b := h; have := Z1.out; show b ≠ w.heap.size; omega)).mono (by have := Z1.out; omega)).imp fun b hb => by have := Z1.out; omega)
      have GZ : Hid (Below w.heap.size w wr) := Lib.hid (G.out.trans (GB.out.mono (by rw [Z1.out]; omega)))
      have E : ∀ z, (wr.setCell ⟨w.heap.size, 0, none⟩ z).cell? ⟨w.heap.size, 0, none⟩ = some z := fun z => World.cell?_setCell_same _ _ _ e0
      have EH := Lib.hid E
      clear E
      go_wp2_with fail
      have E := EH.out
      exact bodyPost_ret (v := .agg #[.slice a k cc]) (by simp [results, Try.results17, go_sem, E]) rfl ⟨_, rfl, OE.out _, GZ.out.setCell (by simp) _⟩
/-- two parts -/
theorem ntapart_two (b c : Nat) {u v : Value} {xs ys : List PPkt} (w : World) (h0 : w.cell? ⟨b, 0, none⟩ = some u) (h1 : w.cell? ⟨b, 1, none⟩ = some v) (hu : SeqE LPkt w u xs) (hv : SeqE LPkt w v ys) (hlen : xs.length + ys.length ≤ 1000000) (hx : ∀ x ∈ xs, x.bytes.length ≤ 1000000) (hy : ∀ x ∈ ys, x.bytes.length ≤ 1000000) :
    Calls Try.prog 17 #[.slice (some ⟨b, 0, none⟩) 2 c] w (MadeN (fun w b => w.heap.size ≤ b) w (xs ++ ys)) := by
  have e : flatK (fun j => if j = 0 then xs else ys) 2 = xs ++ ys := by simp [flatK]
  have h := ntapart_any b 2 c (fun j => if j = 0 then u else v) (fun j => if j = 0 then xs else ys) w (by omega)
    (fun j hj => by match j, hj with | 0, _ => exact h0 | 1, _ => exact h1) (fun j hj => by match j, hj with | 0, _ => exact hu | 1, _ => exact hv) (by rw [e, List.length_append]; exact hlen) (by rw [e]; intro x hx'; exact (List.mem_append.1 hx').elim (hx x) (hy x))
  rwa [e] at h
end Go.Proofs.Ytgllaoanpemjlaa
