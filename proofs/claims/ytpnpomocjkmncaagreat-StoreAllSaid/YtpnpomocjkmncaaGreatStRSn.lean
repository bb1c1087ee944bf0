/- What the document's own Sound of stores leaves. (Written by gen-ref15.py.) -/
import Derived.Test.YtpnpomocjkmncaaGreatStore
import Derived.Test.YtpnpomocjkmncaaGreatVcAll
import Derived.Test.YtpnpomocjkmncaaGreatRefIs
import Derived.Test.YtpnpomocjkmncaaGreatRefNm
import Derived.Test.YtpnpomocjkmncaaGreatRefSs
import Derived.Test.YtpnpomocjkmncaaGreatEForms
import Derived.Deep.RegionHeld3
import Derived.Deep.Cut
namespace Go.Proofs.YtpnpomocjkmncaaGreat
open Go.RowKit Plain
set_option linter.unusedVariables false


structure OneAt (w : World) (ha : Option Addr) (hn hc : Nat) (ia : Option Addr) (im ic : Nat) (u : World) : Prop where
 low : Below w.heap.size w u
 sb : u.heap[w.heap.size]? = some (.cells #[.slice ha hn hc, .slice ia im ic] 26 (0, 0))
theorem OneAt.below {w u u' : World} {ha : Option Addr} {hn hc : Nat} {ia : Option Addr} {im ic : Nat} (k : OneAt w ha hn hc ia im ic u) (hb : Below u.heap.size u u') : OneAt w ha hn hc ia im ic u' :=
 ⟨k.low.trans (hb.mono k.low.size), (hb.block _ (Array.getElem?_eq_some_iff.1 k.sb).1).trans k.sb⟩
theorem oneat_new (w : World) (ha : Option Addr) (hn hc : Nat) (ia : Option Addr) (im ic : Nat) : OneAt w ha hn hc ia im ic (w.alloc (.cells #[.slice ha hn hc, .slice ia im ic] 26)) := ⟨(Below.refl _ _).alloc (Nat.le_refl _) _, heap_alloc_new w _⟩
theorem rs_len {s : PStore} (h : ¬ s.heard.length ≤ 8) : soundB s = false := by unfold soundB; rw [decide_eq_false h]; rfl
theorem rs_cut {s : PStore} (h : ¬ s.heard = trim s.heard) : soundB s = false := by
 unfold soundB
 rw [decide_eq_false (show ¬ trim s.heard = s.heard from fun e => h e.symm)]
 cases decide (s.heard.length ≤ 8) <;> rfl
theorem rs_top {s : PStore} {k : Nat} (hk : k < s.heard.length) (h : 1073741824 < s.heard.getD k 0) : soundB s = false := by
 have : s.heard.all (fun n => decide (n ≤ 1073741824)) = false := by
  rw [List.all_eq_false]
  refine ⟨s.heard.getD k 0, ?_, ?_⟩
  ·rw [show s.heard.getD k 0 = s.heard[k] by simp [List.getD, List.getElem?_eq_getElem hk]]; exact List.getElem_mem hk
  ·rw [decide_eq_true_iff]; omega
 unfold soundB
 rw [this]
 cases decide (s.heard.length ≤ 8) <;> cases decide (trim s.heard = s.heard) <;> rfl
theorem rs_item {s : PStore} {k : Nat} (hk : k < s.items.length) (h : sItemB s.heard (s.items.getD k default) = false) : soundB s = false := by
 have : s.items.all (sItemB s.heard) = false := by
  rw [List.all_eq_false]
  exact ⟨s.items.getD k default, mem_def hk, by rw [h]; decide⟩
 unfold soundB
 rw [this]
 cases decide (s.heard.length ≤ 8) <;> cases decide (trim s.heard = s.heard) <;> cases (s.heard.all fun n => decide (n ≤ 1073741824)) <;> rfl
theorem rs_all {s : PStore} (h1 : s.heard.length ≤ 8) (h2 : s.heard = trim s.heard) (h3 : ∀ j, j < s.heard.length → s.heard.getD j 0 ≤ 1073741824) (h4 : ∀ j, j < s.items.length → sItemB s.heard (s.items.getD j default) = true) : soundB s = decide (s.items = inorm s.items) := by
 have a3 : s.heard.all (fun n => decide (n ≤ 1073741824)) = true := by
  rw [List.all_eq_true]
  intro n hn
  obtain ⟨j, hj, rfl⟩ := List.getElem_of_mem hn
  have := h3 j hj
  rw [decide_eq_true_iff]
  rwa [show s.heard.getD j 0 = s.heard[j] by simp [List.getD, List.getElem?_eq_getElem hj]] at this
 have a4 : s.items.all (sItemB s.heard) = true := by
  rw [List.all_eq_true]
  intro x hx
  obtain ⟨j, hj, rfl⟩ := List.getElem_of_mem hx
  have := h4 j hj
  rwa [show s.items.getD j default = s.items[j] by simp [List.getD, List.getElem?_eq_getElem hj]] at this
 unfold soundB
 rw [a3, a4, decide_eq_true h1, decide_eq_true h2.symm]
 simp only [Bool.true_and]
 exact decide_eq_decide.2 ⟨Eq.symm, Eq.symm⟩
theorem sItem_no {v : Ints} {x : PItem} (h : formedB x = false) : sItemB v x = false := by unfold sItemB; rw [h]; rfl
theorem sItem_yes {v : Ints} {x : PItem} (h : formedB x = true) : sItemB v x = decide (x.dot.seq ≤ saysI v x.dot.node) := by unfold sItemB; rw [h]; rfl
set_option maxRecDepth 100000 in
set_option maxHeartbeats 16000000 in
theorem stSoundR {v : Value} {s : PStore} {w : World} (h : IsStore w v s) (hl : s.heard.length ≤ 1000000) (hi : s.items.length ≤ 1000000) (hx : ∀ x ∈ s.items, x.key.length ≤ 9223372036854775807 ∧ x.field.length ≤ 9223372036854775807) (r : Bool) (hr : soundB s = r) : Calls Tryz.prog 18 #[v] w (GivesB w r) := by
 obtain ⟨ha, hn, hc, ia, im, ic, rfl, h1, h2⟩ := h.slices
 have DA := Lib.hid (oneat_new w ha hn hc ia im ic)
 have KE : Hid (∀ u, OneAt w ha hn hc ia im ic u → OneAt w ha hn hc ia im ic u ∧ u.cell? ⟨w.heap.size, 0, none⟩ = some (.slice ha hn hc) ∧ u.cell? ⟨w.heap.size, 1, none⟩ = some (.slice ia im ic)) := Lib.hid (fun u k => ⟨k, (st2_cells k.sb).1⟩)
 have KT := Lib.hid (fun u (k : OneAt w ha hn hc ia im ic u) => vc_rtrim_any (seqI_of (h1.below k.low)) hl)
 have KQ := Lib.hid (fun u tv (k : OneAt w ha hn hc ia im ic u) (hs : SeqI u tv (trim s.heard)) => vc_requal_any (seqI_of (h1.below k.low)) hs)
 have KA := Lib.hid (fun u (k : OneAt w ha hn hc ia im ic u) n => vc_rat_any (seqI_of (h1.below k.low)) n)
 have KN := Lib.hid (fun u (k : OneAt w ha hn hc ia im ic u) => rnormI_any (h2.below k.low) hi)
 have KM := Lib.hid (fun u nv (k : OneAt w ha hn hc ia im ic u) (hs : SeqE LItem u nv (inorm s.items)) => rsameIR (h2.below k.low) hs (rfl : decide (s.items = inorm s.items) = _))
 have HV := Lib.hid (fun u (k : OneAt w ha hn hc ia im ic u) => (seqI_of (h1.below k.low)))
 have HI := Lib.hid (fun u (k : OneAt w ha hn hc ia im ic u) => h2.below k.low)
 have HX := Lib.hid (fun k (hk : k < s.items.length) => hx _ (mem_def hk))
 have E1 := Lib.hid (fun h => rs_len (s := s) h)
 have E2 := Lib.hid (fun h => rs_cut (s := s) h)
 have E3 := Lib.hid (fun k hk h => rs_top (s := s) (k := k) hk h)
 have E4 := Lib.hid (fun k hk h => rs_item (s := s) (k := k) hk h)
 have E5 := Lib.hid (fun a b c d => rs_all (s := s) a b c d)
 have D1 := Lib.hid h1.dims
 have D2 := Lib.hid h2.dims
 have g1 : (hn : Int) ≤ hc := by have := h1.dims; omega
 have g2 : (hc : Int) ≤ 9223372036854775807 := by have := h1.dims; omega
 have g3 : (im : Int) ≤ ic := by have := h2.dims; omega
 have g4 : (ic : Int) ≤ 9223372036854775807 := by have := h2.dims; omega
 rw [hr] at E1 E2 E3 E4 E5
 rw [D1.out.1] at E1 E3 E5
 rw [D2.out.1] at E4 E5 HX
 clear h h1 h2 hl hi hx hr
 generalize inorm s.items = nn at *
 obtain ⟨te, hte⟩ : ∃ b, b = decide (s.heard = trim s.heard) := ⟨_, rfl⟩
 have KQ2 : Hid (∀ u tv, OneAt w ha hn hc ia im ic u → SeqI u tv (trim s.heard) → Calls Tryz.prog 43 #[.slice ha hn hc, tv] u (GivesB u te)) := Lib.hid (fun u tv k hs => (KQ.out u tv k hs).mono fun e w' h => ⟨by rw [hte]; exact h.1, below_of_drawn h.2⟩)
 have HTE : Hid (te = decide (s.heard = trim s.heard)) := Lib.hid hte
 clear KQ hte
 go_enter Tryz.func18, Tryz.ntmps18
 go_upto_region 1 with fail
 generalize (w.alloc (.cells #[.slice ha hn hc, .slice ia im ic] 26)) = w0 at *
 by_cases h8 : hn ≤ 8
 rotate_left
 ·have i8 : (8 : Int) < (hn : Int) := by omega
  obtain rfl : r = false := E1.out h8
  clear h8
  refine wp_region_held_drew (S := fun u' => OneAt w ha hn hc ia im ic u' ∧ u'.cell? ⟨w.heap.size, 0, none⟩ = some (.slice ha hn hc) ∧ u'.cell? ⟨w.heap.size, 1, none⟩ = some (.slice ia im ic)) (by kernel_rfl) ?_ (fun hHeld => ?_)
  ·(exact KE.out _ (DA.out.below (Below.refl _ _).drew))
  simp only [List.size_toArray, List.length_cons, List.length_nil, Nat.zero_add, Nat.reduceAdd]
  refine tkB (i := 0) hHeld ?_
  refine tkB (i := 1) hHeld ?_
  refine tkB (i := 2) hHeld ?_
  refine tkB (i := 3) hHeld ?_
  refine tkB (i := 4) hHeld ?_
  refine tkS (i := 5) hHeld ?_
  refine tkS (i := 6) hHeld ?_
  refine tkS (i := 7) hHeld ?_
  refine tkS (i := 8) hHeld ?_
  refine tkS (i := 9) hHeld ?_
  refine tkS (i := 10) hHeld ?_
  refine tkS (i := 11) hHeld ?_
  refine tkB (i := 12) hHeld ?_
  refine wpAnyH_done (by kernel_rfl) ?_ _
  have GZ := Lib.hid hHeld.1.low
  clear hHeld
  go_wp2_with fail
  go_ret
  exact ⟨rfl, GZ.out⟩
 have i8 : ¬ (8 : Int) < (hn : Int) := by omega
 have H8 := Lib.hid h8
 clear h8
 refine wp_region_held_drew (S := fun u' => OneAt w ha hn hc ia im ic u' ∧ u'.cell? ⟨w.heap.size, 0, none⟩ = some (.slice ha hn hc) ∧ u'.cell? ⟨w.heap.size, 1, none⟩ = some (.slice ia im ic)) (by kernel_rfl) ?_ (fun hHeld => ?_)
 ·(exact KE.out _ (DA.out.below (Below.refl _ _).drew))
 simp only [List.size_toArray, List.length_cons, List.length_nil, Nat.zero_add, Nat.reduceAdd]
 refine tkB (i := 0) hHeld ?_
 refine tkB (i := 1) hHeld ?_
 refine tkB (i := 2) hHeld ?_
 refine tkB (i := 3) hHeld ?_
 refine tkB (i := 4) hHeld ?_
 refine tkB (i := 5) hHeld ?_
 refine tkB (i := 6) hHeld ?_
 refine tkB (i := 7) hHeld ?_
 refine tkB (i := 8) hHeld ?_
 refine wpAnyH_ready (rs := [9]) (by kernel_rfl) (by simp) ?_
 refine AllReadyH.cons rfl (fun K hK => ?_) AllReadyH.nil
 go_simp
 refine (KT.out _ hHeld.1).mono ?_
 rintro e s1 ⟨tv, rfl, ho, hb⟩
 have ST := Lib.hid ho.seq
 clear ho
 refine hK.out _ _ (KE.out _ (hHeld.1.below hb)) (fun hHeld => ?_)
 clear hK K hb
 refine wpAnyH_ready (rs := [10]) (by kernel_rfl) (by simp) ?_
 refine AllReadyH.cons rfl (fun K hK => ?_) AllReadyH.nil
 go_simp
 refine (KQ2.out _ _ hHeld.1 ST.out).mono ?_
 rintro e s2 ⟨rfl, hb⟩
 refine hK.out _ _ (KE.out _ (hHeld.1.below hb)) (fun hHeld => ?_)
 clear hK K hb
 refine tkB (i := 11) hHeld ?_
 refine tkB (i := 12) hHeld ?_
 refine wpAnyH_done (by kernel_rfl) ?_ _
 cases te with
 | false =>
  obtain rfl : r = false := E2.out (of_decide_eq_false HTE.out.symm)
  have GZ := Lib.hid hHeld.1.low
  clear hHeld
  go_wp2_with fail
  go_ret
  exact ⟨rfl, GZ.out⟩
 | true =>
  have DB := Lib.hid hHeld.1
  have HT := Lib.hid (of_decide_eq_true HTE.out.symm)
  clear hHeld HTE KQ2 KT DA E1 E2
  go_wp2_with fail
  go_loopw [3] (fun i wr => ∃ k : Nat, k ≤ hn ∧ i = .int .i64 k ∧ (∀ j, j < k → s.heard.getD j 0 ≤ 1073741824) ∧ OneAt w ha hn hc ia im ic wr) (fun i _ => hn - (intOf i).toNat)
  case atStart => exact ⟨0, Nat.zero_le _, rfl, fun j hj => absurd hj (Nat.not_lt_zero _), DB.out⟩
  case round =>
   obtain ⟨k, hk, rfl, hall, hd⟩ := hrel
   have HA := Lib.hid hall
   have DK := Lib.hid hd
   clear hall hd DB
   obtain ⟨c0, c1⟩ := (st2_cells DK.out.sb).1
   by_cases hlt : k < hn
   ·obtain ⟨b, o, c, hv, -, -, -, hc'⟩ := (HV.out wr DK.out).spot (by rw [D1.out.1]; omega)
    rw [D1.out.1] at hv
    simp only [Value.slice.injEq] at hv
    obtain ⟨rfl, -, rfl⟩ := hv
    have ck := hc' k (by rw [D1.out.1]; exact hlt)
    have E3K := Lib.hid (E3.out k hlt)
    have HAK : Hid (s.heard.getD k 0 ≤ 1073741824 → ∀ j, j < k + 1 → s.heard.getD j 0 ≤ 1073741824) := Lib.hid (fun h j hj => by
     by_cases e : j = k
     ·rw [e]; exact h
     ·exact HA.out j (by omega))
    clear hc'
    generalize s.heard.getD k 0 = n at *
    by_cases hq : 1073741824 < n
    ·obtain rfl : r = false := E3K.out hq
     go_wp2_with fail
     go_ret
     exact ⟨rfl, DK.out.low⟩
    ·have HN := Lib.hid (HAK.out (by omega))
     go_wp2_with fail
     go_roundw
     case rel => exact ⟨k + 1, by omega, by go_num, HN.out, DK.out⟩
     case measure => simp [intOf]; omega
   ·obtain rfl : hn = k := by omega
    go_wp2_with fail
    clear c0 c1
    go_loopw [4] (fun i wi => ∃ j : Nat, j ≤ im ∧ i = .int .i64 j ∧ (∀ q, q < j → sItemB s.heard (s.items.getD q default) = true) ∧ OneAt w ha hn hc ia im ic wi) (fun i _ => im - (intOf i).toNat)
    case atStart => exact ⟨0, Nat.zero_le _, rfl, fun q hq => absurd hq (Nat.not_lt_zero _), DK.out⟩
    case round =>
     obtain ⟨j, hj, rfl, hall, hd⟩ := hrel
     have HB := Lib.hid hall
     have DJ := Lib.hid hd
     clear hall hd
     obtain ⟨c0, c1⟩ := (st2_cells DJ.out.sb).1
     by_cases hlt2 : j < im
     ·obtain ⟨b, o, c, hv, -, -, -, hc'⟩ := items_spot (HI.out _ DJ.out) (by rw [D2.out.1]; omega)
      rw [D2.out.1] at hv
      simp only [Value.slice.injEq] at hv
      obtain ⟨rfl, -, rfl⟩ := hv
      obtain ⟨i0, i1, i2, i3, i4, i5, i6, i7⟩ := hc' j (by rw [D2.out.1]; exact hlt2)
      have E4J := Lib.hid (E4.out j hlt2)
      have HXJ := Lib.hid (HX.out j hlt2)
      have HBJ : Hid (sItemB s.heard (s.items.getD j default) = true → ∀ q, q < j + 1 → sItemB s.heard (s.items.getD q default) = true) := Lib.hid (fun h q hq => by
       by_cases e : q = j
       ·rw [e]; exact h
       ·exact HB.out q (by omega))
      clear hc'
      generalize s.items.getD j default = x at *
      have IBX : Hid (∀ u, Below (wr.alloc (.cells #[.string (bt x.key), .string (bt x.field), .int .i64 x.kind, .string (bt x.elem), .int .i64 x.n, .int .i64 x.dot.node, .int .i64 x.dot.seq, .int .i64 x.dot.pos] 64)).heap.size (wr.alloc (.cells #[.string (bt x.key), .string (bt x.field), .int .i64 x.kind, .string (bt x.elem), .int .i64 x.n, .int .i64 x.dot.node, .int .i64 x.dot.seq, .int .i64 x.dot.pos] 64)) u → ItemAt u wr.heap.size 0 x) := Lib.hid (fun u hb => ItemAt.below ⟨by simp, by simp, by simp, by simp, by simp, by simp, by simp, by simp⟩ hb (by simp))
      have DX : Hid (OneAt w ha hn hc (some ⟨b, o, none⟩) im ic (wr.alloc (.cells #[.string (bt x.key), .string (bt x.field), .int .i64 x.kind, .string (bt x.elem), .int .i64 x.n, .int .i64 x.dot.node, .int .i64 x.dot.seq, .int .i64 x.dot.pos] 64))) := Lib.hid (DJ.out.below ((Below.refl _ _).alloc (Nat.le_refl _) _))
      go_upto_region 12 with fail
      clear i0 i1 i2 i3 i4 i5 i6 i7 c0 c1
      generalize (wr.alloc (.cells #[.string (bt x.key), .string (bt x.field), .int .i64 x.kind, .string (bt x.elem), .int .i64 x.n, .int .i64 x.dot.node, .int .i64 x.dot.seq, .int .i64 x.dot.pos] 64)) = wx at *
      generalize wr.heap.size = bx at *
      have KX : Hid (∀ u, Below wx.heap.size wx u → Below wx.heap.size wx u ∧ (u.cell? ⟨w.heap.size, 0, none⟩ = some (.slice ha hn hc) ∧ u.cell? ⟨w.heap.size, 1, none⟩ = some (.slice (some ⟨b, o, none⟩) im ic)) ∧ u.cell? ⟨bx, 0, none⟩ = some (.string (bt x.key)) ∧ u.cell? ⟨bx, 1, none⟩ = some (.string (bt x.field)) ∧ u.cell? ⟨bx, 2, none⟩ = some (.int .i64 x.kind) ∧ u.cell? ⟨bx, 3, none⟩ = some (.string (bt x.elem)) ∧ u.cell? ⟨bx, 4, none⟩ = some (.int .i64 x.n) ∧ u.cell? ⟨bx, 5, none⟩ = some (.int .i64 x.dot.node) ∧ u.cell? ⟨bx, 6, none⟩ = some (.int .i64 x.dot.seq) ∧ u.cell? ⟨bx, 7, none⟩ = some (.int .i64 x.dot.pos)) := Lib.hid (fun u hb => ⟨hb, (st2_cells (DX.out.below hb).sb).1, ((IBX.out u hb).zero)⟩)
      have KF := Lib.hid (fun u => rformed_any x u HXJ.out.1 HXJ.out.2)
      have SN := Lib.hid (fun h => sItem_no (v := s.heard) (x := x) h)
      have SY := Lib.hid (fun h => sItem_yes (v := s.heard) (x := x) h)
      rw [itv_eq4] at KF
      generalize hsi : sItemB s.heard x = si at *
      clear hsi
      cases hfx : formedB x with
      | false =>
       rw [hfx] at KF
       obtain rfl : si = false := SN.out hfx
       obtain rfl : r = false := E4J.out rfl
       clear hfx SN SY
       refine wp_region_held_drew (S := fun u' => Below wx.heap.size wx u' ∧ (u'.cell? ⟨w.heap.size, 0, none⟩ = some (.slice ha hn hc) ∧ u'.cell? ⟨w.heap.size, 1, none⟩ = some (.slice (some ⟨b, o, none⟩) im ic)) ∧ u'.cell? ⟨bx, 0, none⟩ = some (.string (bt x.key)) ∧ u'.cell? ⟨bx, 1, none⟩ = some (.string (bt x.field)) ∧ u'.cell? ⟨bx, 2, none⟩ = some (.int .i64 x.kind) ∧ u'.cell? ⟨bx, 3, none⟩ = some (.string (bt x.elem)) ∧ u'.cell? ⟨bx, 4, none⟩ = some (.int .i64 x.n) ∧ u'.cell? ⟨bx, 5, none⟩ = some (.int .i64 x.dot.node) ∧ u'.cell? ⟨bx, 6, none⟩ = some (.int .i64 x.dot.seq) ∧ u'.cell? ⟨bx, 7, none⟩ = some (.int .i64 x.dot.pos)) (by kernel_rfl) ?_ (fun hHeld => ?_)
       ·(exact KX.out _ (Below.refl _ _).drew)
       simp only [List.size_toArray, List.length_cons, List.length_nil, Nat.zero_add, Nat.reduceAdd]
       refine tkB (i := 0) hHeld ?_
       refine wpAnyH_ready (rs := [1]) (by kernel_rfl) (by simp) ?_
       refine AllReadyH.cons rfl (fun K hK => ?_) AllReadyH.nil
       go_simp
       refine (KF.out _).mono ?_
       rintro e s3 ⟨rfl, hb⟩
       refine hK.out _ _ (KX.out _ (holdC hHeld hb)) (fun hHeld => ?_)
       clear hK K hb
       refine tkB (i := 2) hHeld ?_
       refine tkB (i := 3) hHeld ?_
       refine tkS (i := 4) hHeld ?_
       refine tkS (i := 5) hHeld ?_
       refine tkS (i := 6) hHeld ?_
       refine tkS (i := 7) hHeld ?_
       refine tkS (i := 8) hHeld ?_
       refine tkS (i := 9) hHeld ?_
       refine tkS (i := 10) hHeld ?_
       refine tkS (i := 11) hHeld ?_
       refine tkS (i := 12) hHeld ?_
       refine tkS (i := 13) hHeld ?_
       refine tkB (i := 14) hHeld ?_
       refine wpAnyH_done (by kernel_rfl) ?_ _
       have GZ := Lib.hid (DX.out.low.trans (hHeld.1.mono DX.out.low.size))
       clear hHeld
       go_wp2_with fail
       go_ret
       exact ⟨rfl, GZ.out⟩
      | true =>
       rw [hfx] at KF
       have SQ := Lib.hid (SY.out hfx)
       have KA2 := Lib.hid (fun u (hb : Below wx.heap.size wx u) => KA.out u (DX.out.below hb) x.dot.node)
       clear hfx SN SY
       generalize saysI s.heard x.dot.node = sy at *
       refine wp_region_held_drew (S := fun u' => Below wx.heap.size wx u' ∧ (u'.cell? ⟨w.heap.size, 0, none⟩ = some (.slice ha hn hc) ∧ u'.cell? ⟨w.heap.size, 1, none⟩ = some (.slice (some ⟨b, o, none⟩) im ic)) ∧ u'.cell? ⟨bx, 0, none⟩ = some (.string (bt x.key)) ∧ u'.cell? ⟨bx, 1, none⟩ = some (.string (bt x.field)) ∧ u'.cell? ⟨bx, 2, none⟩ = some (.int .i64 x.kind) ∧ u'.cell? ⟨bx, 3, none⟩ = some (.string (bt x.elem)) ∧ u'.cell? ⟨bx, 4, none⟩ = some (.int .i64 x.n) ∧ u'.cell? ⟨bx, 5, none⟩ = some (.int .i64 x.dot.node) ∧ u'.cell? ⟨bx, 6, none⟩ = some (.int .i64 x.dot.seq) ∧ u'.cell? ⟨bx, 7, none⟩ = some (.int .i64 x.dot.pos)) (by kernel_rfl) ?_ (fun hHeld => ?_)
       ·(exact KX.out _ (Below.refl _ _).drew)
       simp only [List.size_toArray, List.length_cons, List.length_nil, Nat.zero_add, Nat.reduceAdd]
       refine tkB (i := 0) hHeld ?_
       refine wpAnyH_ready (rs := [1]) (by kernel_rfl) (by simp) ?_
       refine AllReadyH.cons rfl (fun K hK => ?_) AllReadyH.nil
       go_simp
       refine (KF.out _).mono ?_
       rintro e s3 ⟨rfl, hb⟩
       refine hK.out _ _ (KX.out _ (holdC hHeld hb)) (fun hHeld => ?_)
       clear hK K hb
       refine tkB (i := 2) hHeld ?_
       refine tkB (i := 3) hHeld ?_
       refine tkB (i := 4) hHeld ?_
       refine tkB (i := 5) hHeld ?_
       refine tkB (i := 6) hHeld ?_
       refine tkB (i := 7) hHeld ?_
       refine tkB (i := 8) hHeld ?_
       refine tkB (i := 9) hHeld ?_
       refine tkB (i := 10) hHeld ?_
       refine tkB (i := 11) hHeld ?_
       refine wpAnyH_ready (rs := [12]) (by kernel_rfl) (by simp) ?_
       refine AllReadyH.cons rfl (fun K hK => ?_) AllReadyH.nil
       go_simp
       refine (KA2.out _ hHeld.1).mono ?_
       rintro e s4 ⟨rfl, hz⟩
       have hb := below_of_same hz
       clear hz
       refine hK.out _ _ (KX.out _ (holdC hHeld hb)) (fun hHeld => ?_)
       clear hK K hb
       refine tkB (i := 13) hHeld ?_
       refine tkB (i := 14) hHeld ?_
       refine wpAnyH_done (by kernel_rfl) ?_ _
       have DY := Lib.hid (DX.out.below hHeld.1)
       clear hHeld
       by_cases hq : x.dot.seq ≤ sy
       ·have iq : ¬ sy < x.dot.seq := by omega
        have HN := Lib.hid (HBJ.out (by rw [SQ.out]; exact decide_eq_true hq))
        clear hq
        go_wp2_with fail
        go_roundw
        case rel => exact ⟨j + 1, by omega, by go_num, HN.out, DY.out⟩
        case measure => simp [intOf]; omega
       ·have iq : sy < x.dot.seq := by omega
        obtain rfl : r = false := E4J.out (by rw [SQ.out]; exact decide_eq_false hq)
        clear hq
        go_wp2_with fail
        go_ret
        exact ⟨rfl, DY.out.low⟩
     ·obtain rfl : im = j := by omega
      have HR := Lib.hid (E5.out H8.out HT.out HA.out HB.out)
      go_upto_region 14 with fail
      clear c0 c1
      refine wp_region_held_drew (S := fun u' => OneAt w ha hn hc ia im ic u' ∧ u'.cell? ⟨w.heap.size, 0, none⟩ = some (.slice ha hn hc) ∧ u'.cell? ⟨w.heap.size, 1, none⟩ = some (.slice ia im ic)) (by kernel_rfl) ?_ (fun hHeld => ?_)
      ·(exact KE.out _ (DJ.out.below (Below.refl _ _).drew))
      simp only [List.size_toArray, List.length_cons, List.length_nil, Nat.zero_add, Nat.reduceAdd]
      refine tkB (i := 0) hHeld ?_
      refine tkB (i := 1) hHeld ?_
      refine tkB (i := 2) hHeld ?_
      refine tkB (i := 3) hHeld ?_
      refine wpAnyH_ready (rs := [4]) (by kernel_rfl) (by simp) ?_
      refine AllReadyH.cons rfl (fun K hK => ?_) AllReadyH.nil
      go_simp
      refine (KN.out _ hHeld.1).mono ?_
      rintro e s5 ⟨nv, rfl, ho, hb⟩
      have SN := Lib.hid ho.seq
      clear ho
      refine hK.out _ _ (KE.out _ (hHeld.1.below hb)) (fun hHeld => ?_)
      clear hK K hb
      refine wpAnyH_ready (rs := [5]) (by kernel_rfl) (by simp) ?_
      refine AllReadyH.cons rfl (fun K hK => ?_) AllReadyH.nil
      go_simp
      refine (KM.out _ _ hHeld.1 SN.out).mono ?_
      rintro e s6 ⟨rfl, hb⟩
      refine hK.out _ _ (KE.out _ (hHeld.1.below hb)) (fun hHeld => ?_)
      clear hK K hb
      refine tkB (i := 6) hHeld ?_
      refine wpAnyH_done (by kernel_rfl) ?_ _
      have GZ := Lib.hid hHeld.1.low
      clear hHeld
      go_wp2_with fail
      go_ret
      rw [HR.out]
      exact ⟨rfl, GZ.out⟩
end Go.Proofs.YtpnpomocjkmncaaGreat
