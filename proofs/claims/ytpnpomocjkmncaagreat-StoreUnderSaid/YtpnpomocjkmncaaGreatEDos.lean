/- What the program's own madeAndLeft of effects leaves. (Written by gen-eleft.py.) What the program's own Do of effects leaves. What the program's own Only of effects leaves, and slices.Clone of dots. What the law's own functions names and has leave. -/
import Derived.Test.YtpnpomocjkmncaaGreatEForms
import Derived.Test.YtpnpomocjkmncaaGreatINorms
import Derived.Test.YtpnpomocjkmncaaGreatEMades
import Derived.Test.YtpnpomocjkmncaaGreatElGs
import Derived.Test.YtpnpomocjkmncaaGreatIKeyF
import Derived.Test.YtpnpomocjkmncaaGreatICompare
namespace Go.Proofs.YtpnpomocjkmncaaGreat
open Go.RowKit Plain Go.Maps
set_option linter.unusedVariables false

set_option maxRecDepth 100000 in
set_option maxHeartbeats 16000000 in
theorem eleft_any (node seq : Int) {v : Value} {l : List PEff} {w : World} (hv : SeqE LEff w v l) (hn : l.length ≤ 1000) (hd : ∀ e ∈ l, e.drops.length ≤ 1000) (hok : ∀ e ∈ l, dotOk ⟨node, seq, e.pos⟩ ∧ ∀ d ∈ e.drops, dotOk d) :
  Calls Tryz.prog 72 #[.int .i64 node, .int .i64 seq, v] w (MadeE LItem w (mleft node seq l)) := by
 have HDM := Lib.hid (fun k hk => hd _ (mem_defE (l := l) (k := k) hk))
 have HDK := Lib.hid (fun k hk => (hok _ (mem_defE (l := l) (k := k) hk)).1)
 have HDS := Lib.hid (fun k hk (j : Nat) (hj : j < (l.getD k default).drops.length) => (hok _ (mem_defE (l := l) (k := k) hk)).2 _ (mem_def hj))
 have HAL : Hid (∀ k, (adrops (l.drop k)).length ≤ 1000000) := Lib.hid (fun k => by
  have h1 := adrops_len (m := 1000) (l := l.drop k) fun e he => hd e (List.mem_of_mem_drop he)
  have h2 : (l.drop k).length ≤ 1000 := by rw [List.length_drop]; omega
  have h3 := Nat.mul_le_mul_right 1000 h2
  omega)
 have HLL : Hid (∀ k, (mleft node seq (l.drop k)).length ≤ 1000) := Lib.hid (fun k => by
  have h1 := mleft_len node seq (l.drop k)
  rw [List.length_drop] at h1
  omega)
 have HDC := Lib.hid (fun k hk => drop_cons (l := l) (k := k) hk)
 obtain ⟨a, cap, rfl, g1, g2, g0, h⟩ := hv.parts
 have HS := Lib.hid h
 clear hv h g0 hd hok
 obtain ⟨n, hN⟩ : ∃ n, l.length = n := ⟨_, rfl⟩
 rw [hN] at g1 hn HS HDM HDK HDS HDC ⊢
 have LN := Lib.hid hN
 have HD0 : Hid (l.drop n = []) := Lib.hid (List.drop_eq_nil_of_le (by omega))
 have HDA : Hid (l.drop 0 = l) := Lib.hid rfl
 clear hN
 have hmm := @run_makeMap Tryz.prog
 have HB1 : Hid (Below w.heap.size w (w.alloc (.map #[] 0))) := Lib.hid ((Below.refl _ _).alloc (Nat.le_refl _) _)
 have HS1 : Hid (SetAt (w.alloc (.map #[] 0)) w.heap.size []) := Lib.hid (SetAt.made w)
 have HZ1 : Hid ((w.alloc (.map #[] 0)).heap.size = w.heap.size + 1) := Lib.hid (by simp)
 have i0 : IntKind.i64.wrap ((n : Int) - 1) = (n : Int) - 1 := IntWalk.i64_in _ (by omega)
 go_enter Tryz.func72, Tryz.ntmps72
 go_upto_region 3 with fail
 generalize (w.alloc (.map #[] 0)) = w1 at *
 have HR : Hid (∀ j, some w.heap.size = some j → j < w1.heap.size) := Lib.hid (fun j hj => by cases hj; rw [HZ1.out]; omega)
 go_wp2_with fail
 go_loopw [7, 9] (fun z i wr => ∃ p : Nat, p ≤ n ∧ i = .int .i64 ((p : Int) - 1) ∧ OwnE LItem w1.heap.size wr z (mleft node seq (l.drop p)) ∧ SetAt wr w.heap.size (adrops (l.drop p)) ∧ w1.grownBy wr (some w.heap.size)) (fun _ i _ => (intOf i + 1).toNat)
 case atStart => exact ⟨n, Nat.le_refl _, rfl, by rw [HD0.out]; exact OwnE.nil _ _, by rw [HD0.out]; exact HS1.out, World.grownBy.refl _ _⟩
 case round =>
  obtain ⟨p, hp, rfl, ho, hs, hg⟩ := hrel
  have HG := Lib.hid hg
  have HO := Lib.hid ho
  have HB : Hid (Below w.heap.size w wr) := Lib.hid (HB1.out.trans (below_of_own hg HB1.out.size (Nat.le_refl _)))
  have HLP := Lib.hid (HLL.out p)
  clear hg ho
  by_cases hp0 : 0 < p
  ·obtain ⟨q, rfl⟩ : ∃ q, p = q + 1 := ⟨p - 1, by omega⟩
   have hqn : q < n := by omega
   obtain ⟨b, o, c, hv, -, -, -, hc⟩ := effs_spot HS.out (by rw [LN.out]; omega)
   rw [LN.out] at hv
   simp only [Value.slice.injEq] at hv
   obtain ⟨rfl, -, rfl⟩ := hv
   obtain ⟨dv, EX0, hsd⟩ := hc q (by rw [LN.out]; exact hqn)
   obtain ⟨da, dc, rfl, -, -, -, hsd⟩ := hsd.parts
   have HDQ := Lib.hid (HDC.out q hqn)
   have HXM := HDM.out q hqn
   have HKD := Lib.hid (HDK.out q hqn)
   have HDO := Lib.hid (HDS.out q hqn)
   have AL := Lib.hid (HAL.out (q + 1))
   have HAD : Hid (adrops (l.drop q) = adrops (l.drop (q + 1)) ++ (l.getD q default).drops) := Lib.hid (by rw [HDQ.out, adrops])
   have EX := Lib.hid EX0
   clear hc EX0
   generalize l.getD q default = x at *
   obtain ⟨m, hM⟩ : ∃ m, x.drops.length = m := ⟨_, rfl⟩
   have HTA : Hid (x.drops.take m = x.drops) := Lib.hid (by rw [← hM, List.take_length])
   have HT0 : Hid (adrops (l.drop (q + 1)) ++ x.drops.take 0 = adrops (l.drop (q + 1))) := Lib.hid (by rw [List.take_zero, List.append_nil])
   rw [hM] at hsd EX HDO HXM
   have LM := Lib.hid hM
   have SD := Lib.hid hsd
   clear hM hsd
   have e1 : (((q + 1 : Nat) : Int) - 1) = (q : Int) := by omega
   rw [e1]
   have i1 : IntKind.i64.wrap ((q : Int) - 1) = (q : Int) - 1 := IntWalk.i64_in _ (by omega)
   have i2 : (0 : Int) ≤ (q : Int) := by omega
   have i3 : (q : Int) < (n : Int) := by omega
   obtain ⟨c0, c1, c2, c3, c4, c5, c6⟩ := EX.out.below HB.out EX.out.lt
   go_wp2_with fail
   refine (emade_any node seq x da m dc _).mono ?_
   rintro e w2 ⟨rfl, hb⟩
   have B2 := Lib.hid (hb.alloc hb.size (.cells #[.string (bt x.key), .string (bt x.field), .int .i64 x.kind, .string (bt x.elem), .int .i64 x.n, .int .i64 node, .int .i64 seq, .int .i64 x.pos] 64))
   have I3 : Hid (ItemAt (w2.alloc (.cells #[.string (bt x.key), .string (bt x.field), .int .i64 x.kind, .string (bt x.elem), .int .i64 x.n, .int .i64 node, .int .i64 seq, .int .i64 x.pos] 64)) w2.heap.size 0 (madeI node seq x)) := Lib.hid (itemAt_box w2 (madeI node seq x))
   have S1 := Lib.hid (fun (W : World) => one_item W (madeI node seq x))
   clear hb c0 c1 c2 c3 c4 c5 c6
   go_upto_region 7 with fail
   generalize (w2.alloc (.cells #[.string (bt x.key), .string (bt x.field), .int .i64 x.kind, .string (bt x.elem), .int .i64 x.n, .int .i64 node, .int .i64 seq, .int .i64 x.pos] 64)) = w3 at *
   have HO3 := Lib.hid (HO.out.below B2.out (Nat.le_refl _))
   have G3 := Lib.hid (grown_trans HG.out (grown_of_below (row := some w.heap.size) B2.out) (fun j hj => .inl hj))
   have hs3 := hs.below B2.out hs.lt
   clear hs
   obtain ⟨D, nm, hnm, ho, hh⟩ := hs3
   have hkey : keyOf Tryz.prog 62 (.agg #[.int .i64 node, .int .i64 seq, .int .i64 x.pos]) = some (kd ⟨node, seq, x.pos⟩) := keyOf_dot HKD.out
   have KY := Lib.hid hkey
   have HOM := Lib.hid ho
   have HHX := Lib.hid (hh _ HKD.out)
   have SK : Hid (SetAt (w3.alloc (.cells #[] 103)) w.heap.size (adrops (l.drop (q + 1)))) := Lib.hid (SetAt.alloc ⟨D, nm, hnm, ho, hh⟩ _)
   have OK := Lib.hid (HO3.out.alloc (.cells #[] 103))
   have GK := Lib.hid (grown_alloc G3.out (.cells #[] 103))
   have I4 := Lib.hid (I3.out.below ((Below.refl w3.heap.size w3).alloc (Nat.le_refl _) (.cells #[] 103)) I3.out.lt)
   clear ho hkey hnm hh
   obtain ⟨c0, c1, c2, c3, c4, c5, c6, c7⟩ := (show w3.cell? ⟨w2.heap.size, 0, none⟩ = some (.string (bt x.key)) ∧ w3.cell? ⟨w2.heap.size, 1, none⟩ = some (.string (bt x.field)) ∧ w3.cell? ⟨w2.heap.size, 2, none⟩ = some (.int .i64 x.kind) ∧ w3.cell? ⟨w2.heap.size, 3, none⟩ = some (.string (bt x.elem)) ∧ w3.cell? ⟨w2.heap.size, 4, none⟩ = some (.int .i64 x.n) ∧ w3.cell? ⟨w2.heap.size, 5, none⟩ = some (.int .i64 node) ∧ w3.cell? ⟨w2.heap.size, 6, none⟩ = some (.int .i64 seq) ∧ w3.cell? ⟨w2.heap.size, 7, none⟩ = some (.int .i64 x.pos) from I3.out.zero)
   generalize hgo : Maps.has D (kd ⟨node, seq, x.pos⟩) = goes at *
   go_upto_region 8 with (at_lookup; refine wpList_lookup_own_unit _ rfl _ _ 101 rfl 62 103 lawDot Tryz.underlying101 (zeroUnit _) w.heap.size nm D rfl HOM.out _ _ rfl KY.out ?_)
   clear c0 c1 c2 c3 c4 c5 c6 c7
   generalize (w3.alloc (.cells #[] 103)) = w4 at *
   obtain ⟨c0, c1, c2, c3, c4, c5, c6, c7⟩ := (show w4.cell? ⟨w2.heap.size, 0, none⟩ = some (.string (bt x.key)) ∧ w4.cell? ⟨w2.heap.size, 1, none⟩ = some (.string (bt x.field)) ∧ w4.cell? ⟨w2.heap.size, 2, none⟩ = some (.int .i64 x.kind) ∧ w4.cell? ⟨w2.heap.size, 3, none⟩ = some (.string (bt x.elem)) ∧ w4.cell? ⟨w2.heap.size, 4, none⟩ = some (.int .i64 x.n) ∧ w4.cell? ⟨w2.heap.size, 5, none⟩ = some (.int .i64 node) ∧ w4.cell? ⟨w2.heap.size, 6, none⟩ = some (.int .i64 seq) ∧ w4.cell? ⟨w2.heap.size, 7, none⟩ = some (.int .i64 x.pos) from I4.out.zero)
   by_cases hk : x.kind = 0
   ·have q1 : (x.kind == 0) = true := by simp [hk]
    have q2 : (x.kind != 0) = false := by simp [hk]
    have HLD : Hid (mleft node seq (l.drop q) = mleft node seq (l.drop (q + 1))) := Lib.hid (by rw [HDQ.out]; exact mleft_no (.inl hk))
    clear hk
    go_upto_region 10 with fail
    clear c0 c1 c2 c3 c4 c5 c6 c7
    generalize w4 = wk at *
    have BK : Hid (Below w.heap.size w wk) := Lib.hid (HB1.out.trans (below_of_own GK.out HB1.out.size (Nat.le_refl _)))
    have y6 := (EX.out.below BK.out EX.out.lt).c6
    go_wp2_with fail
    go_loopw [54] (fun j wi => ∃ t : Nat, t ≤ m ∧ j = .int .i64 t ∧ SetAt wi w.heap.size (adrops (l.drop (q + 1)) ++ x.drops.take t) ∧ wk.grownBy wi (some w.heap.size)) (fun j _ => m - (intOf j).toNat)
    case atStart => exact ⟨0, Nat.zero_le _, rfl, by rw [HT0.out]; exact SK.out, World.grownBy.refl _ _⟩
    case round =>
     clear y6
     rename World => wi
     obtain ⟨t, ht, rfl, hs, hg⟩ := hrel
     have HG := Lib.hid hg
     have HGW := Lib.hid (grown_trans GK.out hg (fun j hj => .inl hj))
     have HBI : Hid (Below w.heap.size w wi) := Lib.hid (HB1.out.trans (below_of_own HGW.out HB1.out.size (Nat.le_refl _)))
     have HZ : Hid (w.heap.size < wi.heap.size) := Lib.hid (hs.lt)
     clear hg
     by_cases htl : t < m
     ·have hkd := Lib.hid (show t < x.drops.length by rw [LM.out]; exact htl)
      obtain ⟨b2, o2, c2', hv2, -, -, -, hc2⟩ := dots_spot (SD.out.below HBI.out) (by rw [LM.out]; omega)
      rw [LM.out] at hv2
      simp only [Value.slice.injEq] at hv2
      obtain ⟨rfl, -, rfl⟩ := hv2
      obtain ⟨c0, c1, c2⟩ := hc2 t hkd.out
      have HQK := Lib.hid (HDO.out t htl)
      have HTK := Lib.hid (take_snoc hkd.out)
      have HLT := Lib.hid (show (adrops (l.drop (q + 1)) ++ x.drops.take t).length ≤ 2000000 by rw [List.length_append]; have := AL.out; have := List.length_take_le t x.drops; omega)
      clear hc2
      generalize x.drops.getD t default = d at *
      obtain ⟨D, nm, hnm, ho, hh⟩ := hs
      have hkey : keyOf Tryz.prog 62 (.agg #[.int .i64 d.node, .int .i64 d.seq, .int .i64 d.pos]) = some (kd d) := keyOf_dot HQK.out
      have KY := Lib.hid hkey
      have hD := Lib.hid ho.isMap
      have HH := Lib.hid hh
      have HN := Lib.hid hnm
      have hlm : nm < maxLen := by
       have := HLT.out
       unfold maxLen
       omega
      have HM := Lib.hid hlm
      have hb1 := (Below.refl wi.heap.size wi).alloc (Nat.le_refl _) (.cells #[.int .i64 d.node, .int .i64 d.seq, .int .i64 d.pos] 62)
      have HO1 := Lib.hid (ho.alloc (.cells #[.int .i64 d.node, .int .i64 d.seq, .int .i64 d.pos] 62))
      have HG1 := Lib.hid (grown_alloc HG.out (.cells #[.int .i64 d.node, .int .i64 d.seq, .int .i64 d.pos] 62))
      clear ho hkey hb1 hnm hlm hh
      go_upto_region 13 with fail
      clear c0 c1 c2
      have DB : Hid (DotAt (wi.alloc (.cells #[.int .i64 d.node, .int .i64 d.seq, .int .i64 d.pos] 62)) wi.heap.size 0 d) := Lib.hid ⟨by simp, by simp, by simp⟩
      generalize (wi.alloc (.cells #[.int .i64 d.node, .int .i64 d.seq, .int .i64 d.pos] 62)) = wb at *
      obtain ⟨d0, d1, d2⟩ := DB.out
      simp only [Nat.zero_add] at d1 d2
      go_wp2_with (at_mapUpdate; refine wpList_mapUpdate_own _ rfl _ _ _ 101 rfl 62 103 lawDot Tryz.underlying101 unitElem w.heap.size nm D rfl HO1.out HM.out _ _ _ rfl rfl KY.out (.agg []) [] unitElem_mk ?_)
      intro w2' ho2 hg2
      have O2 := Lib.hid (SetAt.put HQK.out HN.out hD.out HH.out ho2)
      rw [List.append_assoc, HTK.out] at O2
      have G2 := Lib.hid (grown_trans HG1.out hg2 (fun j hj => .inl hj))
      clear ho2 hg2
      go_wp2_with fail
      go_roundw
      case rel => exact ⟨t + 1, by omega, by go_num, O2.out, G2.out⟩
      case measure => simp [intOf]; omega
     ·obtain rfl : t = m := by omega
      rw [HTA.out] at hs
      have S5 := Lib.hid hs
      have O5 := Lib.hid (OK.out.kept flat_item HG.out HR.out)
      clear hs
      go_wp2_with fail
      go_roundw
      case rel => exact ⟨q, by omega, rfl, by rw [HLD.out]; exact O5.out, by rw [HAD.out]; exact S5.out, HGW.out⟩
      case measure => simp [intOf] <;> omega
   ·have q1 : (x.kind == 0) = false := by simp [hk]
    have q2 : (x.kind != 0) = true := by simp [hk]
    cases goes with
    | true =>
     have HLD : Hid (mleft node seq (l.drop q) = mleft node seq (l.drop (q + 1))) := Lib.hid (by rw [HDQ.out]; exact mleft_no (.inr HHX.out.symm))
     clear hk
     go_upto_region 10 with fail
     clear c0 c1 c2 c3 c4 c5 c6 c7
     generalize w4 = wk at *
     have BK : Hid (Below w.heap.size w wk) := Lib.hid (HB1.out.trans (below_of_own GK.out HB1.out.size (Nat.le_refl _)))
     have y6 := (EX.out.below BK.out EX.out.lt).c6
     go_wp2_with fail
     go_loopw [54] (fun j wi => ∃ t : Nat, t ≤ m ∧ j = .int .i64 t ∧ SetAt wi w.heap.size (adrops (l.drop (q + 1)) ++ x.drops.take t) ∧ wk.grownBy wi (some w.heap.size)) (fun j _ => m - (intOf j).toNat)
     case atStart => exact ⟨0, Nat.zero_le _, rfl, by rw [HT0.out]; exact SK.out, World.grownBy.refl _ _⟩
     case round =>
      clear y6
      rename World => wi
      obtain ⟨t, ht, rfl, hs, hg⟩ := hrel
      have HG := Lib.hid hg
      have HGW := Lib.hid (grown_trans GK.out hg (fun j hj => .inl hj))
      have HBI : Hid (Below w.heap.size w wi) := Lib.hid (HB1.out.trans (below_of_own HGW.out HB1.out.size (Nat.le_refl _)))
      have HZ : Hid (w.heap.size < wi.heap.size) := Lib.hid (hs.lt)
      clear hg
      by_cases htl : t < m
      ·have hkd := Lib.hid (show t < x.drops.length by rw [LM.out]; exact htl)
       obtain ⟨b2, o2, c2', hv2, -, -, -, hc2⟩ := dots_spot (SD.out.below HBI.out) (by rw [LM.out]; omega)
       rw [LM.out] at hv2
       simp only [Value.slice.injEq] at hv2
       obtain ⟨rfl, -, rfl⟩ := hv2
       obtain ⟨c0, c1, c2⟩ := hc2 t hkd.out
       have HQK := Lib.hid (HDO.out t htl)
       have HTK := Lib.hid (take_snoc hkd.out)
       have HLT := Lib.hid (show (adrops (l.drop (q + 1)) ++ x.drops.take t).length ≤ 2000000 by rw [List.length_append]; have := AL.out; have := List.length_take_le t x.drops; omega)
       clear hc2
       generalize x.drops.getD t default = d at *
       obtain ⟨D, nm, hnm, ho, hh⟩ := hs
       have hkey : keyOf Tryz.prog 62 (.agg #[.int .i64 d.node, .int .i64 d.seq, .int .i64 d.pos]) = some (kd d) := keyOf_dot HQK.out
       have KY := Lib.hid hkey
       have hD := Lib.hid ho.isMap
       have HH := Lib.hid hh
       have HN := Lib.hid hnm
       have hlm : nm < maxLen := by
        have := HLT.out
        unfold maxLen
        omega
       have HM := Lib.hid hlm
       have hb1 := (Below.refl wi.heap.size wi).alloc (Nat.le_refl _) (.cells #[.int .i64 d.node, .int .i64 d.seq, .int .i64 d.pos] 62)
       have HO1 := Lib.hid (ho.alloc (.cells #[.int .i64 d.node, .int .i64 d.seq, .int .i64 d.pos] 62))
       have HG1 := Lib.hid (grown_alloc HG.out (.cells #[.int .i64 d.node, .int .i64 d.seq, .int .i64 d.pos] 62))
       clear ho hkey hb1 hnm hlm hh
       go_upto_region 13 with fail
       clear c0 c1 c2
       have DB : Hid (DotAt (wi.alloc (.cells #[.int .i64 d.node, .int .i64 d.seq, .int .i64 d.pos] 62)) wi.heap.size 0 d) := Lib.hid ⟨by simp, by simp, by simp⟩
       generalize (wi.alloc (.cells #[.int .i64 d.node, .int .i64 d.seq, .int .i64 d.pos] 62)) = wb at *
       obtain ⟨d0, d1, d2⟩ := DB.out
       simp only [Nat.zero_add] at d1 d2
       go_wp2_with (at_mapUpdate; refine wpList_mapUpdate_own _ rfl _ _ _ 101 rfl 62 103 lawDot Tryz.underlying101 unitElem w.heap.size nm D rfl HO1.out HM.out _ _ _ rfl rfl KY.out (.agg []) [] unitElem_mk ?_)
       intro w2' ho2 hg2
       have O2 := Lib.hid (SetAt.put HQK.out HN.out hD.out HH.out ho2)
       rw [List.append_assoc, HTK.out] at O2
       have G2 := Lib.hid (grown_trans HG1.out hg2 (fun j hj => .inl hj))
       clear ho2 hg2
       go_wp2_with fail
       go_roundw
       case rel => exact ⟨t + 1, by omega, by go_num, O2.out, G2.out⟩
       case measure => simp [intOf]; omega
      ·obtain rfl : t = m := by omega
       rw [HTA.out] at hs
       have S5 := Lib.hid hs
       have O5 := Lib.hid (OK.out.kept flat_item HG.out HR.out)
       clear hs
       go_wp2_with fail
       go_roundw
       case rel => exact ⟨q, by omega, rfl, by rw [HLD.out]; exact O5.out, by rw [HAD.out]; exact S5.out, HGW.out⟩
       case measure => simp [intOf] <;> omega
    | false =>
     have HLD : Hid (mleft node seq (l.drop q) = mleft node seq (l.drop (q + 1)) ++ [madeI node seq x]) := Lib.hid (by rw [HDQ.out]; exact mleft_yes hk HHX.out.symm)
     clear hk
     obtain ⟨azz, czz, rfl, -, -, -, -⟩ := OK.out.parts
     go_wp2_with (at_builtin; refine wpList_append_el LItem rfl (.tmp 44) (.tmp 46) rfl w1.heap.size rfl (OK.out.alloc _) rfl (S1.out _) (fun _ _ h => h) (by have := HLP.out; simp at *; omega) (by have := GK.out.size; simp; omega) ?_)
     intro v' wk ho' hgr _
     have BL := Lib.hid (((Below.refl w1.heap.size w4).alloc GK.out.size _).grown hgr (by have := GK.out.size; simp; omega) (fun j hj => (OK.out.lt j hj).1))
     replace OK := Lib.hid ho'
     replace SK := Lib.hid (SK.out.below BL.out (by rw [HZ1.out]; omega))
     replace GK := Lib.hid (grown_below GK.out BL.out)
     clear ho' hgr c0 c1 c2 c3 c4 c5 c6 c7 BL
     have BK : Hid (Below w.heap.size w wk) := Lib.hid (HB1.out.trans (below_of_own GK.out HB1.out.size (Nat.le_refl _)))
     have y6 := (EX.out.below BK.out EX.out.lt).c6
     go_wp2_with fail
     go_loopw [54] (fun j wi => ∃ t : Nat, t ≤ m ∧ j = .int .i64 t ∧ SetAt wi w.heap.size (adrops (l.drop (q + 1)) ++ x.drops.take t) ∧ wk.grownBy wi (some w.heap.size)) (fun j _ => m - (intOf j).toNat)
     case atStart => exact ⟨0, Nat.zero_le _, rfl, by rw [HT0.out]; exact SK.out, World.grownBy.refl _ _⟩
     case round =>
      clear y6
      rename World => wi
      obtain ⟨t, ht, rfl, hs, hg⟩ := hrel
      have HG := Lib.hid hg
      have HGW := Lib.hid (grown_trans GK.out hg (fun j hj => .inl hj))
      have HBI : Hid (Below w.heap.size w wi) := Lib.hid (HB1.out.trans (below_of_own HGW.out HB1.out.size (Nat.le_refl _)))
      have HZ : Hid (w.heap.size < wi.heap.size) := Lib.hid (hs.lt)
      clear hg
      by_cases htl : t < m
      ·have hkd := Lib.hid (show t < x.drops.length by rw [LM.out]; exact htl)
       obtain ⟨b2, o2, c2', hv2, -, -, -, hc2⟩ := dots_spot (SD.out.below HBI.out) (by rw [LM.out]; omega)
       rw [LM.out] at hv2
       simp only [Value.slice.injEq] at hv2
       obtain ⟨rfl, -, rfl⟩ := hv2
       obtain ⟨c0, c1, c2⟩ := hc2 t hkd.out
       have HQK := Lib.hid (HDO.out t htl)
       have HTK := Lib.hid (take_snoc hkd.out)
       have HLT := Lib.hid (show (adrops (l.drop (q + 1)) ++ x.drops.take t).length ≤ 2000000 by rw [List.length_append]; have := AL.out; have := List.length_take_le t x.drops; omega)
       clear hc2
       generalize x.drops.getD t default = d at *
       obtain ⟨D, nm, hnm, ho, hh⟩ := hs
       have hkey : keyOf Tryz.prog 62 (.agg #[.int .i64 d.node, .int .i64 d.seq, .int .i64 d.pos]) = some (kd d) := keyOf_dot HQK.out
       have KY := Lib.hid hkey
       have hD := Lib.hid ho.isMap
       have HH := Lib.hid hh
       have HN := Lib.hid hnm
       have hlm : nm < maxLen := by
        have := HLT.out
        unfold maxLen
        omega
       have HM := Lib.hid hlm
       have hb1 := (Below.refl wi.heap.size wi).alloc (Nat.le_refl _) (.cells #[.int .i64 d.node, .int .i64 d.seq, .int .i64 d.pos] 62)
       have HO1 := Lib.hid (ho.alloc (.cells #[.int .i64 d.node, .int .i64 d.seq, .int .i64 d.pos] 62))
       have HG1 := Lib.hid (grown_alloc HG.out (.cells #[.int .i64 d.node, .int .i64 d.seq, .int .i64 d.pos] 62))
       clear ho hkey hb1 hnm hlm hh
       go_upto_region 13 with fail
       clear c0 c1 c2
       have DB : Hid (DotAt (wi.alloc (.cells #[.int .i64 d.node, .int .i64 d.seq, .int .i64 d.pos] 62)) wi.heap.size 0 d) := Lib.hid ⟨by simp, by simp, by simp⟩
       generalize (wi.alloc (.cells #[.int .i64 d.node, .int .i64 d.seq, .int .i64 d.pos] 62)) = wb at *
       obtain ⟨d0, d1, d2⟩ := DB.out
       simp only [Nat.zero_add] at d1 d2
       go_wp2_with (at_mapUpdate; refine wpList_mapUpdate_own _ rfl _ _ _ 101 rfl 62 103 lawDot Tryz.underlying101 unitElem w.heap.size nm D rfl HO1.out HM.out _ _ _ rfl rfl KY.out (.agg []) [] unitElem_mk ?_)
       intro w2' ho2 hg2
       have O2 := Lib.hid (SetAt.put HQK.out HN.out hD.out HH.out ho2)
       rw [List.append_assoc, HTK.out] at O2
       have G2 := Lib.hid (grown_trans HG1.out hg2 (fun j hj => .inl hj))
       clear ho2 hg2
       go_wp2_with fail
       go_roundw
       case rel => exact ⟨t + 1, by omega, by go_num, O2.out, G2.out⟩
       case measure => simp [intOf]; omega
      ·obtain rfl : t = m := by omega
       rw [HTA.out] at hs
       have S5 := Lib.hid hs
       have O5 := Lib.hid (OK.out.kept flat_item HG.out HR.out)
       clear hs
       go_wp2_with fail
       go_roundw
       case rel => exact ⟨q, by omega, rfl, by rw [HLD.out]; exact O5.out, by rw [HAD.out]; exact S5.out, HGW.out⟩
       case measure => simp [intOf] <;> omega
  ·obtain rfl : p = 0 := by omega
   rw [HDA.out] at HO
   have O := Lib.hid (HO.out.mono HB1.out.size)
   obtain ⟨av, cv, rfl, -⟩ := HO.out.parts
   clear HO hs
   go_wp2_with fail
   go_ret
   exact ⟨_, rfl, O.out, HB.out⟩
end Go.Proofs.YtpnpomocjkmncaaGreat
namespace Go.Proofs.YtpnpomocjkmncaaGreat
open Go.RowKit Plain
set_option linter.unusedVariables false

def effsOk (node seq : Int) (l : List PEff) : Prop := ∀ e ∈ l, dotOk ⟨node, seq, e.pos⟩ ∧ ∀ d ∈ e.drops, dotOk d
theorem effsOk_of {node seq : Int} {l : List PEff} (h1 : (Lit.int .i64 node).wf = true) (h2 : (Lit.int .i64 seq).wf = true) (h : ∀ e ∈ l, effOk e) : effsOk node seq l := fun e he => ⟨⟨h1, h2, (h e he).1⟩, (h e he).2.2.2.1⟩
theorem mleft_ok {node seq : Int} {l : List PEff} (h : effsOk node seq l) : ∀ x ∈ mleft node seq l, dotOk x.dot := fun x hx => by
 obtain ⟨e, he, rfl⟩ := own_dot (mem_mleft.1 hx)
 exact (h e he).1

set_option maxRecDepth 100000 in
set_option maxHeartbeats 8000000 in
theorem edo_any (node seq : Int) {u v : Value} {xs : List PItem} {l : List PEff} {w : World} (hu : SeqE LItem w u xs) (hv : SeqE LEff w v l) (hx : xs.length ≤ 100000) (hn : l.length ≤ 1000) (hd : ∀ e ∈ l, e.drops.length ≤ 1000) (hdx : ∀ x ∈ xs, dotOk x.dot) (hok : effsOk node seq l) :
  Calls Tryz.prog 38 #[u, .int .i64 node, .int .i64 seq, v] w (MadeE LItem w (edo node seq xs l)) := by
 have HU := Lib.hid hu
 have HDK := Lib.hid hdx
 have HMK := Lib.hid (mleft_ok hok)
 have HML := Lib.hid (mleft_len node seq l)
 have HWL := Lib.hid (iwithout_len xs (dropsOf l))
 have HEW := Lib.hid (fun h => edo_way (node := node) (seq := seq) (s := xs) (l := l) h)
 have HDM := Lib.hid (fun k hk => hd _ (mem_defE (l := l) (k := k) hk))
 have HDT := Lib.hid (fun k hk => drops_take (l := l) (k := k) hk)
 have HDL : Hid (∀ k, k ≤ l.length → (dropsOf (l.take k)).length ≤ 1000000) := Lib.hid (fun k hk => by
  have h1 := drops_len (m := 1000) (l := l.take k) fun e he => hd e (List.mem_of_mem_take he)
  have h2 : (l.take k).length ≤ 1000 := by rw [List.length_take]; omega
  have h3 := Nat.mul_le_mul_right 1000 h2
  omega)
 have HDO : Hid (∀ d ∈ dropsOf l, dotOk d) := Lib.hid (fun d h => by
  obtain ⟨e, he, hde⟩ := List.mem_flatMap.1 h
  exact (hok e he).2 d hde)
 have KL := Lib.hid (fun (W : World) (h : Below w.heap.size w W) => eleft_any node seq (hv.below h) hn hd hok)
 have KC := Lib.hid (iclone_any hu (by omega : xs.length ≤ 1000000))
 have KW := Lib.hid (fun (W : World) (zv : Value) (h : Below w.heap.size w W) (hz : SeqE LDot W zv (dropsOf l)) => iwithout_any (hu.below h) hz (by omega) (by have := HDL.out l.length (Nat.le_refl _); rwa [List.take_length] at this) hdx HDO.out)
 have HX := Lib.hid hx
 obtain ⟨a, cap, rfl, g1, g2, g0, h⟩ := hv.parts
 have HS := Lib.hid h
 obtain ⟨a', cap', rfl, -⟩ := hu.parts
 obtain ⟨n, hN⟩ : ∃ n, l.length = n := ⟨_, rfl⟩
 rw [hN] at g1 hn HS HDM HDT HDL HML KL ⊢
 have LN := Lib.hid hN
 have HTA : Hid (l.take n = l) := Lib.hid (by rw [← hN, List.take_length])
 have HT0 : Hid (dropsOf (l.take 0) = []) := Lib.hid rfl
 have HNN : Hid (0 < n → l ≠ []) := Lib.hid (fun h e => by rw [e] at hN; simp at hN; omega)
 have HNZ : Hid (n = 0 → edo node seq xs l = xs) := Lib.hid (fun h => by
  have : l = [] := List.eq_nil_of_length_eq_zero (by omega)
  rw [this]
  rfl)
 clear hu hv h g0 hd hok hdx hN hx
 generalize xs.length = nx at *
 by_cases hn0 : n = 0
 ·have q0 : ((n : Int) == 0) = true := by subst hn0; rfl
  have HE := Lib.hid (HNZ.out hn0)
  rw [HE.out]
  clear HE hn0
  go_enter Tryz.func38, Tryz.ntmps38
  go_wp2_with fail
  refine KC.out.mono ?_
  rintro e w1 ⟨v1, rfl, ho, hb⟩
  have O := Lib.hid ho
  have G := Lib.hid hb
  obtain ⟨av, cv, rfl, -⟩ := ho.parts
  clear ho hb
  go_wp2_with fail
  go_ret
  exact ⟨_, rfl, O.out, G.out⟩
 ·have q0 : ((n : Int) == 0) = false := beq_false_of_ne (by omega)
  have HE := Lib.hid (HEW.out (HNN.out (by omega)))
  rw [← HE.out]
  clear hn0 HNN HNZ HEW KC
  go_enter Tryz.func38, Tryz.ntmps38
  go_wp2_with fail
  go_loopw [9, 20] (fun z i wr => ∃ k : Nat, k ≤ n ∧ i = .int .i64 k ∧ OwnE LDot w.heap.size wr z (dropsOf (l.take k)) ∧ Below w.heap.size w wr) (fun _ i _ => n - (intOf i).toNat)
  case atStart => exact ⟨0, Nat.zero_le _, rfl, by rw [HT0.out]; exact OwnE.nil _ _, Below.refl _ _⟩
  case round =>
   obtain ⟨k, hk, rfl, ho, hb⟩ := hrel
   have HO := Lib.hid ho
   have HB := Lib.hid hb
   have HLK := Lib.hid (HDL.out k hk)
   clear ho hb
   by_cases hlt : k < n
   ·obtain ⟨b, o, c, hv, -, -, -, hc⟩ := effs_spot (HS.out.below HB.out) (by rw [LN.out]; omega)
    rw [LN.out] at hv
    simp only [Value.slice.injEq] at hv
    obtain ⟨rfl, -, rfl⟩ := hv
    have HM := Lib.hid (HDM.out k hlt)
    have HTK := Lib.hid (HDT.out k hlt)
    obtain ⟨dv, EX, hsd⟩ := hc k (by rw [LN.out]; exact hlt)
    obtain ⟨da, dc, rfl, -, -, -, hsd⟩ := hsd.parts
    clear hc
    generalize l.getD k default = x at *
    obtain ⟨c0, c1, c2, c3, c4, c5, c6⟩ := EX
    obtain ⟨m, hM⟩ : ∃ m, x.drops.length = m := ⟨_, rfl⟩
    rw [hM] at hsd c6 HM
    have LM := Lib.hid hM
    clear hM
    have SD := Lib.hid (hsd.below_alloc (.cells #[.int .i64 x.pos, .string (bt x.key), .string (bt x.field), .int .i64 x.kind, .string (bt x.elem), .int .i64 x.n, .slice da m dc] 59))
    have OB := Lib.hid (HO.out.alloc (.cells #[.int .i64 x.pos, .string (bt x.key), .string (bt x.field), .int .i64 x.kind, .string (bt x.elem), .int .i64 x.n, .slice da m dc] 59))
    have GB := Lib.hid (HB.out.alloc HB.out.size (.cells #[.int .i64 x.pos, .string (bt x.key), .string (bt x.field), .int .i64 x.kind, .string (bt x.elem), .int .i64 x.n, .slice da m dc] 59))
    have EB : Hid (EffAt (wr.alloc (.cells #[.int .i64 x.pos, .string (bt x.key), .string (bt x.field), .int .i64 x.kind, .string (bt x.elem), .int .i64 x.n, .slice da m dc] 59)) wr.heap.size 0 x (.slice da m dc)) := Lib.hid (effAt_box wr x da m dc)
    clear hsd
    go_upto_region 7 with fail
    clear c0 c1 c2 c3 c4 c5 c6
    generalize (wr.alloc (.cells #[.int .i64 x.pos, .string (bt x.key), .string (bt x.field), .int .i64 x.kind, .string (bt x.elem), .int .i64 x.n, .slice da m dc] 59)) = wb at *
    obtain ⟨c0, c1, c2, c3, c4, c5, c6⟩ := EB.out.zero
    go_wp2_with (at_builtin; refine wpList_append_el LDot rfl (.tmp 24) (.tmp 26) rfl w.heap.size rfl OB.out rfl SD.out (fun _ _ h => h) (by have := HLK.out; have := HM.out; have := LM.out; omega) GB.out.size ?_)
    intro v' w1 ho' hgr _
    have O2 := Lib.hid ho'
    rw [← HTK.out] at O2
    have G2 : Hid (Below w.heap.size w w1) := Lib.hid (GB.out.grown hgr GB.out.size (fun j hj => (OB.out.lt j hj).1))
    clear ho' hgr c0 c1 c2 c3 c4 c5 c6
    go_wp2_with fail
    go_roundw
    case rel => exact ⟨k + 1, by omega, by go_num, O2.out, G2.out⟩
    case measure => simp [intOf]; omega
   ·obtain rfl : k = n := by omega
    rw [HTA.out] at HO
    have K := KW.out wr _ HB.out HO.out.seq
    obtain ⟨az, cz, rfl, -⟩ := HO.out.parts
    go_wp2_with fail
    refine K.mono ?_
    rintro e w2 ⟨v2, rfl, ho, hb⟩
    have G2 := Lib.hid (HB.out.trans (hb.mono HB.out.size))
    have O2 := Lib.hid ho
    have HZ2 : Hid (wr.heap.size ≤ w2.heap.size) := Lib.hid hb.size
    obtain ⟨a2, c2, rfl, -⟩ := ho.parts
    have K3 := KL.out w2 G2.out
    clear ho hb K
    go_wp2_with fail
    refine K3.mono ?_
    rintro e w3 ⟨v3, rfl, ho, hb⟩
    have G3 := Lib.hid (G2.out.trans (hb.mono G2.out.size))
    have O3 := Lib.hid (O2.out.below hb (Nat.le_refl _))
    have S3 := Lib.hid ho.seq
    have HZ : Hid (wr.heap.size ≤ w3.heap.size) := Lib.hid (Nat.le_trans HZ2.out hb.size)
    obtain ⟨a3, c3, rfl, -⟩ := ho.parts
    clear ho hb K3
    go_wp2_with (at_builtin; refine wpList_append_el LItem rfl (.tmp 32) (.tmp 36) rfl wr.heap.size rfl O3.out rfl S3.out (fun _ _ h => h) (by have := HWL.out; have := HML.out; have := HX.out; omega) HZ.out ?_)
    intro v4 w4 ho4 hgr _
    have S4 := Lib.hid ho4.seq
    have G4 : Hid (Below w.heap.size w w4) := Lib.hid (G3.out.grown hgr G3.out.size (fun j hj => Nat.le_trans HB.out.size (O3.out.lt j hj).1))
    have K5 := inorm_any S4.out (by rw [List.length_append]; have := HWL.out; have := HML.out; have := HX.out; omega) (fun x hx => (List.mem_append.1 hx).elim (fun h => HDK.out x (List.mem_filter.1 h).1) (fun h => HMK.out x h))
    obtain ⟨a4, c4, rfl, -⟩ := ho4.parts
    clear ho4 hgr
    generalize inorm (iwithout xs (dropsOf l) ++ mleft node seq l) = rr at *
    generalize (iwithout xs (dropsOf l) ++ mleft node seq l).length = n4 at *
    go_wp2_with fail
    refine K5.mono ?_
    rintro e w5 ⟨v5, rfl, ho, hb⟩
    have O := Lib.hid (ho.mono G4.out.size)
    have G := Lib.hid (G4.out.trans (hb.mono G4.out.size))
    obtain ⟨av, cv, rfl, -⟩ := ho.parts
    clear ho hb K5
    go_wp2_with fail
    go_ret
    exact ⟨_, rfl, O.out, G.out⟩
end Go.Proofs.YtpnpomocjkmncaaGreat
namespace Go.Proofs.YtpnpomocjkmncaaGreat
open Go.RowKit Plain
set_option linter.unusedVariables false

set_option maxRecDepth 100000 in
set_option maxHeartbeats 1000000 in
theorem dclone_any {u : Value} {xs : List PDot} {w : World} (hu : SeqE LDot w u xs) (hn : xs.length ≤ 1000000) : Calls Tryz.prog 133 #[u] w (MadeE LDot w xs) := by
 obtain ⟨a, cap, rfl, -, -, g0, h⟩ := hu.parts
 have q22 : ∀ (w : World) (a : Option Addr) (n c n' c' : Nat), (binOp .eql 57 (.slice a n c) (.slice none n' c')).run Tryz.prog w = .ok (.bool a.isNone) w := fun w a n c n' c' => Lib.run_eql_slice_nil w _ _ a n c n' c' Tryz.underlying57
 cases a with
 | none =>
  obtain rfl := g0 rfl
  obtain rfl : xs = [] := List.eq_nil_of_length_eq_zero (by have := h.dims; omega)
  go_enter Tryz.func133, Tryz.ntmps133
  go_wp2_with fail
  go_ret
  exact ⟨_, rfl, OwnE.nil _ _, Below.refl _ _⟩
 | some ad =>
  have HS := Lib.hid (h.below_alloc (.cells #[] 62))
  have HO := Lib.hid (OwnE.empty (L := LDot) w w.heap.size (Nat.le_refl _))
  have HB := Lib.hid ((Below.refl w.heap.size w).alloc (Nat.le_refl _) (.cells #[] 62))
  have hz : w.heap.size ≤ (w.alloc (.cells #[] 62)).heap.size := by simp
  have HZ := Lib.hid hz
  clear hu h g0 hz
  go_enter Tryz.func133, Tryz.ntmps133
  go_wp2_with (at_builtin; refine wpList_append_el LDot rfl (.tmp 5) (.tmp 6) rfl w.heap.size rfl HO.out rfl HS.out (fun _ _ h => h) (by simp; omega) HZ.out ?_)
  intro v' w2 ho' hgr _
  have O3 := Lib.hid ho'
  have B3 := Lib.hid (HB.out.grown hgr HZ.out (fun j hj => (HO.out.lt j hj).1))
  clear ho' hgr
  go_wp2_with fail
  go_ret
  exact ⟨_, rfl, by simpa using O3.out, B3.out⟩

theorem EffAt.drops {w : World} {b : Nat} {x : PEff} {dv : Value} (h : EffAt w b 0 x dv) (u : Value) : EffAt (w.setCell ⟨b, 6, none⟩ u) b 0 x u := by
 obtain ⟨c0, c1, c2, c3, c4, c5, c6⟩ := h
 simp only [Nat.zero_add] at c1 c2 c3 c4 c5 c6
 exact ⟨(World.cell?_setCell_other _ _ _ _ (by simp)).trans c0, (World.cell?_setCell_other _ _ _ _ (by simp)).trans c1, (World.cell?_setCell_other _ _ _ _ (by simp)).trans c2, (World.cell?_setCell_other _ _ _ _ (by simp)).trans c3, (World.cell?_setCell_other _ _ _ _ (by simp)).trans c4, (World.cell?_setCell_other _ _ _ _ (by simp)).trans c5, World.cell?_setCell_same _ _ _ c6⟩
end Go.Proofs.YtpnpomocjkmncaaGreat
namespace Go.Proofs.YtpnpomocjkmncaaGreat
open Go.RowKit Plain
set_option linter.unusedVariables false

end Go.Proofs.YtpnpomocjkmncaaGreat
