/- What the program's own madeAndLeft of effects leaves. (Written by gen-eleft.py.) -/
import Derived.Test.YthcpglbeiibniaaGreatEFrm
import Derived.Test.YthcpglbeiibniaaGreatIWith
namespace Go.Proofs.YthcpglbeiibniaaGreat
open Go.RowKit Plain Go.Maps
set_option linter.unusedVariables false

set_option maxRecDepth 100000 in
set_option maxHeartbeats 16000000 in
/-- madeAndLeft -/
theorem eleft_any (node seq : Int) {v : Value} {l : List PEff} {w : World} (hv : SeqE LEff w v l) (hn : l.length ≤ 1000) (hd : ∀ e ∈ l, e.drops.length ≤ 1000) (hok : ∀ e ∈ l, dotOk ⟨node, seq, e.pos⟩ ∧ ∀ d ∈ e.drops, dotOk d) :
    Calls Tryz.prog 23 #[.int .i64 node, .int .i64 seq, v] w (MadeE LItem w (mleft node seq l)) := by
  have HDM := Lib.hid (fun k hk => hd _ (mem_defE (l := l) (k := k) hk))
  have HDK := Lib.hid (fun k hk => (hok _ (mem_defE (l := l) (k := k) hk)).1)
  have HDS := Lib.hid (fun k hk (j : Nat) (hj : j < (l.getD k default).drops.length) => (hok _ (mem_defE (l := l) (k := k) hk)).2 _ (mem_def hj))
  have HAL : Hid (∀ k, (adrops (l.drop k)).length ≤ 1000000) := Lib.hid (fun k => by
    have h1 := adrops_len (m := 1000) (l := l.drop k) fun e he => hd e (List.mem_of_mem_drop he)
    have h2 : (l.drop k).length ≤ 1000 := by rw [List.length_drop]; omega
    have h3 := Nat.mul_le_mul_right 1000 h2
    omega)
  have HLL : Hid (∀ k, (mleft node seq (l.drop k)).length ≤ 1000) := Lib.hid (fun k => by
    have h1 := mleft_len node seq (l.drop k)
    rw [List.length_drop] at h1
    omega)
  have HDC := Lib.hid (fun k hk => drop_cons (l := l) (k := k) hk)
  obtain ⟨a, cap, rfl, g1, g2, g0, h⟩ := hv.parts
  have HS := Lib.hid h
  clear hv h g0 hd hok
  obtain ⟨n, hN⟩ : ∃ n, l.length = n := ⟨_, rfl⟩
  rw [hN] at g1 hn HS HDM HDK HDS HDC ⊢
  have LN := Lib.hid hN
  have HD0 : Hid (l.drop n = []) := Lib.hid (List.drop_eq_nil_of_le (by omega))
  have HDA : Hid (l.drop 0 = l) := Lib.hid rfl
  clear hN
  have hmm := @run_makeMap Tryz.prog
  have HB1 : Hid (Below w.heap.size w (w.alloc (.map #[] 0))) := Lib.hid ((Below.refl _ _).alloc (Nat.le_refl _) _)
  have HS1 : Hid (SetAt (w.alloc (.map #[] 0)) w.heap.size []) := Lib.hid (SetAt.made w)
  have HZ1 : Hid ((w.alloc (.map #[] 0)).heap.size = w.heap.size + 1) := Lib.hid (by simp)
  have i0 : IntKind.i64.wrap ((n : Int) - 1) = (n : Int) - 1 := IntWalk.i64_in _ (by omega)
  go_enter Tryz.func23, Tryz.ntmps23
  go_upto_region 3 with fail
  generalize (w.alloc (.map #[] 0)) = w1 at *
  have HR : Hid (∀ j, some w.heap.size = some j → j < w1.heap.size) := Lib.hid (fun j hj => by cases hj; rw [HZ1.out]; omega)
  go_wp2_with fail
  go_loopw [7, 9] (fun z i wr => ∃ p : Nat, p ≤ n ∧ i = .int .i64 ((p : Int) - 1) ∧ OwnE LItem w1.heap.size wr z (mleft node seq (l.drop p)) ∧ SetAt wr w.heap.size (adrops (l.drop p)) ∧ w1.grownBy wr (some w.heap.size)) (fun _ i _ => (intOf i + 1).toNat)
  case atStart => exact ⟨n, Nat.le_refl _, rfl, by rw [HD0.out]; exact OwnE.nil _ _, by rw [HD0.out]; exact HS1.out, World.grownBy.refl _ _⟩
  case round =>
    obtain ⟨p, hp, rfl, ho, hs, hg⟩ := hrel
    have HG := Lib.hid hg
    have HO := Lib.hid ho
    have HB : Hid (Below w.heap.size w wr) := Lib.hid (HB1.out.trans (below_of_own hg HB1.out.size (Nat.le_refl _)))
    have HLP := Lib.hid (HLL.out p)
    clear hg ho
    by_cases hp0 : 0 < p
    · obtain ⟨q, rfl⟩ : ∃ q, p = q + 1 := ⟨p - 1, by omega⟩
      have hqn : q < n := by omega
      obtain ⟨b, o, c, hv, -, -, -, hc⟩ := effs_spot HS.out (by rw [LN.out]; omega)
      rw [LN.out] at hv
      simp only [Value.slice.injEq] at hv
      obtain ⟨rfl, -, rfl⟩ := hv
      obtain ⟨dv, EX0, hsd⟩ := hc q (by rw [LN.out]; exact hqn)
      obtain ⟨da, dc, rfl, -, -, -, hsd⟩ := hsd.parts
      have HDQ := Lib.hid (HDC.out q hqn)
      have HXM := HDM.out q hqn
      have HKD := Lib.hid (HDK.out q hqn)
      have HDO := Lib.hid (HDS.out q hqn)
      have AL := Lib.hid (HAL.out (q + 1))
      have HAD : Hid (adrops (l.drop q) = adrops (l.drop (q + 1)) ++ (l.getD q default).drops) := Lib.hid (by rw [HDQ.out, adrops])
      have EX := Lib.hid EX0
      clear hc EX0
      generalize l.getD q default = x at *
      obtain ⟨m, hM⟩ : ∃ m, x.drops.length = m := ⟨_, rfl⟩
      have HTA : Hid (x.drops.take m = x.drops) := Lib.hid (by rw [← hM, List.take_length])
      have HT0 : Hid (adrops (l.drop (q + 1)) ++ x.drops.take 0 = adrops (l.drop (q + 1))) := Lib.hid (by rw [List.take_zero, List.append_nil])
      rw [hM] at hsd EX HDO HXM
      have LM := Lib.hid hM
      have SD := Lib.hid hsd
      clear hM hsd
      have e1 : (((q + 1 : Nat) : Int) - 1) = (q : Int) := by omega
      rw [e1]
      have i1 : IntKind.i64.wrap ((q : Int) - 1) = (q : Int) - 1 := IntWalk.i64_in _ (by omega)
      have i2 : (0 : Int) ≤ (q : Int) := by omega
      have i3 : (q : Int) < (n : Int) := by omega
      obtain ⟨c0, c1, c2, c3, c4, c5, c6⟩ := EX.out.below HB.out EX.out.lt
      go_wp2_with fail
      refine (emade_any node seq x da m dc _).mono ?_
      rintro e w2 ⟨rfl, hb⟩
      have B2 := Lib.hid (hb.alloc hb.size (.cells #[.string (bt x.key), .string (bt x.field), .int .i64 x.kind, .string (bt x.elem), .int .i64 x.n, .int .i64 node, .int .i64 seq, .int .i64 x.pos] 39))
      have I3 : Hid (ItemAt (w2.alloc (.cells #[.string (bt x.key), .string (bt x.field), .int .i64 x.kind, .string (bt x.elem), .int .i64 x.n, .int .i64 node, .int .i64 seq, .int .i64 x.pos] 39)) w2.heap.size 0 (madeI node seq x)) := Lib.hid (itemAt_box w2 (madeI node seq x))
      have S1 := Lib.hid (fun (W : World) => one_item W (madeI node seq x))
      clear hb c0 c1 c2 c3 c4 c5 c6
      go_upto_region 7 with fail
      generalize (w2.alloc (.cells #[.string (bt x.key), .string (bt x.field), .int .i64 x.kind, .string (bt x.elem), .int .i64 x.n, .int .i64 node, .int .i64 seq, .int .i64 x.pos] 39)) = w3 at *
      have HO3 := Lib.hid (HO.out.below B2.out (Nat.le_refl _))
      have G3 := Lib.hid (grown_trans HG.out (grown_of_below (row := some w.heap.size) B2.out) (fun j hj => .inl hj))
      have hs3 := hs.below B2.out hs.lt
      clear hs
      obtain ⟨D, nm, hnm, ho, hh⟩ := hs3
      have hkey : keyOf Tryz.prog 37 (.agg #[.int .i64 node, .int .i64 seq, .int .i64 x.pos]) = some (kd ⟨node, seq, x.pos⟩) := keyOf_dot HKD.out
      have KY := Lib.hid hkey
      have HOM := Lib.hid ho
      have HHX := Lib.hid (hh _ HKD.out)
      have SK : Hid (SetAt (w3.alloc (.cells #[] 64)) w.heap.size (adrops (l.drop (q + 1)))) := Lib.hid (SetAt.alloc ⟨D, nm, hnm, ho, hh⟩ _)
      have OK := Lib.hid (HO3.out.alloc (.cells #[] 64))
      have GK := Lib.hid (grown_alloc G3.out (.cells #[] 64))
      have I4 := Lib.hid (I3.out.below ((Below.refl w3.heap.size w3).alloc (Nat.le_refl _) (.cells #[] 64)) I3.out.lt)
      clear ho hkey hnm hh
      obtain ⟨c0, c1, c2, c3, c4, c5, c6, c7⟩ := (show w3.cell? ⟨w2.heap.size, 0, none⟩ = some (.string (bt x.key)) ∧ w3.cell? ⟨w2.heap.size, 1, none⟩ = some (.string (bt x.field)) ∧ w3.cell? ⟨w2.heap.size, 2, none⟩ = some (.int .i64 x.kind) ∧ w3.cell? ⟨w2.heap.size, 3, none⟩ = some (.string (bt x.elem)) ∧ w3.cell? ⟨w2.heap.size, 4, none⟩ = some (.int .i64 x.n) ∧ w3.cell? ⟨w2.heap.size, 5, none⟩ = some (.int .i64 node) ∧ w3.cell? ⟨w2.heap.size, 6, none⟩ = some (.int .i64 seq) ∧ w3.cell? ⟨w2.heap.size, 7, none⟩ = some (.int .i64 x.pos) from I3.out.zero)
      generalize hgo : Maps.has D (kd ⟨node, seq, x.pos⟩) = goes at *
      go_upto_region 8 with (at_lookup; refine wpList_lookup_own_unit _ rfl _ _ 63 rfl 37 64 lawDot Tryz.underlying63 (zeroUnit _) w.heap.size nm D rfl HOM.out _ _ rfl KY.out ?_)
      clear c0 c1 c2 c3 c4 c5 c6 c7
      generalize (w3.alloc (.cells #[] 64)) = w4 at *
      obtain ⟨c0, c1, c2, c3, c4, c5, c6, c7⟩ := (show w4.cell? ⟨w2.heap.size, 0, none⟩ = some (.string (bt x.key)) ∧ w4.cell? ⟨w2.heap.size, 1, none⟩ = some (.string (bt x.field)) ∧ w4.cell? ⟨w2.heap.size, 2, none⟩ = some (.int .i64 x.kind) ∧ w4.cell? ⟨w2.heap.size, 3, none⟩ = some (.string (bt x.elem)) ∧ w4.cell? ⟨w2.heap.size, 4, none⟩ = some (.int .i64 x.n) ∧ w4.cell? ⟨w2.heap.size, 5, none⟩ = some (.int .i64 node) ∧ w4.cell? ⟨w2.heap.size, 6, none⟩ = some (.int .i64 seq) ∧ w4.cell? ⟨w2.heap.size, 7, none⟩ = some (.int .i64 x.pos) from I4.out.zero)
      by_cases hk : x.kind = 0
      · have q1 : (x.kind == 0) = true := by simp [hk]
        have q2 : (x.kind != 0) = false := by simp [hk]
        have HLD : Hid (mleft node seq (l.drop q) = mleft node seq (l.drop (q + 1))) := Lib.hid (by rw [HDQ.out]; exact mleft_no (.inl hk))
        clear hk
        go_upto_region 10 with fail
        clear c0 c1 c2 c3 c4 c5 c6 c7
        generalize w4 = wk at *
        have BK : Hid (Below w.heap.size w wk) := Lib.hid (HB1.out.trans (below_of_own GK.out HB1.out.size (Nat.le_refl _)))
        have y6 := (EX.out.below BK.out EX.out.lt).c6
        go_wp2_with fail
        go_loopw [54] (fun j wi => ∃ t : Nat, t ≤ m ∧ j = .int .i64 t ∧ SetAt wi w.heap.size (adrops (l.drop (q + 1)) ++ x.drops.take t) ∧ wk.grownBy wi (some w.heap.size)) (fun j _ => m - (intOf j).toNat)
        case atStart => exact ⟨0, Nat.zero_le _, rfl, by rw [HT0.out]; exact SK.out, World.grownBy.refl _ _⟩
        case round =>
          clear y6
          rename World => wi
          obtain ⟨t, ht, rfl, hs, hg⟩ := hrel
          have HG := Lib.hid hg
          have HGW := Lib.hid (grown_trans GK.out hg (fun j hj => .inl hj))
          have HBI : Hid (Below w.heap.size w wi) := Lib.hid (HB1.out.trans (below_of_own HGW.out HB1.out.size (Nat.le_refl _)))
          have HZ : Hid (w.heap.size < wi.heap.size) := Lib.hid (hs.lt)
          clear hg
          by_cases htl : t < m
          · have hkd := Lib.hid (show t < x.drops.length by rw [LM.out]; exact htl)
            obtain ⟨b2, o2, c2', hv2, -, -, -, hc2⟩ := dots_spot (SD.out.below HBI.out) (by rw [LM.out]; omega)
            rw [LM.out] at hv2
            simp only [Value.slice.injEq] at hv2
            obtain ⟨rfl, -, rfl⟩ := hv2
            obtain ⟨c0, c1, c2⟩ := hc2 t hkd.out
            have HQK := Lib.hid (HDO.out t htl)
            have HTK := Lib.hid (take_snoc hkd.out)
            have HLT := Lib.hid (show (adrops (l.drop (q + 1)) ++ x.drops.take t).length ≤ 2000000 by rw [List.length_append]; have := AL.out; have := List.length_take_le t x.drops; omega)
            clear hc2
            generalize x.drops.getD t default = d at *
            obtain ⟨D, nm, hnm, ho, hh⟩ := hs
            have hkey : keyOf Tryz.prog 37 (.agg #[.int .i64 d.node, .int .i64 d.seq, .int .i64 d.pos]) = some (kd d) := keyOf_dot HQK.out
            have KY := Lib.hid hkey
            have hD := Lib.hid ho.isMap
            have HH := Lib.hid hh
            have HN := Lib.hid hnm
            have hlm : nm < maxLen := by
              have := HLT.out
              unfold maxLen
              omega
            have HM := Lib.hid hlm
            have hb1 := (Below.refl wi.heap.size wi).alloc (Nat.le_refl _) (.cells #[.int .i64 d.node, .int .i64 d.seq, .int .i64 d.pos] 37)
            have HO1 := Lib.hid (ho.alloc (.cells #[.int .i64 d.node, .int .i64 d.seq, .int .i64 d.pos] 37))
            have HG1 := Lib.hid (grown_alloc HG.out (.cells #[.int .i64 d.node, .int .i64 d.seq, .int .i64 d.pos] 37))
            clear ho hkey hb1 hnm hlm hh
            go_upto_region 13 with fail
            clear c0 c1 c2
            have DB : Hid (DotAt (wi.alloc (.cells #[.int .i64 d.node, .int .i64 d.seq, .int .i64 d.pos] 37)) wi.heap.size 0 d) := Lib.hid ⟨by simp, by simp, by simp⟩
            generalize (wi.alloc (.cells #[.int .i64 d.node, .int .i64 d.seq, .int .i64 d.pos] 37)) = wb at *
            obtain ⟨d0, d1, d2⟩ := DB.out
            simp only [Nat.zero_add] at d1 d2
            go_wp2_with (at_mapUpdate; refine wpList_mapUpdate_own _ rfl _ _ _ 63 rfl 37 64 lawDot Tryz.underlying63 unitElem w.heap.size nm D rfl HO1.out HM.out _ _ _ rfl rfl KY.out (.agg []) [] unitElem_mk ?_)
            intro w2' ho2 hg2
            have O2 := Lib.hid (SetAt.put HQK.out HN.out hD.out HH.out ho2)
            rw [List.append_assoc, HTK.out] at O2
            have G2 := Lib.hid (grown_trans HG1.out hg2 (fun j hj => .inl hj))
            clear ho2 hg2
            go_wp2_with fail
            go_roundw
            case rel => exact ⟨t + 1, by omega, by go_num, O2.out, G2.out⟩
            case measure => simp [intOf]; omega
          · obtain rfl : t = m := by omega
            rw [HTA.out] at hs
            have S5 := Lib.hid hs
            have O5 := Lib.hid (OK.out.kept flat_item HG.out HR.out)
            clear hs
            go_wp2_with fail
            go_roundw
            case rel => exact ⟨q, by omega, rfl, by rw [HLD.out]; exact O5.out, by rw [HAD.out]; exact S5.out, HGW.out⟩
            case measure => simp [intOf] <;> omega
      · have q1 : (x.kind == 0) = false := by simp [hk]
        have q2 : (x.kind != 0) = true := by simp [hk]
        cases goes with
        | true =>
          have HLD : Hid (mleft node seq (l.drop q) = mleft node seq (l.drop (q + 1))) := Lib.hid (by rw [HDQ.out]; exact mleft_no (.inr HHX.out.symm))
          clear hk
          go_upto_region 10 with fail
          clear c0 c1 c2 c3 c4 c5 c6 c7
          generalize w4 = wk at *
          have BK : Hid (Below w.heap.size w wk) := Lib.hid (HB1.out.trans (below_of_own GK.out HB1.out.size (Nat.le_refl _)))
          have y6 := (EX.out.below BK.out EX.out.lt).c6
          go_wp2_with fail
          go_loopw [54] (fun j wi => ∃ t : Nat, t ≤ m ∧ j = .int .i64 t ∧ SetAt wi w.heap.size (adrops (l.drop (q + 1)) ++ x.drops.take t) ∧ wk.grownBy wi (some w.heap.size)) (fun j _ => m - (intOf j).toNat)
          case atStart => exact ⟨0, Nat.zero_le _, rfl, by rw [HT0.out]; exact SK.out, World.grownBy.refl _ _⟩
          case round =>
            clear y6
            rename World => wi
            obtain ⟨t, ht, rfl, hs, hg⟩ := hrel
            have HG := Lib.hid hg
            have HGW := Lib.hid (grown_trans GK.out hg (fun j hj => .inl hj))
            have HBI : Hid (Below w.heap.size w wi) := Lib.hid (HB1.out.trans (below_of_own HGW.out HB1.out.size (Nat.le_refl _)))
            have HZ : Hid (w.heap.size < wi.heap.size) := Lib.hid (hs.lt)
            clear hg
            by_cases htl : t < m
            · have hkd := Lib.hid (show t < x.drops.length by rw [LM.out]; exact htl)
              obtain ⟨b2, o2, c2', hv2, -, -, -, hc2⟩ := dots_spot (SD.out.below HBI.out) (by rw [LM.out]; omega)
              rw [LM.out] at hv2
              simp only [Value.slice.injEq] at hv2
              obtain ⟨rfl, -, rfl⟩ := hv2
              obtain ⟨c0, c1, c2⟩ := hc2 t hkd.out
              have HQK := Lib.hid (HDO.out t htl)
              have HTK := Lib.hid (take_snoc hkd.out)
              have HLT := Lib.hid (show (adrops (l.drop (q + 1)) ++ x.drops.take t).length ≤ 2000000 by rw [List.length_append]; have := AL.out; have := List.length_take_le t x.drops; omega)
              clear hc2
              generalize x.drops.getD t default = d at *
              obtain ⟨D, nm, hnm, ho, hh⟩ := hs
              have hkey : keyOf Tryz.prog 37 (.agg #[.int .i64 d.node, .int .i64 d.seq, .int .i64 d.pos]) = some (kd d) := keyOf_dot HQK.out
              have KY := Lib.hid hkey
              have hD := Lib.hid ho.isMap
              have HH := Lib.hid hh
              have HN := Lib.hid hnm
              have hlm : nm < maxLen := by
                have := HLT.out
                unfold maxLen
                omega
              have HM := Lib.hid hlm
              have hb1 := (Below.refl wi.heap.size wi).alloc (Nat.le_refl _) (.cells #[.int .i64 d.node, .int .i64 d.seq, .int .i64 d.pos] 37)
              have HO1 := Lib.hid (ho.alloc (.cells #[.int .i64 d.node, .int .i64 d.seq, .int .i64 d.pos] 37))
              have HG1 := Lib.hid (grown_alloc HG.out (.cells #[.int .i64 d.node, .int .i64 d.seq, .int .i64 d.pos] 37))
              clear ho hkey hb1 hnm hlm hh
              go_upto_region 13 with fail
              clear c0 c1 c2
              have DB : Hid (DotAt (wi.alloc (.cells #[.int .i64 d.node, .int .i64 d.seq, .int .i64 d.pos] 37)) wi.heap.size 0 d) := Lib.hid ⟨by simp, by simp, by simp⟩
              generalize (wi.alloc (.cells #[.int .i64 d.node, .int .i64 d.seq, .int .i64 d.pos] 37)) = wb at *
              obtain ⟨d0, d1, d2⟩ := DB.out
              simp only [Nat.zero_add] at d1 d2
              go_wp2_with (at_mapUpdate; refine wpList_mapUpdate_own _ rfl _ _ _ 63 rfl 37 64 lawDot Tryz.underlying63 unitElem w.heap.size nm D rfl HO1.out HM.out _ _ _ rfl rfl KY.out (.agg []) [] unitElem_mk ?_)
              intro w2' ho2 hg2
              have O2 := Lib.hid (SetAt.put HQK.out HN.out hD.out HH.out ho2)
              rw [List.append_assoc, HTK.out] at O2
              have G2 := Lib.hid (grown_trans HG1.out hg2 (fun j hj => .inl hj))
              clear ho2 hg2
              go_wp2_with fail
              go_roundw
              case rel => exact ⟨t + 1, by omega, by go_num, O2.out, G2.out⟩
              case measure => simp [intOf]; omega
            · obtain rfl : t = m := by omega
              rw [HTA.out] at hs
              have S5 := Lib.hid hs
              have O5 := Lib.hid (OK.out.kept flat_item HG.out HR.out)
              clear hs
              go_wp2_with fail
              go_roundw
              case rel => exact ⟨q, by omega, rfl, by rw [HLD.out]; exact O5.out, by rw [HAD.out]; exact S5.out, HGW.out⟩
              case measure => simp [intOf] <;> omega
        | false =>
          have HLD : Hid (mleft node seq (l.drop q) = mleft node seq (l.drop (q + 1)) ++ [madeI node seq x]) := Lib.hid (by rw [HDQ.out]; exact mleft_yes hk HHX.out.symm)
          clear hk
          obtain ⟨azz, czz, rfl, -, -, -, -⟩ := OK.out.parts
          go_wp2_with (at_builtin; refine wpList_append_el LItem rfl (.tmp 44) (.tmp 46) rfl w1.heap.size rfl (OK.out.alloc _) rfl (S1.out _) (fun _ _ h => h) (by have := HLP.out; simp at *; omega) (by have := GK.out.size; simp; omega) ?_)
          intro v' wk ho' hgr _
          have BL := Lib.hid (((Below.refl w1.heap.size w4).alloc GK.out.size _).grown hgr (by have := GK.out.size; simp; omega) (fun j hj => (OK.out.lt j hj).1))
          replace OK := Lib.hid ho'
          replace SK := Lib.hid (SK.out.below BL.out (by rw [HZ1.out]; omega))
          replace GK := Lib.hid (grown_below GK.out BL.out)
          clear ho' hgr c0 c1 c2 c3 c4 c5 c6 c7 BL
          have BK : Hid (Below w.heap.size w wk) := Lib.hid (HB1.out.trans (below_of_own GK.out HB1.out.size (Nat.le_refl _)))
          have y6 := (EX.out.below BK.out EX.out.lt).c6
          go_wp2_with fail
          go_loopw [54] (fun j wi => ∃ t : Nat, t ≤ m ∧ j = .int .i64 t ∧ SetAt wi w.heap.size (adrops (l.drop (q + 1)) ++ x.drops.take t) ∧ wk.grownBy wi (some w.heap.size)) (fun j _ => m - (intOf j).toNat)
          case atStart => exact ⟨0, Nat.zero_le _, rfl, by rw [HT0.out]; exact SK.out, World.grownBy.refl _ _⟩
          case round =>
            clear y6
            rename World => wi
            obtain ⟨t, ht, rfl, hs, hg⟩ := hrel
            have HG := Lib.hid hg
            have HGW := Lib.hid (grown_trans GK.out hg (fun j hj => .inl hj))
            have HBI : Hid (Below w.heap.size w wi) := Lib.hid (HB1.out.trans (below_of_own HGW.out HB1.out.size (Nat.le_refl _)))
            have HZ : Hid (w.heap.size < wi.heap.size) := Lib.hid (hs.lt)
            clear hg
            by_cases htl : t < m
            · have hkd := Lib.hid (show t < x.drops.length by rw [LM.out]; exact htl)
              obtain ⟨b2, o2, c2', hv2, -, -, -, hc2⟩ := dots_spot (SD.out.below HBI.out) (by rw [LM.out]; omega)
              rw [LM.out] at hv2
              simp only [Value.slice.injEq] at hv2
              obtain ⟨rfl, -, rfl⟩ := hv2
              obtain ⟨c0, c1, c2⟩ := hc2 t hkd.out
              have HQK := Lib.hid (HDO.out t htl)
              have HTK := Lib.hid (take_snoc hkd.out)
              have HLT := Lib.hid (show (adrops (l.drop (q + 1)) ++ x.drops.take t).length ≤ 2000000 by rw [List.length_append]; have := AL.out; have := List.length_take_le t x.drops; omega)
              clear hc2
              generalize x.drops.getD t default = d at *
              obtain ⟨D, nm, hnm, ho, hh⟩ := hs
              have hkey : keyOf Tryz.prog 37 (.agg #[.int .i64 d.node, .int .i64 d.seq, .int .i64 d.pos]) = some (kd d) := keyOf_dot HQK.out
              have KY := Lib.hid hkey
              have hD := Lib.hid ho.isMap
              have HH := Lib.hid hh
              have HN := Lib.hid hnm
              have hlm : nm < maxLen := by
                have := HLT.out
                unfold maxLen
                omega
              have HM := Lib.hid hlm
              have hb1 := (Below.refl wi.heap.size wi).alloc (Nat.le_refl _) (.cells #[.int .i64 d.node, .int .i64 d.seq, .int .i64 d.pos] 37)
              have HO1 := Lib.hid (ho.alloc (.cells #[.int .i64 d.node, .int .i64 d.seq, .int .i64 d.pos] 37))
              have HG1 := Lib.hid (grown_alloc HG.out (.cells #[.int .i64 d.node, .int .i64 d.seq, .int .i64 d.pos] 37))
              clear ho hkey hb1 hnm hlm hh
              go_upto_region 13 with fail
              clear c0 c1 c2
              have DB : Hid (DotAt (wi.alloc (.cells #[.int .i64 d.node, .int .i64 d.seq, .int .i64 d.pos] 37)) wi.heap.size 0 d) := Lib.hid ⟨by simp, by simp, by simp⟩
              generalize (wi.alloc (.cells #[.int .i64 d.node, .int .i64 d.seq, .int .i64 d.pos] 37)) = wb at *
              obtain ⟨d0, d1, d2⟩ := DB.out
              simp only [Nat.zero_add] at d1 d2
              go_wp2_with (at_mapUpdate; refine wpList_mapUpdate_own _ rfl _ _ _ 63 rfl 37 64 lawDot Tryz.underlying63 unitElem w.heap.size nm D rfl HO1.out HM.out _ _ _ rfl rfl KY.out (.agg []) [] unitElem_mk ?_)
              intro w2' ho2 hg2
              have O2 := Lib.hid (SetAt.put HQK.out HN.out hD.out HH.out ho2)
              rw [List.append_assoc, HTK.out] at O2
              have G2 := Lib.hid (grown_trans HG1.out hg2 (fun j hj => .inl hj))
              clear ho2 hg2
              go_wp2_with fail
              go_roundw
              case rel => exact ⟨t + 1, by omega, by go_num, O2.out, G2.out⟩
              case measure => simp [intOf]; omega
            · obtain rfl : t = m := by omega
              rw [HTA.out] at hs
              have S5 := Lib.hid hs
              have O5 := Lib.hid (OK.out.kept flat_item HG.out HR.out)
              clear hs
              go_wp2_with fail
              go_roundw
              case rel => exact ⟨q, by omega, rfl, by rw [HLD.out]; exact O5.out, by rw [HAD.out]; exact S5.out, HGW.out⟩
              case measure => simp [intOf] <;> omega
    · obtain rfl : p = 0 := by omega
      rw [HDA.out] at HO
      have O := Lib.hid (HO.out.mono HB1.out.size)
      obtain ⟨av, cv, rfl, -⟩ := HO.out.parts
      clear HO hs
      go_wp2_with fail
      go_ret
      exact ⟨_, rfl, O.out, HB.out⟩
end Go.Proofs.YthcpglbeiibniaaGreat
