/- What the program's own ofNodes and End of a past leave. -/
import Derived.Test.YtajfliemmfdnhaaGreatPast
import Derived.Test.YtajfliemmfdnhaaGreatPaRow
import Derived.Test.YtajfliemmfdnhaaGreatOrChns
import Derived.Test.YtajfliemmfdnhaaGreatTxUses
import Derived.Lib.MinMax
import Derived.Lib.SliceRun
import Derived.Deep.DeepCutAuto
namespace Go.Proofs.YtajfliemmfdnhaaGreat
open Go.RowKit Plain
set_option linter.unusedVariables false

set_option maxRecDepth 100000 in
set_option maxHeartbeats 1000000 in
theorem ofnodes_any {a : Option Addr} {n m c : Nat} {w : World} (hm : m = min n 8) (hc : n ≤ c) : Calls Tryz.prog 40 #[.slice a n c] w fun e w' => e = .returned (.slice a m c) ∧ w = w' := by
 have M1 : min (n : Int) 8 = (m : Int) := by omega
 have i1 : (m : Int) ≤ c := by omega
 clear hm hc
 go_enter Tryz.func40, Tryz.ntmps40
 go_wp2_with fail
 go_ret
 exact ⟨rfl, rfl⟩
def setz : Nat → Nat → Ints → Ints
 | _, 0, xs => xs
 | o, m + 1, xs => setz (o + 1) m (xs.set o 0)
theorem set_getD (xs : Ints) (o i : Nat) : (xs.set o 0).getD i 0 = if i = o then 0 else xs.getD i 0 := by
 simp only [List.getD_eq_getElem?_getD, List.getElem?_set]
 by_cases h : i = o
 ·subst h
  rw [if_pos rfl, if_pos rfl]
  by_cases hl : i < xs.length
  ·rw [if_pos hl]; rfl
  ·rw [if_neg hl]; rfl
 ·rw [if_neg (fun e => h e.symm), if_neg h]
theorem setz_getD : ∀ (m o : Nat) (xs : Ints) (i : Nat), (setz o m xs).getD i 0 = if o ≤ i ∧ i < o + m then 0 else xs.getD i 0
 | 0, o, xs, i => by rw [if_neg (by omega)]; rfl
 | m + 1, o, xs, i => by
  rw [setz, setz_getD m (o + 1) _ i, set_getD]
  by_cases h : i = o
  ·subst h
   rw [if_neg (by omega), if_pos rfl, if_pos (by omega)]
  ·rw [if_neg h]
   by_cases h2 : o + 1 ≤ i ∧ i < o + 1 + m
   ·rw [if_pos h2, if_pos (by omega)]
   ·rw [if_neg h2, if_neg (by omega)]
theorem setz_len : ∀ (m o : Nat) (xs : Ints), (setz o m xs).length = xs.length
 | 0, _, _ => rfl
 | m + 1, o, xs => by rw [setz, setz_len m, List.length_set]
theorem ownsI_zero {B g n c : Nat} : ∀ (m o : Nat) (xs : Ints) (w : World), OwnsI B w (.slice (some ⟨g, 0, none⟩) n c) xs → OwnsI B (w.setCells g o (List.replicate m (.int .i64 0))) (.slice (some ⟨g, 0, none⟩) n c) (setz o m xs)
 | 0, _, _, _, h => h
 | m + 1, o, xs, w, h => ownsI_zero m (o + 1) _ _ (h.set o 0)
theorem ownsI_of {B : Nat} {w : World} {v : Value} {xs : Ints} (h : OwnE LInt B w v xs) : OwnsI B w v xs := by
 obtain ⟨vals, ho, hr⟩ := h
 have hl : vals.length = xs.length * 1 := hr.1
 have e : vals = xs.map (Value.int .i64) := by
  apply List.ext_getElem
  ·rw [List.length_map]; omega
  ·intro j h1 h2
   have h' : pt 1 vals j = [.int .i64 xs[j]] := hr.2 j xs[j] (List.getElem?_eq_getElem (by omega))
   have h3 := pt_get (k := 1) vals j 0 (by omega)
   rw [h', Nat.mul_one, Nat.add_zero, List.getElem?_eq_getElem h1] at h3
   simpa using h3.symm
 rw [e] at ho
 exact ho
theorem setz_says (xs : Ints) (i : Nat) : says (setz 0 (min xs.length 8) xs) i = if i < 8 then 0 else says xs i := by
 unfold says
 rw [setz_getD]
 by_cases h : i < 8
 ·rw [if_pos h]
  by_cases h2 : i < xs.length
  ·rw [if_pos (by omega)]; rfl
  ·rw [if_neg (by omega), getD_end _ _ (by omega)]; rfl
 ·rw [if_neg h, if_neg (by omega)]
theorem pEnd_by {p : PPast} {o : Ints} (h : ∀ i, says o i = if i < 8 then 0 else says p.floor i) : join (oEnd (p.floor.take 8) p.list) o = pEnd p := by
 rw [← pEnd_way]
 refine short_ext (join_short _ _) (join_short _ _) fun i => ?_
 rw [join_says, join_says, h, pOthers_says]
theorem end_go {v : Ints} {l : List PTxn} {k : Nat} (hk : k < l.length) : oNext (oEnd v (l.take k)) (otx l k) = oEnd v (l.take (k + 1)) := by
 rw [otx_lt hk, take_at hk, oEnd_snoc]
set_option maxRecDepth 100000 in
set_option maxHeartbeats 16000000 in
theorem paend_any {v : Value} {p : PPast} {w : World} (h : IsPast w v p) (hl : p.floor.length ≤ 1000000) (hn : p.list.length ≤ 1000000) : Calls Tryz.prog 15 #[v] w (MadeI w (pEnd p)) := by
 obtain ⟨fa, fn, fc, la, ln, lc, rfl, h1, h2⟩ := h.slices
 have PB := Lib.hid (pabox_new (p := p) h1 h2)
 have B0 := Lib.hid ((Below.refl w.heap.size w).alloc (Nat.le_refl _) (.cells #[.slice fa fn fc, .slice la ln lc] 26))
 have DF := Lib.hid h1.dims
 have DL := Lib.hid h2.dims
 have HL := Lib.hid hl
 obtain ⟨fl, hfl⟩ : ∃ f, f = p.floor := ⟨_, rfl⟩
 obtain ⟨l, hll⟩ : ∃ l, l = p.list := ⟨_, rfl⟩
 have HE : Hid (∀ o : Ints, (∀ i, says o i = if i < 8 then 0 else says fl i) → join (oEnd (fl.take 8) l) o = pEnd p) := Lib.hid (fun o ho => by rw [hfl, hll]; exact pEnd_by (by rw [← hfl]; exact ho))
 have HFL := Lib.hid hfl
 have HLL := Lib.hid hll
 rw [← hfl] at DF HL
 rw [← hll] at DL
 have HNL : Hid (l.length ≤ 1000000) := Lib.hid (by rw [hll]; exact hn)
 clear h h1 h2 hl hn hfl hll
 go_enter Tryz.func15, Tryz.ntmps15
 go_upto_region 1 with fail
 generalize (w.alloc (.cells #[.slice fa fn fc, .slice la ln lc] 26)) = wb at *
 obtain ⟨m, hm⟩ : ∃ m, m = min fn 8 := ⟨_, rfl⟩
 have HM := Lib.hid hm
 have F0 : Hid (SeqI wb (.slice fa fn fc) fl) := Lib.hid (by rw [HFL.out]; exact seqI_of PB.out.f)
 have F8 : Hid (SeqI wb (.slice fa m fc) (fl.take 8)) := Lib.hid (by
  have h8 := F0.out.first m (by have := DF.out.1; omega)
  rwa [show fl.take m = fl.take 8 by
   by_cases h : fn ≤ 8
   ·rw [List.take_of_length_le (show fl.length ≤ m by have := DF.out.1; omega), List.take_of_length_le (by have := DF.out.1; omega)]
   ·rw [show m = 8 by omega]] at h8)
 have L0 : Hid (SeqE LTxn wb (.slice la ln lc) l) := Lib.hid (by rw [HLL.out]; exact PB.out.l)
 obtain ⟨c0, c1⟩ := PB.out.c
 have KO := Lib.hid (ofnodes_any (a := fa) (w := wb) hm DF.out.2.1)
 clear hm
 go_wp2_with fail
 refine KO.out.mono ?_
 rintro e w1 ⟨rfl, rfl⟩
 have i1 : (ln : Int) ≤ lc := by have := DL.out; omega
 have i2 : (lc : Int) ≤ 9223372036854775807 := by have := DL.out; omega
 go_wp2_with fail
 clear c0 c1 KO
 go_loopw [3, 13] (fun s0 i wr => ∃ (k : Nat) (u : Ints), k ≤ ln ∧ i = .int .i64 k ∧ SeqI wr s0 u ∧ Aside (u = oEnd (fl.take 8) (l.take k) ∧ u.length ≤ 1000000 ∧ Below wb.heap.size wb wr)) (fun _ i _ => ln - (intOf i).toNat)
 case atStart => exact ⟨0, fl.take 8, Nat.zero_le _, rfl, F8.out, rfl, by rw [List.length_take]; omega, Below.refl _ _⟩
 case round =>
  obtain ⟨k, u, hk, rfl, hs, hrel⟩ := hrel
  obtain ⟨h2, h3, h4⟩ := Aside.out hrel
  have C2 := Lib.hid h2
  have C3 := Lib.hid h3
  have GB := Lib.hid h4
  have SU := Lib.hid hs
  obtain ⟨ua, uc, rfl, -, -, -, -⟩ := hs.parts
  clear hrel h2 h3 h4 hs
  by_cases hlt : k < ln
  ·have hkl : k < l.length := by rw [DL.out.1]; exact hlt
   obtain ⟨lb, lo, rfl, hc⟩ := txns_at L0.out (by omega)
   obtain ⟨da, dn, dc, ea, en, ec, hW⟩ := hc k hlt
   have GO : Hid (oNext u (otx l k) = oEnd (fl.take 8) (l.take (k + 1))) := Lib.hid (by rw [C2.out]; exact end_go hkl)
   have NL : Hid ((oNext u (otx l k)).length ≤ 1000000) := Lib.hid (by have := oNext_len u (otx l k); have := C3.out; omega)
   have KN := Lib.hid (fun W (hb : Below wr.heap.size wr W) => onextP_any (SU.out.below hb) (hW W (GB.out.trans (hb.mono GB.out.size))).2 C3.out)
   obtain ⟨c0, c1, c2, c3⟩ := (hW wr GB.out).1
   have k1 : (k : Int) < ln := by omega
   clear hc hW hkl
   generalize otx l k = t at *
   have BE := Lib.hid ((Below.refl wr.heap.size wr).alloc (Nat.le_refl _) (.cells #[.int .i64 t.node, .int .i64 t.seq, .slice da dn dc, .slice ea en ec] 29))
   have BX := Lib.hid (heap_alloc_new wr (.cells #[.int .i64 t.node, .int .i64 t.seq, .slice da dn dc, .slice ea en ec] 29))
   go_upto_region 5 with fail
   clear c0 c1 c2 c3
   generalize (wr.alloc (.cells #[.int .i64 t.node, .int .i64 t.seq, .slice da dn dc, .slice ea en ec] 29)) = wd at *
   have d0 : wd.cell? ⟨wr.heap.size, 0, none⟩ = some (.int .i64 t.node) := cell_of_row _ _ 0 _ _ _ BX.out
   have d1 : wd.cell? ⟨wr.heap.size, 1, none⟩ = some (.int .i64 t.seq) := cell_of_row _ _ 1 _ _ _ BX.out
   have d2 : wd.cell? ⟨wr.heap.size, 2, none⟩ = some (.slice da dn dc) := cell_of_row _ _ 2 _ _ _ BX.out
   have d3 : wd.cell? ⟨wr.heap.size, 3, none⟩ = some (.slice ea en ec) := cell_of_row _ _ 3 _ _ _ BX.out
   have KN2 := Lib.hid (KN.out wd BE.out)
   go_wp2_with fail
   refine KN2.out.mono ?_
   rintro e w3 ⟨v3, rfl, ho3, hb3⟩
   have S3 := Lib.hid ho3.seq
   have H3 := Lib.hid (BE.out.trans (hb3.mono BE.out.size))
   clear ho3 hb3 KN2 d0 d1 d2 d3
   go_wp2_with fail
   go_roundw
   case rel => exact ⟨k + 1, _, by omega, by go_num, S3.out, GO.out, NL.out, GB.out.trans (H3.out.mono GB.out.size)⟩
   case measure => simp [intOf]; omega
  ·obtain rfl : k = ln := by omega
   have UE : Hid (u = oEnd (fl.take 8) l) := Lib.hid (by rw [C2.out]; congr 1; exact List.take_of_length_le (by have := DL.out.1; omega))
   have PB2 := Lib.hid (PB.out.below GB.out)
   obtain ⟨c0, c1⟩ := PB2.out.c
   have KC := Lib.hid (tclone_any (seq_ofI (F0.out.below GB.out)) (by have := HL.out; omega))
   go_upto_region 8 with (go_at_call 30; refine KC.out.mono ?_; rintro e w4 ⟨v4, rfl, ho4, hb4⟩; have O4 := Lib.hid ho4; have G4 := Lib.hid hb4; obtain ⟨oa, oc, rfl, q1, q2, -, q0⟩ := ho4.parts; clear ho4 hb4 KC c0 c1)
   obtain ⟨on, hon⟩ : ∃ n, n = fl.length := ⟨_, rfl⟩
   rw [← hon] at O4 q1 ⊢
   have HON := Lib.hid hon
   obtain ⟨m2, hm2⟩ : ∃ m, m = min on 8 := ⟨_, rfl⟩
   have KO := Lib.hid (ofnodes_any (a := oa) (w := w4) hm2 q1)
   have HM2 := Lib.hid hm2
   have q3 : oc ≤ 9223372036854775807 := q2
   have KJ : Hid (∀ (W : World) (o : Ints), SeqI W (.slice oa on oc) o → o.length = on → (∀ i, says o i = if i < 8 then 0 else says fl i) → Below w4.heap.size w4 W ∨ Below wr.heap.size wr W → Calls Tryz.prog 44 #[.slice ua u.length uc, .slice oa on oc] W (MadeI W (pEnd p))) := Lib.hid (fun W o ho hol hs hb => by
    have hb' : Below wr.heap.size wr W := hb.elim (fun h => G4.out.trans (h.mono G4.out.size)) id
    have := vc_join_any (SU.out.below hb') ho C3.out (by rw [hol, HON.out]; exact HL.out)
    rw [UE.out] at this ⊢
    rw [HE.out o hs] at this
    exact this)
   have GG : Hid (Below w.heap.size w wr) := Lib.hid (B0.out.trans (GB.out.mono B0.out.size))
   clear hon hm2 q2 C2 UE
   by_cases hz : on = 0
   ·subst hz
    obtain rfl : m2 = 0 := HM2.out
    have FN : Hid (fl = []) := Lib.hid (List.eq_nil_of_length_eq_zero HON.out.symm)
    have hcl : ∀ ty, (Builtin.clear_ #[23] ty #[.slice oa 0 oc]).run Tryz.prog w4 = .ok (.tuple #[]) w4 := fun ty => run_clear_nothing LInt w4 ty oa oc
    have KJ2 := Lib.hid (KJ.out w4 [] (seqI_of (by have := O4.out.seq; rw [FN.out] at this; exact this)) rfl (fun i => by rw [FN.out]; split <;> simp [says]) (.inl (Below.refl _ _)))
    go_upto_region 9 with (go_at_call 40; refine KO.out.mono ?_; rintro e w5 ⟨rfl, rfl⟩)
    go_wp2_with fail
    refine KJ2.out.mono ?_
    rintro e w6 ⟨v6, rfl, ho6, hb6⟩
    have O6 := Lib.hid (ho6.mono (Nat.le_trans GG.out.size G4.out.size))
    have G6 := Lib.hid (GG.out.trans ((G4.out.trans (hb6.mono G4.out.size)).mono GG.out.size))
    clear ho6 hb6
    go_wp2_with fail
    go_ret
    exact ⟨_, rfl, O6.out, G6.out⟩
   ·obtain ⟨ob, rfl⟩ : ∃ ob, oa = some ⟨ob, 0, none⟩ := by
     obtain ⟨vals, ho, -⟩ := O4.out
     rcases ho.2 with ⟨-, h0⟩ | ⟨g, cap', cur, hv, -⟩
     ·rw [← HON.out] at h0; omega
     ·simp only [Value.slice.injEq] at hv; exact ⟨g, hv.1⟩
    have OB := Lib.hid (O4.out.lt ob rfl)
    have OI : Hid (OwnsI wr.heap.size w4 (.slice (some ⟨ob, 0, none⟩) on oc) fl) := Lib.hid (ownsI_of O4.out)
    have hcl : ∀ ty, (Builtin.clear_ #[23] ty #[.slice (some ⟨ob, 0, none⟩) m2 oc]).run Tryz.prog w4 = .ok (.tuple #[]) (w4.setCells ob 0 (List.replicate m2 (.int .i64 0))) := fun ty =>
     Lib.run_clear_slice w4 _ _ ty _ LInt.und (fun w => zero_el LInt w) rfl rfl ob 0 m2 oc (by have := HM2.out; omega) (fun j hj => by have h1 := HM2.out; exact O4.out.there (show _ < on * 1 by omega)) (fun j hj => O4.out.bare _)
    have OZ := Lib.hid (ownsI_zero m2 0 fl w4 OI.out)
    have BZ := Lib.hid (below_setCells OB.out.1 (List.replicate m2 (.int .i64 0)) 0 w4)
    have SZ := Lib.hid (size_setCells ob (List.replicate m2 (.int .i64 0)) 0 w4)
    have HZ : Hid (∀ i, says (setz 0 m2 fl) i = if i < 8 then 0 else says fl i) := Lib.hid (by rw [HM2.out, HON.out]; exact setz_says fl)
    have GZ : Hid (Below wr.heap.size wr (w4.setCells ob 0 (List.replicate m2 (.int .i64 0)))) := Lib.hid (G4.out.trans BZ.out)
    clear BZ OI
    generalize w4.setCells ob 0 (List.replicate m2 (.int .i64 0)) = wz at *
    have KJ2 := Lib.hid (KJ.out wz _ OZ.out.seq (by rw [setz_len]; exact HON.out.symm) HZ.out (.inr GZ.out))
    go_upto_region 9 with (go_at_call 40; refine KO.out.mono ?_; rintro e w5 ⟨rfl, rfl⟩)
    go_wp2_with fail
    refine KJ2.out.mono ?_
    rintro e w6 ⟨v6, rfl, ho6, hb6⟩
    have O6 := Lib.hid (ho6.mono (Nat.le_trans GG.out.size GZ.out.size))
    have G6 := Lib.hid (GG.out.trans ((GZ.out.trans (hb6.mono GZ.out.size)).mono GG.out.size))
    clear ho6 hb6
    go_wp2_with fail
    go_ret
    exact ⟨_, rfl, O6.out, G6.out⟩
end Go.Proofs.YtajfliemmfdnhaaGreat
