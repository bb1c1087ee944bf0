/- The program's own alone of a past: a list of transactions of the call's own, each of whose slices is put into memory of its own. -/
import Derived.Test.YtajfliemmfdnhaaGreatPaDel
import Derived.Test.YtajfliemmfdnhaaGreatOrLone
import Derived.Test.YtajfliemmfdnhaaGreatTxUses
import Derived.Deep.DeepCutAuto
namespace Go.Proofs.YtajfliemmfdnhaaGreat
open Go.RowKit Plain
set_option linter.unusedVariables false

def LoneE (N : Nat) (u : World) (a : Option Addr) (n c : Nat) (xs : List PEff) (j : Nat) : Prop := xs.length = n ∧ (n ≤ c ∧ c ≤ 9223372036854775807 ∧ (a = none → c = 0)) ∧ (0 < n → ∃ rb vals, a = some ⟨rb, 0, none⟩ ∧ LoneAt N u rb c xs j vals)
theorem LoneE.start {N : Nat} {u : World} {a : Option Addr} {n c : Nat} {xs : List PEff} (h : OwnE LEff N u (.slice a n c) xs) : LoneE N u a n c xs 0 := by
 obtain ⟨hn, h1, h2⟩ := h.seq.dims
 subst hn
 refine ⟨rfl, ⟨h1, h2, h.parts_none⟩, fun hp => ?_⟩
 obtain ⟨rb, rfl⟩ : ∃ rb, a = some ⟨rb, 0, none⟩ := by
  obtain ⟨vals, ho, -⟩ := h
  rcases ho.2 with ⟨-, h0⟩ | ⟨g, cap', cur, hv, -⟩
  ·omega
  ·simp only [Value.slice.injEq] at hv; exact ⟨g, hv.1⟩
 obtain ⟨vals, hv⟩ := LoneAt.start h
 exact ⟨rb, vals, rfl, hv⟩
theorem LoneE.below {N : Nat} {u u' : World} {a : Option Addr} {n c : Nat} {xs : List PEff} {j : Nat} (h : LoneE N u a n c xs j) (hb : Below u.heap.size u u') : LoneE N u' a n c xs j :=
 ⟨h.1, h.2.1, fun hp => by obtain ⟨rb, vals, e, k⟩ := h.2.2 hp; exact ⟨rb, vals, e, k.below hb⟩⟩
theorem LoneE.done {N : Nat} {u : World} {a : Option Addr} {n c : Nat} {xs : List PEff} (h : LoneE N u a n c xs n) : Sq LEff (fun b => N ≤ b ∧ b < u.heap.size) u (.slice a n c) xs := by
 obtain ⟨hn, ⟨h1, h2, h3⟩, h4⟩ := h
 subst hn
 by_cases hp : 0 < xs.length
 ·obtain ⟨rb, vals, rfl, k⟩ := h4 hp
  exact k.done
 ·have hx : xs = [] := List.eq_nil_of_length_eq_zero (by omega)
  subst hx
  exact ⟨a, c, [], rfl, h1, by unfold maxLen; exact h2, h3, Rows.nil _ _, fun h => absurd h (by simp)⟩
def LoneT (N : Nat) (u : World) (a : Option Addr) (n c : Nat) (xs : List PTxn) (j : Nat) : Prop := xs.length = n ∧ (n ≤ c ∧ c ≤ 9223372036854775807 ∧ (a = none → c = 0)) ∧ (0 < n → ∃ rb vals, a = some ⟨rb, 0, none⟩ ∧ LoneTx N u rb c xs j vals)
theorem LoneT.start {N : Nat} {u : World} {a : Option Addr} {n c : Nat} {xs : List PTxn} (h : OwnE LTxn N u (.slice a n c) xs) : LoneT N u a n c xs 0 := by
 obtain ⟨hn, h1, h2⟩ := h.seq.dims
 subst hn
 refine ⟨rfl, ⟨h1, h2, h.parts_none⟩, fun hp => ?_⟩
 obtain ⟨rb, rfl⟩ : ∃ rb, a = some ⟨rb, 0, none⟩ := by
  obtain ⟨vals, ho, -⟩ := h
  rcases ho.2 with ⟨-, h0⟩ | ⟨g, cap', cur, hv, -⟩
  ·omega
  ·simp only [Value.slice.injEq] at hv; exact ⟨g, hv.1⟩
 obtain ⟨vals, hv⟩ := LoneTx.start h
 exact ⟨rb, vals, rfl, hv⟩
theorem LoneT.done {N : Nat} {u : World} {a : Option Addr} {n c : Nat} {xs : List PTxn} (h : LoneT N u a n c xs n) : Sq LTxn (fun b => N ≤ b ∧ b < u.heap.size) u (.slice a n c) xs := by
 obtain ⟨hn, ⟨h1, h2, h3⟩, h4⟩ := h
 subst hn
 by_cases hp : 0 < xs.length
 ·obtain ⟨rb, vals, rfl, k⟩ := h4 hp
  exact k.done
 ·have hx : xs = [] := List.eq_nil_of_length_eq_zero (by omega)
  subst hx
  exact ⟨a, c, [], rfl, h1, by unfold maxLen; exact h2, h3, Rows.nil _ _, fun h => absurd h (by simp)⟩
theorem grown_set {w W : World} {rb i : Nat} {v : Value} (h : w.grownBy W (some rb)) : w.grownBy (W.setCell ⟨rb, i, none⟩ v) (some rb) :=
 ⟨h.os, h.tape, h.output, by have := h.size; simpa [World.setCell] using this, fun k hk hne => (Below.heap_setCell _ _ _ _ fun e => hne (by rw [show k = rb from e])).trans (h.block k hk hne)⟩
theorem getD_tx {xs : List PTxn} {k : Nat} (h : k < xs.length) : xs[k]? = some (xs.getD k default) := by simp [List.getD, h]
set_option maxRecDepth 100000 in
set_option maxHeartbeats 32000000 in
theorem paalone_any {lv : Value} {xs : List PTxn} {N : Nat} {w : World} (h : OwnE LTxn N w lv xs) (hN : N ≤ w.heap.size) (hf : ∀ t ∈ xs, t.deps.length ≤ 1000000 ∧ t.effs.length ≤ 1000000 ∧ ∀ e ∈ t.effs, e.drops.length ≤ 1000000) :
  Calls Tryz.prog 31 #[lv] w fun e w' => ∃ la ln lc, e = .returned (.slice la ln lc) ∧ Sq LTxn (fun b => N ≤ b ∧ b < w'.heap.size) w' (.slice la ln lc) xs ∧ w.grownBy w' lv.ownBlock ∧ Below N w w' := by
 obtain ⟨a, c, rfl, L1, L2, -, -⟩ := h.parts
 obtain ⟨n, hn⟩ : ∃ n, n = xs.length := ⟨_, rfl⟩
 have HL := Lib.hid hn
 rw [← hn] at h L1 ⊢
 have T0 := Lib.hid (LoneT.start h)
 have RL := Lib.hid h.lt
 have HN := Lib.hid hN
 have HF := Lib.hid hf
 have i1 : (n : Int) ≤ c := by omega
 have i2 : (c : Int) ≤ 9223372036854775807 := by omega
 clear h hN hf hn L1 L2
 go_enter Tryz.func31, Tryz.ntmps31
 go_wp2_with fail
 go_loopw [10] (fun i wr => ∃ k : Nat, k ≤ n ∧ i = .int .i64 k ∧ Aside (LoneT N wr a n c xs k ∧ w.grownBy wr (Value.ownBlock (.slice a n c)) ∧ w.heap.size ≤ wr.heap.size)) (fun i _ => n - (intOf i).toNat)
 case atStart => exact ⟨0, Nat.zero_le _, rfl, T0.out, World.grownBy.refl _ _, Nat.le_refl _⟩
 case round =>
  obtain ⟨k, hk, rfl, hrel⟩ := hrel
  obtain ⟨hlo, hbb, hnn⟩ := Aside.out hrel
  have LO := Lib.hid hlo
  have GB := Lib.hid hbb
  have NN := Lib.hid hnn
  clear hrel hlo hbb hnn T0
  by_cases hlt : k < n
  ·obtain ⟨rb, vals, rfl, LA0⟩ := LO.out.2.2 (by omega)
   have LA := Lib.hid LA0
   have hxk := getD_tx (show k < xs.length by rw [← HL.out]; exact hlt)
   have HXK := Lib.hid hxk
   obtain ⟨da, dn, dc, ea, en, ec, TA, SD0, SE0⟩ := LA0.at hxk
   have SD := Lib.hid SD0
   have SE := Lib.hid SE0
   have HFX := Lib.hid (HF.out (xs.getD k default) (List.mem_of_getElem? hxk))
   have RB0 := Lib.hid LA0.lt
   obtain ⟨c0, c1, c2, c3⟩ := TA
   clear LA0 hxk SD0 SE0
   generalize xs.getD k default = t at *
   have hk1 : (k : Int) < n := by omega
   have BE := Lib.hid ((Below.refl wr.heap.size wr).alloc (Nat.le_refl _) (.cells #[.int .i64 t.node, .int .i64 t.seq, .slice da dn dc, .slice ea en ec] 29))
   have BX := Lib.hid (heap_alloc_new wr (.cells #[.int .i64 t.node, .int .i64 t.seq, .slice da dn dc, .slice ea en ec] 29))
   have ZB : Hid ((wr.alloc (.cells #[.int .i64 t.node, .int .i64 t.seq, .slice da dn dc, .slice ea en ec] 29)).heap.size = wr.heap.size + 1) := Lib.hid (by simp)
   go_upto_region 4 with fail
   clear c0 c1 c2 c3
   generalize (wr.alloc (.cells #[.int .i64 t.node, .int .i64 t.seq, .slice da dn dc, .slice ea en ec] 29)) = wd at *
   have LB := Lib.hid (LA.out.below BE.out)
   have GD := Lib.hid (grown_below GB.out (BE.out.mono NN.out))
   have NW : Hid (w.heap.size ≤ wd.heap.size) := Lib.hid (Nat.le_trans NN.out BE.out.size)
   have ND : Hid (N ≤ wd.heap.size) := Lib.hid (Nat.le_trans HN.out NW.out)
   have RB : Hid (N ≤ rb ∧ rb < wd.heap.size) := Lib.hid ⟨RB0.out.1, Nat.lt_of_lt_of_le RB0.out.2 BE.out.size⟩
   have SD1 : Hid (Sq LInt (fun b => b < wd.heap.size ∧ b ≠ rb) wd (.slice da dn dc) t.deps) := Lib.hid ((SD.out.agree fun b hb => BE.out.block b hb.1).mono fun b hb => ⟨Nat.lt_of_lt_of_le hb.1 BE.out.size, hb.2⟩)
   have SE1 : Hid (Sq LEff (fun b => b < wd.heap.size ∧ b ≠ rb) wd (.slice ea en ec) t.effs) := Lib.hid ((SE.out.agree fun b hb => BE.out.block b hb.1).mono fun b hb => ⟨Nat.lt_of_lt_of_le hb.1 BE.out.size, hb.2⟩)
   have TG : Hid (wr.heap.size < wd.heap.size) := Lib.hid (by have := ZB.out; omega)
   clear LA GB NN BE RB0 SD SE LO ZB
   generalize wr.heap.size = tg at *
   clear wr
   have KE := Lib.hid (eclone_any SE1.out (fun b hb => hb.1) HFX.out.2.1)
   have b3 : wd.cell? ⟨tg, 3, none⟩ = some (.slice ea en ec) := cell_of_row _ _ 3 _ _ _ BX.out
   go_upto_region 5 with (go_at_call 56; refine KE.out.mono ?_; rintro e w3 ⟨v3, rfl, ho3, hb3⟩; have O3 := Lib.hid ho3.own; have H3 := Lib.hid hb3; obtain ⟨a3, cc3, rfl, p1, p2, -, -⟩ := ho3.own.parts; clear ho3 hb3 KE b3)
   obtain ⟨m, hm⟩ : ∃ m, m = t.effs.length := ⟨_, rfl⟩
   rw [← hm] at O3 p1 ⊢
   have HM := Lib.hid hm
   have E0 := Lib.hid (LoneE.start O3.out)
   have q1 : (m : Int) ≤ cc3 := by omega
   have q2 : (cc3 : Int) ≤ 9223372036854775807 := by omega
   clear hm p1 p2 O3
   go_wp2_with fail
   go_loopw [20] (fun i wo => ∃ j : Nat, j ≤ m ∧ i = .int .i64 j ∧ Aside (LoneE wd.heap.size wo a3 m cc3 t.effs j ∧ Below wd.heap.size wd wo)) (fun i _ => m - (intOf i).toNat)
   case atStart => exact ⟨0, Nat.zero_le _, rfl, E0.out, H3.out⟩
   case round =>
    obtain ⟨j, hj, rfl, hrel⟩ := hrel
    obtain ⟨hlo, hbb⟩ := Aside.out hrel
    have LE := Lib.hid hlo
    have GE := Lib.hid hbb
    clear hrel hlo hbb E0 H3
    by_cases hjt : j < m
    ·obtain ⟨eb, vl, rfl, LA0⟩ := LE.out.2.2 (by omega)
     have LA := Lib.hid LA0
     have hxj := getD_some (show j < t.effs.length by rw [← HM.out]; exact hjt)
     have HXJ := Lib.hid hxj
     obtain ⟨dv, EA, SX0⟩ := LA0.at hxj
     have HDR := Lib.hid (HFX.out.2.2 (t.effs.getD j default) (List.mem_of_getElem? hxj))
     have EBL := Lib.hid LA0.lt
     clear LA0 hxj LE
     generalize t.effs.getD j default = x at *
     obtain ⟨xa, xc, rfl, -, -, -, -⟩ := SeqE.parts (L := LDot) (SX0.mono fun b hb => hb.2.1)
     have SX := Lib.hid SX0
     clear SX0
     obtain ⟨xn, hxn⟩ : ∃ m, m = x.drops.length := ⟨_, rfl⟩
     rw [← hxn] at EA SX
     obtain ⟨y0, y1, y2, y3, y4, y5, y6⟩ := EA
     have hbe := (Below.refl wr.heap.size wr).alloc (Nat.le_refl _) (.cells #[.int .i64 x.pos, .string (bt x.key), .string (bt x.field), .int .i64 x.kind, .string (bt x.elem), .int .i64 x.n, .slice xa xn xc] 65)
     have BF := Lib.hid hbe
     have FB : Hid ((wr.alloc (.cells #[.int .i64 x.pos, .string (bt x.key), .string (bt x.field), .int .i64 x.kind, .string (bt x.elem), .int .i64 x.n, .slice xa xn xc] 65)).cell? ⟨wr.heap.size, 6, none⟩ = some (.slice xa xn xc)) := Lib.hid (effAt_box wr x xa xn xc).zero.2.2.2.2.2.2
     have SXB : Hid (SeqE LDot (wr.alloc (.cells #[.int .i64 x.pos, .string (bt x.key), .string (bt x.field), .int .i64 x.kind, .string (bt x.elem), .int .i64 x.n, .slice xa xn xc] 65)) (.slice xa xn xc) x.drops) := Lib.hid ((SX.out.agree fun b hb => hbe.block b hb.2.1).mono fun b hb => Nat.lt_of_lt_of_le hb.2.1 hbe.size)
     have hj1 : (j : Int) < m := by omega
     clear hbe hxn SX
     go_upto_region 8 with fail
     clear y0 y1 y2 y3 y4 y5 y6
     have LB2 := Lib.hid (LA.out.below BF.out)
     have GE2 := Lib.hid (GE.out.trans (BF.out.mono GE.out.size))
     have ZW : Hid (wd.heap.size ≤ wr.heap.size) := Lib.hid GE.out.size
     generalize (wr.alloc (.cells #[.int .i64 x.pos, .string (bt x.key), .string (bt x.field), .int .i64 x.kind, .string (bt x.elem), .int .i64 x.n, .slice xa xn xc] 65)) = wf at *
     have KD := Lib.hid (dclone_any SXB.out HDR.out)
     have y6 := FB.out
     go_upto_region 9 with (go_at_call 57; refine KD.out.mono ?_; rintro e w7 ⟨v7, rfl, ho7, hb7⟩; have O7 := Lib.hid (ho7.new flat_dot); have G7 := Lib.hid hb7; obtain ⟨a7, c7, rfl, -, -, -, -⟩ := ho7.parts; have L7 := Lib.hid (LB2.out.below hb7); obtain ⟨dv6, EA6, -⟩ := L7.out.at HXJ.out; have t6 := EA6.c6; have f6 := World.ownsRow.frozenAt L7.out.own (j * 7 + 6); clear EA6 ho7 hb7 KD y6)
     have SET : Hid (LoneE wd.heap.size (w7.setCell ⟨eb, j * 7 + 6, none⟩ (.slice a7 x.drops.length c7)) (some ⟨eb, 0, none⟩) m cc3 t.effs (j + 1)) := Lib.hid ⟨HM.out.symm, ⟨by omega, by omega, fun h => by cases h⟩, fun _ => ⟨eb, _, rfl, L7.out.set HXJ.out (O7.out.mono fun b hb => ⟨by have := ZW.out; have := BF.out.size; omega, hb.2, by have := EBL.out; have := BF.out.size; omega⟩)⟩⟩
     have GS : Hid (Below wd.heap.size wd (w7.setCell ⟨eb, j * 7 + 6, none⟩ (.slice a7 x.drops.length c7))) := Lib.hid ((GE2.out.trans (G7.out.mono GE2.out.size)).setCell (by show wd.heap.size ≤ eb; exact EBL.out.1) _)
     clear t6 f6
     go_wp2_with fail
     go_roundw
     case rel => exact ⟨j + 1, by omega, by go_num, SET.out, GS.out⟩
     case measure => simp [intOf]; omega
    ·obtain rfl : j = m := by omega
     have SE2 := Lib.hid LE.out.done
     have BX2 := Lib.hid ((GE.out.block _ TG.out).trans BX.out)
     have LB2 := Lib.hid (LB.out.below GE.out)
     have SD2 : Hid (SeqE LInt wr (.slice da dn dc) t.deps) := Lib.hid ((SD1.out.agree fun b hb => GE.out.block b hb.1).mono fun b hb => Nat.lt_of_lt_of_le hb.1 GE.out.size)
     have GW := Lib.hid (grown_below GD.out (GE.out.mono NW.out))
     have ZW : Hid (wd.heap.size ≤ wr.heap.size) := Lib.hid GE.out.size
     have KC := Lib.hid (tclone_any SD2.out HFX.out.1)
     have b2 : wr.cell? ⟨tg, 2, none⟩ = some (.slice da dn dc) := cell_of_row _ _ 2 _ _ _ BX2.out
     clear LE BX SD1 SE1 GD
     go_upto_region 11 with (go_at_call 30; refine KC.out.mono ?_; rintro e w5 ⟨v5, rfl, ho5, hb5⟩; have O5 := Lib.hid (ho5.new flat_int); have G5 := Lib.hid hb5; obtain ⟨a5, c5, rfl, -, -, -, -⟩ := ho5.parts; have L5 := Lib.hid (LB2.out.below hb5); obtain ⟨ya, yn, yc, yb, ym, yd, TA5, -, -⟩ := L5.out.at HXK.out; have t2 := TA5.c2; have t3 := TA5.c3; have f2 := L5.out.bare (k * 4 + 2); have f3 := L5.out.bare (k * 4 + 3); clear TA5 ho5 hb5 KC b2)
     have RZ := RB.out
     have SET : Hid (LoneT N ((w5.setCell ⟨rb, k * 4 + 2, none⟩ (.slice a5 t.deps.length c5)).setCell ⟨rb, k * 4 + 3, none⟩ (.slice a3 j cc3)) (some ⟨rb, 0, none⟩) n c xs (k + 1)) := Lib.hid ⟨HL.out.symm, ⟨by omega, by omega, fun h => by cases h⟩, fun _ => ⟨rb, _, rfl, L5.out.set HXK.out (O5.out.mono fun b hb => ⟨by have := ZW.out; have := ND.out; omega, hb.2, by have := ZW.out; omega⟩) ((SE2.out.agree fun b hb => G5.out.block b hb.2).mono fun b hb => ⟨by have := ND.out; omega, Nat.lt_of_lt_of_le hb.2 G5.out.size, by omega⟩)⟩⟩
     have GS : Hid (w.grownBy ((w5.setCell ⟨rb, k * 4 + 2, none⟩ (.slice a5 t.deps.length c5)).setCell ⟨rb, k * 4 + 3, none⟩ (.slice a3 j cc3)) (Value.ownBlock (.slice (some ⟨rb, 0, none⟩) n c))) := Lib.hid (grown_set (rb := rb) (grown_set (rb := rb) (grown_below GW.out (G5.out.mono (by have := ZW.out; have := NW.out; omega)))))
     have ZS : Hid (w.heap.size ≤ ((w5.setCell ⟨rb, k * 4 + 2, none⟩ (.slice a5 t.deps.length c5)).setCell ⟨rb, k * 4 + 3, none⟩ (.slice a3 j cc3)).heap.size) := Lib.hid (by have h1 := G5.out.size; have h2 := ZW.out; have h3 := NW.out; simp [World.setCell]; omega)
     clear t2 t3 f2 f3 RZ
     go_wp2_with fail
     go_roundw
     case rel => exact ⟨k + 1, by omega, by go_num, SET.out, GS.out, ZS.out⟩
     case measure => simp [intOf]; omega
  ·obtain rfl : k = n := by omega
   have DN := Lib.hid LO.out.done
   go_wp2_with fail
   go_ret
   exact ⟨_, _, _, rfl, DN.out, GB.out, (Below.refl N w).grown GB.out HN.out fun k hk => (RL.out k hk).1⟩
end Go.Proofs.YtajfliemmfdnhaaGreat
