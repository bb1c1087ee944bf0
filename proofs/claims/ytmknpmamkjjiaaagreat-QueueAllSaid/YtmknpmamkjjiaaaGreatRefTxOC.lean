/- What the document's own Only of effects (finer) and of transactions, and the program's own Dot leave. (Written by gen-all.py.) What the document's own Copy of effects and of transactions leave: all of it anew. (Written by gen-copy.py.) -/
import Derived.Test.YtmknpmamkjjiaaaGreatEDos
import Derived.Test.YtmknpmamkjjiaaaGreatISets
import Derived.Test.YtmknpmamkjjiaaaGreatRefZs
import Derived.Test.YtmknpmamkjjiaaaGreatEqI
import Derived.Deep.QuietTactic
import Derived.Deep.Cut
import Derived.Test.YtmknpmamkjjiaaaGreatTxIns
import Derived.Test.YtmknpmamkjjiaaaGreatTxRds
import Derived.Test.YtmknpmamkjjiaaaGreatTxFrm
import Derived.Test.YtmknpmamkjjiaaaGreatTxn
import Derived.Test.YtmknpmamkjjiaaaGreatEForms
import Derived.Test.YtmknpmamkjjiaaaGreatVcAll
namespace Go.Proofs.YtmknpmamkjjiaaaGreat
open Go.RowKit Plain
set_option linter.unusedVariables false

set_option maxRecDepth 100000 in
set_option maxHeartbeats 2000000 in
/-- Dot -/
theorem txdotP {a b : Int} {da ea : Option Addr} {dn dc en ec : Nat} {w : World} : Calls Tryz.prog 24 #[.agg #[.int .i64 a, .int .i64 b, .slice da dn dc, .slice ea en ec]] w fun e w' => e = .returned (.agg #[.int .i64 a, .int .i64 b, .int .i64 0]) ∧ Below w.heap.size w w' := by
 have G1 : Hid (Below w.heap.size w ((w.alloc (.cells #[.int .i64 a, .int .i64 b, .slice da dn dc, .slice ea en ec] 29)).alloc (.cells #[.int .i64 0, .int .i64 0, .int .i64 0] 54))) := Lib.hid (((Below.refl _ _).alloc (Nat.le_refl _) _).alloc (by simp) _)
 go_enter Tryz.func24, Tryz.ntmps24
 go_wp2_with fail
 refine bodyPost_ret (v := .agg #[.int .i64 a, .int .i64 b, .int .i64 0]) (by simp [results, Tryz.results24, go_sem]) rfl ⟨rfl, ?_⟩
 exact ((Below.refl _ _).alloc (Nat.le_refl _) _).alloc (by simp) _
end Go.Proofs.YtmknpmamkjjiaaaGreat
namespace Go.Proofs.YtmknpmamkjjiaaaGreat
open Go.RowKit Plain
set_option linter.unusedVariables false

theorem ttake_succ {α : Type} [Inhabited α] {l : List α} {k : Nat} (hk : k < l.length) : l.take (k + 1) = l.take k ++ [l.getD k default] := take_nextD hk
set_option maxRecDepth 100000 in
set_option maxHeartbeats 8000000 in
/-- Copy of effects -/
theorem rcopyE_any {v : Value} {xs : List PEff} {w : World} (hv : SeqE LEff w v xs) (hn : xs.length ≤ 1000000) (hd : ∀ e ∈ xs, e.drops.length ≤ 1000000) : Calls Tryz.prog 17 #[v] w (MadeJ LEff w xs) := by
 have HDM := Lib.hid (fun k hk => hd _ (mem_defE (l := xs) (k := k) hk))
 obtain ⟨a, cap, rfl, g1, g2, g0, h⟩ := hv.parts
 have HS := Lib.hid h
 have PS0 := Lib.hid (fun k (hk : k < xs.length) => ttake_succ (l := xs) hk)
 obtain ⟨P, hP⟩ : ∃ P : Nat → List PEff, P = fun k => xs.take k := ⟨_, rfl⟩
 have PS : Hid (∀ k, k < xs.length → P (k + 1) = P k ++ [xs.getD k default]) := Lib.hid (fun k hk => by rw [hP]; exact PS0.out k hk)
 have P0 : Hid (P 0 = []) := Lib.hid (by rw [hP]; rfl)
 have PN : Hid (P xs.length = xs) := Lib.hid (by rw [hP]; show xs.take xs.length = _; rw [List.take_length])
 have PL : Hid (∀ k, (P k).length ≤ xs.length) := Lib.hid (fun k => by rw [hP]; show (xs.take k).length ≤ _; rw [List.length_take]; omega)
 obtain ⟨n, hN⟩ : ∃ n, xs.length = n := ⟨_, rfl⟩
 rw [hN] at g1 hn HS HDM PS PN PL ⊢
 have LN := Lib.hid hN
 have HE : Hid (∀ W v, OwnJ (fun b => w.heap.size ≤ b) LEff w.heap.size W v (P n) → OwnJ (fun b => w.heap.size ≤ b) LEff w.heap.size W v xs) := Lib.hid (fun W v h => PN.out ▸ h)
 clear hv h g0 hd hN hP PS0
 go_enter Tryz.func17, Tryz.ntmps17
 go_wp2_with fail
 go_loopw [3, 4] (fun z i wr => ∃ k : Nat, k ≤ n ∧ i = .int .i64 k ∧ OwnJ (fun b => w.heap.size ≤ b) LEff w.heap.size wr z (P k) ∧ Below w.heap.size w wr) (fun _ i _ => n - (intOf i).toNat)
 case atStart => exact ⟨0, Nat.zero_le _, rfl, by rw [P0.out]; exact OwnJ.nil _ _ _, Below.refl _ _⟩
 case round =>
  obtain ⟨k, hk, rfl, ho, hb⟩ := hrel
  have HO := Lib.hid ho
  have HB := Lib.hid hb
  clear ho hb
  by_cases hlt : k < n
  ·have PK := Lib.hid (PS.out k hlt)
   have LK := Lib.hid (PL.out k)
   obtain ⟨b, o, c, hv, -, -, -, hc⟩ := effs_spot (HS.out.below HB.out) (by rw [LN.out]; omega)
   rw [LN.out] at hv
   simp only [Value.slice.injEq] at hv
   obtain ⟨rfl, -, rfl⟩ := hv
   obtain ⟨dv, EX, hsd⟩ := hc k (by rw [LN.out]; exact hlt)
   obtain ⟨da, dc, rfl, -, -, -, hsd⟩ := hsd.parts
   have HM := HDM.out k hlt
   clear hc
   generalize xs.getD k default = x at *
   obtain ⟨c0, c1, c2, c3, c4, c5, c6⟩ := EX
   obtain ⟨m, hM⟩ : ∃ m, x.drops.length = m := ⟨_, rfl⟩
   rw [hM] at hsd c6 HM
   have LM := Lib.hid hM
   have HM2 := Lib.hid HM
   clear hM HM
   have hbe := (Below.refl wr.heap.size wr).alloc (Nat.le_refl _) (.cells #[.int .i64 x.pos, .string (bt x.key), .string (bt x.field), .int .i64 x.kind, .string (bt x.elem), .int .i64 x.n, .slice da m dc] 61)
   have hbf := hbe.alloc (by simp) (.cells #[] 54)
   have BX := Lib.hid hbe
   have EB : Hid (EffAt (wr.alloc (.cells #[.int .i64 x.pos, .string (bt x.key), .string (bt x.field), .int .i64 x.kind, .string (bt x.elem), .int .i64 x.n, .slice da m dc] 61)) wr.heap.size 0 x (.slice da m dc)) := Lib.hid (effAt_box wr x da m dc)
   have ZB : Hid ((wr.alloc (.cells #[.int .i64 x.pos, .string (bt x.key), .string (bt x.field), .int .i64 x.kind, .string (bt x.elem), .int .i64 x.n, .slice da m dc] 61)).heap.size = wr.heap.size + 1) := Lib.hid (by simp)
   have SB := Lib.hid (hsd.below hbe)
   have GB := Lib.hid (HB.out.trans (hbe.mono HB.out.size))
   have FB : Hid ((wr.alloc (.cells #[.int .i64 x.pos, .string (bt x.key), .string (bt x.field), .int .i64 x.kind, .string (bt x.elem), .int .i64 x.n, .slice da m dc] 61)).frozen? ⟨wr.heap.size, 6, none⟩ = false) := Lib.hid (by simp)
   have OL := Lib.hid HO.out.lt
   have ZR := Lib.hid HB.out.size
   clear hsd hbe hbf
   go_upto_region 6 with fail
   clear c0 c1 c2 c3 c4 c5 c6
   generalize (wr.alloc (.cells #[.int .i64 x.pos, .string (bt x.key), .string (bt x.field), .int .i64 x.kind, .string (bt x.elem), .int .i64 x.n, .slice da m dc] 61)) = wd at *
   have SA := Lib.hid (SB.out.below_alloc (.cells #[] 54))
   have EA := Lib.hid (EB.out.below ((Below.refl wd.heap.size wd).alloc (Nat.le_refl _) (.cells #[] 54)) EB.out.lt)
   have FA : Hid ((wd.alloc (.cells #[] 54)).frozen? ⟨wr.heap.size, 6, none⟩ = false) := Lib.hid ((((Below.refl wd.heap.size wd).alloc (Nat.le_refl _) (.cells #[] 54)).frozen (p := ⟨wr.heap.size, 6, none⟩) EB.out.lt).trans FB.out)
   have OE := Lib.hid (OwnE.empty (L := LDot) wd wd.heap.size (Nat.le_refl _))
   obtain ⟨c0, c1, c2, c3, c4, c5, c6⟩ := EA.out.zero
   go_wp2_with (at_builtin; refine wpList_append_el LDot rfl (.tmp 16) (.tmp 18) rfl wd.heap.size rfl OE.out rfl SA.out (fun _ _ h => h) (by rw [LM.out]; have := HM2.out; simp; omega) (by simp) ?_)
   intro v6 w6 ho6 hgr hat
   have hg6 : Below wd.heap.size wd w6 := ((Below.refl _ _).alloc (Nat.le_refl _) _).grown hgr (by simp) (fun j hj => (OE.out.lt j hj).1)
   have O6 := Lib.hid ho6
   have E6 := Lib.hid (EB.out.below hg6 EB.out.lt)
   have f6 : w6.frozen? ⟨wr.heap.size, 6, none⟩ = false := (hg6.frozen (p := ⟨wr.heap.size, 6, none⟩) EB.out.lt).trans FB.out
   have B6 : Hid (Below wr.heap.size wr w6) := Lib.hid (BX.out.trans (hg6.mono BX.out.size))
   have G6 := Lib.hid (GB.out.trans (hg6.mono GB.out.size))
   have Z6 : Hid (wd.heap.size ≤ w6.heap.size) := Lib.hid hg6.size
   obtain ⟨a6, c6x, rfl, -, -, -, -⟩ := ho6.parts
   rw [LM.out] at O6 ⊢
   clear ho6 hgr hat hg6 c0 c1 c2 c3 c4 c5 c6 OE SA EA FA
   obtain ⟨c0, c1, c2, c3, c4, c5, c6⟩ := E6.out.zero
   have E7 : Hid (EffAt (w6.setCell ⟨wr.heap.size, 6, none⟩ (.slice a6 m c6x)) wr.heap.size 0 x (.slice a6 m c6x)) := Lib.hid (E6.out.drops _)
   have Z7 : Hid (wd.heap.size ≤ (w6.setCell ⟨wr.heap.size, 6, none⟩ (.slice a6 m c6x)).heap.size) := Lib.hid (by have := Z6.out; simp [World.setCell]; omega)
   have O7 : Hid (Sq LDot (fun b => wd.heap.size ≤ b ∧ b < (w6.setCell ⟨wr.heap.size, 6, none⟩ (.slice a6 m c6x)).heap.size) (w6.setCell ⟨wr.heap.size, 6, none⟩ (.slice a6 m c6x)) (.slice a6 m c6x) x.drops) := Lib.hid ((O6.out.but flat_dot (But.set _ _ _ _) (by rw [ZB.out]; omega)).new flat_dot)
   have P7 : Hid (OwnJ (fun b => w.heap.size ≤ b) LEff w.heap.size (w6.setCell ⟨wr.heap.size, 6, none⟩ (.slice a6 m c6x)) _ (P k)) := Lib.hid (HO.out.below (B6.out.setCell (Nat.le_refl _) _) (Nat.le_refl _))
   have G7 : Hid (Below w.heap.size w (w6.setCell ⟨wr.heap.size, 6, none⟩ (.slice a6 m c6x))) := Lib.hid (G6.out.setCell ZR.out _)
   go_upto_region 7 with fail
   clear c0 c1 c2 c3 c4 c5 c6 f6
   generalize (w6.setCell ⟨wr.heap.size, 6, none⟩ (.slice a6 m c6x)) = w7 at *
   obtain ⟨c0, c1, c2, c3, c4, c5, c6⟩ := E7.out.zero
   obtain ⟨ao, co, rfl, -, -, -, -⟩ := P7.out.own.parts
   go_wp2_with (at_builtin; refine wpList_append_elJ (fun b => w.heap.size ≤ b) LEff rfl (.tmp 21) (.tmp 23) rfl w.heap.size rfl (P7.out.alloc _) rfl (one_effN (x := x) (N := w.heap.size) O7.out (fun k hk => by have := (OL.out k hk).2; rw [ZB.out]; omega) Z7.out (by have := ZR.out; rw [ZB.out]; omega)) (fun _ _ h => h) (by have := LK.out; simp; omega) (by have := G7.out.size; simp; omega) ?_)
   intro v8 w8 ho8 hgr _
   have O8 := Lib.hid ho8
   have G8 : Hid (Below w.heap.size w w8) := Lib.hid ((G7.out.alloc G7.out.size _).grown hgr (by have := G7.out.size; simp; omega) (fun j hj => (P7.out.lt j hj).1))
   clear ho8 hgr c0 c1 c2 c3 c4 c5 c6
   go_wp2_with fail
   go_roundw
   case rel => exact ⟨k + 1, by omega, by go_num, by rw [PK.out]; exact O8.out, G8.out⟩
   case measure => simp [intOf]; omega
  ·obtain rfl : k = n := by omega
   have OE := Lib.hid (HE.out _ _ HO.out)
   go_wp2_with fail
   go_ret
   exact ⟨_, rfl, OE.out, HB.out⟩

theorem ownE_of {B : Nat} {w : World} {v : Value} {xs : List Int} (h : OwnsI B w v xs) : OwnE LInt B w v xs := by
 refine ⟨xs.map (Value.int .i64), h, by rw [List.length_map]; show _ = xs.length * 1; omega, fun j x hj => ?_⟩
 show ((xs.map (Value.int .i64)).drop (j * 1)).take 1 = [.int .i64 x]
 obtain ⟨hl, rfl⟩ := List.getElem?_eq_some_iff.1 hj
 rw [Nat.mul_one, List.take_one]
 simp [List.getElem?_eq_getElem hl]
/-- one transaction in a block of its own, all of it newer than the row that it is appended to -/
theorem one_txnN {W : World} {x : PTxn} {dv ev : Value} {C N : Nat} {ov : Value} (hd : Sq LInt (fun b => C ≤ b ∧ b < W.heap.size) W dv x.deps) (he : Sq LEff (fun b => C ≤ b ∧ b < W.heap.size) W ev x.effs) (hg : ∀ k, ov.ownBlock = some k → k < C) (hz : C ≤ W.heap.size) (hN : N ≤ C) :
  Sq LTxn (fun b => N ≤ b ∧ b < (W.alloc (.cells #[.int .i64 x.node, .int .i64 x.seq, dv, ev] 29)).heap.size ∧ ov.ownBlock ≠ some b) (W.alloc (.cells #[.int .i64 x.node, .int .i64 x.seq, dv, ev] 29)) (.slice (some ⟨W.heap.size, 0, none⟩) 1 1) [x] := by
 have hS : (W.alloc (.cells #[.int .i64 x.node, .int .i64 x.seq, dv, ev] 29)).heap.size = W.heap.size + 1 := by simp
 rw [hS]
 have hB : Below W.heap.size W (W.alloc (.cells #[.int .i64 x.node, .int .i64 x.seq, dv, ev] 29)) := (Below.refl _ _).alloc (Nat.le_refl _) _
 have hw : ∀ b, (C ≤ b ∧ b < W.heap.size) → N ≤ b ∧ b < W.heap.size + 1 ∧ ov.ownBlock ≠ some b := fun b hb => ⟨by omega, by omega, fun e => by have := hg b e; omega⟩
 refine ⟨_, 1, cellsTx x dv ev, rfl, Nat.le_refl _, by unfold maxLen; simp, (by simp), Rows.of_one ⟨_, _, rfl, (hd.agree fun b hb => hB.block b hb.2).mono hw, (he.agree fun b hb => hB.block b hb.2).mono hw⟩, fun _ => ⟨_, 0, rfl, ⟨by omega, by omega, fun e => by have := hg _ e; omega⟩, fun i u' hu => ?_⟩⟩
 rw [Nat.zero_add]
 have := World.cell?_alloc_new W #[.int .i64 x.node, .int .i64 x.seq, dv, ev] 29 i
 rw [this, ← Array.getElem?_toList]
 exact hu
theorem blk4_cells {u : World} {g : Nat} {v0 v1 v2 v3 : Value} {t : TypeId} (h : u.heap[g]? = some (.cells #[v0, v1, v2, v3] t (0, 0))) : (u.cell? ⟨g, 0, none⟩ = some v0 ∧ u.cell? ⟨g, 1, none⟩ = some v1 ∧ u.cell? ⟨g, 2, none⟩ = some v2 ∧ u.cell? ⟨g, 3, none⟩ = some v3) ∧ u.frozen? ⟨g, 2, none⟩ = false ∧ u.frozen? ⟨g, 3, none⟩ = false :=
 ⟨(st4_cells h).1, (st4_cells h).2.2.2⟩
set_option maxRecDepth 100000 in
set_option maxHeartbeats 8000000 in
/-- Copy of transactions -/
theorem rcopyTx_any {v : Value} {xs : List PTxn} {w : World} (hv : SeqE LTxn w v xs) (hn : xs.length ≤ 1000000) (hf : ∀ t ∈ xs, t.deps.length ≤ 1000000 ∧ t.effs.length ≤ 1000000 ∧ ∀ e ∈ t.effs, e.drops.length ≤ 1000000) : Calls Tryz.prog 6 #[v] w (MadeJ LTxn w xs) := by
 have HDM := Lib.hid (fun k (hk : k < xs.length) => hf (xs.getD k default) (by rw [show xs.getD k default = xs[k] by simp [List.getD, List.getElem?_eq_getElem hk]]; exact List.getElem_mem hk))
 obtain ⟨a, cap, rfl, g1, g2, g0, h⟩ := hv.parts
 have HS := Lib.hid h
 have PS0 := Lib.hid (fun k (hk : k < xs.length) => ttake_succ (l := xs) hk)
 obtain ⟨P, hP⟩ : ∃ P : Nat → List PTxn, P = fun k => xs.take k := ⟨_, rfl⟩
 have PS : Hid (∀ k, k < xs.length → P (k + 1) = P k ++ [xs.getD k default]) := Lib.hid (fun k hk => by rw [hP]; exact PS0.out k hk)
 have P0 : Hid (P 0 = []) := Lib.hid (by rw [hP]; rfl)
 have PN : Hid (P xs.length = xs) := Lib.hid (by rw [hP]; show xs.take xs.length = _; rw [List.take_length])
 have PL : Hid (∀ k, (P k).length ≤ xs.length) := Lib.hid (fun k => by rw [hP]; show (xs.take k).length ≤ _; rw [List.length_take]; omega)
 obtain ⟨n, hN⟩ : ∃ n, xs.length = n := ⟨_, rfl⟩
 rw [hN] at g1 hn HS HDM PS PN PL ⊢
 have LN := Lib.hid hN
 have HE : Hid (∀ W v, OwnJ (fun b => w.heap.size ≤ b) LTxn w.heap.size W v (P n) → OwnJ (fun b => w.heap.size ≤ b) LTxn w.heap.size W v xs) := Lib.hid (fun W v h => PN.out ▸ h)
 clear hv h g0 hf hN hP PS0
 go_enter Tryz.func6, Tryz.ntmps6
 go_wp2_with fail
 go_loopw [3, 4] (fun z i wr => ∃ k : Nat, k ≤ n ∧ i = .int .i64 k ∧ OwnJ (fun b => w.heap.size ≤ b) LTxn w.heap.size wr z (P k) ∧ Below w.heap.size w wr) (fun _ i _ => n - (intOf i).toNat)
 case atStart => exact ⟨0, Nat.zero_le _, rfl, by rw [P0.out]; exact OwnJ.nil _ _ _, Below.refl _ _⟩
 case round =>
  obtain ⟨k, hk, rfl, ho, hb⟩ := hrel
  have HO := Lib.hid ho
  have HB := Lib.hid hb
  clear ho hb
  by_cases hlt : k < n
  ·have PK := Lib.hid (PS.out k hlt)
   have LK := Lib.hid (PL.out k)
   obtain ⟨b, o, c, hv, -, -, -, hc⟩ := txns_spot (HS.out.below HB.out) (by rw [LN.out]; omega)
   rw [LN.out] at hv
   simp only [Value.slice.injEq] at hv
   obtain ⟨rfl, -, rfl⟩ := hv
   obtain ⟨dv, ev, EX, hsd, hse⟩ := hc k (by rw [LN.out]; exact hlt)
   obtain ⟨da, dc, rfl, -, -, -, hsd⟩ := hsd.parts
   obtain ⟨ea, ec, rfl, -, -, -, hse⟩ := hse.parts
   have HM := Lib.hid (HDM.out k hlt)
   clear hc
   generalize xs.getD k default = x at *
   obtain ⟨c0, c1, c2, c3⟩ := EX
   obtain ⟨dn, hdn⟩ : ∃ m, x.deps.length = m := ⟨_, rfl⟩
   obtain ⟨en, hen⟩ : ∃ m, x.effs.length = m := ⟨_, rfl⟩
   rw [hdn] at hsd c2
   rw [hen] at hse c3
   have LD := Lib.hid hdn
   have LE := Lib.hid hen
   clear hdn hen
   have hbe := (Below.refl wr.heap.size wr).alloc (Nat.le_refl _) (.cells #[.int .i64 x.node, .int .i64 x.seq, .slice da dn dc, .slice ea en ec] 29)
   have BX := Lib.hid hbe
   have TB : Hid ((wr.alloc (.cells #[.int .i64 x.node, .int .i64 x.seq, .slice da dn dc, .slice ea en ec] 29)).heap[wr.heap.size]? = some (.cells #[.int .i64 x.node, .int .i64 x.seq, .slice da dn dc, .slice ea en ec] 29 (0, 0))) := Lib.hid (heap_alloc_new wr _)
   have ZB : Hid ((wr.alloc (.cells #[.int .i64 x.node, .int .i64 x.seq, .slice da dn dc, .slice ea en ec] 29)).heap.size = wr.heap.size + 1) := Lib.hid (by simp)
   have KD := Lib.hid (vc_rcopy_any (seqI_of (hsd.below hbe)) HM.out.1)
   have KE := Lib.hid (fun W (hb : Below wr.heap.size wr W) => rcopyE_any (hse.below hb) HM.out.2.1 HM.out.2.2)
   have OL := Lib.hid HO.out.lt
   have ZR := Lib.hid HB.out.size
   clear hsd hse hbe
   go_upto_region 6 with fail
   clear c0 c1 c2 c3
   generalize (wr.alloc (.cells #[.int .i64 x.node, .int .i64 x.seq, .slice da dn dc, .slice ea en ec] 29)) = wd at *
   obtain ⟨⟨c0, c1, c2, c3⟩, f2, f3⟩ := blk4_cells TB.out
   go_wp2_with fail
   refine KD.out.mono ?_
   rintro e w1 ⟨v1, rfl, ho1, hb1⟩
   have O1 := Lib.hid (ownE_of ho1)
   have T1 := Lib.hid ((hb1.block wr.heap.size (by rw [ZB.out]; omega)).trans TB.out)
   have B1 : Hid (Below wr.heap.size wr w1) := Lib.hid (BX.out.trans (hb1.mono BX.out.size))
   have Z1 : Hid (wd.heap.size ≤ w1.heap.size) := Lib.hid hb1.size
   obtain ⟨a1, e1, rfl, -, -, -, -⟩ := (ownE_of ho1).parts
   rw [LD.out] at O1 ⊢
   clear ho1 hb1 KD c0 c1 c2 c3 f2 f3
   obtain ⟨⟨c0, c1, c2, c3⟩, f2, f3⟩ := blk4_cells T1.out
   have T2 : Hid ((w1.setCell ⟨wr.heap.size, 2, none⟩ (.slice a1 dn e1)).heap[wr.heap.size]? = some (.cells #[.int .i64 x.node, .int .i64 x.seq, .slice a1 dn e1, .slice ea en ec] 29 (0, 0))) := Lib.hid (heap_setCell_same _ _ 2 _ _ _ T1.out)
   have B2 : Hid (Below wr.heap.size wr (w1.setCell ⟨wr.heap.size, 2, none⟩ (.slice a1 dn e1))) := Lib.hid (B1.out.setCell (Nat.le_refl _) _)
   have Z2 : Hid (wd.heap.size ≤ (w1.setCell ⟨wr.heap.size, 2, none⟩ (.slice a1 dn e1)).heap.size) := Lib.hid (by have := Z1.out; simp [World.setCell]; omega)
   have O2 : Hid (OwnE LInt wd.heap.size (w1.setCell ⟨wr.heap.size, 2, none⟩ (.slice a1 dn e1)) (.slice a1 dn e1) x.deps) := Lib.hid (O1.out.but flat_int (But.set _ _ _ _) (by rw [ZB.out]; omega))
   go_upto_region 7 with fail
   clear c0 c1 c2 c3 f2 f3 T1 B1 Z1 O1
   generalize (w1.setCell ⟨wr.heap.size, 2, none⟩ (.slice a1 dn e1)) = w2 at *
   obtain ⟨⟨c0, c1, c2, c3⟩, f2, f3⟩ := blk4_cells T2.out
   have KE2 := Lib.hid (KE.out w2 B2.out)
   go_wp2_with fail
   refine KE2.out.mono ?_
   rintro e w3 ⟨v2, rfl, ho2, hb2⟩
   have T3 := Lib.hid ((hb2.block wr.heap.size (by have := Z2.out; rw [ZB.out] at this; omega)).trans T2.out)
   have B3 : Hid (Below wr.heap.size wr w3) := Lib.hid (B2.out.trans (hb2.mono B2.out.size))
   have Z3 : Hid (wd.heap.size ≤ w3.heap.size) := Lib.hid (Nat.le_trans Z2.out hb2.size)
   have O3 := Lib.hid (O2.out.below hb2 (Nat.le_refl _))
   have E3 : Hid (OwnJ (fun b => wd.heap.size ≤ b) LEff wd.heap.size w3 v2 x.effs) := Lib.hid ((ho2.mono Z2.out).imp fun b hb => Nat.le_trans Z2.out hb)
   obtain ⟨a2, e2, rfl, -, -, -, -⟩ := ho2.own.parts
   rw [LE.out] at E3 ⊢
   clear ho2 hb2 KE2 KE c0 c1 c2 c3 f2 f3
   obtain ⟨⟨c0, c1, c2, c3⟩, f2, f3⟩ := blk4_cells T3.out
   have T4 : Hid ((w3.setCell ⟨wr.heap.size, 3, none⟩ (.slice a2 en e2)).heap[wr.heap.size]? = some (.cells #[.int .i64 x.node, .int .i64 x.seq, .slice a1 dn e1, .slice a2 en e2] 29 (0, 0))) := Lib.hid (heap_setCell_same _ _ 3 _ _ _ T3.out)
   have B4 : Hid (Below wr.heap.size wr (w3.setCell ⟨wr.heap.size, 3, none⟩ (.slice a2 en e2))) := Lib.hid (B3.out.setCell (Nat.le_refl _) _)
   have Z4 : Hid (wd.heap.size ≤ (w3.setCell ⟨wr.heap.size, 3, none⟩ (.slice a2 en e2)).heap.size) := Lib.hid (by have := Z3.out; simp [World.setCell]; omega)
   have O4 : Hid (Sq LInt (fun b => wd.heap.size ≤ b ∧ b < (w3.setCell ⟨wr.heap.size, 3, none⟩ (.slice a2 en e2)).heap.size) (w3.setCell ⟨wr.heap.size, 3, none⟩ (.slice a2 en e2)) (.slice a1 dn e1) x.deps) := Lib.hid ((O3.out.but flat_int (But.set _ _ _ _) (by rw [ZB.out]; omega)).new flat_int)
   have E4 : Hid (Sq LEff (fun b => wd.heap.size ≤ b ∧ b < (w3.setCell ⟨wr.heap.size, 3, none⟩ (.slice a2 en e2)).heap.size) (w3.setCell ⟨wr.heap.size, 3, none⟩ (.slice a2 en e2)) (.slice a2 en e2) x.effs) := Lib.hid ((E3.out.but (But.set _ _ _ _) (by rw [ZB.out]; omega) (fun b hb e => by have := ZB.out; omega)).sq fun b hb _ => hb)
   have P7 := Lib.hid (HO.out.below B4.out (Nat.le_refl _))
   have G7 : Hid (Below w.heap.size w (w3.setCell ⟨wr.heap.size, 3, none⟩ (.slice a2 en e2))) := Lib.hid (HB.out.trans (B4.out.mono HB.out.size))
   go_upto_region 8 with fail
   clear c0 c1 c2 c3 f2 f3 T3 B3 Z3 O3 E3
   generalize (w3.setCell ⟨wr.heap.size, 3, none⟩ (.slice a2 en e2)) = w4 at *
   obtain ⟨⟨c0, c1, c2, c3⟩, f2, f3⟩ := blk4_cells T4.out
   obtain ⟨ao, co, rfl, -, -, -, -⟩ := P7.out.own.parts
   go_wp2_with (at_builtin; refine wpList_append_elJ (fun b => w.heap.size ≤ b) LTxn rfl (.tmp 24) (.tmp 26) rfl w.heap.size rfl (P7.out.alloc _) rfl (one_txnN (x := x) (N := w.heap.size) O4.out E4.out (fun k hk => by have := (OL.out k hk).2; rw [ZB.out]; omega) Z4.out (by have := ZR.out; rw [ZB.out]; omega)) (fun _ _ h => h) (by have := LK.out; simp; omega) (by have := G7.out.size; simp; omega) ?_)
   intro v8 w8 ho8 hgr _
   have O8 := Lib.hid ho8
   have G8 : Hid (Below w.heap.size w w8) := Lib.hid ((G7.out.alloc G7.out.size _).grown hgr (by have := G7.out.size; simp; omega) (fun j hj => (P7.out.lt j hj).1))
   clear ho8 hgr c0 c1 c2 c3 f2 f3
   go_wp2_with fail
   go_roundw
   case rel => exact ⟨k + 1, by omega, by go_num, by rw [PK.out]; exact O8.out, G8.out⟩
   case measure => simp [intOf]; omega
  ·obtain rfl : k = n := by omega
   have OE := Lib.hid (HE.out _ _ HO.out)
   go_wp2_with fail
   go_ret
   exact ⟨_, rfl, OE.out, HB.out⟩
end Go.Proofs.YtmknpmamkjjiaaaGreat
