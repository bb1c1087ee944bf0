/- What the program's own behind leaves. (Written by gen-all.py.) -/
import Derived.Test.YtpnpomocjkmncaaGreatStFm
import Derived.Test.YtpnpomocjkmncaaGreatEDos
import Derived.Test.YtpnpomocjkmncaaGreatEMades
import Derived.Test.YtpnpomocjkmncaaGreatTxUses
import Derived.Test.YtpnpomocjkmncaaGreatStItems
namespace Go.Proofs.YtpnpomocjkmncaaGreat
open Go.RowKit Plain
set_option linter.unusedVariables false


structure FitB (t : PTxn) : Prop where
 tx : FitTx t
 effs : t.effs.length ≤ 20
 drops : ∀ e ∈ t.effs, e.drops.length ≤ 100
theorem FitB.ok {t : PTxn} (h : FitB t) : effsOk t.node t.seq t.effs := effsOk_of h.tx.ok.1 h.tx.ok.2.1 h.tx.ok.2.2.2
theorem FitB.dlen {t : PTxn} (h : FitB t) : (dropsOf t.effs).length ≤ 2000 := by
 have h1 := drops_len (m := 100) (l := t.effs) h.drops
 have h2 := Nat.mul_le_mul_right 100 h.effs
 omega
theorem sDrops_len : ∀ {a : List PTxn}, (∀ t ∈ a, FitB t) → (sDrops a).length ≤ 2000 * a.length
 | [], _ => Nat.le_refl _
 | t :: a, h => by
  have h1 := sDrops_len (a := a) fun u hu => h u (by simp [hu])
  have h2 := (h t (by simp)).dlen
  rw [sDrops_cons, List.length_append, List.length_cons]
  omega
theorem sMade_len20 : ∀ {a : List PTxn}, (∀ t ∈ a, FitB t) → (sMade a).length ≤ 20 * a.length
 | [], _ => Nat.le_refl _
 | t :: a, h => by
  have h1 := sMade_len20 (a := a) fun u hu => h u (by simp [hu])
  have h2 := edo_len t.node t.seq t.effs []
  have h3 := (h t (by simp)).effs
  rw [sMade_cons, List.length_append, List.length_cons]
  simp only [List.length_nil] at h2
  omega
theorem sMade_ok {a : List PTxn} (h : ∀ t ∈ a, FitB t) : ∀ x ∈ sMade a, dotOk x.dot := fun x hx => by
 obtain ⟨u, hu, hxu⟩ := sMade_mem hx
 obtain ⟨e, he, rfl⟩ := own_dot hxu
 exact ((h u hu).ok e he).1
theorem sDrops_ok {a : List PTxn} (h : ∀ t ∈ a, FitB t) : ∀ d ∈ sDrops a, dotOk d := fun d hd => by
 obtain ⟨u, hu, hdu⟩ := List.mem_flatMap.1 hd
 obtain ⟨e, he, hde⟩ := mem_dropsOf.1 hdu
 exact ((h u hu).ok e he).2 d hde
theorem sMade_take {a : List PTxn} {k : Nat} (hk : k < a.length) : sMade (a.take (k + 1)) = sMade (a.take k) ++ edo (otx a k).node (otx a k).seq [] (otx a k).effs := by rw [otx_take hk, sMade_snoc]
theorem sDrops_take {a : List PTxn} {k : Nat} (hk : k < a.length) : sDrops (a.take (k + 1)) = sDrops (a.take k) ++ dropsOf (otx a k).effs := by rw [otx_take hk, sDrops_snoc]
theorem dot_ne_item : LDot.E ≠ LItem.E := by decide
theorem item_ne_dot : LItem.E ≠ LDot.E := by decide
set_option maxRecDepth 100000 in
set_option maxHeartbeats 16000000 in
theorem stBehind_any {u v : Value} {i : List PItem} {a : List PTxn} {w : World} (hu : SeqE LItem w u i) (hv : SeqE LTxn w v a) (hi : i.length ≤ 100000) (hn : a.length ≤ 100) (hf : ∀ t ∈ a, FitB t) (hdi : ∀ x ∈ i, dotOk x.dot) : Calls Tryz.prog 54 #[u, v] w (MadeE LItem w (sBehind i a)) := by
 obtain ⟨la, lc, rfl, L1, L2, -, -⟩ := hv.parts
 have HL := Lib.hid hv
 have HF := Lib.hid hf
 have HU := Lib.hid hu
 have HI := Lib.hid hi
 have HM0 : Hid (sMade (a.take 0) = [] ∧ sDrops (a.take 0) = []) := Lib.hid ⟨rfl, rfl⟩
 have HZ := Lib.hid (fun h1 h2 => sBehind_zero (i := i) (a := a) h1 h2)
 have HS := Lib.hid (fun h => sBehind_some (i := i) (a := a) h)
 have HMO := Lib.hid (sMade_ok hf)
 have HDO := Lib.hid (sDrops_ok hf)
 have HDI := Lib.hid hdi
 obtain ⟨n, hN⟩ : ∃ n, n = a.length := ⟨_, rfl⟩
 have HN := Lib.hid hN
 have HTA : Hid (a.take n = a) := Lib.hid (by rw [hN, List.take_length])
 have HML : Hid (∀ k, k ≤ n → (sMade (a.take k)).length ≤ 2000) := Lib.hid (fun k hk => by have h1 := sMade_len20 (a := a.take k) fun t ht => hf t (List.mem_of_mem_take ht); rw [List.length_take] at h1; omega)
 have HDL : Hid (∀ k, k ≤ n → (sDrops (a.take k)).length ≤ 200000) := Lib.hid (fun k hk => by have h1 := sDrops_len (a := a.take k) fun t ht => hf t (List.mem_of_mem_take ht); rw [List.length_take] at h1; omega)
 rw [← hN] at HL L1 hn ⊢
 obtain ⟨ua, uc, rfl, -, -, -, -⟩ := hu.parts
 generalize sBehind i a = res at *
 clear hu hv hf hN hi hdi
 obtain ⟨ni, hni⟩ : ∃ n, i.length = n := ⟨_, rfl⟩
 have HNI := Lib.hid hni
 rw [hni] at HU ⊢
 clear hni
 go_enter Tryz.func54, Tryz.ntmps54
 go_wp2_with fail
 go_loopw [5, 6, 14] (fun mz dz c wr => ∃ k : Nat, k ≤ n ∧ c = .int .i64 k ∧ OwnE LItem w.heap.size wr mz (sMade (a.take k)) ∧ OwnE LDot w.heap.size wr dz (sDrops (a.take k)) ∧ Below w.heap.size w wr) (fun _ _ c _ => n - (intOf c).toNat)
 case atStart => exact ⟨0, Nat.zero_le _, rfl, by rw [HM0.out.1]; exact OwnE.nil _ _, by rw [HM0.out.2]; exact OwnE.nil _ _, Below.refl _ _⟩
 case round =>
  obtain ⟨k, hk, rfl, hm, hd, hb⟩ := hrel
  have M := Lib.hid hm
  have D := Lib.hid hd
  have G := Lib.hid hb
  have MLK := Lib.hid (HML.out k hk)
  have DLK := Lib.hid (HDL.out k hk)
  obtain ⟨ml, hml⟩ : ∃ m, (sMade (a.take k)).length = m := ⟨_, rfl⟩
  obtain ⟨dl, hdl⟩ : ∃ m, (sDrops (a.take k)).length = m := ⟨_, rfl⟩
  obtain ⟨ma, mc, rfl, -, -, -⟩ := hm.at ml hml
  obtain ⟨xa, xc, rfl, -, -, -⟩ := hd.at dl hdl
  have MLE := Lib.hid hml
  have DLE := Lib.hid hdl
  clear hm hd hb hml hdl
  by_cases hlt : k < n
  ·have hkl : k < a.length := by rw [← HN.out]; exact hlt
   obtain ⟨lb, lo, rfl, hc⟩ := txns_atS HL.out (by omega)
   obtain ⟨da, dn, dc, ea, en, ec, hW, hsd, hse⟩ := hc k hlt
   have hft := HF.out (otx a k) (by rw [otx_lt hkl]; exact List.getElem_mem hkl)
   have HTM := Lib.hid (sMade_take hkl)
   have HTD := Lib.hid (sDrops_take hkl)
   have HDK := Lib.hid (HDL.out (k + 1) hlt)
   obtain ⟨⟨c0, c1, c2, c3⟩, -⟩ := hW wr G.out
   have k1 : (k : Int) < n := by omega
   have k2 : (n : Int) ≤ lc := by omega
   have k3 : (lc : Int) ≤ 9223372036854775807 := by omega
   have SE := Lib.hid hse
   clear hc hW
   generalize otx a k = t at *
   have TB : Hid (TxBox wr.heap.size t da dn dc ea en ec (wr.alloc (.cells #[.int .i64 t.node, .int .i64 t.seq, .slice da dn dc, .slice ea en ec] 30))) := Lib.hid (txbox_new (hsd.below G.out) (hse.below G.out))
   have GB : Hid (Below w.heap.size w (wr.alloc (.cells #[.int .i64 t.node, .int .i64 t.seq, .slice da dn dc, .slice ea en ec] 30))) := Lib.hid (G.out.alloc G.out.size _)
   have MB := Lib.hid (M.out.alloc (.cells #[.int .i64 t.node, .int .i64 t.seq, .slice da dn dc, .slice ea en ec] 30))
   have DB := Lib.hid (D.out.alloc (.cells #[.int .i64 t.node, .int .i64 t.seq, .slice da dn dc, .slice ea en ec] 30))
   have KD := Lib.hid (edo_any t.node t.seq (SeqE.nil (wr.alloc (.cells #[.int .i64 t.node, .int .i64 t.seq, .slice da dn dc, .slice ea en ec] 30))) TB.out.e (by simp) (by have := hft.effs; omega) (fun e he => by have := hft.drops e he; omega) (fun x hx => absurd hx (by simp)) hft.ok)
   have EL : Hid ((edo t.node t.seq [] t.effs).length ≤ 20) := Lib.hid (by have h1 := edo_len t.node t.seq t.effs []; have := hft.effs; simp only [List.length_nil] at h1; omega)
   have HFT := Lib.hid hft
   have MG : Hid (∀ j, (Value.slice ma ml mc).ownBlock = some j → j < wr.heap.size) := Lib.hid (fun j hj => (M.out.lt j hj).2)
   clear hft hsd hse hkl
   go_upto_region 6 with fail
   clear c0 c1 c2 c3
   generalize (wr.alloc (.cells #[.int .i64 t.node, .int .i64 t.seq, .slice da dn dc, .slice ea en ec] 30)) = wb at *
   generalize wr.heap.size = g at *
   obtain ⟨c0, c1, c2, c3⟩ := TB.out.c
   go_wp2_with (first
    | (go_at_call 38; refine KD.out.mono ?_; rintro e w2 ⟨v2, rfl, ho, hb⟩; have T2 := Lib.hid (TB.out.below hb); have M2 := Lib.hid (MB.out.below hb (Nat.le_refl _)); have D2 := Lib.hid (DB.out.below hb (Nat.le_refl _)); have G2 := Lib.hid (GB.out.trans (hb.mono GB.out.size)); have S2 := Lib.hid ho.seq; obtain ⟨va2, vc2, rfl, -⟩ := ho.parts; clear ho hb c0 c1 c2 c3 KD TB MB DB GB)
    | (at_builtin; refine wpList_append_el LItem rfl (.tmp 18) (.tmp 25) rfl w.heap.size rfl M2.out rfl S2.out (fun _ _ h => h) (by have := MLK.out; have := EL.out; omega) G2.out.size ?_))
   intro v3 w3 ho3 hg3 hat3
   have M3 := Lib.hid ho3
   rw [← HTM.out] at M3
   have D3 := Lib.hid (D2.out.beside flat_dot hg3 (fun k hk e => M2.out.unlike D2.out item_ne_dot k e hk))
   have G3 : Hid (Below w.heap.size w w3) := Lib.hid (G2.out.grown hg3 G2.out.size fun b hb => (M2.out.lt b hb).1)
   have EN := Lib.hid (SE.out.dims)
   have SE3 := Lib.hid (SE.out.below G3.out)
   have B3 : Hid (w3.cell? ⟨g, 3, none⟩ = some (.slice ea en ec)) := Lib.hid ((World.cell?_of_block (a := ⟨g, 3, none⟩) (hg3.block g (World.block_lt_of_cell? w2 _ T2.out.c.2.2.2) fun e => by have := MG.out g e.symm; omega)).trans T2.out.c.2.2.2)
   obtain ⟨m3, hm3⟩ : ∃ m, (sMade (a.take (k + 1))).length = m := ⟨_, rfl⟩
   obtain ⟨a3, c3', hv3, -, -, -⟩ := M3.out.at m3 hm3
   subst hv3
   have HT0 : Hid (sDrops (a.take k) ++ dropsOf (t.effs.take 0) = sDrops (a.take k)) := Lib.hid (List.append_nil _)
   have HTN : Hid (sDrops (a.take k) ++ dropsOf (t.effs.take en) = sDrops (a.take (k + 1))) := Lib.hid (by rw [HTD.out, ← EN.out.1, List.take_length])
   have HTS : Hid (∀ j, j < en → sDrops (a.take k) ++ dropsOf (t.effs.take (j + 1)) = sDrops (a.take k) ++ (dropsOf (t.effs.take j) ++ (t.effs.getD j default).drops)) := Lib.hid (fun j hj => by rw [drops_take (l := t.effs) (k := j) (by rw [EN.out.1]; exact hj)])
   have HLJ : Hid (∀ j, j ≤ en → (sDrops (a.take k) ++ dropsOf (t.effs.take j)).length ≤ 300000) := Lib.hid (fun j hj => by
    have h1 := drops_len (m := 100) (l := t.effs.take j) fun e he => HFT.out.drops e (List.mem_of_mem_take he)
    have h2 : (t.effs.take j).length ≤ 20 := by rw [List.length_take]; have := HFT.out.effs; omega
    have h3 := Nat.mul_le_mul_right 100 h2
    rw [List.length_append]
    have := DLK.out
    omega)
   have HDM : Hid (∀ j, j < en → (t.effs.getD j default).drops.length ≤ 100) := Lib.hid (fun j hj => HFT.out.drops _ (mem_defE (by rw [EN.out.1]; exact hj)))
   have e3 : en ≤ 9223372036854775807 := by have := EN.out; omega
   have b3 := B3.out
   clear ho3 hg3 hat3 hm3 M D G M2 D2 G2 S2 T2 MG
   generalize sDrops (a.take k) = dk at *
   go_wp2_with fail
   clear b3
   go_loopw [6, 30] (fun dz c wi => ∃ j : Nat, j ≤ en ∧ c = .int .i64 j ∧ OwnE LDot w.heap.size wi dz (dk ++ dropsOf (t.effs.take j)) ∧ OwnE LItem w.heap.size wi (.slice a3 m3 c3') (sMade (a.take (k + 1))) ∧ Below w.heap.size w wi) (fun _ c _ => en - (intOf c).toNat)
   case atStart => exact ⟨0, Nat.zero_le _, rfl, by rw [HT0.out]; exact D3.out, M3.out, G3.out⟩
   case round =>
    obtain ⟨j, hj, rfl, hd, hm, hb⟩ := hrel
    have D := Lib.hid hd
    have M := Lib.hid hm
    have G := Lib.hid hb
    have HLK := Lib.hid (HLJ.out j hj)
    obtain ⟨dj, hdj⟩ : ∃ m, (dk ++ dropsOf (t.effs.take j)).length = m := ⟨_, rfl⟩
    obtain ⟨ja, jc, rfl, -, -, -⟩ := hd.at dj hdj
    clear hd hm hb hdj
    by_cases hlt2 : j < en
    ·obtain ⟨b, o, c, hv, -, -, -, hc⟩ := effs_spot (SE.out.below G.out) (by rw [EN.out.1]; omega)
     rw [EN.out.1] at hv
     simp only [Value.slice.injEq] at hv
     obtain ⟨rfl, -, rfl⟩ := hv
     obtain ⟨pv, EX, hsd⟩ := hc j (by rw [EN.out.1]; exact hlt2)
     have HTJ := Lib.hid (HTS.out j hlt2)
     have HMJ := Lib.hid (HDM.out j hlt2)
     obtain ⟨pa, pc, rfl, -, -, -, hsd⟩ := hsd.parts
     have k4 : (j : Int) < en := by omega
     have k5 : (en : Int) ≤ ec := by have := EN.out; omega
     have k6 : (ec : Int) ≤ 9223372036854775807 := by have := EN.out; omega
     clear hc
     generalize t.effs.getD j default = x at *
     obtain ⟨c0, c1, c2, c3, c4, c5, c6⟩ := EX
     obtain ⟨m, hM⟩ : ∃ m, x.drops.length = m := ⟨_, rfl⟩
     rw [hM] at hsd c6 HMJ
     have LM := Lib.hid hM
     have SD := Lib.hid (hsd.below_alloc (.cells #[.int .i64 x.pos, .string (bt x.key), .string (bt x.field), .int .i64 x.kind, .string (bt x.elem), .int .i64 x.n, .slice pa m pc] 59))
     have OB := Lib.hid (D.out.alloc (.cells #[.int .i64 x.pos, .string (bt x.key), .string (bt x.field), .int .i64 x.kind, .string (bt x.elem), .int .i64 x.n, .slice pa m pc] 59))
     have MB := Lib.hid (M.out.alloc (.cells #[.int .i64 x.pos, .string (bt x.key), .string (bt x.field), .int .i64 x.kind, .string (bt x.elem), .int .i64 x.n, .slice pa m pc] 59))
     have GB := Lib.hid (G.out.alloc G.out.size (.cells #[.int .i64 x.pos, .string (bt x.key), .string (bt x.field), .int .i64 x.kind, .string (bt x.elem), .int .i64 x.n, .slice pa m pc] 59))
     have EB : Hid (EffAt (wr.alloc (.cells #[.int .i64 x.pos, .string (bt x.key), .string (bt x.field), .int .i64 x.kind, .string (bt x.elem), .int .i64 x.n, .slice pa m pc] 59)) wr.heap.size 0 x (.slice pa m pc)) := Lib.hid (effAt_box wr x pa m pc)
     clear hsd hM
     go_upto_region 10 with fail
     clear c0 c1 c2 c3 c4 c5 c6
     generalize (wr.alloc (.cells #[.int .i64 x.pos, .string (bt x.key), .string (bt x.field), .int .i64 x.kind, .string (bt x.elem), .int .i64 x.n, .slice pa m pc] 59)) = wb2 at *
     obtain ⟨c0, c1, c2, c3, c4, c5, c6⟩ := EB.out.zero
     go_wp2_with (at_builtin; refine wpList_append_el LDot rfl (.tmp 34) (.tmp 36) rfl w.heap.size rfl OB.out rfl SD.out (fun _ _ h => h) (by have := HLK.out; have := HMJ.out; have := LM.out; omega) GB.out.size ?_)
     intro v7 w7 ho7 hg7 hat7
     have D7 := Lib.hid ho7
     rw [← HTJ.out] at D7
     have M7 := Lib.hid (MB.out.beside flat_item hg7 (fun k hk e => OB.out.unlike MB.out dot_ne_item k e hk))
     have G7 : Hid (Below w.heap.size w w7) := Lib.hid (GB.out.grown hg7 GB.out.size fun b hb => (OB.out.lt b hb).1)
     clear ho7 hg7 hat7 c0 c1 c2 c3 c4 c5 c6
     go_wp2_with fail
     go_roundw
     case rel => exact ⟨j + 1, by omega, by go_num, D7.out, M7.out, G7.out⟩
     case measure => simp [intOf]; omega
    ·obtain rfl : j = en := by omega
     rw [HTN.out] at D
     go_wp2_with fail
     go_roundw
     case rel => exact ⟨k + 1, by omega, by go_num, M.out, D.out, G.out⟩
     case measure => simp [intOf]; omega
  ·obtain rfl : k = n := by omega
   rw [HTA.out] at M D MLK DLK MLE DLE
   rw [MLE.out] at MLK
   rw [DLE.out] at DLK
   clear HTA HML HDL HM0
   by_cases hm0 : ml = 0
   ·have q0 : ((ml : Int) == 0) = true := by rw [hm0]; rfl
    by_cases hd0 : dl = 0
    ·have q1 : ((dl : Int) == 0) = true := by rw [hd0]; rfl
     have HE := Lib.hid (HZ.out (by rw [MLE.out]; exact hm0) (by rw [DLE.out]; exact hd0))
     have KC := Lib.hid (iclone_any (HU.out.below G.out) (by have := HI.out; omega))
     clear hm0 hd0 HS HZ
     go_wp2_with fail
     refine KC.out.mono ?_
     rintro e w2 ⟨v2, rfl, ho, hb⟩
     have O2 := Lib.hid (ho.mono G.out.size)
     have G2 := Lib.hid (G.out.trans (hb.mono G.out.size))
     obtain ⟨a2, c2, rfl, -⟩ := ho.parts
     clear ho hb KC
     go_wp2_with fail
     go_ret
     exact ⟨_, rfl, by rw [HE.out]; exact O2.out, G2.out⟩
    ·have q1 : ((dl : Int) == 0) = false := beq_false_of_ne (by omega)
     have HE := Lib.hid (HS.out (.inr (by rw [DLE.out]; exact hd0)))
     clear hm0 hd0 HS HZ
     have BA := Lib.hid (G.out.alloc G.out.size (.cells #[.slice ua ni uc, .slice ma ml mc] 24))
     have BB : Hid (Below wr.heap.size wr (wr.alloc (.cells #[.slice ua ni uc, .slice ma ml mc] 24))) := Lib.hid ((Below.refl _ _).alloc (Nat.le_refl _) _)
     have KC := Lib.hid (concatI_two wr.heap.size 2 (wr.alloc (.cells #[.slice ua ni uc, .slice ma ml mc] 24)) (by simp) (by simp) (HU.out.below BA.out) (M.out.seq.below BB.out) (by have := HI.out; have := MLK.out; have := MLE.out; have := HNI.out; omega))
     have DB := Lib.hid (D.out.alloc (.cells #[.slice ua ni uc, .slice ma ml mc] 24))
     have HLC : Hid ((i ++ sMade a).length ≤ 200000) := Lib.hid (by rw [List.length_append]; have := HI.out; have := MLK.out; have := MLE.out; have := HNI.out; omega)
     have HDC : Hid (∀ x ∈ i ++ sMade a, dotOk x.dot) := Lib.hid (fun x hx => (List.mem_append.1 hx).elim (HDI.out x) (HMO.out x))
     generalize i ++ sMade a = cc at *
     go_wp2_with fail
     refine KC.out.mono ?_
     rintro e w2 ⟨v2, rfl, ho, hb⟩
     have O2 := Lib.hid ho.seq
     have D2 := Lib.hid (DB.out.below hb (Nat.le_refl _))
     have G2 := Lib.hid (BA.out.trans (hb.mono BA.out.size))
     obtain ⟨a2, c2, rfl, -⟩ := ho.parts
     have KW := Lib.hid (iwithout_any O2.out D2.out.seq (by have := HLC.out; omega) (by have := DLK.out; have := DLE.out; omega) HDC.out HDO.out)
     have HLW : Hid ((iwithout cc (sDrops a)).length ≤ 200000) := Lib.hid (by have := iwithout_len cc (sDrops a); have := HLC.out; omega)
     have HDW : Hid (∀ x ∈ iwithout cc (sDrops a), dotOk x.dot) := Lib.hid (fun x hx => HDC.out x (mem_iwithout.1 hx).1)
     clear ho hb KC
     generalize iwithout cc (sDrops a) = cw at *
     generalize cc.length = nc at *
     go_wp2_with fail
     refine KW.out.mono ?_
     rintro e w3 ⟨v3, rfl, ho, hb⟩
     have G3 := Lib.hid (G2.out.trans (hb.mono G2.out.size))
     have KN := Lib.hid (inorm_any ho.seq (by have := HLW.out; omega) HDW.out)
     obtain ⟨a3, c3, rfl, -⟩ := ho.parts
     clear ho hb KW
     generalize inorm cw = cn at *
     generalize cw.length = nw at *
     go_wp2_with fail
     refine KN.out.mono ?_
     rintro e w4 ⟨v4, rfl, ho, hb⟩
     have O4 := Lib.hid (ho.mono G3.out.size)
     have G4 := Lib.hid (G3.out.trans (hb.mono G3.out.size))
     obtain ⟨a4, c4, rfl, -⟩ := ho.parts
     clear ho hb KN
     go_wp2_with fail
     go_ret
     exact ⟨_, rfl, by rw [HE.out]; exact O4.out, G4.out⟩
   ·have q0 : ((ml : Int) == 0) = false := beq_false_of_ne (by omega)
    have HE := Lib.hid (HS.out (.inl (by rw [MLE.out]; exact hm0)))
    clear hm0 HS HZ
    have BA := Lib.hid (G.out.alloc G.out.size (.cells #[.slice ua ni uc, .slice ma ml mc] 24))
    have BB : Hid (Below wr.heap.size wr (wr.alloc (.cells #[.slice ua ni uc, .slice ma ml mc] 24))) := Lib.hid ((Below.refl _ _).alloc (Nat.le_refl _) _)
    have KC := Lib.hid (concatI_two wr.heap.size 2 (wr.alloc (.cells #[.slice ua ni uc, .slice ma ml mc] 24)) (by simp) (by simp) (HU.out.below BA.out) (M.out.seq.below BB.out) (by have := HI.out; have := MLK.out; have := MLE.out; have := HNI.out; omega))
    have DB := Lib.hid (D.out.alloc (.cells #[.slice ua ni uc, .slice ma ml mc] 24))
    have HLC : Hid ((i ++ sMade a).length ≤ 200000) := Lib.hid (by rw [List.length_append]; have := HI.out; have := MLK.out; have := MLE.out; have := HNI.out; omega)
    have HDC : Hid (∀ x ∈ i ++ sMade a, dotOk x.dot) := Lib.hid (fun x hx => (List.mem_append.1 hx).elim (HDI.out x) (HMO.out x))
    generalize i ++ sMade a = cc at *
    go_wp2_with fail
    refine KC.out.mono ?_
    rintro e w2 ⟨v2, rfl, ho, hb⟩
    have O2 := Lib.hid ho.seq
    have D2 := Lib.hid (DB.out.below hb (Nat.le_refl _))
    have G2 := Lib.hid (BA.out.trans (hb.mono BA.out.size))
    obtain ⟨a2, c2, rfl, -⟩ := ho.parts
    have KW := Lib.hid (iwithout_any O2.out D2.out.seq (by have := HLC.out; omega) (by have := DLK.out; have := DLE.out; omega) HDC.out HDO.out)
    have HLW : Hid ((iwithout cc (sDrops a)).length ≤ 200000) := Lib.hid (by have := iwithout_len cc (sDrops a); have := HLC.out; omega)
    have HDW : Hid (∀ x ∈ iwithout cc (sDrops a), dotOk x.dot) := Lib.hid (fun x hx => HDC.out x (mem_iwithout.1 hx).1)
    clear ho hb KC
    generalize iwithout cc (sDrops a) = cw at *
    generalize cc.length = nc at *
    go_wp2_with fail
    refine KW.out.mono ?_
    rintro e w3 ⟨v3, rfl, ho, hb⟩
    have G3 := Lib.hid (G2.out.trans (hb.mono G2.out.size))
    have KN := Lib.hid (inorm_any ho.seq (by have := HLW.out; omega) HDW.out)
    obtain ⟨a3, c3, rfl, -⟩ := ho.parts
    clear ho hb KW
    generalize inorm cw = cn at *
    generalize cw.length = nw at *
    go_wp2_with fail
    refine KN.out.mono ?_
    rintro e w4 ⟨v4, rfl, ho, hb⟩
    have O4 := Lib.hid (ho.mono G3.out.size)
    have G4 := Lib.hid (G3.out.trans (hb.mono G3.out.size))
    obtain ⟨a4, c4, rfl, -⟩ := ho.parts
    clear ho hb KN
    go_wp2_with fail
    go_ret
    exact ⟨_, rfl, by rw [HE.out]; exact O4.out, G4.out⟩
end Go.Proofs.YtpnpomocjkmncaaGreat
