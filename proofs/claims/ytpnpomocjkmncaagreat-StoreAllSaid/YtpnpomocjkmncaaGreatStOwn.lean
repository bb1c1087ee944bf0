/- What the laws' own function own leaves. (Written by gen-own.py.) -/
import Derived.Test.YtpnpomocjkmncaaGreatStUse
import Derived.Test.YtpnpomocjkmncaaGreatISets
import Derived.Test.YtpnpomocjkmncaaGreatRefIs
import Derived.Deep.RegionHeld3
import Derived.Deep.DeepCutAuto
namespace Go.Proofs.YtpnpomocjkmncaaGreat
open Go.RowKit Plain
set_option linter.unusedVariables false

def GivesOwn (w : World) (i : List PItem) (l : List PTxn) (e : Ending) (w' : World) : Prop := ∃ r, e = .returned (.bool r) ∧ (r = true → SOwn i l) ∧ Below w.heap.size w w'
theorem effs_atB {w : World} {ea : Option Addr} {en ec : Nat} {l : List PEff} (h : SeqE LEff w (.slice ea en ec) l) (hp : 0 < en) : ∃ eb eo, ea = some ⟨eb, eo, none⟩ ∧ ∀ j, j < en → ∃ pa m pc, m = (l.getD j default).drops.length ∧ ∀ W, Below w.heap.size w W → EffAt W eb (eo + j * 7) (l.getD j default) (.slice pa m pc) ∧ SeqE LDot W (.slice pa m pc) (l.getD j default).drops := by
 have hd := h.dims
 obtain ⟨b, o, c, hv, -, -, -, hc⟩ := effs_spot h (by omega)
 simp only [Value.slice.injEq] at hv
 obtain ⟨rfl, -, -⟩ := hv
 refine ⟨b, o, rfl, fun j hj => ?_⟩
 obtain ⟨pv, EX, hs⟩ := hc j (by omega)
 obtain ⟨pa, pc, rfl, -, -, -, hs'⟩ := hs.parts
 exact ⟨pa, _, pc, rfl, fun W hb => ⟨EX.below hb EX.lt, hs'.below hb⟩⟩
theorem step_append_elG {α : Type} {w : World} {ops : Array Oper} {o : Oper} {act : Act} {K : Act → World → Prop} {Q : Exit → Act → World → Prop} {E : Prop} (L : El α) (hw : Region.wanted o (yielded ops act.tmps) = true) (s x : Operand)
  (ho : o.op = .call { callee := .builtin .append, args := #[s, x], argTypes := #[L.S, L.S] }) (B : Nat) {v u : Value} {xs ys : List α}
  (hs : act.eval s = v) (hown : OwnE L B w v xs) (hx : act.eval x = u) {J : Nat → Prop} (hseq : Sq L J w u ys) (hI : ∀ vs x, L.R J w vs x → L.R (fun b => b < w.heap.size ∧ v.ownBlock ≠ some b) w vs x) (hlen : xs.length + ys.length ≤ 1073741824) (hbase : B ≤ w.heap.size)
  (h : ∀ v' w', OwnE L B w' v' (xs ++ ys) → w.grownBy w' v.ownBlock → K (act.put o.dst v') w') : if Region.wanted o (yielded ops act.tmps) = true then Oper.wp Tryz.prog o act w K Q else E := by
 rw [if_pos hw]
 obtain ⟨v', w', hr, h2, h3, h4⟩ := run_append_el B o.type hown hseq hI hlen hbase
 unfold Oper.wp execOp
 simp only [ho, resolve, invoke, builtin, Sem.run_bind, Sem.run_pure, Result.andThen_ok, List.map_toArray, List.map_cons, List.map_nil, hs, hx, hr]
 exact h v' w' h2 h3
theorem bareT_zero (i : List PItem) (l : List PTxn) : i ++ bareT (l.take 0) = i := List.append_nil i
theorem ownOk_of {all : List PItem} {e : PEff} (h : ∀ b, b < all.length → ¬ (all.getD b default).key = e.key → hasDot e.drops (all.getD b default).dot = false) : ownOk all e := fun x hx hne => by
 obtain ⟨b, hb, rfl⟩ := List.getElem_of_mem hx
 have := h b hb
 rw [show all.getD b default = all[b] by simp [List.getD, List.getElem?_eq_getElem hb]] at this
 exact this hne
theorem ownAll_of {i : List PItem} {l : List PTxn} {all : List PItem} (he : all = i ++ bareT l) (h : ∀ a, a < l.length → ∀ b, b < (otx l a).effs.length → ownOk all ((otx l a).effs.getD b default)) : SOwn i l := by
 subst he
 refine sOwn_of fun t ht e he => ?_
 obtain ⟨a, ha, rfl⟩ := List.getElem_of_mem ht
 obtain ⟨b, hb, rfl⟩ := List.getElem_of_mem he
 have := h a ha
 rw [otx_lt ha] at this
 have := this b hb
 rwa [show l[a].effs.getD b default = l[a].effs[b] by simp [List.getD, List.getElem?_eq_getElem hb]] at this
set_option maxRecDepth 100000 in
set_option maxHeartbeats 32000000 in
theorem stOwn_any {u v : Value} {i : List PItem} {l : List PTxn} {w : World} (hu : SeqE LItem w u i) (hv : SeqE LTxn w v l) (hi : i.length ≤ 1000) (hn : l.length ≤ 100) (hf : ∀ t ∈ l, FitB t) : Calls Tryz.prog 25 #[u, v] w (GivesOwn w i l) := by
 have KC := Lib.hid (rcopyI_any hu (by omega))
 obtain ⟨la, lc, rfl, L1, L2, -, -⟩ := hv.parts
 obtain ⟨ua, uc, rfl, -, -, -, -⟩ := hu.parts
 have HL := Lib.hid hv
 have HF := Lib.hid hf
 have HI := Lib.hid hi
 obtain ⟨n, hN⟩ : ∃ n, n = l.length := ⟨_, rfl⟩
 have HN := Lib.hid hN
 have HTA : Hid (l.take n = l) := Lib.hid (by rw [hN, List.take_length])
 have HBL : Hid (∀ k, k ≤ n → (bareT (l.take k)).length ≤ 2000) := Lib.hid (fun k hk => by have h1 := bareT_len (l := l.take k) fun t ht => (hf t (List.mem_of_mem_take ht)).effs; rw [List.length_take] at h1; omega)
 rw [← hN] at HL L1 hn ⊢
 have HNN := Lib.hid hn
 clear hu hv hf hN hi
 obtain ⟨ni, hni⟩ : ∃ m, i.length = m := ⟨_, rfl⟩
 rw [hni] at KC ⊢
 clear hni
 go_enter Tryz.func25, Tryz.ntmps25
 go_wp2_with fail
 refine KC.out.mono ?_
 rintro e w1 ⟨v1, rfl, ho, hb⟩
 have O1 := Lib.hid ho
 have G1 := Lib.hid hb
 obtain ⟨a1, c1', rfl, -⟩ := ho.parts
 clear ho hb KC
 go_wp2_with fail
 go_loopw [5, 6] (fun z c wr => ∃ k : Nat, k ≤ n ∧ c = .int .i64 k ∧ OwnE LItem w.heap.size wr z (i ++ bareT (l.take k)) ∧ Below w.heap.size w wr) (fun _ c _ => n - (intOf c).toNat)
 case atStart => exact ⟨0, Nat.zero_le _, rfl, by rw [bareT_zero]; exact O1.out, G1.out⟩
 case round =>
  obtain ⟨k, hk, rfl, ho, hb⟩ := hrel
  have O := Lib.hid ho
  have G := Lib.hid hb
  have HBK := Lib.hid (HBL.out k hk)
  obtain ⟨zl, hzl⟩ : ∃ m, (i ++ bareT (l.take k)).length = m := ⟨_, rfl⟩
  obtain ⟨za, zc, rfl, -, -, -⟩ := ho.at zl hzl
  clear ho hb O1 G1 hzl
  by_cases hlt : k < n
  ·have hkl : k < l.length := by rw [← HN.out]; exact hlt
   obtain ⟨lb, lo, rfl, hc⟩ := txns_atS HL.out (by omega)
   obtain ⟨da, dn, dc, ea, en, ec, hW, hsd, hse⟩ := hc k hlt
   have hft := HF.out (otx l k) (by rw [otx_lt hkl]; exact List.getElem_mem hkl)
   have HTK := Lib.hid (bareT_take (l := l) (k := k) (t := otx l k) hkl (otx_lt hkl).symm)
   have k1 : (k : Int) < n := by omega
   have k2 : (n : Int) ≤ lc := by omega
   have k3 : (lc : Int) ≤ 9223372036854775807 := by omega
   clear hc hsd hkl
   generalize otx l k = t at *
   have HW := Lib.hid (fun W (hb : Below w.heap.size w W) => hW W hb)
   have HE := Lib.hid hse
   have EN := Lib.hid hse.dims
   have HB0 : Hid ((i ++ bareT (l.take k)) ++ bareE t (t.effs.take 0) = i ++ bareT (l.take k)) := Lib.hid (by unfold bareE; simp)
   have HBN : Hid ((i ++ bareT (l.take k)) ++ bareE t (t.effs.take en) = i ++ bareT (l.take (k + 1))) := Lib.hid (by rw [← EN.out.1, List.take_length, List.append_assoc, HTK.out])
   have HBS : Hid (∀ j, j < en → (i ++ bareT (l.take k)) ++ bareE t (t.effs.take (j + 1)) = ((i ++ bareT (l.take k)) ++ bareE t (t.effs.take j)) ++ [bareI (t.effs.getD j default).key t.node t.seq (t.effs.getD j default).pos]) := Lib.hid (fun j hj => by rw [← bareE_take (t := t) (l := t.effs) (k := j) (by rw [EN.out.1]; exact hj)]; simp only [List.append_assoc])
   have HLB : Hid (∀ j, j ≤ en → ((i ++ bareT (l.take k)) ++ bareE t (t.effs.take j)).length ≤ 4000) := Lib.hid (fun j hj => by
    have h1 : (bareE t (t.effs.take j)).length ≤ 20 := by unfold bareE; rw [List.length_map, List.length_take]; have := hft.effs; omega
    rw [List.length_append, List.length_append]
    have := HI.out
    have := HBK.out
    omega)
   have HEN : Hid (en ≤ 20) := Lib.hid (by have := hft.effs; have := EN.out; omega)
   clear hse hW hft
   generalize i ++ bareT (l.take k) = base at *
   go_wp2_with fail
   go_loopw [5, 7] (fun z c wi => ∃ j : Nat, j ≤ en ∧ c = .int .i64 j ∧ OwnE LItem w.heap.size wi z (base ++ bareE t (t.effs.take j)) ∧ Below w.heap.size w wi) (fun _ c _ => en - (intOf c).toNat)
   case atStart => exact ⟨0, Nat.zero_le _, rfl, by rw [HB0.out]; exact O.out, G.out⟩
   case round =>
    obtain ⟨j, hj, rfl, ho, hb⟩ := hrel
    replace O := Lib.hid ho
    replace G := Lib.hid hb
    have HLL := Lib.hid (HLB.out j hj)
    obtain ⟨jl, hjl⟩ : ∃ m, (base ++ bareE t (t.effs.take j)).length = m := ⟨_, rfl⟩
    obtain ⟨ja, jc, rfl, -, -, -⟩ := ho.at jl hjl
    clear ho hb hjl
    obtain ⟨⟨c0, c1, c2, c3⟩, -⟩ := HW.out wr G.out
    by_cases hlt2 : j < en
    ·obtain ⟨eb, eo, rfl, hx⟩ := effs_atB HE.out (by omega)
     obtain ⟨pa, m, pc, hm, hE⟩ := hx j hlt2
     have HBJ := Lib.hid (HBS.out j hlt2)
     obtain ⟨⟨e0, e1, e2, e3, e4, e5, e6⟩, -⟩ := hE wr G.out
     have k4 : (j : Int) < en := by omega
     have k5 : (en : Int) ≤ ec := by have := EN.out; omega
     have k6 : (ec : Int) ≤ 9223372036854775807 := by have := EN.out; omega
     clear hx hE
     generalize t.effs.getD j default = x at *
     have OB := Lib.hid (O.out.alloc (.cells #[.int .i64 x.pos, .string (bt x.key), .string (bt x.field), .int .i64 x.kind, .string (bt x.elem), .int .i64 x.n, .slice pa m pc] 59))
     have GB := Lib.hid (G.out.alloc G.out.size (.cells #[.int .i64 x.pos, .string (bt x.key), .string (bt x.field), .int .i64 x.kind, .string (bt x.elem), .int .i64 x.n, .slice pa m pc] 59))
     have EB : Hid (∀ u, Below (wr.alloc (.cells #[.int .i64 x.pos, .string (bt x.key), .string (bt x.field), .int .i64 x.kind, .string (bt x.elem), .int .i64 x.n, .slice pa m pc] 59)).heap.size (wr.alloc (.cells #[.int .i64 x.pos, .string (bt x.key), .string (bt x.field), .int .i64 x.kind, .string (bt x.elem), .int .i64 x.n, .slice pa m pc] 59)) u → EffAt u wr.heap.size 0 x (.slice pa m pc)) := Lib.hid (fun u hb => (effAt_box wr x pa m pc).below hb (by simp))
     have OG : Hid (∀ b, (Value.slice ja jl jc).ownBlock = some b → b < wr.heap.size) := Lib.hid (fun b hb => (O.out.lt b hb).2)
     clear hm
     go_upto_region 9 with fail
     clear c0 c1 c2 c3 e0 e1 e2 e3 e4 e5 e6
     generalize (wr.alloc (.cells #[.int .i64 x.pos, .string (bt x.key), .string (bt x.field), .int .i64 x.kind, .string (bt x.elem), .int .i64 x.n, .slice pa m pc] 59)) = wb at *
     generalize wr.heap.size = g at *
     have KE : Hid (∀ u, Below wb.heap.size wb u → Below w.heap.size w u ∧ (u.cell? ⟨lb, lo + k * 4, none⟩ = some (.int .i64 t.node) ∧ u.cell? ⟨lb, lo + k * 4 + 1, none⟩ = some (.int .i64 t.seq)) ∧ u.cell? ⟨g, 0, none⟩ = some (.int .i64 x.pos) ∧ u.cell? ⟨g, 1, none⟩ = some (.string (bt x.key))) := Lib.hid (fun u hb => by
      have hl := GB.out.trans (hb.mono GB.out.size)
      have h4 := (EB.out u hb).zero
      exact ⟨hl, ⟨(HW.out u hl).1.1, (HW.out u hl).1.2.1⟩, h4.1, h4.2.1⟩)
     refine wp_region_held_drew (S := fun u' => Below w.heap.size w u' ∧ (u'.cell? ⟨lb, lo + k * 4, none⟩ = some (.int .i64 t.node) ∧ u'.cell? ⟨lb, lo + k * 4 + 1, none⟩ = some (.int .i64 t.seq)) ∧ u'.cell? ⟨g, 0, none⟩ = some (.int .i64 x.pos) ∧ u'.cell? ⟨g, 1, none⟩ = some (.string (bt x.key))) (by kernel_rfl) ?_ (fun hHeld => ?_)
     ·(exact KE.out _ (Below.refl _ _).drew)
     simp only [List.size_toArray, List.length_cons, List.length_nil, Nat.zero_add, Nat.reduceAdd]
     refine tkB (i := 0) hHeld ?_
     refine tkB (i := 1) hHeld ?_
     refine tkB (i := 2) hHeld ?_
     refine tkB (i := 3) hHeld ?_
     refine tkB (i := 4) hHeld ?_
     refine tkB (i := 5) hHeld ?_
     refine tkB (i := 6) hHeld ?_
     refine tkB (i := 7) hHeld ?_
     refine tkB (i := 8) hHeld ?_
     refine tkB (i := 9) hHeld ?_
     refine tkB (i := 10) hHeld ?_
     refine tkB (i := 11) hHeld ?_
     refine tkB (i := 12) hHeld ?_
     refine tkB (i := 13) hHeld ?_
     refine tkB (i := 14) hHeld ?_
     refine tkB (i := 15) hHeld ?_
     refine tkB (i := 16) hHeld ?_
     refine wpAnyH_ready (rs := [17]) (by kernel_rfl) (by simp) ?_
     refine AllReadyH.cons rfl (fun K hK => ?_) AllReadyH.nil
     go_simp
     refine hK.out _ _ (KE.out _ ((Below.refl _ _).drew.alloc (Nat.le_refl _) _)) (fun hHeld => ?_)
     clear hK K
     have OC := Lib.hid (OB.out.below ((Below.refl wb.heap.size wb).drew.alloc (Nat.le_refl _) (.cells #[.string (bt x.key), .string ByteArray.empty, .int .i64 0, .string ByteArray.empty, .int .i64 0, .int .i64 t.node, .int .i64 t.seq, .int .i64 x.pos] 64)) (Nat.le_refl _))
     have GC : Hid (Below w.heap.size w (wb.drew.alloc (.cells #[.string (bt x.key), .string ByteArray.empty, .int .i64 0, .string ByteArray.empty, .int .i64 0, .int .i64 t.node, .int .i64 t.seq, .int .i64 x.pos] 64))) := Lib.hid (GB.out.trans (((Below.refl wb.heap.size wb).drew.alloc (Nat.le_refl _) (.cells #[.string (bt x.key), .string ByteArray.empty, .int .i64 0, .string ByteArray.empty, .int .i64 0, .int .i64 t.node, .int .i64 t.seq, .int .i64 x.pos] 64)).mono GB.out.size))
     have CC := Lib.hid (KE.out (wb.drew.alloc (.cells #[.string (bt x.key), .string ByteArray.empty, .int .i64 0, .string ByteArray.empty, .int .i64 0, .int .i64 t.node, .int .i64 t.seq, .int .i64 x.pos] 64)) ((Below.refl _ _).drew.alloc (Nat.le_refl _) _))
     refine wpAnyH_ready (rs := [18]) (by kernel_rfl) (by simp) ?_
     refine AllReadyH.cons rfl (fun K hK => ?_) AllReadyH.nil
     refine step_append_elG LItem (by rfl) (.tmp 38) (.tmp 55) rfl w.heap.size rfl OC.out rfl (one_item wb.drew (bareI x.key t.node t.seq x.pos)) (fun _ _ h => h) (by have := HLL.out; rw [List.length_append] at this; simp; omega) (by have := GC.out.size; exact this) ?_
     intro v5 w5 ho5 hg5
     have O5 := Lib.hid ho5
     have G5 : Hid (Below w.heap.size w w5) := Lib.hid (GC.out.grown hg5 GC.out.size fun b hb => (OC.out.lt b hb).1)
     have CG : Hid (∀ (o : Nat) (u : Value), (wb.drew.alloc (.cells #[.string (bt x.key), .string ByteArray.empty, .int .i64 0, .string ByteArray.empty, .int .i64 0, .int .i64 t.node, .int .i64 t.seq, .int .i64 x.pos] 64)).cell? ⟨g, o, none⟩ = some u → w5.cell? ⟨g, o, none⟩ = some u) := Lib.hid (fun o u hc => (World.cell?_of_block (a := ⟨g, o, none⟩) (hg5.block g (World.block_lt_of_cell? _ _ hc) fun e => by have := OG.out g e.symm; omega)).trans hc)
     obtain ⟨-, -, b0, b1⟩ := CC.out
     refine hK.out _ _ ⟨G5.out, ⟨(HW.out w5 G5.out).1.1, (HW.out w5 G5.out).1.2.1⟩, CG.out _ _ b0, CG.out _ _ b1⟩ (fun hHeld => ?_)
     clear hK K ho5 hg5 b0 b1
     refine tkB (i := 19) hHeld ?_
     refine wpAnyH_done (by kernel_rfl) ?_ _
     clear hHeld
     rw [← HBJ.out] at O5
     go_wp2_with fail
     go_roundw
     case rel => exact ⟨j + 1, by omega, by go_num, O5.out, G5.out⟩
     case measure => simp [intOf]; omega
    ·obtain rfl : j = en := by omega
     rw [HBN.out] at O
     go_wp2_with fail
     go_roundw
     case rel => exact ⟨k + 1, by omega, by go_num, O.out, G.out⟩
     case measure => simp [intOf]; omega
  ·obtain rfl : k = n := by omega
   rw [HTA.out] at O
   have HLA : Hid ((i ++ bareT l).length ≤ 4000) := Lib.hid (by rw [HTA.out] at HBK; rw [List.length_append]; have := HBK.out; have := HI.out; omega)
   have HOW := Lib.hid (fun all he h => ownAll_of (i := i) (l := l) (all := all) he h)
   obtain ⟨all, hall⟩ : ∃ a, a = i ++ bareT l := ⟨_, rfl⟩
   rw [← hall] at O HLA
   have HAE := Lib.hid hall
   have DA := Lib.hid O.out.seq.dims
   clear hall HBK HBL HTA
   go_wp2_with fail
   go_loopw [9] (fun c wr => ∃ a : Nat, a ≤ k ∧ c = .int .i64 a ∧ Aside (∀ b, b < a → ∀ d, d < (otx l b).effs.length → ownOk all ((otx l b).effs.getD d default)) ∧ OwnE LItem w.heap.size wr (.slice za zl zc) all ∧ Below w.heap.size w wr) (fun c _ => k - (intOf c).toNat)
   case atStart => exact ⟨0, Nat.zero_le _, rfl, fun b hb => absurd hb (Nat.not_lt_zero _), O.out, G.out⟩
   case round =>
    obtain ⟨a, ha, rfl, hd, ho, hb⟩ := hrel
    have HD := Lib.hid (Aside.out hd)
    replace O := Lib.hid ho
    replace G := Lib.hid hb
    clear hd ho hb
    by_cases hlt3 : a < k
    ·have hal : a < l.length := by rw [← HN.out]; exact hlt3
     obtain ⟨lb, lo, rfl, hc⟩ := txns_atS HL.out (by omega)
     obtain ⟨da, dn, dc, ea, en, ec, hW, hsd, hse⟩ := hc a hlt3
     have hft := HF.out (otx l a) (by rw [otx_lt hal]; exact List.getElem_mem hal)
     have HDA : Hid ((∀ d, d < (otx l a).effs.length → ownOk all ((otx l a).effs.getD d default)) → ∀ b, b < a + 1 → ∀ d, d < (otx l b).effs.length → ownOk all ((otx l b).effs.getD d default)) := Lib.hid (fun h b hb => by
      by_cases e : b = a
      ·rw [e]; exact h
      ·exact HD.out b (by omega))
     have k1 : (a : Int) < k := by omega
     have k2 : (k : Int) ≤ lc := by omega
     have k3 : (lc : Int) ≤ 9223372036854775807 := by omega
     clear hc hsd hal
     generalize otx l a = t at *
     have HW := Lib.hid (fun W (hb : Below w.heap.size w W) => hW W hb)
     have HE := Lib.hid hse
     have EN := Lib.hid hse.dims
     have HFT := Lib.hid hft
     rw [EN.out.1] at HDA
     clear hse hW hft
     go_wp2_with fail
     go_loopw [10] (fun c wr => ∃ j : Nat, j ≤ en ∧ c = .int .i64 j ∧ Aside (∀ d, d < j → ownOk all (t.effs.getD d default)) ∧ OwnE LItem w.heap.size wr (.slice za zl zc) all ∧ Below w.heap.size w wr) (fun c _ => en - (intOf c).toNat)
     case atStart => exact ⟨0, Nat.zero_le _, rfl, fun b hb => absurd hb (Nat.not_lt_zero _), O.out, G.out⟩
     case round =>
      obtain ⟨j, hj, rfl, hd, ho, hb⟩ := hrel
      have HJ := Lib.hid (Aside.out hd)
      replace O := Lib.hid ho
      replace G := Lib.hid hb
      clear hd ho hb
      obtain ⟨⟨c0, c1, c2, c3⟩, -⟩ := HW.out wr G.out
      by_cases hlt4 : j < en
      ·obtain ⟨eb, eo, rfl, hx⟩ := effs_atB HE.out (by omega)
       obtain ⟨pa, m, pc, hm, hE⟩ := hx j hlt4
       have HJJ : Hid (ownOk all (t.effs.getD j default) → ∀ d, d < j + 1 → ownOk all (t.effs.getD d default)) := Lib.hid (fun h d hd => by
        by_cases e : d = j
        ·rw [e]; exact h
        ·exact HJ.out d (by omega))
       have HOK := Lib.hid (fun h => ownOk_of (all := all) (e := t.effs.getD j default) h)
       have HDR : Hid ((t.effs.getD j default).drops.length ≤ 100) := Lib.hid (HFT.out.drops _ (mem_defE (by rw [EN.out.1]; exact hlt4)))
       have k4 : (j : Int) < en := by omega
       have k5 : (en : Int) ≤ ec := by have := EN.out; omega
       have k6 : (ec : Int) ≤ 9223372036854775807 := by have := EN.out; omega
       clear hx hm
       generalize t.effs.getD j default = x at *
       have HEX := Lib.hid hE
       clear hE
       rw [DA.out.1] at HOK
       go_wp2_with fail
       clear c0 c1 c2 c3
       go_loopw [11] (fun c wr => ∃ q : Nat, q ≤ zl ∧ c = .int .i64 q ∧ Aside (∀ b, b < q → ¬ (all.getD b default).key = x.key → hasDot x.drops (all.getD b default).dot = false) ∧ OwnE LItem w.heap.size wr (.slice za zl zc) all ∧ Below w.heap.size w wr) (fun c _ => zl - (intOf c).toNat)
       case atStart => exact ⟨0, Nat.zero_le _, rfl, fun b hb => absurd hb (Nat.not_lt_zero _), O.out, G.out⟩
       case round =>
        obtain ⟨q, hq, rfl, hd, ho, hb⟩ := hrel
        have HQ := Lib.hid (Aside.out hd)
        replace O := Lib.hid ho
        replace G := Lib.hid hb
        clear hd ho hb
        by_cases hlt5 : q < zl
        ·obtain ⟨ab, ao, ac, hv, -, -, -, hi'⟩ := items_spot O.out.seq (by rw [DA.out.1]; omega)
         rw [DA.out.1] at hv
         simp only [Value.slice.injEq] at hv
         obtain ⟨rfl, -, rfl⟩ := hv
         have YI := Lib.hid (hi' q (by rw [DA.out.1]; exact hlt5))
         have HQQ : Hid ((¬ (all.getD q default).key = x.key → hasDot x.drops (all.getD q default).dot = false) → ∀ b, b < q + 1 → ¬ (all.getD b default).key = x.key → hasDot x.drops (all.getD b default).dot = false) := Lib.hid (fun h b hb => by
          by_cases e : b = q
          ·rw [e]; exact h
          ·exact HQ.out b (by omega))
         clear hi'
         generalize all.getD q default = y at *
         have k7 : (q : Int) < zl := by omega
         have k8 : (zl : Int) ≤ zc := by have := DA.out; omega
         have k9 : (zc : Int) ≤ 9223372036854775807 := by have := DA.out; omega
         have KF : Hid (∀ u, Below wr.heap.size wr u → Below wr.heap.size wr u ∧ (u.cell? ⟨lb, lo + a * 4 + 3, none⟩ = some (.slice (some ⟨eb, eo, none⟩) en ec)) ∧ (u.cell? ⟨eb, eo + j * 7 + 1, none⟩ = some (.string (bt x.key)) ∧ u.cell? ⟨eb, eo + j * 7 + 6, none⟩ = some (.slice pa m pc)) ∧ u.cell? ⟨ab, ao + q * 8, none⟩ = some (.string (bt y.key)) ∧ u.cell? ⟨ab, ao + q * 8 + 5, none⟩ = some (.int .i64 y.dot.node) ∧ u.cell? ⟨ab, ao + q * 8 + 6, none⟩ = some (.int .i64 y.dot.seq) ∧ u.cell? ⟨ab, ao + q * 8 + 7, none⟩ = some (.int .i64 y.dot.pos)) := Lib.hid (fun u hb => by
          have hl := G.out.trans (hb.mono G.out.size)
          have y1 := YI.out.below hb YI.out.lt
          have x1 := (HEX.out u hl).1
          exact ⟨hb, (HW.out u hl).1.2.2.2, ⟨x1.c1, x1.c6⟩, y1.c0, y1.c5, y1.c6, y1.c7⟩)
         have KI := Lib.hid (fun u (hb : Below wr.heap.size wr u) => ris_any (HEX.out u (G.out.trans (hb.mono G.out.size))).2 (by have := HDR.out; omega) y.dot)
         rw [dv_eq4] at KI
         have tk := text_eq y.key x.key
         by_cases hkey : y.key = x.key
         ·have HX := Lib.hid (HQQ.out fun h => absurd hkey h)
          rw [decide_eq_true hkey] at tk
          have tn : ((bt y.key).toList != (bt x.key).toList) = false := by rw [bne, tk]; rfl
          clear hkey HQQ
          generalize bt y.key = YK at *
          generalize bt x.key = XK at *
          go_upto_region 19 with fail
          refine wp_region_held_drew (S := fun u' => Below wr.heap.size wr u' ∧ (u'.cell? ⟨lb, lo + a * 4 + 3, none⟩ = some (.slice (some ⟨eb, eo, none⟩) en ec)) ∧ (u'.cell? ⟨eb, eo + j * 7 + 1, none⟩ = some (.string XK) ∧ u'.cell? ⟨eb, eo + j * 7 + 6, none⟩ = some (.slice pa m pc)) ∧ u'.cell? ⟨ab, ao + q * 8, none⟩ = some (.string YK) ∧ u'.cell? ⟨ab, ao + q * 8 + 5, none⟩ = some (.int .i64 y.dot.node) ∧ u'.cell? ⟨ab, ao + q * 8 + 6, none⟩ = some (.int .i64 y.dot.seq) ∧ u'.cell? ⟨ab, ao + q * 8 + 7, none⟩ = some (.int .i64 y.dot.pos)) (by kernel_rfl) ?_ (fun hHeld => ?_)
          ·(exact KF.out _ (Below.refl _ _).drew)
          simp only [List.size_toArray, List.length_cons, List.length_nil, Nat.zero_add, Nat.reduceAdd]
          refine tkB (i := 0) hHeld ?_
          refine tkB (i := 1) hHeld ?_
          refine tkB (i := 2) hHeld ?_
          refine tkB (i := 3) hHeld ?_
          refine tkB (i := 4) hHeld ?_
          refine tkB (i := 5) hHeld ?_
          refine tkB (i := 6) hHeld ?_
          refine tkB (i := 7) hHeld ?_
          refine tkB (i := 8) hHeld ?_
          refine tkB (i := 9) hHeld ?_
          refine tkB (i := 10) hHeld ?_
          refine tkB (i := 11) hHeld ?_
          refine tkB (i := 12) hHeld ?_
          refine tkB (i := 13) hHeld ?_
          refine tkB (i := 14) hHeld ?_
          refine tkB (i := 15) hHeld ?_
          refine tkS (i := 16) hHeld ?_
          refine tkS (i := 17) hHeld ?_
          refine tkS (i := 18) hHeld ?_
          refine tkS (i := 19) hHeld ?_
          refine tkS (i := 20) hHeld ?_
          refine tkS (i := 21) hHeld ?_
          refine tkS (i := 22) hHeld ?_
          refine tkS (i := 23) hHeld ?_
          refine tkS (i := 24) hHeld ?_
          refine tkS (i := 25) hHeld ?_
          refine tkS (i := 26) hHeld ?_
          refine tkS (i := 27) hHeld ?_
          refine tkS (i := 28) hHeld ?_
          refine tkS (i := 29) hHeld ?_
          refine tkS (i := 30) hHeld ?_
          refine tkB (i := 31) hHeld ?_
          refine wpAnyH_done (by kernel_rfl) ?_ _
          have GH := Lib.hid hHeld.1
          clear hHeld
          go_wp2_with fail
          go_roundw
          case rel => exact ⟨q + 1, by omega, by go_num, HX.out, O.out.below GH.out (Nat.le_refl _), G.out.trans (GH.out.mono G.out.size)⟩
          case measure => simp [intOf]; omega
         ·have HX := Lib.hid (fun h => HQQ.out fun _ => h)
          rw [decide_eq_false hkey] at tk
          have tn : ((bt y.key).toList != (bt x.key).toList) = true := by rw [bne, tk]; rfl
          clear hkey HQQ
          generalize bt y.key = YK at *
          generalize bt x.key = XK at *
          generalize hasDot x.drops y.dot = hd at *
          go_upto_region 19 with fail
          refine wp_region_held_drew (S := fun u' => Below wr.heap.size wr u' ∧ (u'.cell? ⟨lb, lo + a * 4 + 3, none⟩ = some (.slice (some ⟨eb, eo, none⟩) en ec)) ∧ (u'.cell? ⟨eb, eo + j * 7 + 1, none⟩ = some (.string XK) ∧ u'.cell? ⟨eb, eo + j * 7 + 6, none⟩ = some (.slice pa m pc)) ∧ u'.cell? ⟨ab, ao + q * 8, none⟩ = some (.string YK) ∧ u'.cell? ⟨ab, ao + q * 8 + 5, none⟩ = some (.int .i64 y.dot.node) ∧ u'.cell? ⟨ab, ao + q * 8 + 6, none⟩ = some (.int .i64 y.dot.seq) ∧ u'.cell? ⟨ab, ao + q * 8 + 7, none⟩ = some (.int .i64 y.dot.pos)) (by kernel_rfl) ?_ (fun hHeld => ?_)
          ·(exact KF.out _ (Below.refl _ _).drew)
          simp only [List.size_toArray, List.length_cons, List.length_nil, Nat.zero_add, Nat.reduceAdd]
          refine tkB (i := 0) hHeld ?_
          refine tkB (i := 1) hHeld ?_
          refine tkB (i := 2) hHeld ?_
          refine tkB (i := 3) hHeld ?_
          refine tkB (i := 4) hHeld ?_
          refine tkB (i := 5) hHeld ?_
          refine tkB (i := 6) hHeld ?_
          refine tkB (i := 7) hHeld ?_
          refine tkB (i := 8) hHeld ?_
          refine tkB (i := 9) hHeld ?_
          refine tkB (i := 10) hHeld ?_
          refine tkB (i := 11) hHeld ?_
          refine tkB (i := 12) hHeld ?_
          refine tkB (i := 13) hHeld ?_
          refine tkB (i := 14) hHeld ?_
          refine tkB (i := 15) hHeld ?_
          refine tkB (i := 16) hHeld ?_
          refine tkB (i := 17) hHeld ?_
          refine tkB (i := 18) hHeld ?_
          refine tkB (i := 19) hHeld ?_
          refine tkB (i := 20) hHeld ?_
          refine tkB (i := 21) hHeld ?_
          refine tkB (i := 22) hHeld ?_
          refine tkB (i := 23) hHeld ?_
          refine tkB (i := 24) hHeld ?_
          refine tkB (i := 25) hHeld ?_
          refine tkB (i := 26) hHeld ?_
          refine tkB (i := 27) hHeld ?_
          refine tkB (i := 28) hHeld ?_
          refine tkB (i := 29) hHeld ?_
          refine wpAnyH_ready (rs := [30]) (by kernel_rfl) (by simp) ?_
          refine AllReadyH.cons rfl (fun K hK => ?_) AllReadyH.nil
          go_simp
          refine (KI.out _ hHeld.1).mono ?_
          rintro e s1 ⟨rfl, hb⟩
          refine hK.out _ _ (KF.out _ (holdC hHeld hb)) (fun hHeld => ?_)
          clear hK K hb
          refine tkB (i := 31) hHeld ?_
          refine wpAnyH_done (by kernel_rfl) ?_ _
          have GH := Lib.hid hHeld.1
          clear hHeld
          cases hd with
          | false =>
           have HX2 := Lib.hid (HX.out rfl)
           go_wp2_with fail
           go_roundw
           case rel => exact ⟨q + 1, by omega, by go_num, HX2.out, O.out.below GH.out (Nat.le_refl _), G.out.trans (GH.out.mono G.out.size)⟩
           case measure => simp [intOf]; omega
          | true =>
           go_wp2_with fail
           go_ret
           exact ⟨false, rfl, (fun h => nomatch h), G.out.trans (GH.out.mono G.out.size)⟩
        ·obtain rfl : q = zl := by omega
         have HX := Lib.hid (HJJ.out (HOK.out HQ.out))
         go_wp2_with fail
         go_roundw
         case rel => exact ⟨j + 1, by omega, by go_num, HX.out, O.out, G.out⟩
         case measure => simp [intOf]; omega
      ·obtain rfl : j = en := by omega
       have HX := Lib.hid (HDA.out HJ.out)
       go_wp2_with fail
       go_roundw
       case rel => exact ⟨a + 1, by omega, by go_num, HX.out, O.out, G.out⟩
       case measure => simp [intOf]; omega
    ·obtain rfl : a = k := by omega
     have HX := Lib.hid (HOW.out all HAE.out (by rw [← HN.out]; exact HD.out))
     go_wp2_with fail
     go_ret
     exact ⟨true, rfl, fun _ => HX.out, G.out⟩
end Go.Proofs.YtpnpomocjkmncaaGreat
