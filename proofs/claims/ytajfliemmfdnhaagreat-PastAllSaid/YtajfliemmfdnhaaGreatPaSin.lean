/- What the program's own unheard and Since of a past leave. (Written by gen-prog.py.) -/
import Derived.Test.YtajfliemmfdnhaaGreatPaAlone
import Derived.Test.YtajfliemmfdnhaaGreatPaEnd
import Derived.Test.YtajfliemmfdnhaaGreatRefTxOC
import Derived.Test.YtajfliemmfdnhaaGreatVcAll
import Derived.Deep.RegionHeld3
namespace Go.Proofs.YtajfliemmfdnhaaGreat
open Go.RowKit Plain
set_option linter.unusedVariables false


theorem FitTx.w {t : PTxn} (h : FitTx t) : FitW t := ⟨by have := h.deps; omega, by have := h.effs; omega, fun e he => by have := h.drops e he; omega, h.ok⟩
theorem FitTx.alone {l : List PTxn} (h : ∀ t ∈ l, FitTx t) : ∀ t ∈ l, t.deps.length ≤ 1000000 ∧ t.effs.length ≤ 1000000 ∧ ∀ e ∈ t.effs, e.drops.length ≤ 1000000 := fun t ht => ⟨(h t ht).w.deps, (h t ht).w.effs, (h t ht).w.drops⟩
theorem paEnters : ∀ args w, (callFunc 68 args).run Tryz.prog w = .ok (.enter 68 args) w := enters_of Tryz.func68 (by kernel_rfl) rfl
set_option maxRecDepth 100000 in
set_option maxHeartbeats 4000000 in
theorem paHeard {W : World} {g : Nat} {vv tv : Value} {v : Ints} {t : PTxn} (hc : W.cell? ⟨g, 0, none⟩ = some vv) (hv : SeqI W vv v) (ht : IsTxn W tv t) : Calls Tryz.prog 68 (#[tv] ++ #[.pointer (some ⟨g, 0, none⟩)]) W (GivesB W (pHeard v t)) := by
 obtain ⟨da, dn, dc, ea, en, ec, rfl, k1, k2⟩ := ht.parts
 show Calls Tryz.prog 68 #[.agg #[.int .i64 t.node, .int .i64 t.seq, .slice da dn dc, .slice ea en ec], .pointer (some ⟨g, 0, none⟩)] W _
 have BE := Lib.hid ((Below.refl W.heap.size W).alloc (Nat.le_refl _) (.cells #[.int .i64 t.node, .int .i64 t.seq, .slice da dn dc, .slice ea en ec] 29))
 have TB := Lib.hid (txbox_new (w := W) (t := t) k1 k2)
 have hlt := World.block_lt_of_cell? W ⟨g, 0, none⟩ hc
 have CG := Lib.hid ((BE.out.cell (p := ⟨g, 0, none⟩) hlt).trans hc)
 have KH : Hid (∀ u, Below (W.alloc (.cells #[.int .i64 t.node, .int .i64 t.seq, .slice da dn dc, .slice ea en ec] 29)).heap.size (W.alloc (.cells #[.int .i64 t.node, .int .i64 t.seq, .slice da dn dc, .slice ea en ec] 29)) u → Calls Tryz.prog 26 #[vv, .agg #[.int .i64 t.node, .int .i64 t.seq, .int .i64 0]] u (GivesB u (pHeard v t))) := Lib.hid (fun u hb => vc_has_any ((hv.below BE.out).below hb) t.node t.seq 0)
 obtain ⟨va, vc, rfl, -⟩ := hv.parts
 have KE : Hid (∀ u, Below (W.alloc (.cells #[.int .i64 t.node, .int .i64 t.seq, .slice da dn dc, .slice ea en ec] 29)).heap.size (W.alloc (.cells #[.int .i64 t.node, .int .i64 t.seq, .slice da dn dc, .slice ea en ec] 29)) u → Below (W.alloc (.cells #[.int .i64 t.node, .int .i64 t.seq, .slice da dn dc, .slice ea en ec] 29)).heap.size (W.alloc (.cells #[.int .i64 t.node, .int .i64 t.seq, .slice da dn dc, .slice ea en ec] 29)) u ∧ u.cell? ⟨g, 0, none⟩ = some (.slice va v.length vc) ∧ (u.cell? ⟨W.heap.size, 0, none⟩ = some (.int .i64 t.node) ∧ u.cell? ⟨W.heap.size, 1, none⟩ = some (.int .i64 t.seq) ∧ u.cell? ⟨W.heap.size, 2, none⟩ = some (.slice da dn dc) ∧ u.cell? ⟨W.heap.size, 3, none⟩ = some (.slice ea en ec))) := Lib.hid (fun u hb => ⟨hb, (hb.cell (World.block_lt_of_cell? _ _ CG.out)).trans CG.out, (TB.out.below hb).c⟩)
 clear hc hv ht k1 k2 hlt
 generalize pHeard v t = r at *
 generalize v.length = vn at *
 go_enter Tryz.func68, Tryz.ntmps68
 go_upto_region 1 with fail
 generalize (W.alloc (.cells #[.int .i64 t.node, .int .i64 t.seq, .slice da dn dc, .slice ea en ec] 29)) = wd at *
 refine wp_region_held_drew (S := fun u' => Below wd.heap.size wd u' ∧ u'.cell? ⟨g, 0, none⟩ = some (.slice va vn vc) ∧ (u'.cell? ⟨W.heap.size, 0, none⟩ = some (.int .i64 t.node) ∧ u'.cell? ⟨W.heap.size, 1, none⟩ = some (.int .i64 t.seq) ∧ u'.cell? ⟨W.heap.size, 2, none⟩ = some (.slice da dn dc) ∧ u'.cell? ⟨W.heap.size, 3, none⟩ = some (.slice ea en ec))) (by kernel_rfl) ?_ (fun hHeld => ?_)
 ·(exact KE.out _ (Below.refl _ _).drew)
 simp only [List.size_toArray, List.length_cons, List.length_nil, Nat.zero_add, Nat.reduceAdd]
 refine tkB (i := 0) hHeld ?_
 refine tkB (i := 1) hHeld ?_
 refine wpAnyH_ready (rs := [2]) (by kernel_rfl) (by simp) ?_
 refine AllReadyH.cons rfl (fun K hK => ?_) AllReadyH.nil
 go_simp
 refine (txdotP).mono ?_
 rintro e s1 ⟨rfl, hb⟩
 refine hK.out _ _ (KE.out _ (holdC hHeld hb)) (fun hHeld => ?_)
 clear hK K hb
 refine wpAnyH_ready (rs := [3]) (by kernel_rfl) (by simp) ?_
 refine AllReadyH.cons rfl (fun K hK => ?_) AllReadyH.nil
 go_simp
 refine (KH.out _ hHeld.1).mono ?_
 rintro e s2 ⟨rfl, hb⟩
 refine hK.out _ _ (KE.out _ (holdC hHeld hb)) (fun hHeld => ?_)
 clear hK K hb
 refine tkB (i := 4) hHeld ?_
 refine wpAnyH_done (by kernel_rfl) ?_ _
 have GZ := Lib.hid hHeld.1
 clear hHeld
 go_wp2_with fail
 go_ret
 exact ⟨rfl, BE.out.trans (GZ.out.mono BE.out.size)⟩
set_option maxRecDepth 100000 in
set_option maxHeartbeats 8000000 in
theorem unheard_any {lv vv : Value} {l : List PTxn} {v : Ints} {w : World} (hlv : SeqE LTxn w lv l) (hv : SeqI w vv v) (hn : l.length ≤ 1000000) (hf : ∀ t ∈ l, FitTx t) : Calls Tryz.prog 46 #[lv, vv] w (GivesTs w (pLeft l v)) := by
 obtain ⟨la, lc, rfl, -⟩ := hlv.parts
 obtain ⟨va, vc, rfl, -, -, -, hv'⟩ := hv.parts
 have BE := Lib.hid ((Below.refl w.heap.size w).alloc (Nat.le_refl _) (.cells #[.slice va v.length vc] 23))
 have CG := Lib.hid (heap_alloc_new w (.cells #[.slice va v.length vc] 23))
 have ZB : Hid ((w.alloc (.cells #[.slice va v.length vc] 23)).heap.size = w.heap.size + 1) := Lib.hid (by simp)
 have HV := Lib.hid (hv'.below BE.out)
 have KC := Lib.hid (txclone_any (SeqE.below hlv BE.out) (fun b hb => hb) hn)
 have HF := Lib.hid hf
 have HN := Lib.hid hn
 clear hlv hv hv' hn hf
 obtain ⟨ln, hln⟩ : ∃ n, n = l.length := ⟨_, rfl⟩
 have HLN := Lib.hid hln
 rw [← hln] at KC ⊢
 generalize v.length = vn at *
 clear hln
 go_enter Tryz.func46, Tryz.ntmps46
 go_upto_region 1 with fail
 generalize (w.alloc (.cells #[.slice va vn vc] 23)) = wb at *
 have WG : Hid (wb.cell? ⟨w.heap.size, 0, none⟩ = some (.slice va vn vc)) := Lib.hid (cell_of_row _ _ 0 _ _ _ CG.out)
 go_wp2_with fail
 refine KC.out.mono ?_
 rintro e w2 ⟨v2, rfl, ho, hb⟩
 have KD := Lib.hid (txdelete_any (N := wb.heap.size) ho.own hb.size (by rw [← HLN.out]; exact (by have := HN.out; have := HLN.out; omega)) (pHeard v) 68 #[.pointer (some ⟨w.heap.size, 0, none⟩)] paEnters (fun W d tv hd hw ht => paHeard (((hb.trans hw).cell (p := ⟨w.heap.size, 0, none⟩) (by have := ZB.out; show w.heap.size < wb.heap.size; omega)).trans WG.out) (HV.out.below' (hb.trans hw) (Nat.le_refl _)) ht))
 have G2 := Lib.hid hb
 obtain ⟨a2, c2, rfl, -, -, -, -⟩ := ho.own.parts
 clear ho hb KC
 go_wp2_with fail
 refine KD.out.mono ?_
 rintro e w3 ⟨v3, rfl, ho, hb⟩
 have KA := Lib.hid (paalone_any (N := wb.heap.size) ho (Nat.le_trans G2.out.size hb.size) (fun t ht => FitTx.alone HF.out t (List.mem_filter.1 ht).1))
 have G3 := Lib.hid (G2.out.trans hb)
 obtain ⟨a3, c3, rfl, -, -, -, -⟩ := ho.parts
 clear ho hb KD G2
 go_wp2_with fail
 refine KA.out.mono ?_
 rintro e w4 ⟨a4, n4, c4, rfl, ho, -, hb⟩
 have O4 : Hid (Sq LTxn (fun b => w.heap.size ≤ b ∧ b < w4.heap.size) w4 (.slice a4 n4 c4) (pLeft l v)) := Lib.hid (ho.mono fun b h => ⟨by have := ZB.out; omega, h.2⟩)
 have G4 := Lib.hid (BE.out.trans ((G3.out.trans hb).mono (by have := ZB.out; omega)))
 clear ho hb KA
 go_wp2_with fail
 go_ret
 exact ⟨_, _, _, rfl, O4.out, G4.out⟩
def sinceErr (p : PPast) (v : Ints) : Int := if within p.floor v then 0 else 14
def sinceList (p : PPast) (v : Ints) : List PTxn := if within p.floor v then pLeft p.list v else []
set_option maxRecDepth 100000 in
set_option maxHeartbeats 8000000 in
theorem since_any {pv vv : Value} {p : PPast} {v : Ints} {w : World} (hp : IsPast w pv p) (hv : SeqI w vv v) (hl : p.floor.length ≤ 1000000) (hn : p.list.length ≤ 1000000) (hf : ∀ t ∈ p.list, FitTx t) : Calls Tryz.prog 19 #[pv, vv] w (GivesTsE w (sinceList p v) (sinceErr p v)) := by
 obtain ⟨fa, fn, fc, la, ln, lc, rfl, h1, h2⟩ := hp.slices
 have PB := Lib.hid (pabox_new (p := p) h1 h2)
 have B0 := Lib.hid ((Below.refl w.heap.size w).alloc (Nat.le_refl _) (.cells #[.slice fa fn fc, .slice la ln lc] 26))
 have KW := Lib.hid (vc_within_any (seqI_of PB.out.f) (hv.below B0.out) hl)
 have HV := Lib.hid (hv.below B0.out)
 obtain ⟨va, vc, rfl, -⟩ := hv.parts
 have HN := Lib.hid hn
 have HF := Lib.hid hf
 have E1 : Hid (sinceErr p v = if within p.floor v then 0 else 14) := Lib.hid rfl
 have E2 : Hid (sinceList p v = if within p.floor v then pLeft p.list v else []) := Lib.hid rfl
 clear hp hv hl hn hf h1 h2
 generalize within p.floor v = b at *
 generalize sinceErr p v = er at *
 generalize sinceList p v = sl at *
 generalize v.length = vn at *
 go_enter Tryz.func19, Tryz.ntmps19
 go_upto_region 1 with fail
 generalize (w.alloc (.cells #[.slice fa fn fc, .slice la ln lc] 26)) = wb at *
 obtain ⟨c0, c1⟩ := PB.out.c
 go_wp2_with fail
 refine KW.out.mono ?_
 rintro e w2 ⟨rfl, hw⟩
 have G2 : Hid (Below wb.heap.size wb w2) := Lib.hid (below_of_same hw)
 clear hw KW c0 c1
 cases b
 ·have e1 := E1.out
  have e2 := E2.out
  simp only [Bool.false_eq_true, if_false] at e1 e2
  subst e1 e2
  go_wp2_with fail
  refine bodyPost_ret (v := .tuple #[.slice none 0 0, .int .i64 14]) (by simp [results, Tryz.results19, go_sem]) rfl ?_
  exact ⟨_, _, _, rfl, Sq.nil _ _, B0.out.trans (G2.out.mono B0.out.size)⟩
 ·have e1 := E1.out
  have e2 := E2.out
  simp only [if_true] at e1 e2
  subst e1 e2
  have PB2 := Lib.hid (PB.out.below G2.out)
  obtain ⟨c0, c1⟩ := PB2.out.c
  have KU := Lib.hid (unheard_any PB2.out.l (HV.out.below G2.out) HN.out HF.out)
  go_wp2_with fail
  refine KU.out.mono ?_
  rintro e w3 ⟨a3, n3, c3, rfl, ho, hb⟩
  have BW := Lib.hid (B0.out.trans (G2.out.mono B0.out.size))
  have O3 := Lib.hid (ho.mono fun b h => (⟨Nat.le_trans BW.out.size h.1, h.2⟩ : w.heap.size ≤ b ∧ b < w3.heap.size))
  have G3 := Lib.hid (BW.out.trans (hb.mono BW.out.size))
  clear ho hb KU c0 c1
  go_wp2_with fail
  refine bodyPost_ret (v := .tuple #[.slice a3 n3 c3, .int .i64 0]) (by simp [results, Tryz.results19, go_sem]) rfl ?_
  exact ⟨_, _, _, rfl, O3.out, G3.out⟩
end Go.Proofs.YtajfliemmfdnhaaGreat
