/- What the document's own Only of transactions leaves, with the blocks that its answer looks at. (Written by gen-onlyn.py.) -/
import Derived.Test.YtpnpomocjkmncaaGreatRefTxOC
import Derived.Test.YtpnpomocjkmncaaGreatStore
import Derived.Test.YtpnpomocjkmncaaGreatVcAll
import Derived.Test.YtpnpomocjkmncaaGreatRefIs
import Derived.Test.YtpnpomocjkmncaaGreatISets
import Derived.Deep.Cut
import Derived.Test.YtpnpomocjkmncaaGreatStUse
import Derived.Test.YtpnpomocjkmncaaGreatStOwn
import Derived.Test.YtpnpomocjkmncaaGreatRefSs
namespace Go.Proofs.YtpnpomocjkmncaaGreat
open Go.RowKit Plain
set_option linter.unusedVariables false

def GivesTxN (N : Nat) (w : World) (da : Option Addr) (dn dc : Nat) (t : PTxn) (zs : List Txt) (e : Ending) (w' : World) : Prop := ∃ qa qn qc, e = .returned (.agg #[.int .i64 t.node, .int .i64 t.seq, .slice da dn dc, .slice qa qn qc]) ∧ Sq LEff (fun b => b < N ∨ (w.heap.size ≤ b ∧ b < w'.heap.size)) w' (.slice qa qn qc) (eonly t.effs zs) ∧ Below w.heap.size w w'
set_option maxRecDepth 100000 in
set_option maxHeartbeats 8000000 in
theorem rtxonlyN {N : Nat} {z : Value} {t : PTxn} {zs : List Txt} {w : World} {da ea : Option Addr} {dn dc en ec : Nat} (k1 : Sq LInt (· < N) w (.slice da dn dc) t.deps) (k2 : Sq LEff (· < N) w (.slice ea en ec) t.effs) (hN : N ≤ w.heap.size) (hz : SeqT w z zs) (hzf : FitT zs) (hzl : zs.length ≤ 1000000) (hk : ∀ x ∈ t.effs, x.key.length ≤ 1000000) (hn : t.effs.length ≤ 1000000) :
  Calls Tryz.prog 27 #[.agg #[.int .i64 t.node, .int .i64 t.seq, .slice da dn dc, .slice ea en ec], z] w (GivesTxN N w da dn dc t zs) := by
 obtain ⟨za, zc, rfl, -⟩ := hz.parts
 have hbA := ((Below.refl w.heap.size w).alloc (Nat.le_refl _) (.cells #[.int .i64 t.node, .int .i64 t.seq, .slice da dn dc, .slice ea en ec] 30)).alloc (by simp) (.cells #[.int .i64 0, .int .i64 0, .slice none 0 0, .slice none 0 0] 30)
 have ZA : Hid (((w.alloc (.cells #[.int .i64 t.node, .int .i64 t.seq, .slice da dn dc, .slice ea en ec] 30)).alloc (.cells #[.int .i64 0, .int .i64 0, .slice none 0 0, .slice none 0 0] 30)).heap.size = w.heap.size + 2) := Lib.hid (by simp)
 have GA := Lib.hid hbA
 have TA : Hid (((w.alloc (.cells #[.int .i64 t.node, .int .i64 t.seq, .slice da dn dc, .slice ea en ec] 30)).alloc (.cells #[.int .i64 0, .int .i64 0, .slice none 0 0, .slice none 0 0] 30)).heap[w.heap.size]? = some (.cells #[.int .i64 t.node, .int .i64 t.seq, .slice da dn dc, .slice ea en ec] 30 (0, 0))) := Lib.hid (((((Below.refl (w.heap.size + 1) (w.alloc (.cells #[.int .i64 t.node, .int .i64 t.seq, .slice da dn dc, .slice ea en ec] 30))).alloc (by simp) (.cells #[.int .i64 0, .int .i64 0, .slice none 0 0, .slice none 0 0] 30)).block w.heap.size (by omega))).trans (heap_alloc_new w _))
 have RA : Hid (((w.alloc (.cells #[.int .i64 t.node, .int .i64 t.seq, .slice da dn dc, .slice ea en ec] 30)).alloc (.cells #[.int .i64 0, .int .i64 0, .slice none 0 0, .slice none 0 0] 30)).heap[w.heap.size + 1]? = some (.cells #[.int .i64 0, .int .i64 0, .slice none 0 0, .slice none 0 0] 30 (0, 0))) := Lib.hid (by
  have h := heap_alloc_new (w.alloc (.cells #[.int .i64 t.node, .int .i64 t.seq, .slice da dn dc, .slice ea en ec] 30)) (.cells #[.int .i64 0, .int .i64 0, .slice none 0 0, .slice none 0 0] 30)
  rw [show (w.alloc (.cells #[.int .i64 t.node, .int .i64 t.seq, .slice da dn dc, .slice ea en ec] 30)).heap.size = w.heap.size + 1 by simp] at h
  exact h)
 have KO := Lib.hid (ronlyE_anyJ (N := N) (w := ((w.alloc (.cells #[.int .i64 t.node, .int .i64 t.seq, .slice da dn dc, .slice ea en ec] 30)).alloc (.cells #[.int .i64 0, .int .i64 0, .slice none 0 0, .slice none 0 0] 30))) (k2.agree fun b hb => hbA.block b (Nat.lt_of_lt_of_le hb hN)) (by simp; omega) (hz.below hbA) hzf hk hn hzl)
 have D1 := Lib.hid (fun W (hb : Below w.heap.size w W) => Sq.agree (P := (· < N)) k1 fun b hlt => hb.block b (Nat.lt_of_lt_of_le hlt hN))
 have HNN := Lib.hid hN
 have HR : Hid (tonly t zs = ⟨t.node, t.seq, t.deps, eonly t.effs zs⟩) := Lib.hid rfl
 clear hz hzf hzl hk hn k1 k2 hbA hN
 generalize zs.length = zn at *
 go_enter Tryz.func27, Tryz.ntmps27
 go_upto_region 1 with fail
 generalize ((w.alloc (.cells #[.int .i64 t.node, .int .i64 t.seq, .slice da dn dc, .slice ea en ec] 30)).alloc (.cells #[.int .i64 0, .int .i64 0, .slice none 0 0, .slice none 0 0] 30)) = wa at *
 obtain ⟨⟨c0, c1, c2, c3⟩, f0, f1, f2, f3⟩ := st4_cells TA.out
 go_wp2_with fail
 refine KO.out.mono ?_
 rintro e w3 ⟨v2, rfl, ho2, hb2⟩
 have T3 := Lib.hid ((hb2.block w.heap.size (by rw [ZA.out]; omega)).trans TA.out)
 have R3 := Lib.hid ((hb2.block (w.heap.size + 1) (by rw [ZA.out]; omega)).trans RA.out)
 have G3 := Lib.hid (GA.out.trans (hb2.mono GA.out.size))
 rw [ZA.out] at ho2
 have E3 := Lib.hid ho2
 obtain ⟨a2, e2, rfl, -, -, -, -⟩ := ho2.own.parts
 clear ho2 hb2 KO c0 c1 c2 c3 f0 f1 f2 f3
 generalize hql : (eonly t.effs zs).length = ql at *
 clear hql
 obtain ⟨⟨c0, c1, c2, c3⟩, f0, f1, f2, f3⟩ := st4_cells T3.out
 have T4 : Hid ((w3.setCell ⟨w.heap.size, 3, none⟩ (.slice a2 ql e2)).heap[w.heap.size]? = some (.cells #[.int .i64 t.node, .int .i64 t.seq, .slice da dn dc, .slice a2 ql e2] 30 (0, 0))) := Lib.hid (heap_setCell_same _ _ 3 _ _ _ T3.out)
 have R4 : Hid ((w3.setCell ⟨w.heap.size, 3, none⟩ (.slice a2 ql e2)).heap[w.heap.size + 1]? = some (.cells #[.int .i64 0, .int .i64 0, .slice none 0 0, .slice none 0 0] 30 (0, 0))) := Lib.hid ((heap_setCell_other _ _ _ _ (show w.heap.size + 1 ≠ w.heap.size by omega)).trans R3.out)
 have G4 : Hid (Below w.heap.size w (w3.setCell ⟨w.heap.size, 3, none⟩ (.slice a2 ql e2))) := Lib.hid (G3.out.setCell (Nat.le_refl _) _)
 have E4 : Hid (OwnJ (fun b => b < N ∨ w.heap.size + 2 ≤ b) LEff (w.heap.size + 2) (w3.setCell ⟨w.heap.size, 3, none⟩ (.slice a2 ql e2)) (.slice a2 ql e2) (eonly t.effs zs)) := Lib.hid (E3.out.but (But.set _ _ _ _) (by omega) (fun b hb e => by have := HNN.out; omega))
 go_upto_region 2 with fail
 clear c0 c1 c2 c3 f0 f1 f2 f3 T3 R3 G3 E3
 generalize (w3.setCell ⟨w.heap.size, 3, none⟩ (.slice a2 ql e2)) = w4 at *
 obtain ⟨⟨c0, c1, c2, c3⟩, -⟩ := st4_cells T4.out
 obtain ⟨⟨y0, y1, y2, y3⟩, f0, f1, f2, f3⟩ := st4_cells R4.out
 have FC := Lib.hid (st4_cells (st4_block (v0 := .int .i64 t.node) (v1 := .int .i64 t.seq) (v2 := .slice da dn dc) (v3 := .slice a2 ql e2) R4.out)).1
 have FB := Lib.hid (st4_below (v0 := .int .i64 t.node) (v1 := .int .i64 t.seq) (v2 := .slice da dn dc) (v3 := .slice a2 ql e2) G4.out (Nat.le_succ w.heap.size))
 have FT := Lib.hid (st4_bareB w4 (w.heap.size + 1) (.int .i64 t.node) (.int .i64 t.seq) (.slice da dn dc) (.slice a2 ql e2))
 have FE := Lib.hid ((E4.out.but FT.out (by omega) (fun b hb e => by have := HNN.out; omega)).sq (fun b hb _ => .inr hb))
 clear FT
 unfold st4 at FC FB FE
 go_wp2_with fail
 obtain ⟨z0, z1, z2, z3⟩ := FC.out
 refine bodyPost_ret (v := .agg #[.int .i64 t.node, .int .i64 t.seq, .slice da dn dc, .slice a2 ql e2]) (by simp [results, Tryz.results27, go_sem, z0, z1, z2, z3]) rfl ?_
 exact ⟨_, _, _, rfl, FE.out.mono fun b hb => hb.1.elim .inl fun h => .inr ⟨by omega, hb.2⟩, FB.out⟩
end Go.Proofs.YtpnpomocjkmncaaGreat
namespace Go.Proofs.YtpnpomocjkmncaaGreat
open Go.RowKit Plain
set_option linter.unusedVariables false


theorem pstore_dec (a b : PStore) : decide (a = b) = (decide (a.heard = b.heard) && decide (a.items = b.items)) := by
 rw [Bool.eq_iff_iff, Bool.and_eq_true, decide_eq_true_iff, decide_eq_true_iff, decide_eq_true_iff]
 exact ⟨fun h => by subst h; exact ⟨rfl, rfl⟩, fun ⟨h1, h2⟩ => pstore_ext h1 h2⟩
set_option maxRecDepth 100000 in
set_option maxHeartbeats 4000000 in
theorem stSameR {u v : Value} {a b : PStore} {w : World} (hu : IsStore w u a) (hv : IsStore w v b) (r : Bool) (hr : decide (a = b) = r) : Calls Tryz.prog 16 #[u, v] w (GivesB w r) := by
 obtain ⟨ha, hn, hc, ia, im, ic, rfl, h1, h2⟩ := hu.slices
 obtain ⟨ka, kn, kc, ja, jm, jc, rfl, k1, k2⟩ := hv.slices
 rw [pstore_dec] at hr
 have b1 := (Below.refl w.heap.size w).alloc (Nat.le_refl _) (.cells #[.slice ha hn hc, .slice ia im ic] 26)
 have b2 := (Below.refl (w.alloc (.cells #[.slice ha hn hc, .slice ia im ic] 26)).heap.size (w.alloc (.cells #[.slice ha hn hc, .slice ia im ic] 26))).alloc (Nat.le_refl _) (.cells #[.slice ka kn kc, .slice ja jm jc] 26)
 have G0 := Lib.hid (b1.trans (b2.mono b1.size))
 have X := Lib.hid ((stbox_new (s := a) h1 h2).below b2)
 have Y : Hid (StBox (w.heap.size + 1) b ka kn kc ja jm jc ((w.alloc (.cells #[.slice ha hn hc, .slice ia im ic] 26)).alloc (.cells #[.slice ka kn kc, .slice ja jm jc] 26))) := Lib.hid (by have := stbox_new (s := b) (w := w.alloc (.cells #[.slice ha hn hc, .slice ia im ic] 26)) (k1.below b1) (k2.below b1); rwa [show (w.alloc (.cells #[.slice ha hn hc, .slice ia im ic] 26)).heap.size = w.heap.size + 1 by simp] at this)
 clear hu hv h1 h2 k1 k2 b1 b2
 go_enter Tryz.func16, Tryz.ntmps16
 go_upto_region 1 with fail
 generalize ((w.alloc (.cells #[.slice ha hn hc, .slice ia im ic] 26)).alloc (.cells #[.slice ka kn kc, .slice ja jm jc] 26)) = wb at *
 obtain ⟨c0, c1⟩ := X.out.c
 obtain ⟨d0, d1⟩ := Y.out.c
 have KE := vc_requal_any (seqI_of X.out.h) (seqI_of Y.out.h)
 cases hq : decide (a.heard = b.heard) with
 | false =>
  rw [hq] at KE hr
  obtain rfl : r = false := by rw [← hr]; rfl
  go_wp2_with fail
  refine KE.mono ?_
  rintro e w2 ⟨rfl, q, rfl⟩
  have G2 := Lib.hid (below_drewN G0.out q)
  clear KE c0 c1 d0 d1
  go_wp2_with fail
  go_ret
  exact ⟨rfl, G2.out⟩
 | true =>
  rw [hq] at KE hr
  rw [Bool.true_and] at hr
  have KS := Lib.hid (fun u (hb : Below wb.heap.size wb u) => rsameIR (X.out.below hb).i (Y.out.below hb).i hr)
  have HC := Lib.hid (fun u (hb : Below wb.heap.size wb u) => And.intro (X.out.below hb).c (Y.out.below hb).c)
  go_wp2_with fail
  refine KE.mono ?_
  rintro e w2 ⟨rfl, q, hw⟩
  have hb : Below wb.heap.size wb w2 := by rw [hw]; exact below_drewN (Below.refl _ _) q
  have G2 := Lib.hid (G0.out.trans (hb.mono G0.out.size))
  have K2 := KS.out w2 hb
  clear KE c0 c1 d0 d1 hw
  obtain ⟨⟨c0, c1⟩, d0, d1⟩ := HC.out w2 hb
  clear hb
  go_wp2_with fail
  refine K2.mono ?_
  rintro e w3 ⟨rfl, hb⟩
  have G3 := Lib.hid (G2.out.trans (hb.mono G2.out.size))
  clear hb K2 c0 c1 d0 d1
  go_wp2_with fail
  go_ret
  exact ⟨rfl, G3.out⟩
def stShort (s : PStore) : Bool := decide (s.heard.length ≤ 60) && shortI s.items
set_option maxRecDepth 100000 in
set_option maxHeartbeats 4000000 in
theorem stShortR {u : Value} {s : PStore} {w : World} (hu : IsStore w u s) (r : Bool) (hr : stShort s = r) : Calls Tryz.prog 9 #[u] w (GivesB w r) := by
 obtain ⟨ha, hn, hc, ia, im, ic, rfl, h1, h2⟩ := hu.slices
 have G0 := Lib.hid ((Below.refl w.heap.size w).alloc (Nat.le_refl _) (.cells #[.slice ha hn hc, .slice ia im ic] 26))
 have X := Lib.hid (stbox_new (s := s) h1 h2)
 have HD := Lib.hid h1.dims.1
 unfold stShort at hr
 rw [h1.dims.1] at hr
 clear hu h1 h2
 go_enter Tryz.func9, Tryz.ntmps9
 go_upto_region 1 with fail
 generalize (w.alloc (.cells #[.slice ha hn hc, .slice ia im ic] 26)) = wb at *
 obtain ⟨c0, c1⟩ := X.out.c
 by_cases h60 : hn ≤ 60
 ·have i60 : (hn : Int) ≤ 60 := by omega
  rw [decide_eq_true h60, Bool.true_and] at hr
  subst hr
  have KS := rshortI_any X.out.i
  clear h60
  go_wp2_with fail
  refine KS.mono ?_
  rintro e w2 ⟨rfl, rfl⟩
  clear KS
  go_wp2_with fail
  go_ret
  exact ⟨rfl, G0.out⟩
 ·have i60 : ¬ (hn : Int) ≤ 60 := by omega
  rw [decide_eq_false h60, Bool.false_and] at hr
  subst hr
  clear h60
  go_wp2_with fail
  go_ret
  exact ⟨rfl, G0.out⟩
end Go.Proofs.YtpnpomocjkmncaaGreat
namespace Go.Proofs.YtpnpomocjkmncaaGreat
open Go.RowKit Plain
set_option linter.unusedVariables false

theorem fitB_of {l : List PTxn} (h : shortTx l = true) (hok : ∀ t ∈ l, txnOk t) : l.length ≤ 24 ∧ (∀ t ∈ l, FitB t) ∧ ∀ t ∈ l, ∀ e ∈ t.effs, e.key.length ≤ 300 ∧ e.field.length ≤ 300 := by
 unfold shortTx at h
 rw [Bool.and_eq_true, decide_eq_true_iff] at h
 have key : ∀ t ∈ l, t.deps.length ≤ 60 ∧ t.effs.length ≤ 20 ∧ ∀ e ∈ t.effs, shortE1 e = true := fun t ht => by
  have h1 := List.all_eq_true.1 h.2 t ht
  unfold shortTx1 at h1
  rw [Bool.and_eq_true, decide_eq_true_iff] at h1
  exact ⟨h1.1, shortE_iff.1 h1.2⟩
 refine ⟨h.1, fun t ht => ?_, fun t ht e he => ?_⟩
 ·obtain ⟨h1, h2, h3⟩ := key t ht
  refine ⟨⟨by omega, by omega, fun e he => ?_, hok t ht⟩, h2, fun e he => ?_⟩
  ·have := (shortE1_iff.1 (h3 e he)).2.2.2; omega
  ·have := (shortE1_iff.1 (h3 e he)).2.2.2; omega
 ·obtain ⟨h1, h2, h3⟩ := key t ht
  have := shortE1_iff.1 (h3 e he)
  exact ⟨this.1, this.2.1⟩
structure StFit (s : PStore) (N : Nat) : Prop where
 heard : s.heard.length ≤ 60
 items : s.items.length ≤ N
 dots : ∀ x ∈ s.items, dotOk x.dot
theorem stfit_of {s : PStore} (h : stShort s = true) (hok : storeOk s) : StFit s 60 ∧ ∀ x ∈ s.items, x.key.length ≤ 300 ∧ x.field.length ≤ 300 := by
 unfold stShort at h
 rw [Bool.and_eq_true, decide_eq_true_iff] at h
 obtain ⟨h1, h2⟩ := shortI_iff.1 h.2
 exact ⟨⟨h.1, h1, fun x hx => (hok.2 x hx).2.2.1⟩, fun x hx => by
  have := short1_iff.1 (h2 x hx)
  exact ⟨this.1, this.2.1⟩⟩
theorem stfit_all {s : PStore} {l : List PTxn} {N M : Nat} (h : StFit s N) (hl : l.length ≤ 24) (hf : ∀ t ∈ l, FitB t) (hM : N + 192 ≤ M) : StFit (sAll s l) M := by
 refine ⟨?_, ?_, fun x hx => ?_⟩
 ·rw [sAll_heard]
  have h1 := oEnd_len (sTake s.heard l) s.heard
  have := h.heard
  omega
 ·have h1 := sAll_len s l
  have := h.items
  omega
 ·rcases sAll_mem hx with k | ⟨t, ht, e, he, rfl⟩
  ·exact h.dots x k
  ·exact ((hf t ht).ok e he).1
theorem stfit_under {s : PStore} {N : Nat} (h : StFit s N) (z : List Txt) : StFit ⟨s.heard, iunder s.items z⟩ N :=
 ⟨h.heard, Nat.le_trans (iunder_len _ _) h.items, fun x hx => h.dots x (mem_iunder.1 hx).1⟩
theorem stAllS {v lv : Value} {s : PStore} {l : List PTxn} {w : World} (hs : IsStore w v s) (hlv : SeqE LTxn w lv l) (hf : StFit s 1000) (hl : l.length ≤ 24) (hb : ∀ t ∈ l, FitB t) : Calls Tryz.prog 19 #[v, lv] w (GivesStT w (sAll s l) (sTake s.heard l)) :=
 stAllP_any hs hlv (by have := hf.heard; omega) (by have := hf.items; omega) hf.dots (by omega) hb
theorem stSoundS {v : Value} {s : PStore} {w : World} (hs : IsStore w v s) (hf : StFit s 1000) (r : Bool) (hr : soundB s = r) : Calls Tryz.prog 17 #[v] w (GivesB w r) :=
 stSound_any hs (by have := hf.heard; omega) (by have := hf.items; omega) hf.dots r hr
theorem stUnderS {v zv : Value} {s : PStore} {zs : List Txt} {w : World} (hs : IsStore w v s) (hz : SeqT w zv zs) (hf : StFit s 1000) (hzl : zs.length ≤ 60) : Calls Tryz.prog 21 #[v, zv] w (GivesSt w ⟨s.heard, iunder s.items zs⟩) :=
 stUnder_any hs hz (by have := hf.heard; omega) (by have := hf.items; omega) (by omega)
theorem rshortS {u : Value} {xs : List Txt} {w : World} (hu : SeqT w u xs) (r : Bool) (hr : shortB xs = r) : Calls Tryz.prog 11 #[u] w (GivesB w r) := by
 rw [← hr]
 exact (rshort_any hu).mono fun _ _ ⟨h, hw⟩ => ⟨h, below_of_same hw⟩
theorem one_txnM {W : World} {P : Nat → Prop} {t : PTxn} {zs : List Txt} {dv ev ov : Value} (hd : Sq LInt P W dv t.deps) (he : Sq LEff P W ev (eonly t.effs zs)) (hP : ∀ b, P b → b < W.heap.size ∧ ov.ownBlock ≠ some b) (hov : ∀ k, ov.ownBlock = some k → k < W.heap.size) :
  Sq LTxn (fun b => b < (W.alloc (.cells #[.int .i64 t.node, .int .i64 t.seq, dv, ev] 30)).heap.size ∧ ov.ownBlock ≠ some b) (W.alloc (.cells #[.int .i64 t.node, .int .i64 t.seq, dv, ev] 30)) (.slice (some ⟨W.heap.size, 0, none⟩) 1 1) [tonly t zs] := by
 have hS : (W.alloc (.cells #[.int .i64 t.node, .int .i64 t.seq, dv, ev] 30)).heap.size = W.heap.size + 1 := by simp
 rw [hS]
 have hB : Below W.heap.size W (W.alloc (.cells #[.int .i64 t.node, .int .i64 t.seq, dv, ev] 30)) := (Below.refl _ _).alloc (Nat.le_refl _) _
 have hw : ∀ b, P b → b < W.heap.size + 1 ∧ ov.ownBlock ≠ some b := fun b hb => ⟨Nat.lt_succ_of_lt (hP b hb).1, (hP b hb).2⟩
 refine ⟨_, 1, cellsTx (tonly t zs) dv ev, rfl, Nat.le_refl _, by unfold maxLen; simp, (by simp), Rows.of_one ⟨_, _, rfl, (hd.agree fun b hb => hB.block b (hP b hb).1).mono hw, (he.agree fun b hb => hB.block b (hP b hb).1).mono hw⟩, fun _ => ⟨_, 0, rfl, ⟨by omega, fun e => by have := hov _ e; omega⟩, fun i u' hu => ?_⟩⟩
 rw [Nat.zero_add]
 have := World.cell?_alloc_new W #[.int .i64 t.node, .int .i64 t.seq, dv, ev] 30 i
 rw [this, ← Array.getElem?_toList]
 exact hu
theorem sPart_no {l : List PTxn} {k : Nat} (z : List Txt) (hk : k < l.length) (h : tformedB (otx l k) = false) : sPart (l.take (k + 1)) z = sPart (l.take k) z := by
 unfold sPart
 rw [sForm_no hk h]
theorem sPart_yes {l : List PTxn} {k : Nat} (z : List Txt) (hk : k < l.length) (h : tformedB (otx l k) = true) : sPart (l.take (k + 1)) z = sPart (l.take k) z ++ [tonly (otx l k) z] := by
 unfold sPart
 rw [sForm_yes hk h, List.map_append]
 rfl
theorem sPart_len (l : List PTxn) (z : List Txt) : (sPart l z).length ≤ l.length := by
 unfold sPart
 rw [List.length_map]
 exact sForm_len l
theorem fitB_only {t : PTxn} (h : FitB t) (z : List Txt) : FitB (tonly t z) := by
 have hl : (eonly t.effs z).length ≤ t.effs.length := List.length_filter_le _ _
 exact ⟨fitTx_only h.tx z, by have := h.effs; show (eonly t.effs z).length ≤ 20; omega, fun e he => h.drops e (mem_eonly.1 he).1⟩
theorem sPart_fit {l : List PTxn} {z : List Txt} (h : ∀ t ∈ l, FitB t) : ∀ t ∈ sPart l z, FitB t := fun t ht => by
 obtain ⟨u, hu, rfl⟩ := List.mem_map.1 ht
 exact fitB_only (h u (sForm_mem.1 hu).1) z
theorem sAll_underE {s : PStore} {l : List PTxn} (z : List Txt) (hs : SSound s) (hown : SOwn s.items l) : (⟨(sAll s l).heard, iunder (sAll s l).items z⟩ : PStore) = sAll ⟨s.heard, iunder s.items z⟩ (sPart l z) :=
 pstore_ext (sAll_under z hs hown).1 (sAll_under z hs hown).2
end Go.Proofs.YtpnpomocjkmncaaGreat
