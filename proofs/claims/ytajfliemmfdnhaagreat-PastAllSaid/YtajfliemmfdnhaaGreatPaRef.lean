/- What the document's own heard, Same and Short of a past leave. (Written by gen-ref16.py.) -/
import Derived.Test.YtajfliemmfdnhaaGreatPast
import Derived.Test.YtajfliemmfdnhaaGreatVcAll
import Derived.Test.YtajfliemmfdnhaaGreatOrChns
import Derived.Test.YtajfliemmfdnhaaGreatTxIns
import Derived.Test.YtajfliemmfdnhaaGreatPaPru
import Derived.Deep.Cut
import Derived.Deep.DeepCutAuto
import Derived.BigQuiet
namespace Go.Proofs.YtajfliemmfdnhaaGreat
open Go.RowKit Plain
set_option linter.unusedVariables false


set_option maxRecDepth 100000 in
set_option maxHeartbeats 4000000 in
theorem rheardT_any {vv tv : Value} {v : Ints} {t : PTxn} {w : World} (hs : SeqI w vv v) (ht : IsTxn w tv t) : Calls Tryz.prog 33 #[vv, tv] w (GivesB w (pHeard v t)) := by
 obtain ⟨da, dn, dc, ea, en, ec, rfl, k1, k2⟩ := ht.parts
 have HB := Lib.hid ((Below.refl w.heap.size w).alloc (Nat.le_refl _) (.cells #[.int .i64 t.node, .int .i64 t.seq, .slice da dn dc, .slice ea en ec] 29))
 have TB := Lib.hid (txbox_new (w := w) (t := t) k1 k2)
 have KA : Hid (∀ m, Calls Tryz.prog 58 #[vv, .int .i64 t.node] ((w.alloc (.cells #[.int .i64 t.node, .int .i64 t.seq, .slice da dn dc, .slice ea en ec] 29)).drewN m) fun e w' => e = .returned (.int .i64 (saysI v t.node)) ∧ (w.alloc (.cells #[.int .i64 t.node, .int .i64 t.seq, .slice da dn dc, .slice ea en ec] 29)).drewN m = w') := Lib.hid fun m => vc_rat_any ((hs.below HB.out).drawn m) t.node
 have HP : Hid (pHeard v t = (decide (1 ≤ t.seq) && decide (t.seq ≤ saysI v t.node))) := Lib.hid rfl
 rw [HP.out]
 clear hs ht k1 k2 HP
 generalize saysI v t.node = x at *
 obtain ⟨c0, c1, c2, c3⟩ := TB.out.c
 by_cases h1 : 1 ≤ t.seq
 ·rw [decide_eq_true h1]
  by_cases h2 : t.seq ≤ x
  ·rw [decide_eq_true h2]
   have d1 : decide (1 ≤ t.seq) = true := decide_eq_true h1
   have d2 : decide (t.seq ≤ x) = true := decide_eq_true h2
   go_enter Tryz.func33, Tryz.ntmps33
   go_wp2_with fail
   go_quiet ((go_at_call 58; exact quiet_left (KA.out _)))
   go_wp2_with fail
   go_ret
   exact ⟨rfl, below_drewN HB.out _⟩
  ·rw [decide_eq_false h2]
   have d1 : decide (1 ≤ t.seq) = true := decide_eq_true h1
   have d2 : decide (t.seq ≤ x) = false := decide_eq_false h2
   go_enter Tryz.func33, Tryz.ntmps33
   go_wp2_with fail
   go_quiet ((go_at_call 58; exact quiet_left (KA.out _)))
   go_wp2_with fail
   go_ret
   exact ⟨rfl, below_drewN HB.out _⟩
 ·rw [decide_eq_false h1]
  have d1 : decide (1 ≤ t.seq) = false := decide_eq_false h1
  go_enter Tryz.func33, Tryz.ntmps33
  go_wp2_with fail
  go_quiet (fail)
  go_wp2_with fail
  go_ret
  exact ⟨rfl, below_drewN HB.out _⟩
theorem sameAllR {uv vv : Value} {xs ys : List PTxn} {w : World} (hu : SeqE LTxn w uv xs) (hv : SeqE LTxn w vv ys) (hl : xs.length ≤ 1000000) (r : Bool) (hr : decide (xs = ys) = r) : Calls Tryz.prog 21 #[uv, vv] w (GivesB w r) := by
 rw [← hr]
 exact sameAll_any hu hv hl
instance : DecidableEq PPast := fun a b => decidable_of_iff (a.floor = b.floor ∧ a.list = b.list) ppast_dec.symm
theorem ppast_decB (a b : PPast) : decide (a = b) = (decide (a.floor = b.floor) && decide (a.list = b.list)) := by
 rw [Bool.eq_iff_iff, Bool.and_eq_true, decide_eq_true_iff, decide_eq_true_iff, decide_eq_true_iff]
 exact ppast_dec
set_option maxRecDepth 100000 in
set_option maxHeartbeats 4000000 in
theorem paSameR {u v : Value} {a b : PPast} {w : World} (hu : IsPast w u a) (hv : IsPast w v b) (hal : a.list.length ≤ 1000000) (r : Bool) (hr : decide (a = b) = r) : Calls Tryz.prog 11 #[u, v] w (GivesB w r) := by
 obtain ⟨ha, hn, hc, ia, im, ic, rfl, h1, h2⟩ := hu.slices
 obtain ⟨ka, kn, kc, ja, jm, jc, rfl, k1, k2⟩ := hv.slices
 rw [ppast_decB] at hr
 have b1 := (Below.refl w.heap.size w).alloc (Nat.le_refl _) (.cells #[.slice ha hn hc, .slice ia im ic] 26)
 have b2 := (Below.refl (w.alloc (.cells #[.slice ha hn hc, .slice ia im ic] 26)).heap.size (w.alloc (.cells #[.slice ha hn hc, .slice ia im ic] 26))).alloc (Nat.le_refl _) (.cells #[.slice ka kn kc, .slice ja jm jc] 26)
 have G0 := Lib.hid (b1.trans (b2.mono b1.size))
 have X := Lib.hid ((pabox_new (p := a) h1 h2).below b2)
 have Y : Hid (PaBox (w.heap.size + 1) b ka kn kc ja jm jc ((w.alloc (.cells #[.slice ha hn hc, .slice ia im ic] 26)).alloc (.cells #[.slice ka kn kc, .slice ja jm jc] 26))) := Lib.hid (by have := pabox_new (p := b) (w := w.alloc (.cells #[.slice ha hn hc, .slice ia im ic] 26)) (k1.below b1) (k2.below b1); rwa [show (w.alloc (.cells #[.slice ha hn hc, .slice ia im ic] 26)).heap.size = w.heap.size + 1 by simp] at this)
 clear hu hv h1 h2 k1 k2 b1 b2
 go_enter Tryz.func11, Tryz.ntmps11
 go_upto_region 1 with fail
 generalize ((w.alloc (.cells #[.slice ha hn hc, .slice ia im ic] 26)).alloc (.cells #[.slice ka kn kc, .slice ja jm jc] 26)) = wb at *
 obtain ⟨c0, c1⟩ := X.out.c
 obtain ⟨d0, d1⟩ := Y.out.c
 have KE := vc_requal_any (seqI_of X.out.f) (seqI_of Y.out.f)
 cases hq : decide (a.floor = b.floor) with
 | false =>
  rw [hq] at KE hr
  obtain rfl : r = false := by rw [← hr]; rfl
  go_wp2_with fail
  refine KE.mono ?_
  rintro e w2 ⟨rfl, q, rfl⟩
  have G2 := Lib.hid (below_drewN G0.out q)
  clear KE c0 c1 d0 d1
  go_wp2_with fail
  go_ret
  exact ⟨rfl, G2.out⟩
 | true =>
  rw [hq] at KE hr
  rw [Bool.true_and] at hr
  have KS := Lib.hid (fun u (hb : Below wb.heap.size wb u) => sameAllR (X.out.below hb).l (Y.out.below hb).l hal r hr)
  have HC := Lib.hid (fun u (hb : Below wb.heap.size wb u) => And.intro (X.out.below hb).c (Y.out.below hb).c)
  go_wp2_with fail
  refine KE.mono ?_
  rintro e w2 ⟨rfl, q, hw⟩
  have hb : Below wb.heap.size wb w2 := by rw [hw]; exact below_drewN (Below.refl _ _) q
  have G2 := Lib.hid (G0.out.trans (hb.mono G0.out.size))
  have K2 := KS.out w2 hb
  clear KE c0 c1 d0 d1 hw
  obtain ⟨⟨c0, c1⟩, d0, d1⟩ := HC.out w2 hb
  clear hb
  go_wp2_with fail
  refine K2.mono ?_
  rintro e w3 ⟨rfl, hb⟩
  have G3 := Lib.hid (G2.out.trans (hb.mono G2.out.size))
  clear hb K2 c0 c1 d0 d1
  go_wp2_with fail
  go_ret
  exact ⟨rfl, G3.out⟩
def paShort (s : PPast) : Bool := decide (s.floor.length ≤ 60) && shortTx s.list
set_option maxRecDepth 100000 in
set_option maxHeartbeats 4000000 in
theorem paShortR {u : Value} {s : PPast} {w : World} (hu : IsPast w u s) (r : Bool) (hr : paShort s = r) : Calls Tryz.prog 5 #[u] w (GivesB w r) := by
 obtain ⟨ha, hn, hc, ia, im, ic, rfl, h1, h2⟩ := hu.slices
 have G0 := Lib.hid ((Below.refl w.heap.size w).alloc (Nat.le_refl _) (.cells #[.slice ha hn hc, .slice ia im ic] 26))
 have X := Lib.hid (pabox_new (p := s) h1 h2)
 have HD := Lib.hid h1.dims.1
 unfold paShort at hr
 rw [h1.dims.1] at hr
 clear hu h1 h2
 go_enter Tryz.func5, Tryz.ntmps5
 go_upto_region 1 with fail
 generalize (w.alloc (.cells #[.slice ha hn hc, .slice ia im ic] 26)) = wb at *
 obtain ⟨c0, c1⟩ := X.out.c
 by_cases h60 : hn ≤ 60
 ·have i60 : (hn : Int) ≤ 60 := by omega
  rw [decide_eq_true h60, Bool.true_and] at hr
  subst hr
  have KS := rshortTx_any X.out.l _ rfl
  clear h60
  go_wp2_with fail
  refine KS.mono ?_
  rintro e w2 ⟨rfl, hb⟩
  have G2 := Lib.hid (G0.out.trans (hb.mono G0.out.size))
  clear KS hb
  go_wp2_with fail
  go_ret
  exact ⟨rfl, G2.out⟩
 ·have i60 : ¬ (hn : Int) ≤ 60 := by omega
  rw [decide_eq_false h60, Bool.false_and] at hr
  subst hr
  clear h60
  go_wp2_with fail
  go_ret
  exact ⟨rfl, G0.out⟩
end Go.Proofs.YtajfliemmfdnhaaGreat
