/- Chain: the program's and the document's own. (Written by gen-chn.py.) SameAll, Twice: the document's own. (Written by gen-ref14.py.) -/
import Derived.Test.YtfapkepfngddlaaGreatOrNxs
import Derived.Test.YtfapkepfngddlaaGreatVWords
import Derived.RegionTactic
import Derived.ChangeAlike
import Derived.BigRegion
import Derived.Lib.OwnKind
import Derived.Deep.QuietTactic
import Derived.BigQuiet
import Derived.Deep.RegionHeld3
import Derived.Deep.Cut
import Derived.Deep.RegionLaw
import Derived.Test.YtfapkepfngddlaaGreatISets
import Derived.Test.YtfapkepfngddlaaGreatEForms
import Derived.Test.YtfapkepfngddlaaGreatINorms
import Derived.Test.YtfapkepfngddlaaGreatRefE
import Derived.Test.YtfapkepfngddlaaGreatElGs
import Derived.Test.YtfapkepfngddlaaGreatIKeyF
import Derived.Test.YtfapkepfngddlaaGreatEMades
import Derived.Test.YtfapkepfngddlaaGreatZIs
import Derived.Test.YtfapkepfngddlaaGreatStItems
import Derived.Test.YtfapkepfngddlaaGreatTxIns
import Derived.Test.YtfapkepfngddlaaGreatTxRds
import Derived.Test.YtfapkepfngddlaaGreatTxFrm
import Derived.Test.YtfapkepfngddlaaGreatEHeard
import Derived.Test.YtfapkepfngddlaaGreatVcAll
import Derived.Deep.DeepCutAuto
import Derived.Carry
namespace Go.Proofs.YtfapkepfngddlaaGreat
open Go.RowKit Plain
set_option linter.unusedVariables false

theorem txns_at {w : World} {la : Option Addr} {n lc : Nat} {l : List PTxn} (h : SeqE LTxn w (.slice la n lc) l) (hp : 0 < n) : ∃ lb lo, la = some ⟨lb, lo, none⟩ ∧ ∀ k, k < n → ∃ da dn dc ea en ec, ∀ W, Below w.heap.size w W →
  (W.cell? ⟨lb, lo + k * 4, none⟩ = some (.int .i64 (otx l k).node) ∧ W.cell? ⟨lb, lo + k * 4 + 1, none⟩ = some (.int .i64 (otx l k).seq) ∧ W.cell? ⟨lb, lo + k * 4 + 2, none⟩ = some (.slice da dn dc) ∧ W.cell? ⟨lb, lo + k * 4 + 3, none⟩ = some (.slice ea en ec)) ∧
   IsTxn W (.agg #[.int .i64 (otx l k).node, .int .i64 (otx l k).seq, .slice da dn dc, .slice ea en ec]) (otx l k) := by
 have hd := h.dims.1
 obtain ⟨lb, lo, lc', hsl, -, -, hc⟩ := txns_spotB (B := w.heap.size) h (Nat.le_refl _) (by omega)
 simp only [Value.slice.injEq] at hsl
 obtain ⟨rfl, -, -⟩ := hsl
 refine ⟨lb, lo, rfl, fun k hk => ?_⟩
 obtain ⟨da, dn, dc, ea, en, ec, TA, IT⟩ := hc k (by omega)
 refine ⟨da, dn, dc, ea, en, ec, fun W hb => ⟨?_, IT.below hb⟩⟩
 have T := TA.below hb TA.lt
 exact ⟨T.c0, T.c1, T.c2, T.c3⟩
theorem otx_fit {l : List PTxn} (hf : ∀ t ∈ l, FitW t) {k : Nat} (hk : k < l.length) : FitW (otx l k) := hf _ (by rw [otx_lt hk]; exact List.getElem_mem hk)
theorem chain_go {v u : Ints} {l : List PTxn} {k : Nat} (hk : k < l.length) (h : oChain v (l.take k) = true) (hu : u = oEnd v (l.take k)) (hr : oReady u (otx l k) = true) : oChain v (l.take (k + 1)) = true ∧ oNext u (otx l k) = oEnd v (l.take (k + 1)) := by
 subst hu
 rw [otx_lt hk] at hr ⊢
 have := oChain_next hk h hr
 exact ⟨this.1, this.2.symm⟩
theorem chain_no {v u : Ints} {l : List PTxn} {k : Nat} (hk : k < l.length) (h : oChain v (l.take k) = true) (hu : u = oEnd v (l.take k)) (hr : ¬ oReady u (otx l k) = true) : oChain v l = false := by
 subst hu
 rw [otx_lt hk] at hr
 exact oChain_break hk h hr

set_option maxRecDepth 100000 in
set_option maxHeartbeats 16000000 in
theorem chainP_any {vv lv : Value} {v : Ints} {l : List PTxn} {w : World} (hv : SeqI w vv v) (hlv : SeqE LTxn w lv l) (hl : l.length ≤ 1000000) (hf : ∀ t ∈ l, FitW t) (hvl : v.length ≤ 1000000) :
  Calls Tryz.prog 80 #[vv, lv] w (GivesB w (oChain v l)) := by
 obtain ⟨la, lc, rfl, L1, L2, -, -⟩ := hlv.parts
 have HL := Lib.hid hlv
 have HF := Lib.hid hf
 have HV := Lib.hid hv
 obtain ⟨n, hn⟩ : ∃ n, n = l.length := ⟨_, rfl⟩
 have HNN := Lib.hid hn
 rw [← hn] at HL L1 ⊢
 obtain ⟨va, vc, rfl, -, -, -, -⟩ := hv.parts
 clear hv hlv hf hn
 go_enter Tryz.func80, Tryz.ntmps80
 go_wp2_with fail
 go_loopw [0, 9] (fun s0 i wr => ∃ (k : Nat) (u : Ints), k ≤ n ∧ i = .int .i64 k ∧ SeqI wr s0 u ∧ Aside (oChain v (l.take k) = true ∧ u = oEnd v (l.take k) ∧ u.length ≤ 1000000 ∧ Below w.heap.size w wr)) (fun _ i _ => n - (intOf i).toNat)
 case atStart => exact ⟨0, v, Nat.zero_le _, rfl, HV.out, rfl, rfl, hvl, Below.refl _ _⟩
 case round =>
  obtain ⟨k, u, hk, rfl, hs, hrel⟩ := hrel
  obtain ⟨h1, h2, h3, h4⟩ := Aside.out hrel
  have C1 := Lib.hid h1
  have C2 := Lib.hid h2
  have C3 := Lib.hid h3
  have GB := Lib.hid h4
  have SU := Lib.hid hs
  obtain ⟨ua, uc, rfl, -, -, -, -⟩ := hs.parts
  clear hrel h1 h2 h3 h4 hs
  by_cases hlt : k < n
  ·have hkl : k < l.length := by rw [← HNN.out]; exact hlt
   obtain ⟨lb, lo, rfl, hc⟩ := txns_at HL.out (by omega)
   obtain ⟨da, dn, dc, ea, en, ec, hW⟩ := hc k hlt
   have hft := otx_fit HF.out hkl
   have GO := Lib.hid (chain_go hkl C1.out C2.out)
   have NO := Lib.hid (chain_no hkl C1.out C2.out)
   have NL : Hid ((oNext u (otx l k)).length ≤ 1000000) := Lib.hid (by have := oNext_len u (otx l k); have := C3.out; omega)
   have KR := Lib.hid (fun W (hb : Below wr.heap.size wr W) => oreadyP_any (SU.out.below hb) (hW W (GB.out.trans (hb.mono GB.out.size))).2 C3.out hft.deps hft.small)
   have KN := Lib.hid (fun W (hb : Below wr.heap.size wr W) => onextP_any (SU.out.below hb) (hW W (GB.out.trans (hb.mono GB.out.size))).2 C3.out)
   have HC := Lib.hid (fun W (hb : Below w.heap.size w W) => (hW W hb).1)
   obtain ⟨c0, c1, c2, c3⟩ := HC.out wr GB.out
   have k1 : (k : Int) < n := by omega
   have k2 : (n : Int) ≤ lc := by omega
   have k3 : (lc : Int) ≤ 9223372036854775807 := by omega
   clear hc hW hft hkl
   generalize otx l k = t at *
   obtain ⟨r, hr⟩ : ∃ r, r = oReady u t := ⟨_, rfl⟩
   rw [← hr] at KR GO NO
   clear hr
   have hbe := (Below.refl wr.heap.size wr).alloc (Nat.le_refl _) (.cells #[.int .i64 t.node, .int .i64 t.seq, .slice da dn dc, .slice ea en ec] 51)
   have BE := Lib.hid hbe
   have BX := Lib.hid (heap_alloc_new wr (.cells #[.int .i64 t.node, .int .i64 t.seq, .slice da dn dc, .slice ea en ec] 51))
   clear hbe
   go_upto_region 4 with fail
   clear c0 c1 c2 c3
   generalize (wr.alloc (.cells #[.int .i64 t.node, .int .i64 t.seq, .slice da dn dc, .slice ea en ec] 51)) = wd at *
   have d0 : wd.cell? ⟨wr.heap.size, 0, none⟩ = some (.int .i64 t.node) := cell_of_row _ _ 0 _ _ _ BX.out
   have d1 : wd.cell? ⟨wr.heap.size, 1, none⟩ = some (.int .i64 t.seq) := cell_of_row _ _ 1 _ _ _ BX.out
   have d2 : wd.cell? ⟨wr.heap.size, 2, none⟩ = some (.slice da dn dc) := cell_of_row _ _ 2 _ _ _ BX.out
   have d3 : wd.cell? ⟨wr.heap.size, 3, none⟩ = some (.slice ea en ec) := cell_of_row _ _ 3 _ _ _ BX.out
   have KR2 := Lib.hid (KR.out wd BE.out)
   cases r
   ·have HA := Lib.hid (NO.out (by simp))
    go_wp2_with (go_at_call 133; refine KR2.out.mono ?_; rintro e w2 ⟨rfl, hb2⟩; have H2 := Lib.hid hb2; clear hb2)
    go_ret
    exact ⟨by rw [HA.out]; rfl, GB.out.trans ((BE.out.trans (H2.out.mono BE.out.size)).mono GB.out.size)⟩
   ·have GG := Lib.hid (GO.out rfl)
    go_wp2_with (first
     | (go_at_call 133; refine KR2.out.mono ?_; rintro e w2 ⟨rfl, hb2⟩; have H2 := Lib.hid (BE.out.trans (hb2.mono BE.out.size)); have BX2 := Lib.hid ((hb2.block _ (Array.getElem?_eq_some_iff.1 BX.out).1).trans BX.out); have q0 : w2.cell? ⟨wr.heap.size, 0, none⟩ = some (.int .i64 t.node) := cell_of_row _ _ 0 _ _ _ BX2.out; have q1 : w2.cell? ⟨wr.heap.size, 1, none⟩ = some (.int .i64 t.seq) := cell_of_row _ _ 1 _ _ _ BX2.out; have q2 : w2.cell? ⟨wr.heap.size, 2, none⟩ = some (.slice da dn dc) := cell_of_row _ _ 2 _ _ _ BX2.out; have q3 : w2.cell? ⟨wr.heap.size, 3, none⟩ = some (.slice ea en ec) := cell_of_row _ _ 3 _ _ _ BX2.out; have KN2 := Lib.hid (KN.out w2 H2.out); clear hb2 KR2 d0 d1 d2 d3)
     | (go_at_call 79; refine KN2.out.mono ?_; rintro e w3 ⟨v3, rfl, ho3, hb3⟩; have S3 := Lib.hid ho3.seq; have H3 := Lib.hid (H2.out.trans (hb3.mono H2.out.size)); clear ho3 hb3 KN2))
    go_roundw
    case rel => exact ⟨k + 1, _, by omega, by go_num, S3.out, GG.out.1, GG.out.2, NL.out, GB.out.trans (H3.out.mono GB.out.size)⟩
    case measure => simp [intOf]; omega
  ·obtain rfl : k = n := by omega
   have HA : Hid (oChain v l = true) := Lib.hid (by have := C1.out; rw [HNN.out, List.take_length] at this; exact this)
   go_wp2_with fail
   go_ret
   exact ⟨by rw [HA.out]; rfl, GB.out⟩

end Go.Proofs.YtfapkepfngddlaaGreat
namespace Go.Proofs.YtfapkepfngddlaaGreat
open Go.RowKit Plain
set_option linter.unusedVariables false

theorem same_all {xs ys : List PTxn} (h : xs.length = ys.length) (e : ∀ j, j < xs.length → otx xs j = otx ys j) : xs = ys := by
 apply List.ext_getElem h
 intro i h1 h2
 have := e i h1
 rw [otx_lt h1, otx_lt h2] at this
 exact this
set_option maxRecDepth 100000 in
set_option maxHeartbeats 16000000 in
theorem sameAll_any {uv vv : Value} {xs ys : List PTxn} {w : World} (hu : SeqE LTxn w uv xs) (hv : SeqE LTxn w vv ys) (hl : xs.length ≤ 1000000) :
  Calls Tryz.prog 52 #[uv, vv] w (GivesB w (decide (xs = ys))) := by
 obtain ⟨la, lc, rfl, L1, L2, -, -⟩ := hu.parts
 obtain ⟨ma, mc, rfl, M1, M2, -, -⟩ := hv.parts
 have HU := Lib.hid hu
 have HV := Lib.hid hv
 by_cases hne : xs.length = ys.length
 ·obtain ⟨n, hn⟩ : ∃ n, n = xs.length := ⟨_, rfl⟩
  rw [← hne] at HV M1 ⊢
  rw [← hn] at HU HV L1 M1 ⊢
  have HNE := Lib.hid hne
  have HNN := Lib.hid hn
  clear hu hv hn hne
  go_enter Tryz.func52, Tryz.ntmps52
  go_wp2_with fail
  go_loopw [5] (fun i wr => ∃ k : Nat, k ≤ n ∧ i = .int .i64 k ∧ Aside ((∀ j, j < k → otx xs j = otx ys j) ∧ Below w.heap.size w wr)) (fun i _ => n - (intOf i).toNat)
  case atStart => exact ⟨0, Nat.zero_le _, rfl, fun j hj => absurd hj (Nat.not_lt_zero _), Below.refl _ _⟩
  case round =>
   obtain ⟨k, hk, rfl, hrel⟩ := hrel
   obtain ⟨h1, h2⟩ := Aside.out hrel
   have A1 := Lib.hid h1
   have GB := Lib.hid h2
   clear hrel h1 h2
   by_cases hlt : k < n
   ·obtain ⟨lb, lo, rfl, hc⟩ := txns_at HU.out (by omega)
    obtain ⟨mb, mo, rfl, hc2⟩ := txns_at HV.out (by omega)
    obtain ⟨da, dn, dc, ea, en, ec, hW⟩ := hc k hlt
    obtain ⟨da2, dn2, dc2, ea2, en2, ec2, hW2⟩ := hc2 k hlt
    have AN : Hid (otx xs k = otx ys k → ∀ j, j < k + 1 → otx xs j = otx ys j) := Lib.hid (fun e j hj => by
     by_cases c : j = k
     ·rw [c]; exact e
     ·exact A1.out j (by omega))
    have AF : Hid (¬ otx xs k = otx ys k → decide (xs = ys) = false) := Lib.hid (fun e => decide_eq_false fun h => e (by rw [h]))
    have KE : Hid (∀ u, Below wr.heap.size wr u → Below wr.heap.size wr u ∧ (u.cell? ⟨lb, lo + k * 4, none⟩ = some (.int .i64 (otx xs k).node) ∧ u.cell? ⟨lb, lo + k * 4 + 1, none⟩ = some (.int .i64 (otx xs k).seq) ∧ u.cell? ⟨lb, lo + k * 4 + 2, none⟩ = some (.slice da dn dc) ∧ u.cell? ⟨lb, lo + k * 4 + 3, none⟩ = some (.slice ea en ec)) ∧ u.cell? ⟨mb, mo + k * 4, none⟩ = some (.int .i64 (otx ys k).node) ∧ u.cell? ⟨mb, mo + k * 4 + 1, none⟩ = some (.int .i64 (otx ys k).seq) ∧ u.cell? ⟨mb, mo + k * 4 + 2, none⟩ = some (.slice da2 dn2 dc2) ∧ u.cell? ⟨mb, mo + k * 4 + 3, none⟩ = some (.slice ea2 en2 ec2)) := Lib.hid (fun u hb => ⟨hb, (hW u (GB.out.trans (hb.mono GB.out.size))).1, (hW2 u (GB.out.trans (hb.mono GB.out.size))).1⟩)
    have KS := Lib.hid (fun u (hb : Below wr.heap.size wr u) => rsameTx (hW u (GB.out.trans (hb.mono GB.out.size))).2 (hW2 u (GB.out.trans (hb.mono GB.out.size))).2 _ rfl)
    have k1 : (k : Int) < n := by omega
    have k2 : (n : Int) ≤ lc := by omega
    have k3 : (lc : Int) ≤ 9223372036854775807 := by omega
    have k4 : (n : Int) ≤ mc := by omega
    have k5 : (mc : Int) ≤ 9223372036854775807 := by omega
    clear hc hc2 hW hW2
    generalize otx xs k = x at *
    generalize otx ys k = y at *
    go_upto_region 6 with fail
    obtain ⟨r, hr⟩ : ∃ r, r = decide (x = y) := ⟨_, rfl⟩
    rw [← hr] at KS
    have HR := Lib.hid hr
    clear hr
    refine wp_region_held_drew (S := fun u' => Below wr.heap.size wr u' ∧ (u'.cell? ⟨lb, lo + k * 4, none⟩ = some (.int .i64 x.node) ∧ u'.cell? ⟨lb, lo + k * 4 + 1, none⟩ = some (.int .i64 x.seq) ∧ u'.cell? ⟨lb, lo + k * 4 + 2, none⟩ = some (.slice da dn dc) ∧ u'.cell? ⟨lb, lo + k * 4 + 3, none⟩ = some (.slice ea en ec)) ∧ u'.cell? ⟨mb, mo + k * 4, none⟩ = some (.int .i64 y.node) ∧ u'.cell? ⟨mb, mo + k * 4 + 1, none⟩ = some (.int .i64 y.seq) ∧ u'.cell? ⟨mb, mo + k * 4 + 2, none⟩ = some (.slice da2 dn2 dc2) ∧ u'.cell? ⟨mb, mo + k * 4 + 3, none⟩ = some (.slice ea2 en2 ec2)) (by kernel_rfl) ?_ (fun hHeld => ?_)
    ·(exact KE.out _ (Below.refl _ _).drew)
    simp only [List.size_toArray, List.length_cons, List.length_nil, Nat.zero_add, Nat.reduceAdd]
    refine tkB (i := 0) hHeld ?_
    refine tkB (i := 1) hHeld ?_
    refine tkB (i := 2) hHeld ?_
    refine tkB (i := 3) hHeld ?_
    refine tkB (i := 4) hHeld ?_
    refine tkB (i := 5) hHeld ?_
    refine tkB (i := 6) hHeld ?_
    refine tkB (i := 7) hHeld ?_
    refine wpAnyH_ready (rs := [8]) (by kernel_rfl) (by simp) ?_
    refine AllReadyH.cons rfl (fun K hK => ?_) AllReadyH.nil
    go_simp
    refine (KS.out _ hHeld.1).mono ?_
    rintro e s1 ⟨rfl, hb⟩
    refine hK.out _ _ (KE.out _ (holdC hHeld hb)) (fun hHeld => ?_)
    clear hK K hb
    refine tkB (i := 9) hHeld ?_
    refine wpAnyH_done (by kernel_rfl) ?_ _
    have GZ : Hid (Below w.heap.size w _) := Lib.hid (GB.out.trans (hHeld.1.mono GB.out.size))
    clear hHeld
    cases r
    ·have HF := Lib.hid (AF.out fun e => by have := HR.out; rw [decide_eq_true e] at this; cases this)
     go_wp2_with fail
     go_ret
     exact ⟨by rw [HF.out]; rfl, GZ.out⟩
    ·have HA := Lib.hid (AN.out (of_decide_eq_true HR.out.symm))
     go_wp2_with fail
     go_roundw
     case rel => exact ⟨k + 1, by omega, by go_num, HA.out, GZ.out⟩
     case measure => simp [intOf]; omega
   ·obtain rfl : k = n := by omega
    have HA : Hid (decide (xs = ys) = true) := Lib.hid (decide_eq_true (same_all HNE.out fun j hj => A1.out j (by rw [HNN.out]; exact hj)))
    go_wp2_with fail
    go_ret
    exact ⟨by rw [HA.out]; rfl, GB.out⟩
 ·have HF : Hid (decide (xs = ys) = false) := Lib.hid (decide_eq_false fun e => hne (by rw [e]))
  have bne : ((xs.length : Int) != (ys.length : Int)) = true := by simp; omega
  clear hu hv
  go_enter Tryz.func52, Tryz.ntmps52
  go_wp2_with fail
  go_ret
  exact ⟨by rw [HF.out]; rfl, Below.refl _ _⟩

end Go.Proofs.YtfapkepfngddlaaGreat
