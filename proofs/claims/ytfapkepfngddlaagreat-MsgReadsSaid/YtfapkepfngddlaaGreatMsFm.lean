/- What is waiting, as it lies in memory: the list, what was heard, the heap, the map; what may change, and what stands beside it. The program's own wait. (Written by gen-wt.py.) The program's own next. (Written by gen-nx.py.) The program's own hear. (Written by gen-hr.py.) -/
import Derived.Test.YtfapkepfngddlaaGreatVWords
import Derived.RegionTactic
import Derived.ChangeAlike
import Derived.BigRegion
import Derived.Lib.OwnKind
import Derived.Deep.QuietTactic
import Derived.BigQuiet
import Derived.Deep.RegionHeld3
import Derived.Deep.Cut
import Derived.Deep.RegionLaw
import Derived.Shelf.Abstract
import Derived.Test.YtfapkepfngddlaaGreatISets
import Derived.WideKeyEntry
import Derived.Test.YtfapkepfngddlaaGreatOrCon
import Derived.Test.YtfapkepfngddlaaGreatOrWait
import Derived.Test.YtfapkepfngddlaaGreatRefTxOC
import Derived.Deep.DeepCutAuto
import Derived.Test.YtfapkepfngddlaaGreatEForms
import Derived.Test.YtfapkepfngddlaaGreatINorms
import Derived.Test.YtfapkepfngddlaaGreatEMades
import Derived.Deep.LoopGhost
import Derived.Test.YtfapkepfngddlaaGreatIKeyF
import Derived.Test.YtfapkepfngddlaaGreatStItems
import Derived.Carry
import Derived.Test.YtfapkepfngddlaaGreatTxIns
import Derived.Test.YtfapkepfngddlaaGreatMsPutR
set_option maxRecDepth 100000
set_option maxHeartbeats 64000000
namespace Go.Proofs.YtfapkepfngddlaaGreat
open Go.RowKit Plain
set_option linter.unusedVariables false
section
variable {F : Nat → Prop} {B : Nat} {w : World} {g : Nat} {l : List PTxn} {v : Ints} {H : List Nat} {Bh : Int → Int → List Nat} {lv hv rv : Value} {m : Nat} {V : PDot → Value} {hs : List Int}
end
structure FitW (t : PTxn) : Prop where
 deps : t.deps.length ≤ 1000000
 effs : t.effs.length ≤ 1000000
 drops : ∀ e ∈ t.effs, e.drops.length ≤ 1000000
 ok : txnOk t
theorem FitW.small {t : PTxn} (h : FitW t) : TSmall t := (i64_in h.ok.2.1).2
theorem txns_spotB {B : Nat} {w : World} {v : Value} {xs : List PTxn} (h : Sq LTxn (fun b => b < B) w v xs) (hB : B ≤ w.heap.size) (hp : 0 < xs.length) : ∃ b o cap, v = .slice (some ⟨b, o, none⟩) xs.length cap ∧ xs.length ≤ cap ∧ cap ≤ 9223372036854775807 ∧
  ∀ j, j < xs.length → ∃ da dn dc ea en ec, TxnAt w b (o + j * 4) (otx xs j) (.slice da dn dc) (.slice ea en ec) ∧ IsTxn w (.agg #[.int .i64 (otx xs j).node, .int .i64 (otx xs j).seq, .slice da dn dc, .slice ea en ec]) (otx xs j) := by
 have hs : SeqE LTxn w v xs := h.mono fun b hb => Nat.lt_of_lt_of_le hb hB
 obtain ⟨b, o, cap, e, h1, h2, -, hc⟩ := txns_spot hs hp;refine ⟨b, o, cap, e, h1, h2, fun j hj => ?_⟩;obtain ⟨dv, ev, ha, hd, he⟩ := hc j hj;obtain ⟨da, dc, rfl, -, -, -, hd'⟩ := hd.parts;obtain ⟨ea, ec, rfl, -, -, -, he'⟩ := he.parts;exact ⟨da, _, dc, ea, _, ec, ha, _, _, rfl, hd', he'⟩
theorem oNext_len (v : Ints) (t : PTxn) : (oNext v t).length ≤ max v.length 8 := by
 unfold oNext
 split
 ·rename_i h
  have h1 := (oValid_iff.1 h).1;unfold withN;have := laid_len (withF v t.node.toNat t.seq) (max v.length (t.node.toNat + 1));omega
 ·unfold trim
  have := laid_len (says v) v.length;omega
theorem txns_at {w : World} {la : Option Addr} {n lc : Nat} {l : List PTxn} (h : SeqE LTxn w (.slice la n lc) l) (hp : 0 < n) : ∃ lb lo, la = some ⟨lb, lo, none⟩ ∧ ∀ k, k < n → ∃ da dn dc ea en ec, ∀ W, Below w.heap.size w W →
  (W.cell? ⟨lb, lo + k * 4, none⟩ = some (.int .i64 (otx l k).node) ∧ W.cell? ⟨lb, lo + k * 4 + 1, none⟩ = some (.int .i64 (otx l k).seq) ∧ W.cell? ⟨lb, lo + k * 4 + 2, none⟩ = some (.slice da dn dc) ∧ W.cell? ⟨lb, lo + k * 4 + 3, none⟩ = some (.slice ea en ec)) ∧
   IsTxn W (.agg #[.int .i64 (otx l k).node, .int .i64 (otx l k).seq, .slice da dn dc, .slice ea en ec]) (otx l k) := by
 have hd := h.dims.1;obtain ⟨lb, lo, lc', hsl, -, -, hc⟩ := txns_spotB (B := w.heap.size) h (Nat.le_refl _) (by omega);simp only [Value.slice.injEq] at hsl
 obtain ⟨rfl, -, -⟩ := hsl;refine ⟨lb, lo, rfl, fun k hk => ?_⟩;obtain ⟨da, dn, dc, ea, en, ec, TA, IT⟩ := hc k (by omega);refine ⟨da, dn, dc, ea, en, ec, fun W hb => ⟨?_, IT.below hb⟩⟩;have T := TA.below hb TA.lt;exact ⟨T.c0, T.c1, T.c2, T.c3⟩
theorem otx_fit {l : List PTxn} (hf : ∀ t ∈ l, FitW t) {k : Nat} (hk : k < l.length) : FitW (otx l k) := hf _ (by rw [otx_lt hk]; exact List.getElem_mem hk)
theorem chain_go {v u : Ints} {l : List PTxn} {k : Nat} (hk : k < l.length) (h : oChain v (l.take k) = true) (hu : u = oEnd v (l.take k)) (hr : oReady u (otx l k) = true) : oChain v (l.take (k + 1)) = true ∧ oNext u (otx l k) = oEnd v (l.take (k + 1)) := by
 subst hu;rw [otx_lt hk] at hr ⊢;have := oChain_next hk h hr;exact ⟨this.1, this.2.symm⟩
theorem chain_no {v u : Ints} {l : List PTxn} {k : Nat} (hk : k < l.length) (h : oChain v (l.take k) = true) (hu : u = oEnd v (l.take k)) (hr : ¬ oReady u (otx l k) = true) : oChain v l = false := by
 subst hu;rw [otx_lt hk] at hr;exact oChain_break hk h hr
theorem chainP_any {vv lv : Value} {v : Ints} {l : List PTxn} {w : World} (hv : SeqI w vv v) (hlv : SeqE LTxn w lv l) (hl : l.length ≤ 1000000) (hf : ∀ t ∈ l, FitW t) (hvl : v.length ≤ 1000000) :
  Calls Tryz.prog 80 #[vv, lv] w (GivesB w (oChain v l)) := by
 obtain ⟨la, lc, rfl, L1, L2, -, -⟩ := hlv.parts;have HL := zH hlv;have HF := zH hf;have HV := zH hv;obtain ⟨n, hn⟩ : ∃ n, n = l.length := ⟨_, rfl⟩;have HNN := zH hn;rw [← hn] at HL L1 ⊢;obtain ⟨va, vc, rfl, -, -, -, -⟩ := hv.parts;clear hv hlv hf hn;go_enter Tryz.func80, Tryz.ntmps80
 go_wp2_with fail
 go_loopw [0, 9] (fun s0 i wr => ∃ (k : Nat) (u : Ints), k ≤ n ∧ i = .int .i64 k ∧ SeqI wr s0 u ∧ Aside (oChain v (l.take k) = true ∧ u = oEnd v (l.take k) ∧ u.length ≤ 1000000 ∧ Below w.heap.size w wr)) (fun _ i _ => n - (intOf i).toNat)
 case atStart => exact ⟨0, v, Nat.zero_le _, rfl, HV.out, rfl, rfl, hvl, Below.refl _ _⟩
 case round =>
  obtain ⟨k, u, hk, rfl, hs, hrel⟩ := hrel;obtain ⟨h1, h2, h3, h4⟩ := Aside.out hrel;have C1 := zH h1;have C2 := zH h2;have C3 := zH h3;have GB := zH h4;have SU := zH hs;obtain ⟨ua, uc, rfl, -, -, -, -⟩ := hs.parts;clear hrel h1 h2 h3 h4 hs
  by_cases hlt : k < n
  ·have hkl : k < l.length := by rw [← HNN.out]; exact hlt
   obtain ⟨lb, lo, rfl, hc⟩ := txns_at HL.out (by omega);obtain ⟨da, dn, dc, ea, en, ec, hW⟩ := hc k hlt;have hft := otx_fit HF.out hkl;have GO := zH (chain_go hkl C1.out C2.out);have NO := zH (chain_no hkl C1.out C2.out);have NL : Hid ((oNext u (otx l k)).length ≤ 1000000) := zH (by have := oNext_len u (otx l k); have := C3.out; omega);have KR := zH (fun W (hb : Below wr.heap.size wr W) => oreadyP_any (SU.out.below hb) (hW W (GB.out.trans (hb.mono GB.out.size))).2 C3.out hft.deps hft.small);have KN := zH (fun W (hb : Below wr.heap.size wr W) => onextP_any (SU.out.below hb) (hW W (GB.out.trans (hb.mono GB.out.size))).2 C3.out);have HC := zH (fun W (hb : Below w.heap.size w W) => (hW W hb).1);obtain ⟨c0, c1, c2, c3⟩ := HC.out wr GB.out;have k1 : (k : Int) < n := by omega
   have k2 : (n : Int) ≤ lc := by omega
   have k3 : (lc : Int) ≤ 9223372036854775807 := by omega
   clear hc hW hft hkl;generalize otx l k = t at *;obtain ⟨r, hr⟩ : ∃ r, r = oReady u t := ⟨_, rfl⟩;rw [← hr] at KR GO NO;clear hr;have hbe := zB wr (.cells #[.int .i64 t.node, .int .i64 t.seq, .slice da dn dc, .slice ea en ec] 51);have BE := zH hbe;have BX := zH (heap_alloc_new wr (.cells #[.int .i64 t.node, .int .i64 t.seq, .slice da dn dc, .slice ea en ec] 51));clear hbe;go_upto_region 4 with fail
   clear c0 c1 c2 c3;generalize (wr.alloc (.cells #[.int .i64 t.node, .int .i64 t.seq, .slice da dn dc, .slice ea en ec] 51)) = wd at *;have d0 : wd.cell? ⟨wr.heap.size, 0, none⟩ = some (.int .i64 t.node) := cell_of_row _ _ 0 _ _ _ BX.out;have d1 : wd.cell? ⟨wr.heap.size, 1, none⟩ = some (.int .i64 t.seq) := cell_of_row _ _ 1 _ _ _ BX.out;have d2 : wd.cell? ⟨wr.heap.size, 2, none⟩ = some (.slice da dn dc) := cell_of_row _ _ 2 _ _ _ BX.out;have d3 : wd.cell? ⟨wr.heap.size, 3, none⟩ = some (.slice ea en ec) := cell_of_row _ _ 3 _ _ _ BX.out;have KR2 := zH (KR.out wd BE.out)
   cases r
   ·have HA := zH (NO.out (by simp))
    go_wp2_with (go_at_call 133; refine KR2.out.mono ?_; rintro e w2 ⟨rfl, hb2⟩; have H2 := zH hb2; clear hb2)
    go_ret
    exact ⟨by rw [HA.out]; rfl, GB.out.trans ((BE.out.trans (H2.out.mono BE.out.size)).mono GB.out.size)⟩
   ·have GG := zH (GO.out rfl)
    go_wp2_with (first
     | (go_at_call 133; refine KR2.out.mono ?_; rintro e w2 ⟨rfl, hb2⟩; have H2 := zH (BE.out.trans (hb2.mono BE.out.size)); have BX2 := zH ((hb2.block _ (Array.getElem?_eq_some_iff.1 BX.out).1).trans BX.out); have q0 : w2.cell? ⟨wr.heap.size, 0, none⟩ = some (.int .i64 t.node) := cell_of_row _ _ 0 _ _ _ BX2.out; have q1 : w2.cell? ⟨wr.heap.size, 1, none⟩ = some (.int .i64 t.seq) := cell_of_row _ _ 1 _ _ _ BX2.out; have q2 : w2.cell? ⟨wr.heap.size, 2, none⟩ = some (.slice da dn dc) := cell_of_row _ _ 2 _ _ _ BX2.out; have q3 : w2.cell? ⟨wr.heap.size, 3, none⟩ = some (.slice ea en ec) := cell_of_row _ _ 3 _ _ _ BX2.out; have KN2 := zH (KN.out w2 H2.out); clear hb2 KR2 d0 d1 d2 d3)
     | (go_at_call 79; refine KN2.out.mono ?_; rintro e w3 ⟨v3, rfl, ho3, hb3⟩; have S3 := zH ho3.seq; have H3 := zH (H2.out.trans (hb3.mono H2.out.size)); clear ho3 hb3 KN2))
    go_roundw
    case rel => exact ⟨k + 1, _, by omega, by go_num, S3.out, GG.out.1, GG.out.2, NL.out, GB.out.trans (H3.out.mono GB.out.size)⟩
    case measure => simp [intOf]; omega
  ·obtain rfl : k = n := by omega
   have HA : Hid (oChain v l = true) := zH (by have := C1.out; rw [HNN.out, List.take_length] at this; exact this);go_wp2_with fail
   go_ret
   exact ⟨by rw [HA.out]; rfl, GB.out⟩
theorem same_all {xs ys : List PTxn} (h : xs.length = ys.length) (e : ∀ j, j < xs.length → otx xs j = otx ys j) : xs = ys := by
 apply List.ext_getElem h
 intro i h1 h2;have := e i h1;rw [otx_lt h1, otx_lt h2] at this;exact this
theorem sameAll_any {uv vv : Value} {xs ys : List PTxn} {w : World} (hu : SeqE LTxn w uv xs) (hv : SeqE LTxn w vv ys) (hl : xs.length ≤ 1000000) :
  Calls Tryz.prog 52 #[uv, vv] w (GivesB w (decide (xs = ys))) := by
 obtain ⟨la, lc, rfl, L1, L2, -, -⟩ := hu.parts;obtain ⟨ma, mc, rfl, M1, M2, -, -⟩ := hv.parts;have HU := zH hu;have HV := zH hv
 by_cases hne : xs.length = ys.length
 ·obtain ⟨n, hn⟩ : ∃ n, n = xs.length := ⟨_, rfl⟩
  rw [← hne] at HV M1 ⊢;rw [← hn] at HU HV L1 M1 ⊢;have HNE := zH hne;have HNN := zH hn;clear hu hv hn hne;go_enter Tryz.func52, Tryz.ntmps52
  go_wp2_with fail
  go_loopw [5] (fun i wr => ∃ k : Nat, k ≤ n ∧ i = .int .i64 k ∧ Aside ((∀ j, j < k → otx xs j = otx ys j) ∧ Below w.heap.size w wr)) (fun i _ => n - (intOf i).toNat)
  case atStart => exact ⟨0, Nat.zero_le _, rfl, fun j hj => absurd hj (Nat.not_lt_zero _), Below.refl _ _⟩
  case round =>
   obtain ⟨k, hk, rfl, hrel⟩ := hrel;obtain ⟨h1, h2⟩ := Aside.out hrel;have A1 := zH h1;have GB := zH h2;clear hrel h1 h2
   by_cases hlt : k < n
   ·obtain ⟨lb, lo, rfl, hc⟩ := txns_at HU.out (by omega)
    obtain ⟨mb, mo, rfl, hc2⟩ := txns_at HV.out (by omega);obtain ⟨da, dn, dc, ea, en, ec, hW⟩ := hc k hlt;obtain ⟨da2, dn2, dc2, ea2, en2, ec2, hW2⟩ := hc2 k hlt;have AN : Hid (otx xs k = otx ys k → ∀ j, j < k + 1 → otx xs j = otx ys j) := zH (fun e j hj => by
     by_cases c : j = k
     ·rw [c]; exact e
     ·exact A1.out j (by omega))
    have AF : Hid (¬ otx xs k = otx ys k → decide (xs = ys) = false) := zH (fun e => decide_eq_false fun h => e (by rw [h]));have KE : Hid (∀ u, Below wr.heap.size wr u → Below wr.heap.size wr u ∧ (u.cell? ⟨lb, lo + k * 4, none⟩ = some (.int .i64 (otx xs k).node) ∧ u.cell? ⟨lb, lo + k * 4 + 1, none⟩ = some (.int .i64 (otx xs k).seq) ∧ u.cell? ⟨lb, lo + k * 4 + 2, none⟩ = some (.slice da dn dc) ∧ u.cell? ⟨lb, lo + k * 4 + 3, none⟩ = some (.slice ea en ec)) ∧ u.cell? ⟨mb, mo + k * 4, none⟩ = some (.int .i64 (otx ys k).node) ∧ u.cell? ⟨mb, mo + k * 4 + 1, none⟩ = some (.int .i64 (otx ys k).seq) ∧ u.cell? ⟨mb, mo + k * 4 + 2, none⟩ = some (.slice da2 dn2 dc2) ∧ u.cell? ⟨mb, mo + k * 4 + 3, none⟩ = some (.slice ea2 en2 ec2)) := zH (fun u hb => ⟨hb, (hW u (GB.out.trans (hb.mono GB.out.size))).1, (hW2 u (GB.out.trans (hb.mono GB.out.size))).1⟩);have KS := zH (fun u (hb : Below wr.heap.size wr u) => rsameTx (hW u (GB.out.trans (hb.mono GB.out.size))).2 (hW2 u (GB.out.trans (hb.mono GB.out.size))).2 _ rfl);have k1 : (k : Int) < n := by omega
    have k2 : (n : Int) ≤ lc := by omega
    have k3 : (lc : Int) ≤ 9223372036854775807 := by omega
    have k4 : (n : Int) ≤ mc := by omega
    have k5 : (mc : Int) ≤ 9223372036854775807 := by omega
    clear hc hc2 hW hW2;generalize otx xs k = x at *;generalize otx ys k = y at *;go_upto_region 6 with fail
    obtain ⟨r, hr⟩ : ∃ r, r = decide (x = y) := ⟨_, rfl⟩;rw [← hr] at KS;have HR := zH hr;clear hr;refine wp_region_held_drew (S := fun u' => Below wr.heap.size wr u' ∧ (u'.cell? ⟨lb, lo + k * 4, none⟩ = some (.int .i64 x.node) ∧ u'.cell? ⟨lb, lo + k * 4 + 1, none⟩ = some (.int .i64 x.seq) ∧ u'.cell? ⟨lb, lo + k * 4 + 2, none⟩ = some (.slice da dn dc) ∧ u'.cell? ⟨lb, lo + k * 4 + 3, none⟩ = some (.slice ea en ec)) ∧ u'.cell? ⟨mb, mo + k * 4, none⟩ = some (.int .i64 y.node) ∧ u'.cell? ⟨mb, mo + k * 4 + 1, none⟩ = some (.int .i64 y.seq) ∧ u'.cell? ⟨mb, mo + k * 4 + 2, none⟩ = some (.slice da2 dn2 dc2) ∧ u'.cell? ⟨mb, mo + k * 4 + 3, none⟩ = some (.slice ea2 en2 ec2)) (by kernel_rfl) ?_ (fun hHeld => ?_)
    ·(exact KE.out _ (Below.refl _ _).drew)
    simp only [zS, Nat.zero_add, Nat.reduceAdd]
    refine tkB 0 hHeld ?_;refine tkB 1 hHeld ?_;refine tkB 2 hHeld ?_;refine tkB 3 hHeld ?_;refine tkB 4 hHeld ?_;refine tkB 5 hHeld ?_;refine tkB 6 hHeld ?_;refine tkB 7 hHeld ?_;refine rd 8 fun K hK => ?_
    go_simp
    refine (KS.out _ hHeld.1).mono ?_;rintro e s1 ⟨rfl, hb⟩;refine hK.out _ _ (KE.out _ (holdC hHeld hb)) (fun hHeld => ?_);clear hK K hb;refine tkB 9 hHeld ?_;refine wpAnyH_done (by kernel_rfl) ?_ _;have GZ : Hid (Below w.heap.size w _) := zH (GB.out.trans (hHeld.1.mono GB.out.size));clear hHeld
    cases r
    ·have HF := zH (AF.out fun e => by have := HR.out; rw [decide_eq_true e] at this; cases this)
     go_wp2_with fail
     go_ret
     exact ⟨by rw [HF.out]; rfl, GZ.out⟩
    ·have HA := zH (AN.out (of_decide_eq_true HR.out.symm))
     go_wp2_with fail
     go_roundw
     case rel => exact ⟨k + 1, by omega, by go_num, HA.out, GZ.out⟩
     case measure => simp [intOf]; omega
   ·obtain rfl : k = n := by omega
    have HA : Hid (decide (xs = ys) = true) := zH (decide_eq_true (same_all HNE.out fun j hj => A1.out j (by rw [HNN.out]; exact hj)));go_wp2_with fail
    go_ret
    exact ⟨by rw [HA.out]; rfl, GB.out⟩
 ·have HF : Hid (decide (xs = ys) = false) := zH (decide_eq_false fun e => hne (by rw [e]))
  have bne : ((xs.length : Int) != (ys.length : Int)) = true := by simp; omega
  clear hu hv;go_enter Tryz.func52, Tryz.ntmps52
  go_wp2_with fail
  go_ret
  exact ⟨by rw [HF.out]; rfl, Below.refl _ _⟩
end Go.Proofs.YtfapkepfngddlaaGreat
namespace Go.Proofs.YtfapkepfngddlaaGreat.Plain
set_option linter.unusedVariables false
def usesT (k : Int) : Txt := if k = 1 ∨ k = 6 then [45, 45, 45, 45, 45, 45, 45, 120] else if k = 2 then [120, 120, 120, 45, 120, 120, 45, 45] else if k = 3 then [120, 45, 120, 45, 45, 120, 120, 45] else if k = 4 then [120, 45, 120, 120, 45, 120, 45, 120] else if k = 5 then [45, 45, 120, 45, 45, 45, 45, 45] else []
def mhasB (m : PMsg) : List Bool := [!decide (m.ticket = 0), m.whole, !m.vec.isEmpty, !m.from_.isEmpty, !m.zone.isEmpty, !m.want.isEmpty, !m.items.isEmpty, !m.txns.isEmpty]
theorem usesT_len {k : Int} (h : 1 ≤ k ∧ k ≤ 6) : (usesT k).length = 8 := by
 have : k = 1 ∨ k = 2 ∨ k = 3 ∨ k = 4 ∨ k = 5 ∨ k = 6 := by omega
 rcases this with rfl | rfl | rfl | rfl | rfl | rfl <;> rfl
theorem all8 {P : Nat → Prop} (h : ∀ k, k < 8 → P k) : P 0 ∧ P 1 ∧ P 2 ∧ P 3 ∧ P 4 ∧ P 5 ∧ P 6 ∧ P 7 :=
 ⟨h 0 (by omega), h 1 (by omega), h 2 (by omega), h 3 (by omega), h 4 (by omega), h 5 (by omega), h 6 (by omega), h 7 (by omega)⟩
theorem uses_ok {m : PMsg} (hk : 1 ≤ m.kind ∧ m.kind ≤ 6) (h : ∀ k, k < 8 → (mhasB m).getD k false = true → (usesT m.kind).getD k 0 = 45 → False) : usesB m = true := by
 have h8 := all8 h;have : m.kind = 1 ∨ m.kind = 2 ∨ m.kind = 3 ∨ m.kind = 4 ∨ m.kind = 5 ∨ m.kind = 6 := by omega
 rcases this with e | e | e | e | e | e
 ·rw [e] at h8; simp [mhasB, usesT] at h8; simp [usesB, e, h8]
 ·rw [e] at h8; simp [mhasB, usesT] at h8; simp [usesB, e, h8]
 ·rw [e] at h8; simp [mhasB, usesT] at h8; simp [usesB, e, h8]
 ·rw [e] at h8; simp [mhasB, usesT] at h8; simp [usesB, e, h8]
 ·rw [e] at h8; simp [mhasB, usesT] at h8; simp [usesB, e, h8]
 ·rw [e] at h8; simp [mhasB, usesT] at h8; simp [usesB, e, h8]
theorem uses_hit {m : PMsg} {k : Nat} (h8 : k < 8) (h1 : (mhasB m).getD k false = true) (h2 : (usesT m.kind).getD k 0 = 45) : ¬ usesB m = true := by
 intro h;have hk := msg_kind h;have : m.kind = 1 ∨ m.kind = 2 ∨ m.kind = 3 ∨ m.kind = 4 ∨ m.kind = 5 ∨ m.kind = 6 := by omega
 have hq : k = 0 ∨ k = 1 ∨ k = 2 ∨ k = 3 ∨ k = 4 ∨ k = 5 ∨ k = 6 ∨ k = 7 := by omega
 rcases this with e | e | e | e | e | e
 ·rw [e] at h2; simp [usesB, e] at h; rcases hq with rfl | rfl | rfl | rfl | rfl | rfl | rfl | rfl <;> simp [mhasB, usesT, h] at h1 h2
 ·rw [e] at h2; simp [usesB, e] at h; rcases hq with rfl | rfl | rfl | rfl | rfl | rfl | rfl | rfl <;> simp [mhasB, usesT, h] at h1 h2
 ·rw [e] at h2; simp [usesB, e] at h; rcases hq with rfl | rfl | rfl | rfl | rfl | rfl | rfl | rfl <;> simp [mhasB, usesT, h] at h1 h2
 ·rw [e] at h2; simp [usesB, e] at h; rcases hq with rfl | rfl | rfl | rfl | rfl | rfl | rfl | rfl <;> simp [mhasB, usesT, h] at h1 h2
 ·rw [e] at h2; simp [usesB, e] at h; rcases hq with rfl | rfl | rfl | rfl | rfl | rfl | rfl | rfl <;> simp [mhasB, usesT, h] at h1 h2
 ·rw [e] at h2; simp [usesB, e] at h; rcases hq with rfl | rfl | rfl | rfl | rfl | rfl | rfl | rfl <;> simp [mhasB, usesT, h] at h1 h2
structure FrmR (m : PMsg) (r : Bool) : Prop where
 kind : ¬ (1 ≤ m.kind ∧ m.kind ≤ 6) → r = false
 uses : ∀ k, k < 8 → (mhasB m).getD k false = true → (usesT m.kind).getD k 0 = 45 → r = false
 t0 : m.ticket < 0 → r = false
 t1 : 1073741824 < m.ticket → r = false
 vec : mayV m.vec = false → r = false
 from_ : mayV m.from_ = false → r = false
 zone : zoneB m.zone = false → r = false
 want : zoneB m.want = false → r = false
 ilen : 32768 < m.items.length → r = false
 tlen : 4096 < m.txns.length → r = false
 item : ∀ k, k < m.items.length → mayI m (m.items.getD k default) = false → r = false
 norm : decide (m.items = inorm m.items) = false → r = false
 txn : ∀ k, k < m.txns.length → tformedB (otx m.txns k) = false → r = false
 only : m.kind = 4 → ∀ k, k < m.txns.length → decide (otx m.txns k = tonly (otx m.txns k) m.want) = false → r = false
 chain : m.kind = 4 → oChain m.from_ m.txns = false → r = false
 stop : m.kind = 4 → decide (oEnd m.from_ m.txns = m.vec) = false → r = false
 yes : (1 ≤ m.kind ∧ m.kind ≤ 6) → (∀ k, k < 8 → (mhasB m).getD k false = true → (usesT m.kind).getD k 0 = 45 → False) → ¬ m.ticket < 0 → ¬ 1073741824 < m.ticket → mayV m.vec = true → mayV m.from_ = true → zoneB m.zone = true → zoneB m.want = true → ¬ 32768 < m.items.length → ¬ 4096 < m.txns.length →
  (∀ k, k < m.items.length → mayI m (m.items.getD k default) = true) → decide (m.items = inorm m.items) = true → (∀ k, k < m.txns.length → tformedB (otx m.txns k) = true) → (m.kind = 4 → (∀ k, k < m.txns.length → decide (otx m.txns k = tonly (otx m.txns k) m.want) = true) ∧ oChain m.from_ m.txns = true ∧ decide (oEnd m.from_ m.txns = m.vec) = true) → r = true
theorem otx_mem {l : List PTxn} {k : Nat} (hk : k < l.length) : otx l k ∈ l := by rw [otx_lt hk]; exact List.getElem_mem hk
theorem mem_otx {l : List PTxn} {t : PTxn} (h : t ∈ l) : ∃ k, k < l.length ∧ otx l k = t := by
 obtain ⟨k, hk, rfl⟩ := List.getElem_of_mem h;exact ⟨k, hk, otx_lt hk⟩
theorem frmR {m : PMsg} {r : Bool} (hr : mformedM m = r) : FrmR m r := by
 have no : (¬ MFormed m) → r = false := fun h => by
  rw [← hr]
  cases e : mformedM m with
  | false => rfl
  | true => exact absurd (mformedM_iff.1 e) h
 have dl : m.kind = 4 → MFormed m → (∀ t ∈ m.txns, tonly t m.want = t) ∧ oChain m.from_ m.txns = true ∧ oEnd m.from_ m.txns = m.vec := fun k f => by
  have := f.delta k;unfold deltaB at this;rw [Bool.and_eq_true, Bool.and_eq_true, List.all_eq_true, decide_eq_true_iff] at this;exact ⟨fun t ht => of_decide_eq_true (this.1 t ht), this.2.1, this.2.2⟩
 refine ⟨fun h => no fun f => h (msg_kind f.uses), fun k h8 h1 h2 => no fun f => uses_hit h8 h1 h2 f.uses, fun h => no fun f => (by have := f.t0; omega), fun h => no fun f => (by have := f.t1; omega),
  fun h => no fun f => (by rw [f.vec] at h; cases h), fun h => no fun f => (by rw [f.from_] at h; cases h), fun h => no fun f => (by rw [f.zone] at h; cases h), fun h => no fun f => (by rw [f.want] at h; cases h),
  fun h => no fun f => (by have := f.ilen; omega), fun h => no fun f => (by have := f.tlen; omega), fun k hk h => no fun f => ?_, fun h => no fun f => of_decide_eq_false h f.norm.symm,
  fun k hk h => no fun f => (by rw [f.txns _ (otx_mem hk)] at h; cases h), fun k4 k hk h => no fun f => of_decide_eq_false h ((dl k4 f).1 _ (otx_mem hk)).symm, fun k4 h => no fun f => (by rw [(dl k4 f).2.1] at h; cases h),
  fun k4 h => no fun f => of_decide_eq_false h (dl k4 f).2.2, fun h1 h2 h3 h4 h5 h6 h7 h8 h9 h10 h11 h12 h13 h14 => ?_⟩
 ·have := f.items (m.items.getD k default) (by rw [List.getD_eq_getElem?_getD, List.getElem?_eq_getElem hk]; exact List.getElem_mem hk)
  rw [this] at h
  cases h
 ·rw [← hr]
  refine mformedM_iff.2 ⟨uses_ok h1 h2, by omega, by omega, h5, h6, h7, h8, by omega, by omega, fun x hx => ?_, (of_decide_eq_true h12).symm, fun t ht => ?_, fun k4 => ?_⟩
  ·obtain ⟨k, hk, rfl⟩ := List.getElem_of_mem hx
   have := h11 k hk
   rwa [List.getD_eq_getElem?_getD, List.getElem?_eq_getElem hk] at this
  ·obtain ⟨k, hk, rfl⟩ := mem_otx ht
   exact h13 k hk
  ·obtain ⟨a, b, c⟩ := h14 k4
   unfold deltaB;rw [b, c, List.all_eq_true.2 (fun t ht => by
    obtain ⟨k, hk, rfl⟩ := mem_otx ht;exact decide_eq_true (of_decide_eq_true (a k hk)).symm)]
   rfl
end Go.Proofs.YtfapkepfngddlaaGreat.Plain
