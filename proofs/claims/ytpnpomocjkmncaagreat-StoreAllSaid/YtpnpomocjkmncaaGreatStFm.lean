/- Chain: the program's and the document's own. (Written by gen-chn.py.) SameAll, Twice: the document's own. (Written by gen-ref14.py.) -/
import Derived.Test.YtpnpomocjkmncaaGreatOrTk
import Derived.Test.YtpnpomocjkmncaaGreatTxUses
import Derived.Test.YtpnpomocjkmncaaGreatRefTxF2
import Derived.Test.YtpnpomocjkmncaaGreatStore
namespace Go.Proofs.YtpnpomocjkmncaaGreat
open Go.RowKit Plain
set_option linter.unusedVariables false

theorem txns_at {w : World} {la : Option Addr} {n lc : Nat} {l : List PTxn} (h : SeqE LTxn w (.slice la n lc) l) (hp : 0 < n) : ∃ lb lo, la = some ⟨lb, lo, none⟩ ∧ ∀ k, k < n → ∃ da dn dc ea en ec, ∀ W, Below w.heap.size w W →
  (W.cell? ⟨lb, lo + k * 4, none⟩ = some (.int .i64 (otx l k).node) ∧ W.cell? ⟨lb, lo + k * 4 + 1, none⟩ = some (.int .i64 (otx l k).seq) ∧ W.cell? ⟨lb, lo + k * 4 + 2, none⟩ = some (.slice da dn dc) ∧ W.cell? ⟨lb, lo + k * 4 + 3, none⟩ = some (.slice ea en ec)) ∧
   IsTxn W (.agg #[.int .i64 (otx l k).node, .int .i64 (otx l k).seq, .slice da dn dc, .slice ea en ec]) (otx l k) := by
 have hd := h.dims.1
 obtain ⟨lb, lo, lc', hsl, -, -, hc⟩ := txns_spotB (B := w.heap.size) h (Nat.le_refl _) (by omega)
 simp only [Value.slice.injEq] at hsl
 obtain ⟨rfl, -, -⟩ := hsl
 refine ⟨lb, lo, rfl, fun k hk => ?_⟩
 obtain ⟨da, dn, dc, ea, en, ec, TA, IT⟩ := hc k (by omega)
 refine ⟨da, dn, dc, ea, en, ec, fun W hb => ⟨?_, IT.below hb⟩⟩
 have T := TA.below hb TA.lt
 exact ⟨T.c0, T.c1, T.c2, T.c3⟩
end Go.Proofs.YtpnpomocjkmncaaGreat
namespace Go.Proofs.YtpnpomocjkmncaaGreat
open Go.RowKit Plain
set_option linter.unusedVariables false

theorem same_all {xs ys : List PTxn} (h : xs.length = ys.length) (e : ∀ j, j < xs.length → otx xs j = otx ys j) : xs = ys := by
 apply List.ext_getElem h
 intro i h1 h2
 have := e i h1
 rw [otx_lt h1, otx_lt h2] at this
 exact this
set_option maxRecDepth 100000 in
set_option maxHeartbeats 16000000 in
theorem sameAll_any {uv vv : Value} {xs ys : List PTxn} {w : World} (hu : SeqE LTxn w uv xs) (hv : SeqE LTxn w vv ys) (hl : xs.length ≤ 1000000) :
  Calls Tryz.prog 22 #[uv, vv] w (GivesB w (decide (xs = ys))) := by
 obtain ⟨la, lc, rfl, L1, L2, -, -⟩ := hu.parts
 obtain ⟨ma, mc, rfl, M1, M2, -, -⟩ := hv.parts
 have HU := Lib.hid hu
 have HV := Lib.hid hv
 by_cases hne : xs.length = ys.length
 ·obtain ⟨n, hn⟩ : ∃ n, n = xs.length := ⟨_, rfl⟩
  rw [← hne] at HV M1 ⊢
  rw [← hn] at HU HV L1 M1 ⊢
  have HNE := Lib.hid hne
  have HNN := Lib.hid hn
  clear hu hv hn hne
  go_enter Tryz.func22, Tryz.ntmps22
  go_wp2_with fail
  go_loopw [5] (fun i wr => ∃ k : Nat, k ≤ n ∧ i = .int .i64 k ∧ Aside ((∀ j, j < k → otx xs j = otx ys j) ∧ Below w.heap.size w wr)) (fun i _ => n - (intOf i).toNat)
  case atStart => exact ⟨0, Nat.zero_le _, rfl, fun j hj => absurd hj (Nat.not_lt_zero _), Below.refl _ _⟩
  case round =>
   obtain ⟨k, hk, rfl, hrel⟩ := hrel
   obtain ⟨h1, h2⟩ := Aside.out hrel
   have A1 := Lib.hid h1
   have GB := Lib.hid h2
   clear hrel h1 h2
   by_cases hlt : k < n
   ·obtain ⟨lb, lo, rfl, hc⟩ := txns_at HU.out (by omega)
    obtain ⟨mb, mo, rfl, hc2⟩ := txns_at HV.out (by omega)
    obtain ⟨da, dn, dc, ea, en, ec, hW⟩ := hc k hlt
    obtain ⟨da2, dn2, dc2, ea2, en2, ec2, hW2⟩ := hc2 k hlt
    have AN : Hid (otx xs k = otx ys k → ∀ j, j < k + 1 → otx xs j = otx ys j) := Lib.hid (fun e j hj => by
     by_cases c : j = k
     ·rw [c]; exact e
     ·exact A1.out j (by omega))
    have AF : Hid (¬ otx xs k = otx ys k → decide (xs = ys) = false) := Lib.hid (fun e => decide_eq_false fun h => e (by rw [h]))
    have KE : Hid (∀ u, Below wr.heap.size wr u → Below wr.heap.size wr u ∧ (u.cell? ⟨lb, lo + k * 4, none⟩ = some (.int .i64 (otx xs k).node) ∧ u.cell? ⟨lb, lo + k * 4 + 1, none⟩ = some (.int .i64 (otx xs k).seq) ∧ u.cell? ⟨lb, lo + k * 4 + 2, none⟩ = some (.slice da dn dc) ∧ u.cell? ⟨lb, lo + k * 4 + 3, none⟩ = some (.slice ea en ec)) ∧ u.cell? ⟨mb, mo + k * 4, none⟩ = some (.int .i64 (otx ys k).node) ∧ u.cell? ⟨mb, mo + k * 4 + 1, none⟩ = some (.int .i64 (otx ys k).seq) ∧ u.cell? ⟨mb, mo + k * 4 + 2, none⟩ = some (.slice da2 dn2 dc2) ∧ u.cell? ⟨mb, mo + k * 4 + 3, none⟩ = some (.slice ea2 en2 ec2)) := Lib.hid (fun u hb => ⟨hb, (hW u (GB.out.trans (hb.mono GB.out.size))).1, (hW2 u (GB.out.trans (hb.mono GB.out.size))).1⟩)
    have KS := Lib.hid (fun u (hb : Below wr.heap.size wr u) => rsameTx (hW u (GB.out.trans (hb.mono GB.out.size))).2 (hW2 u (GB.out.trans (hb.mono GB.out.size))).2 _ rfl)
    have k1 : (k : Int) < n := by omega
    have k2 : (n : Int) ≤ lc := by omega
    have k3 : (lc : Int) ≤ 9223372036854775807 := by omega
    have k4 : (n : Int) ≤ mc := by omega
    have k5 : (mc : Int) ≤ 9223372036854775807 := by omega
    clear hc hc2 hW hW2
    generalize otx xs k = x at *
    generalize otx ys k = y at *
    go_upto_region 6 with fail
    obtain ⟨r, hr⟩ : ∃ r, r = decide (x = y) := ⟨_, rfl⟩
    rw [← hr] at KS
    have HR := Lib.hid hr
    clear hr
    refine wp_region_held_drew (S := fun u' => Below wr.heap.size wr u' ∧ (u'.cell? ⟨lb, lo + k * 4, none⟩ = some (.int .i64 x.node) ∧ u'.cell? ⟨lb, lo + k * 4 + 1, none⟩ = some (.int .i64 x.seq) ∧ u'.cell? ⟨lb, lo + k * 4 + 2, none⟩ = some (.slice da dn dc) ∧ u'.cell? ⟨lb, lo + k * 4 + 3, none⟩ = some (.slice ea en ec)) ∧ u'.cell? ⟨mb, mo + k * 4, none⟩ = some (.int .i64 y.node) ∧ u'.cell? ⟨mb, mo + k * 4 + 1, none⟩ = some (.int .i64 y.seq) ∧ u'.cell? ⟨mb, mo + k * 4 + 2, none⟩ = some (.slice da2 dn2 dc2) ∧ u'.cell? ⟨mb, mo + k * 4 + 3, none⟩ = some (.slice ea2 en2 ec2)) (by kernel_rfl) ?_ (fun hHeld => ?_)
    ·(exact KE.out _ (Below.refl _ _).drew)
    simp only [List.size_toArray, List.length_cons, List.length_nil, Nat.zero_add, Nat.reduceAdd]
    refine tkB (i := 0) hHeld ?_
    refine tkB (i := 1) hHeld ?_
    refine tkB (i := 2) hHeld ?_
    refine tkB (i := 3) hHeld ?_
    refine tkB (i := 4) hHeld ?_
    refine tkB (i := 5) hHeld ?_
    refine tkB (i := 6) hHeld ?_
    refine tkB (i := 7) hHeld ?_
    refine wpAnyH_ready (rs := [8]) (by kernel_rfl) (by simp) ?_
    refine AllReadyH.cons rfl (fun K hK => ?_) AllReadyH.nil
    go_simp
    refine (KS.out _ hHeld.1).mono ?_
    rintro e s1 ⟨rfl, hb⟩
    refine hK.out _ _ (KE.out _ (holdC hHeld hb)) (fun hHeld => ?_)
    clear hK K hb
    refine tkB (i := 9) hHeld ?_
    refine wpAnyH_done (by kernel_rfl) ?_ _
    have GZ : Hid (Below w.heap.size w _) := Lib.hid (GB.out.trans (hHeld.1.mono GB.out.size))
    clear hHeld
    cases r
    ·have HF := Lib.hid (AF.out fun e => by have := HR.out; rw [decide_eq_true e] at this; cases this)
     go_wp2_with fail
     go_ret
     exact ⟨by rw [HF.out]; rfl, GZ.out⟩
    ·have HA := Lib.hid (AN.out (of_decide_eq_true HR.out.symm))
     go_wp2_with fail
     go_roundw
     case rel => exact ⟨k + 1, by omega, by go_num, HA.out, GZ.out⟩
     case measure => simp [intOf]; omega
   ·obtain rfl : k = n := by omega
    have HA : Hid (decide (xs = ys) = true) := Lib.hid (decide_eq_true (same_all HNE.out fun j hj => A1.out j (by rw [HNN.out]; exact hj)))
    go_wp2_with fail
    go_ret
    exact ⟨by rw [HA.out]; rfl, GB.out⟩
 ·have HF : Hid (decide (xs = ys) = false) := Lib.hid (decide_eq_false fun e => hne (by rw [e]))
  have bne : ((xs.length : Int) != (ys.length : Int)) = true := by simp; omega
  clear hu hv
  go_enter Tryz.func22, Tryz.ntmps22
  go_wp2_with fail
  go_ret
  exact ⟨by rw [HF.out]; rfl, Below.refl _ _⟩

def sameDot (l : List PTxn) (i j : Nat) : Prop := (otx l i).node = (otx l j).node ∧ (otx l i).seq = (otx l j).seq
theorem apart_iff {l : List PTxn} : oApart l ↔ ∀ i, i < l.length → ∀ j, j < i → ¬ sameDot l i j := by
 unfold oApart
 rw [List.pairwise_iff_getElem]
 constructor
 ·intro h i hi j hj e
  refine h j i (by omega) hi hj ?_
  unfold sameDot at e
  rw [otx_lt hi, otx_lt (show j < l.length by omega)] at e
  exact ⟨e.1.symm, e.2.symm⟩
 ·intro h i j hi hj hij e
  refine h j hj i hij ?_
  unfold sameDot
  rw [otx_lt hi, otx_lt hj]
  exact ⟨e.1.symm, e.2.symm⟩
set_option maxRecDepth 100000 in
set_option maxHeartbeats 16000000 in
theorem twice_any {lv : Value} {l : List PTxn} {w : World} (hlv : SeqE LTxn w lv l) (hl : l.length ≤ 1000000) :
  Calls Tryz.prog 24 #[lv] w fun e w' => ∃ r : Bool, e = .returned (.bool r) ∧ (r = false ↔ oApart l) ∧ ∃ q, w' = w.drewN q := by
 obtain ⟨la, lc, rfl, L1, L2, -, -⟩ := hlv.parts
 have HL := Lib.hid hlv
 obtain ⟨n, hn⟩ : ∃ n, n = l.length := ⟨_, rfl⟩
 have HNN := Lib.hid hn
 rw [← hn] at HL L1 ⊢
 clear hlv hn
 go_enter Tryz.func24, Tryz.ntmps24
 go_wp2_with fail
 go_loopw [3] (fun i wr => ∃ k q : Nat, k ≤ n ∧ i = .int .i64 k ∧ Aside (∀ a, a < k → ∀ b, b < a → ¬ sameDot l a b) ∧ wr = w.drewN q) (fun i _ => n - (intOf i).toNat)
 case atStart => exact ⟨0, 0, Nat.zero_le _, rfl, fun a ha => absurd ha (Nat.not_lt_zero _), rfl⟩
 case round =>
  obtain ⟨k, q, hk, rfl, hrel, rfl⟩ := hrel
  have A1 := Lib.hid (Aside.out hrel)
  clear hrel
  by_cases hlt : k < n
  ·obtain ⟨lb, lo, rfl, hc⟩ := txns_at HL.out (by omega)
   have HC := Lib.hid hc
   obtain ⟨da, dn, dc, ea, en, ec, hW⟩ := hc k hlt
   have HW := Lib.hid (hW w (Below.refl _ _)).1
   have k1 : (k : Int) < n := by omega
   have k2 : (n : Int) ≤ lc := by omega
   have k3 : (lc : Int) ≤ 9223372036854775807 := by omega
   clear hc hW
   go_wp2_with fail
   go_loopw [4] (fun i wr => ∃ j q : Nat, j ≤ k ∧ i = .int .i64 j ∧ Aside (∀ b, b < j → ¬ sameDot l k b) ∧ wr = w.drewN q) (fun i _ => k - (intOf i).toNat)
   case atStart => exact ⟨0, q, Nat.zero_le _, rfl, fun b hb => absurd hb (Nat.not_lt_zero _), rfl⟩
   case round =>
    obtain ⟨j, q2, hj, rfl, hrel, rfl⟩ := hrel
    have A2 := Lib.hid (Aside.out hrel)
    clear hrel
    by_cases hlt2 : j < k
    ·obtain ⟨da2, dn2, dc2, ea2, en2, ec2, hW2⟩ := HC.out j (by omega)
     obtain ⟨c0, c1, -, -⟩ := HW.out
     obtain ⟨d0, d1, -, -⟩ := (hW2 w (Below.refl _ _)).1
     have j1 : (j : Int) < n := by omega
     clear hW2
     have YES : Hid ((otx l k).node = (otx l j).node → (otx l k).seq = (otx l j).seq → ¬ oApart l) := Lib.hid (fun e1 e2 h => apart_iff.1 h k (by rw [← HNN.out]; exact hlt) j hlt2 ⟨e1, e2⟩)
     have NO : Hid (¬ ((otx l k).node = (otx l j).node ∧ (otx l k).seq = (otx l j).seq) → ∀ b, b < j + 1 → ¬ sameDot l k b) := Lib.hid (fun e b hb => by
      by_cases c : b = j
      ·rw [c]; exact e
      ·exact A2.out b (by omega))
     generalize (otx l k).node = x0 at *
     generalize (otx l k).seq = x1 at *
     generalize (otx l j).node = y0 at *
     generalize (otx l j).seq = y1 at *
     by_cases e0 : x0 = y0
     ·have b0 : (x0 == y0) = true := by simp [e0]
      by_cases e1 : x1 = y1
      ·have b1 : (x1 == y1) = true := by simp [e1]
       have HY := Lib.hid (YES.out e0 e1)
       clear e0 e1
       go_wp2_with fail
       go_quiet (fail)
       go_wp2_with fail
       go_ret
       exact ⟨true, rfl, ⟨(fun h => nomatch h), fun h => absurd h HY.out⟩, q2 + nq, by rw [World.drewN_drewN]⟩
      ·have b1 : (x1 == y1) = false := by simp [e1]
       have HN := Lib.hid (NO.out fun e => e1 e.2)
       clear e0 e1
       go_wp2_with fail
       go_quiet (fail)
       go_wp2_with fail
       go_roundw
       case rel => exact ⟨j + 1, _, by omega, by go_num, HN.out, rfl⟩
       case measure => simp [intOf]; omega
     ·have b0 : (x0 == y0) = false := by simp [e0]
      have HN := Lib.hid (NO.out fun e => e0 e.1)
      clear e0
      go_wp2_with fail
      go_quiet (fail)
      go_wp2_with fail
      go_roundw
      case rel => exact ⟨j + 1, _, by omega, by go_num, HN.out, rfl⟩
      case measure => simp [intOf]; omega
    ·obtain rfl : j = k := by omega
     have HA : Hid (∀ a, a < j + 1 → ∀ b, b < a → ¬ sameDot l a b) := Lib.hid (fun a ha b hb => by
      by_cases c : a = j
      ·subst c; exact A2.out b hb
      ·exact A1.out a (by omega) b hb)
     go_wp2_with fail
     go_roundw
     case rel => exact ⟨j + 1, _, by omega, by go_num, HA.out, rfl⟩
     case measure => simp [intOf]; omega
  ·obtain rfl : k = n := by omega
   have HA : Hid (oApart l) := Lib.hid (apart_iff.2 (by rw [← HNN.out]; exact A1.out))
   go_wp2_with fail
   go_ret
   exact ⟨false, rfl, ⟨fun _ => HA.out, fun _ => rfl⟩, _, rfl⟩
end Go.Proofs.YtpnpomocjkmncaaGreat
namespace Go.Proofs.YtpnpomocjkmncaaGreat
open Go.RowKit Plain
set_option linter.unusedVariables false

theorem infoB : (Tryz.prog.info? 4).map (fun i => (i.zero, i.size, i.bytes)) = some (some (.bool false), 1, 1) := by kernel_rfl
def OwnsB (B : Nat) (w : World) (v : Value) (xs : List Bool) : Prop := w.ownsRow B 4 1 v xs.length (xs.map Value.bool)
theorem getD_mapB (xs : List Bool) (j : Nat) (hj : j < xs.length) : (xs.map Value.bool)[j]? = some (Value.bool (gone xs j)) := by
 unfold gone
 simp [List.getD, List.getElem?_eq_getElem hj]
theorem OwnsB.lt {B : Nat} {w : World} {v : Value} {xs : List Bool} (h : OwnsB B w v xs) : ∀ k, v.ownBlock = some k → B ≤ k ∧ k < w.heap.size := World.ownsRow.lt h
theorem OwnsB.keep {B : Nat} {w w' : World} {v : Value} {xs : List Bool} (h : OwnsB B w v xs) (hk : ∀ k, v.ownBlock = some k → w'.heap[k]? = w.heap[k]?) : OwnsB B w' v xs := by
 refine ⟨h.1, ?_⟩
 rcases h.2 with hn | ⟨g, cap, cur, hv, hb', hg, hr⟩
 ·exact .inl hn
 ·exact .inr ⟨g, cap, cur, hv, hb', (hk g (by rw [hv]; rfl)).trans hg, hr⟩
theorem OwnsB.below {B : Nat} {w w' : World} {v : Value} {xs : List Bool} (h : OwnsB B w v xs) (hb : Below w.heap.size w w') : OwnsB B w' v xs := h.keep fun k hk => hb.block k (h.lt k hk).2
theorem OwnsB.cell {B : Nat} {w : World} {g n cap : Nat} {xs : List Bool} (h : OwnsB B w (.slice (some ⟨g, 0, none⟩) n cap) xs) (hn : xs.length = n) (j : Nat) (hj : j < n) : w.cell? ⟨g, j, none⟩ = some (Value.bool (gone xs j)) := by
 have h' : w.ownsRow B 4 1 (.slice (some ⟨g, 0, none⟩) n cap) n (xs.map Value.bool) := by unfold OwnsB at h; rw [hn] at h; exact h
 rw [World.ownsRow.cellAt h' j (by omega), getD_mapB xs j (by omega)]
theorem OwnsB.free {B : Nat} {w : World} {g n cap : Nat} {xs : List Bool} (h : OwnsB B w (.slice (some ⟨g, 0, none⟩) n cap) xs) (hn : xs.length = n) (j : Nat) : w.frozen? ⟨g, j, none⟩ = false := by
 have h' : w.ownsRow B 4 1 (.slice (some ⟨g, 0, none⟩) n cap) n (xs.map Value.bool) := by unfold OwnsB at h; rw [hn] at h; exact h
 exact World.ownsRow.frozenAt h' j
theorem OwnsB.set {B : Nat} {w : World} {g n cap : Nat} {xs : List Bool} (h : OwnsB B w (.slice (some ⟨g, 0, none⟩) n cap) xs) (hn : xs.length = n) (j : Nat) (x : Bool) : OwnsB B (w.setCell ⟨g, j, none⟩ (.bool x)) (.slice (some ⟨g, 0, none⟩) n cap) (xs.set j x) := by
 have h' : w.ownsRow B 4 1 (.slice (some ⟨g, 0, none⟩) n cap) n (xs.map Value.bool) := by unfold OwnsB at h; rw [hn] at h; exact h
 have hs := (World.ownsRow.stored h' j (Value.bool x)).1
 have e : (xs.map Value.bool).set j (Value.bool x) = (xs.set j x).map Value.bool := by simp [List.map_set]
 rw [e] at hs
 unfold OwnsB
 rw [List.length_set, hn]
 exact hs
theorem wpList_makeB {w : World} {ops : Array Oper} {rest : List Oper} {o : Oper} {a : Act} {Q : Exit → Act → World → Prop} (hg : o.guard = none) (l : Operand) (ho : o.op = Op.makeSlice 83 l l)
  (m : Int) (n : Nat) (hl : a.eval l = .int .i64 m) (hm : m = (n : Int)) (hn : n ≤ 16777216)
  (h : ∀ w', OwnsB w.heap.size w' (.slice (some ⟨w.heap.size, 0, none⟩) n n) (List.replicate n false) → Below w.heap.size w w' → w'.heap.size = w.heap.size + 1 → wpList Tryz.prog ops Q rest (a.put o.dst (.slice (some ⟨w.heap.size, 0, none⟩) n n)) w') :
  wpList Tryz.prog ops Q (o :: rest) a w := by
 subst hm
 obtain ⟨i0, hi, hz0, hz1, hz2⟩ := info_parts infoB
 refine wpList_make_row w hg l l 83 ho 4 i0 (.bool false) Tryz.underlying83 hi hz0 hz1 rfl .i64 .i64 n hl hl (by rw [hz2]; omega) (by omega) ?_
 refine h _ ?_ ((Below.refl _ _).alloc (Nat.le_refl _) _) (by simp)
 have hr := World.ownsRow_lit (base := w.heap.size) (e := 4) (size := 1) w (madeCells #[.bool false] n) n (Nat.le_refl _) (by unfold maxLen; omega) (by rw [size_madeCells, Nat.mul_one])
 rw [toList_madeCells_one] at hr
 have e : List.replicate n (Value.bool false) = (List.replicate n false).map Value.bool := by rw [List.map_replicate]
 rw [e] at hr
 unfold OwnsB
 rw [List.length_replicate]
 exact hr
theorem bool_ne_txn : 4 ≠ 30 := by decide
theorem unlike {w : World} {B C m n j k : Nat} {e f : TypeId} {u v : Value} {xs ys : List Value} (h1 : w.ownsRow B e m u j xs) (h2 : w.ownsRow C f n v k ys) (hne : e ≠ f) : ∀ b, u.ownBlock = some b → v.ownBlock ≠ some b := fun b hu hv => by
 obtain ⟨c, fz, a1⟩ := Lib.ownsRow_kind h1 b hu
 obtain ⟨c', fz', a2⟩ := Lib.ownsRow_kind h2 b hv
 rw [a1] at a2
 simp only [Option.some.injEq, Obj.cells.injEq] at a2
 exact hne a2.2.1
def VecOk (w wr : World) (v : Value) (u : Ints) : Prop := SeqI w v u ∨ OwnsI w.heap.size wr v u
theorem VecOk.seq {w wr : World} {v : Value} {u : Ints} (h : VecOk w wr v u) (hb : Below w.heap.size w wr) : SeqI wr v u := h.elim (fun h => h.below hb) fun h => h.seq
theorem VecOk.keep {w wr w' : World} {v : Value} {u : Ints} (h : VecOk w wr v u) (hk : ∀ k, w.heap.size ≤ k → k < wr.heap.size → (∃ c fz, wr.heap[k]? = some (.cells c 3 fz)) → w'.heap[k]? = wr.heap[k]?) : VecOk w w' v u :=
 h.imp id fun h => h.keep fun k e => hk k (h.lt k e).1 (h.lt k e).2 (Lib.ownsRow_kind h k e)
structure RTake (l : List PTxn) (v : Ints) (w : World) (n gb : Nat) (vv tv : Value) (wr : World) (k : Nat) (g : List Bool) (a : List PTxn) (u : Ints) : Prop where
 marks : OwnsB w.heap.size wr (.slice (some ⟨gb, 0, none⟩) n n) g
 glen : g.length = l.length
 vec : VecOk w wr vv u
 taken : OwnJ (fun b => b ≠ gb) LTxn w.heap.size wr tv a
 all : oTake v l = a ++ oTake u (oLeft g l)
 last : u = oEnd v a
 past : ∀ j, j < k → gone g j = true ∨ ¬ oReady u (otx l j) = true
 low : Below w.heap.size w wr
 len : u.length ≤ 1000000
theorem txns_atS {w : World} {la : Option Addr} {n lc : Nat} {l : List PTxn} (h : SeqE LTxn w (.slice la n lc) l) (hp : 0 < n) : ∃ lb lo, la = some ⟨lb, lo, none⟩ ∧ ∀ k, k < n → ∃ da dn dc ea en ec, (∀ W, Below w.heap.size w W →
  (W.cell? ⟨lb, lo + k * 4, none⟩ = some (.int .i64 (otx l k).node) ∧ W.cell? ⟨lb, lo + k * 4 + 1, none⟩ = some (.int .i64 (otx l k).seq) ∧ W.cell? ⟨lb, lo + k * 4 + 2, none⟩ = some (.slice da dn dc) ∧ W.cell? ⟨lb, lo + k * 4 + 3, none⟩ = some (.slice ea en ec)) ∧
   IsTxn W (.agg #[.int .i64 (otx l k).node, .int .i64 (otx l k).seq, .slice da dn dc, .slice ea en ec]) (otx l k)) ∧ SeqE LInt w (.slice da dn dc) (otx l k).deps ∧ SeqE LEff w (.slice ea en ec) (otx l k).effs := by
 obtain ⟨lb, lo, e, hc⟩ := txns_at h hp
 refine ⟨lb, lo, e, fun k hk => ?_⟩
 obtain ⟨da, dn, dc, ea, en, ec, hW⟩ := hc k hk
 have := (hW w (Below.refl _ _)).2
 obtain ⟨dv, ev, e1, h1, h2⟩ := this
 simp only [Value.agg.injEq, Array.mk.injEq, List.cons.injEq, true_and, and_true] at e1
 exact ⟨da, dn, dc, ea, en, ec, hW, by rw [e1.1]; exact h1, by rw [e1.2]; exact h2⟩
theorem RTake.below {l : List PTxn} {v u : Ints} {w wr w' : World} {n gb k : Nat} {vv tv : Value} {g : List Bool} {a : List PTxn} (h : RTake l v w n gb vv tv wr k g a u) (hb : Below wr.heap.size wr w') : RTake l v w n gb vv tv w' k g a u :=
 ⟨h.marks.below hb, h.glen, h.vec.keep fun k _ hk _ => hb.block k hk, h.taken.below hb (Nat.le_refl _), h.all, h.last, h.past, h.low.trans (hb.mono h.low.size), h.len⟩
theorem RTake.gb {l : List PTxn} {v u : Ints} {w wr : World} {n gb k : Nat} {vv tv : Value} {g : List Bool} {a : List PTxn} (h : RTake l v w n gb vv tv wr k g a u) : w.heap.size ≤ gb ∧ gb < wr.heap.size := h.marks.lt gb rfl
end Go.Proofs.YtpnpomocjkmncaaGreat
namespace Go.Proofs.YtpnpomocjkmncaaGreat
open Go.RowKit Plain
set_option linter.unusedVariables false

theorem oEnd_len : ∀ (a : List PTxn) (v : Ints), (oEnd v a).length ≤ max v.length 8
 | [], v => by show v.length ≤ _; omega
 | t :: a, v => by
  have h1 := oEnd_len a (oNext v t)
  have h2 := oNext_len v t
  show (oEnd (oNext v t) a).length ≤ _
  omega
theorem twice_no {lv : Value} {l : List PTxn} {w : World} (hlv : SeqE LTxn w lv l) (hl : l.length ≤ 1000000) (h : oApart l) : Calls Tryz.prog 24 #[lv] w (GivesB w false) :=
 (twice_any hlv hl).mono fun e w' ⟨r, he, hr, q, hq⟩ => ⟨by rw [he, hr.2 h], by rw [hq]; exact below_drewN (Below.refl _ _) q⟩
theorem twice_yes {lv : Value} {l : List PTxn} {w : World} (hlv : SeqE LTxn w lv l) (hl : l.length ≤ 1000000) (h : ¬ oApart l) : Calls Tryz.prog 24 #[lv] w (GivesB w true) :=
 (twice_any hlv hl).mono fun e w' ⟨r, he, hr, q, hq⟩ => ⟨by
  cases r
  ·exact absurd (hr.1 rfl) h
  ·exact he, by rw [hq]; exact below_drewN (Below.refl _ _) q⟩
end Go.Proofs.YtpnpomocjkmncaaGreat
namespace Go.Proofs.YtpnpomocjkmncaaGreat
open Go.RowKit Plain
set_option linter.unusedVariables false


variable {α β : Type} {L : El α} {M : El β}
theorem OwnE.beside {B : Nat} {w w' : World} {row : Option Nat} {v : Value} {xs : List α} (hf : Flat L) (h : OwnE L B w v xs) (hg : w.grownBy w' row) (hr : ∀ k, v.ownBlock = some k → row ≠ some k) : OwnE L B w' v xs := by
 obtain ⟨vals, ho, hrows⟩ := h
 refine ⟨vals, ⟨ho.1, ?_⟩, ⟨hrows.1, fun j x hj => hf (hrows.2 j x hj)⟩⟩
 rcases ho.2 with hn | ⟨g, cap, cur, hv, hb, hgc, hr'⟩
 ·exact .inl hn
 ·have hlt : g < w.heap.size := (Array.getElem?_eq_some_iff.1 hgc).1
  exact .inr ⟨g, cap, cur, hv, hb, (hg.block g hlt (fun e => hr g (by rw [hv]; rfl) e.symm)).trans hgc, hr'⟩
theorem OwnE.unlike {B C : Nat} {w : World} {u v : Value} {xs : List α} {ys : List β} (h : OwnE L B w u xs) (g : OwnE M C w v ys) (hne : L.E ≠ M.E) : ∀ k, u.ownBlock = some k → v.ownBlock ≠ some k := fun b hu hv => by
 obtain ⟨vals, h1, -⟩ := h
 obtain ⟨vals', h2, -⟩ := g
 obtain ⟨c, fz, a1⟩ := Lib.ownsRow_kind h1 b hu
 obtain ⟨c', fz', a2⟩ := Lib.ownsRow_kind h2 b hv
 rw [a1] at a2
 simp only [Option.some.injEq, Obj.cells.injEq] at a2
 exact hne a2.2.1
theorem one_txnF {W : World} {N : Nat} {x : PTxn} {dv ev ov : Value} (hd : Sq LInt (fun b => b < N) W dv x.deps) (he : Sq LEff (fun b => b < N) W ev x.effs) (hN : N ≤ W.heap.size) (hov : ∀ k, ov.ownBlock = some k → N ≤ k ∧ k < W.heap.size) :
  Sq LTxn (fun b => b < (W.alloc (.cells #[.int .i64 x.node, .int .i64 x.seq, dv, ev] 30)).heap.size ∧ ov.ownBlock ≠ some b) (W.alloc (.cells #[.int .i64 x.node, .int .i64 x.seq, dv, ev] 30)) (.slice (some ⟨W.heap.size, 0, none⟩) 1 1) [x] := by
 have hS : (W.alloc (.cells #[.int .i64 x.node, .int .i64 x.seq, dv, ev] 30)).heap.size = W.heap.size + 1 := by simp
 rw [hS]
 have hB : Below W.heap.size W (W.alloc (.cells #[.int .i64 x.node, .int .i64 x.seq, dv, ev] 30)) := (Below.refl _ _).alloc (Nat.le_refl _) _
 have hw : ∀ b, b < N → b < W.heap.size + 1 ∧ ov.ownBlock ≠ some b := fun b hb => ⟨by omega, fun e => by have := hov b e; omega⟩
 refine ⟨_, 1, cellsTx x dv ev, rfl, Nat.le_refl _, by unfold maxLen; simp, (by simp), Rows.of_one ⟨_, _, rfl, (hd.agree fun b hb => hB.block b (by omega)).mono hw, (he.agree fun b hb => hB.block b (by omega)).mono hw⟩, fun _ => ⟨_, 0, rfl, ⟨by omega, fun e => by have := hov _ e; omega⟩, fun i u' hu => ?_⟩⟩
 rw [Nat.zero_add]
 have := World.cell?_alloc_new W #[.int .i64 x.node, .int .i64 x.seq, dv, ev] 30 i
 rw [this, ← Array.getElem?_toList]
 exact hu
theorem otx_take {l : List PTxn} {k : Nat} (hk : k < l.length) : l.take (k + 1) = l.take k ++ [otx l k] := by
 rw [List.take_succ_eq_append_getElem hk, otx_lt hk]
theorem sForm_yes {l : List PTxn} {k : Nat} (hk : k < l.length) (h : tformedB (otx l k) = true) : sForm (l.take (k + 1)) = sForm (l.take k) ++ [otx l k] := by
 rw [otx_take hk]
 unfold sForm
 rw [List.filter_append]
 simp [h]
theorem sForm_no {l : List PTxn} {k : Nat} (hk : k < l.length) (h : tformedB (otx l k) = false) : sForm (l.take (k + 1)) = sForm (l.take k) := by
 rw [otx_take hk]
 unfold sForm
 rw [List.filter_append]
 simp [h]
theorem sForm_len (l : List PTxn) : (sForm l).length ≤ l.length := List.length_filter_le _ _
set_option maxRecDepth 100000 in
set_option maxHeartbeats 8000000 in
theorem stFormed_any {v : Value} {l : List PTxn} {w : World} (hv : SeqE LTxn w v l) (hn : l.length ≤ 1000000) (hf : ∀ t ∈ l, FitTx t) : Calls Tryz.prog 53 #[v] w (MadeE LTxn w (sForm l)) := by
 obtain ⟨la, lc, rfl, L1, L2, -, -⟩ := hv.parts
 have HL := Lib.hid hv
 have HF := Lib.hid hf
 have HT0 : Hid (sForm (l.take 0) = []) := Lib.hid rfl
 obtain ⟨n, hN⟩ : ∃ n, n = l.length := ⟨_, rfl⟩
 have HN := Lib.hid hN
 have HTA : Hid (l.take n = l) := Lib.hid (by rw [hN, List.take_length])
 rw [← hN] at HL L1 hn ⊢
 clear hv hf hN
 go_enter Tryz.func53, Tryz.ntmps53
 go_wp2_with fail
 go_loopw [3, 8] (fun z i wr => ∃ k : Nat, k ≤ n ∧ i = .int .i64 k ∧ OwnE LTxn w.heap.size wr z (sForm (l.take k)) ∧ Below w.heap.size w wr) (fun _ i _ => n - (intOf i).toNat)
 case atStart => exact ⟨0, Nat.zero_le _, rfl, by rw [HT0.out]; exact OwnE.nil _ _, Below.refl _ _⟩
 case round =>
  obtain ⟨k, hk, rfl, ho, hb⟩ := hrel
  have O := Lib.hid ho
  have G := Lib.hid hb
  have HLN : Hid ((sForm (l.take k)).length ≤ 1000000) := Lib.hid (by have h1 := sForm_len (l.take k); rw [List.length_take] at h1; omega)
  obtain ⟨ol, hol⟩ : ∃ m, (sForm (l.take k)).length = m := ⟨_, rfl⟩
  obtain ⟨oa, oc, rfl, -, -, -⟩ := ho.at ol hol
  clear ho hb hol
  by_cases hlt : k < n
  ·have hkl : k < l.length := by rw [← HN.out]; exact hlt
   obtain ⟨lb, lo, rfl, hc⟩ := txns_atS HL.out (by omega)
   obtain ⟨da, dn, dc, ea, en, ec, hW, hsd, hse⟩ := hc k hlt
   have hft := HF.out (otx l k) (by rw [otx_lt hkl]; exact List.getElem_mem hkl)
   have HY := Lib.hid (sForm_yes hkl)
   have HNO := Lib.hid (sForm_no hkl)
   obtain ⟨⟨c0, c1, c2, c3⟩, -⟩ := hW wr G.out
   have k1 : (k : Int) < n := by omega
   have k2 : (n : Int) ≤ lc := by omega
   have k3 : (lc : Int) ≤ 9223372036854775807 := by omega
   obtain ⟨fb, hfb⟩ : ∃ b, b = tformedB (otx l k) := ⟨_, rfl⟩
   rw [← hfb] at HY HNO
   have SD := Lib.hid hsd
   have SE := Lib.hid hse
   clear hc hW
   generalize otx l k = t at *
   have TB : Hid (TxBox wr.heap.size t da dn dc ea en ec (wr.alloc (.cells #[.int .i64 t.node, .int .i64 t.seq, .slice da dn dc, .slice ea en ec] 30))) := Lib.hid (txbox_new (hsd.below G.out) (hse.below G.out))
   have KF := Lib.hid (txformedP TB.out.is hft fb hfb.symm)
   have GB : Hid (Below w.heap.size w (wr.alloc (.cells #[.int .i64 t.node, .int .i64 t.seq, .slice da dn dc, .slice ea en ec] 30))) := Lib.hid (G.out.alloc G.out.size _)
   have OB := Lib.hid (O.out.alloc (.cells #[.int .i64 t.node, .int .i64 t.seq, .slice da dn dc, .slice ea en ec] 30))
   clear hft hfb hsd hse hkl
   go_upto_region 5 with fail
   clear c0 c1 c2 c3
   generalize (wr.alloc (.cells #[.int .i64 t.node, .int .i64 t.seq, .slice da dn dc, .slice ea en ec] 30)) = wb at *
   generalize wr.heap.size = g at *
   obtain ⟨c0, c1, c2, c3⟩ := TB.out.c
   go_wp2_with fail
   refine KF.out.mono ?_
   rintro e w2 ⟨rfl, hb⟩
   have T2 := Lib.hid (TB.out.below hb)
   have O2 := Lib.hid (OB.out.below hb (Nat.le_refl _))
   have G2 := Lib.hid (GB.out.trans (hb.mono GB.out.size))
   clear hb c0 c1 c2 c3 KF TB OB GB
   cases fb with
   | false =>
    have E := Lib.hid (HNO.out rfl)
    go_wp2_with fail
    go_roundw
    case rel => exact ⟨k + 1, by omega, by go_num, by rw [E.out]; exact O2.out, G2.out⟩
    case measure => simp [intOf]; omega
   | true =>
    have E := Lib.hid (HY.out rfl)
    obtain ⟨c0, c1, c2, c3⟩ := T2.out.c
    have SDN : Hid (Sq LInt (fun b => b < w.heap.size) w2 (.slice da dn dc) t.deps) := Lib.hid (SD.out.agree fun b hb => G2.out.block b hb)
    have SEN : Hid (Sq LEff (fun b => b < w.heap.size) w2 (.slice ea en ec) t.effs) := Lib.hid (SE.out.agree fun b hb => G2.out.block b hb)
    go_wp2_with (at_builtin; refine wpList_append_el LTxn rfl (.tmp 14) (.tmp 16) rfl w.heap.size rfl (O2.out.alloc _) rfl (one_txnF (x := t) (N := w.heap.size) SDN.out SEN.out G2.out.size O2.out.lt) (fun _ _ h => h) (by have := HLN.out; simp; omega) (by have := G2.out.size; simp; omega) ?_)
    intro v5 w5 ho5 hg5 hat5
    have OA := Lib.hid (O2.out.alloc (.cells #[.int .i64 t.node, .int .i64 t.seq, .slice da dn dc, .slice ea en ec] 30))
    have BA : Hid (Below w.heap.size w (w2.alloc (.cells #[.int .i64 t.node, .int .i64 t.seq, .slice da dn dc, .slice ea en ec] 30))) := Lib.hid (G2.out.alloc G2.out.size _)
    have G5 : Hid (Below w.heap.size w w5) := Lib.hid (BA.out.grown hg5 BA.out.size fun b hb => (OA.out.lt b hb).1)
    have O5 := Lib.hid ho5
    clear ho5 hg5 hat5 c0 c1 c2 c3
    go_wp2_with fail
    go_roundw
    case rel => exact ⟨k + 1, by omega, by go_num, by rw [E.out]; exact O5.out, G5.out⟩
    case measure => simp [intOf]; omega
  ·obtain rfl : k = n := by omega
   rw [HTA.out] at O
   go_wp2_with fail
   go_ret
   exact ⟨_, rfl, O.out, G.out⟩
end Go.Proofs.YtpnpomocjkmncaaGreat
