/-
  For any vector, any transactions and any number the law OrderAny answers true: in whatever order transactions come, the same ones are taken, and as much is heard. No condition.
  (The frame was written by the guide's proof-skeleton.mjs, turned for slices of transactions; the walk is ours.)
-/
import Derived.Test.YtlpcpbangmonaaaRows
import Derived.WalkKit
import Derived.ProofKit
import Derived.OpenShut
import Derived.ShutString
import Derived.ChangeOld
import Derived.Below
import Derived.Test.YtlpcpbangmonaaaOrRTks
import Derived.Test.YtlpcpbangmonaaaRefTxOC
import Derived.Test.YtlpcpbangmonaaaVcAll
import Derived.Deep.DeepCutAuto
import Derived.Deep.RegionHeld3
namespace Go.Proofs.Ytlpcpbangmonaaa.orderAny
open Go.ChangeShapes Go.WideShapes Go.ChangeAt Go.RowKit
open Go.ChangeMaps (open_string shut_string)
set_option linter.unusedVariables false

theorem own : ownKnob Try.prog.godebug = none := by kernel_rfl
theorem laidOut : laidOutB Try.prog = true := by kernel_rfl

open Plain

set_option maxRecDepth 100000 in
theorem open1 {H : Type} {enc : TypeId × Value → H} {W : World} {r : Reach} {b : Nat} {v : Value} {d : DataW H} {p : List MemPlace} (hv : Value.okWide Try.prog W r b 24 v) (h : DataW.Trod enc Try.prog W 0 (fun _ => true) true 24 v d p) : IsTxns W v := txns_of_trod hv h

theorem oturn_rem (turn : Int) (m : Nat) (hm : 0 < m) : ∃ r : Nat, (IntKind.u64.wrap turn).tmod m = (r : Int) ∧ r < m := by
  have h0 : 0 ≤ IntKind.u64.wrap turn := by rw [IntKind.wrap_u64]; omega
  obtain ⟨u, hu⟩ := Int.eq_ofNat_of_zero_le h0
  refine ⟨u % m, ?_, Nat.mod_lt _ hm⟩
  rw [hu, ← Int.ofNat_tmod]
/-- the first k of a list that is turned by r and read backwards -/
def rotL (l : List PTxn) (r k : Nat) : List PTxn := (List.range k).map fun i => otx l ((l.length - 1 - i + r) % l.length)
theorem rotL_len (l : List PTxn) (r k : Nat) : (rotL l r k).length = k := by simp [rotL]
theorem rotL_at (l : List PTxn) (r k i : Nat) (h : i < (rotL l r k).length) : (rotL l r k)[i] = otx l ((l.length - 1 - i + r) % l.length) := by simp [rotL]
theorem rotL_next (l : List PTxn) (r k : Nat) : rotL l r (k + 1) = rotL l r k ++ [otx l ((l.length - 1 - k + r) % l.length)] := by
  unfold rotL
  rw [List.range_succ, List.map_append]
  rfl
theorem rotL_all {l : List PTxn} {r : Nat} (hr : r < l.length) : rotL l r l.length = (l.drop r ++ l.take r).reverse := by
  apply List.ext_getElem
  · simp [rotL]; omega
  · intro i h1 h2
    have hi : i < l.length := by rw [rotL_len] at h1; exact h1
    rw [List.getElem_reverse, rotL_at, List.getElem_append]
    have e : (l.drop r ++ l.take r).length = l.length := by simp; omega
    split
    · rename_i h
      rw [List.length_drop] at h
      rw [List.getElem_drop, otx_lt (Nat.mod_lt _ (by omega))]
      congr 1
      rw [Nat.mod_eq_of_lt (by omega)]
      omega
    · rename_i h
      rw [List.length_drop] at h
      rw [List.getElem_take, otx_lt (Nat.mod_lt _ (by omega))]
      congr 1
      rw [List.length_drop, Nat.mod_eq_sub_mod (by omega), Nat.mod_eq_of_lt (by omega)]
      omega
theorem rotL_perm {l : List PTxn} {r : Nat} (hr : 0 < l.length → r < l.length) : l.Perm (rotL l r l.length) := by
  by_cases h0 : 0 < l.length
  · rw [rotL_all (hr h0)]
    have h := List.perm_append_comm (l₁ := l.take r) (l₂ := l.drop r)
    rw [List.take_append_drop] at h
    exact h.trans (List.reverse_perm _).symm
  · have e : l = [] := List.length_eq_zero_iff.1 (by omega)
    subst e
    exact List.Perm.refl _
theorem one_txnA {W : World} {N : Nat} {x : PTxn} {dv ev ov : Value} (hd : Sq LInt (fun b => b < N) W dv x.deps) (he : Sq LEff (fun b => b < N) W ev x.effs) (hN : N ≤ W.heap.size) (hov : ∀ k, ov.ownBlock = some k → N ≤ k ∧ k < W.heap.size) :
    Sq LTxn (fun b => True ∧ b < (W.alloc (.cells #[.int .i64 x.node, .int .i64 x.seq, dv, ev] 27)).heap.size ∧ ov.ownBlock ≠ some b) (W.alloc (.cells #[.int .i64 x.node, .int .i64 x.seq, dv, ev] 27)) (.slice (some ⟨W.heap.size, 0, none⟩) 1 1) [x] := by
  have hS : (W.alloc (.cells #[.int .i64 x.node, .int .i64 x.seq, dv, ev] 27)).heap.size = W.heap.size + 1 := by simp
  rw [hS]
  have hB : Below W.heap.size W (W.alloc (.cells #[.int .i64 x.node, .int .i64 x.seq, dv, ev] 27)) := (Below.refl _ _).alloc (Nat.le_refl _) _
  have hw : ∀ b, b < N → True ∧ b < W.heap.size + 1 ∧ ov.ownBlock ≠ some b := fun b hb => ⟨trivial, by omega, fun e => by have := hov b e; omega⟩
  refine ⟨_, 1, cellsTx x dv ev, rfl, Nat.le_refl _, by unfold maxLen; simp, (by simp), Rows.of_one ⟨_, _, rfl, (hd.agree fun b hb => hB.block b (by omega)).mono hw, (he.agree fun b hb => hB.block b (by omega)).mono hw⟩, fun _ => ⟨_, 0, rfl, ⟨trivial, by omega, fun e => by have := hov _ e; omega⟩, fun i u' hu => ?_⟩⟩
  rw [Nat.zero_add]
  have := World.cell?_alloc_new W #[.int .i64 x.node, .int .i64 x.seq, dv, ev] 27 i
  rw [this, ← Array.getElem?_toList]
  exact hu

set_option maxRecDepth 100000 in
set_option maxHeartbeats 32000000 in
theorem walk (a0 : Option Addr) (n0 c0 : Nat) (z0 : List Int) (v1 : Value) (x2 : Int) (w : World) (w0 : IsRow .i64 w a0 n0 c0 z0) (w1 : IsTxns w v1) (w2 : (Lit.int .i64 x2).wf = true) :
    Calls Try.prog 5 #[.slice a0 n0 c0, v1, .int .i64 x2] w fun e w' => e = .returned (.bool true) ∧ Below w.heap.size w w' := by
  obtain ⟨v, sv, lv, c0l⟩ := row_ints w0
  obtain ⟨l, sl, okl⟩ := w1
  obtain ⟨a1, c1, hv1, L1, L2, -, -⟩ := sl.parts
  subst hv1
  have SV := Lib.hid sv
  have SW := Lib.hid sv
  have SL := Lib.hid sl
  have OK := Lib.hid okl
  have LV := Lib.hid lv
  obtain ⟨n, hn⟩ : ∃ n, n = l.length := ⟨_, rfl⟩
  have HN := Lib.hid hn
  rw [← hn] at SL L1 ⊢
  have G := Lib.hid (Below.refl w.heap.size w)
  clear w0 sv sl okl lv hn
  go_enter Try.func5, Try.ntmps5
  go_wp2_with fail
  refine (oawake_any _).mono ?_
  rintro e u2 ⟨rfl, hb⟩
  replace SV := Lib.hid (SV.out.below hb)
  replace SL := Lib.hid (SL.out.below hb)
  replace G := Lib.hid (G.out.trans (hb.mono G.out.size))
  clear hb
  by_cases h60 : 60 < n0
  · have i60 : ((60 : Int) < (n0 : Int)) := by omega
    go_wp2_with fail
    go_ret
    exact ⟨rfl, G.out⟩
  · have i60 : ¬ ((60 : Int) < (n0 : Int)) := by omega
    have HV : Hid (v.length ≤ 60) := Lib.hid (by rw [LV.out]; omega)
    obtain ⟨sh, hsh⟩ : ∃ b, b = shortTx l := ⟨_, rfl⟩
    have HSH := Lib.hid hsh
    have KS := Lib.hid (rshortTx_any SL.out sh hsh.symm)
    clear hsh h60
    cases sh
    · go_wp2_with (go_at_call 9; refine KS.out.mono ?_; rintro e u3 ⟨rfl, hb⟩; have G3 := Lib.hid (G.out.trans (hb.mono G.out.size)); clear hb)
      go_ret
      exact ⟨rfl, G3.out⟩
    · have HFS := Lib.hid (fitS_of HSH.out.symm OK.out)
      have HF : Hid (∀ t ∈ l, FitW t) := Lib.hid (fun t ht => (HFS.out.2 t ht).w)
      have HL : Hid (l.length ≤ 1000000) := Lib.hid (by have := HFS.out.1; omega)
      have HLN : Hid (n ≤ 24) := Lib.hid (by rw [HN.out]; exact HFS.out.1)
      by_cases hap : oApart l
      · have HAP := Lib.hid hap
        clear hap
        obtain ⟨r, hr, hrl⟩ : ∃ r : Nat, (0 < n → (IntKind.u64.wrap x2).tmod n = (r : Int)) ∧ (0 < n → r < n) := by
          by_cases h : 0 < n
          · obtain ⟨r, h1, h2⟩ := oturn_rem x2 n h
            exact ⟨r, fun _ => h1, fun _ => h2⟩
          · exact ⟨0, fun k => absurd k h, fun k => absurd k h⟩
        have HR := Lib.hid hr
        have HRL := Lib.hid hrl
        have HNX : Hid (∀ j, j < n → rotL l r (n - j) = rotL l r (n - (j + 1)) ++ [otx l ((j + r) % n)]) := Lib.hid (fun j hj => by
          have e := rotL_next l r (n - (j + 1))
          rw [← HN.out, show n - (j + 1) + 1 = n - j by omega, show n - 1 - (n - (j + 1)) = j by omega] at e
          exact e)
        have HPM : Hid (l.Perm (rotL l r n)) := Lib.hid (by have := rotL_perm (l := l) (r := r) (by rw [← HN.out]; exact hrl); rw [← HN.out] at this; exact this)
        clear hr hrl
        go_wp2_with (first
          | (go_at_call 9; refine KS.out.mono ?_; rintro e u3 ⟨rfl, hb⟩; replace SV := Lib.hid (SV.out.below hb); replace SL := Lib.hid (SL.out.below hb); replace G := Lib.hid (G.out.trans (hb.mono G.out.size)); clear hb KS)
          | (go_at_call 22; refine (twice_no SL.out HL.out HAP.out).mono ?_; rintro e u4 ⟨rfl, hb⟩; replace SV := Lib.hid (SV.out.below hb); replace SL := Lib.hid (SL.out.below hb); replace G := Lib.hid (G.out.trans (hb.mono G.out.size)); clear hb))
        go_loopw [7, 8] (fun s i wr => ∃ c : Nat, c ≤ n ∧ i = .int .i64 ((c : Int) - 1) ∧ Aside (OwnJ (fun _ => True) LTxn u4.heap.size wr s (rotL l r (n - c)) ∧ Below u4.heap.size u4 wr)) (fun _ i _ => (intOf i + 1).toNat)
        case atStart => exact ⟨n, Nat.le_refl _, rfl, by rw [Nat.sub_self]; exact OwnJ.nil _ _ _, Below.refl _ _⟩
        case round =>
          obtain ⟨c, hcn, rfl, hrel⟩ := hrel
          obtain ⟨h1, h2⟩ := Aside.out hrel
          have HO := Lib.hid h1
          have HB := Lib.hid h2
          clear hrel
          have l1 : n ≤ 24 := HLN.out
          obtain ⟨oa, oc, rfl, -, -, -⟩ := h1.at (n - c) (rotL_len _ _ _)
          clear h1 h2
          by_cases hlt : 0 < c
          · obtain ⟨j, rfl⟩ : ∃ j, c = j + 1 := ⟨c - 1, by omega⟩
            rw [show (((j + 1 : Nat) : Int) - 1) = (j : Int) by omega]
            have hn0 : 0 < n := by omega
            have hr := HR.out hn0
            have hmod : (j + r) % n < n := Nat.mod_lt _ hn0
            obtain ⟨lb, lo, rfl, hc⟩ := txns_atS SL.out hn0
            obtain ⟨da, dn, dc, ea, en, ec, hW, hsd, hse⟩ := hc ((j + r) % n) hmod
            obtain ⟨c0', c1', c2', c3'⟩ := (hW wr HB.out).1
            have SD : Hid (Sq LInt (fun b => b < u4.heap.size) wr (.slice da dn dc) (otx l ((j + r) % n)).deps) := Lib.hid (hsd.agree fun b hb => HB.out.block b hb)
            have SE : Hid (Sq LEff (fun b => b < u4.heap.size) wr (.slice ea en ec) (otx l ((j + r) % n)).effs) := Lib.hid (hse.agree fun b hb => HB.out.block b hb)
            have HNJ := Lib.hid (HNX.out j (by omega))
            have HLK : Hid ((rotL l r (n - (j + 1))).length ≤ 24) := Lib.hid (by rw [rotL_len]; omega)
            have hi1 : 0 ≤ ((j : Int) + r) % n := Int.emod_nonneg _ (by omega)
            have hi2 : ((j : Int) + r) % n < n := Int.emod_lt_of_pos _ (by omega)
            have hrn : (r : Int) < n := by have := HRL.out hn0; omega
            have k2 : (n : Int) ≤ c1 := by omega
            have k3 : (c1 : Int) ≤ 9223372036854775807 := by omega
            have j1 : (j : Int) < n := by omega
            clear hc hW hsd hse hmod
            generalize otx l ((j + r) % n) = t at *
            generalize rotL l r (n - (j + 1)) = P at *
            go_wp2_with (at_builtin; refine wpList_append_elJ (fun _ => True) LTxn rfl (.tmp 37) (.tmp 53) rfl u4.heap.size rfl (HO.out.alloc _) rfl (one_txnA (x := t) (N := u4.heap.size) SD.out SE.out HB.out.size HO.out.lt) (fun vs x h => h) (by have := HLK.out; simp; omega) (by have := HB.out.size; simp; omega) ?_)
            intro v5 w5 ho5 hg5 hat5
            have B5 : Hid (Below u4.heap.size u4 w5) := Lib.hid ((HB.out.alloc HB.out.size _).grown hg5 (by have := HB.out.size; simp; omega) fun b hb => (HO.out.lt b hb).1)
            rw [← HNJ.out] at ho5
            have O5 := Lib.hid ho5
            clear ho5 hg5 hat5 c0' c1' c2' c3'
            go_wp2_with fail
            go_roundw
            case rel => exact ⟨j, by omega, by go_num, O5.out, B5.out⟩
            case measure => simp [intOf]
          · obtain rfl : c = 0 := by omega
            rw [show (((0 : Nat) : Int) - 1) = -1 from rfl]
            have hb := HB.out
            replace SV := Lib.hid (SV.out.below hb); replace SL := Lib.hid (SL.out.below hb); replace G := Lib.hid (G.out.trans (hb.mono G.out.size));
            have SO := Lib.hid HO.out.own.seq
            clear hb HB HO HR HRL HNX
            rw [Nat.sub_zero] at SO ⊢
            obtain ⟨m, hm⟩ : ∃ m, m = rotL l r n := ⟨_, rfl⟩
            rw [← hm] at SO HPM
            clear hm
            have HML : Hid (m.length ≤ 1000000) := Lib.hid (by have := HPM.out.length_eq; have := HL.out; omega)
            have HMF : Hid (∀ t ∈ m, FitW t) := Lib.hid (fun t ht => HF.out t (HPM.out.mem_iff.2 ht))
            have HOA := oTake_any (v := v) HAP.out HPM.out
            have KT := Lib.hid (takeP_any SV.out SL.out HL.out HF.out (by have := HV.out; omega))
            have KT2 := Lib.hid (fun (u : World) (h1 : SeqI u (.slice a0 n0 c0) v) (h2 : SeqE LTxn u (.slice oa n oc) m) => takeP_any h1 h2 HML.out HMF.out (by have := HV.out; omega))
            rw [← HOA.2.2] at KT2
            obtain ⟨m1, hm1⟩ : ∃ x, x = oTake v l := ⟨_, rfl⟩
            obtain ⟨m2, hm2⟩ : ∃ x, x = oTake v m := ⟨_, rfl⟩
            obtain ⟨x, hx⟩ : ∃ x, x = oEnd v m1 := ⟨_, rfl⟩
            have HIN : Hid (∀ t, t ∈ m1 → t ∈ m2) := Lib.hid (fun t ht => by rw [hm2]; exact (HOA.1 t).1 (by rw [← hm1]; exact ht))
            have HM2 : Hid (m1.length = m2.length) := Lib.hid (by rw [hm1, hm2]; exact HOA.2.1)
            have HM1 : Hid (m1.length ≤ n) := Lib.hid (by rw [hm1, HN.out]; exact oTake_len v l)
            have HXL : Hid (x.length ≤ 1000000) := Lib.hid (by rw [hx]; have := oEnd_len m1 v; have := HV.out; omega)
            rw [← hm1, ← hx] at KT KT2
            rw [← hm2] at KT2
            obtain ⟨nm, hnm⟩ : ∃ nm, nm = m1.length := ⟨_, rfl⟩
            have HNM := Lib.hid hnm
            have HNM2 : Hid (nm = m2.length) := Lib.hid (by rw [hnm]; exact HM2.out)
            clear hm1 hm2 hx hnm HOA
            go_wp2_with (first
              | (go_at_call_of 12 (Value.slice a1 n c1); refine KT.out.mono ?_; rintro e u6 ⟨a, xv, rfl, ha, hx, hb⟩; replace SV := Lib.hid (SV.out.below hb); replace SL := Lib.hid (SL.out.below hb); replace G := Lib.hid (G.out.trans (hb.mono G.out.size)); replace SO := Lib.hid (SO.out.below hb); have SA := Lib.hid ha; have SX := Lib.hid hx; obtain ⟨aa, ac, hv6, A1, A2, -, -⟩ := ha.parts; rw [← HNM.out] at hv6 A1; subst hv6; have HAC := Lib.hid (And.intro A1 A2); obtain ⟨xa, xc, rfl, -, -, -, -⟩ := hx.parts; clear ha hx hb KT A1 A2)
              | (go_at_call 12; refine (KT2.out _ SV.out SO.out).mono ?_; rintro e u7 ⟨b, yv, rfl, ha, hx, hb⟩; replace G := Lib.hid (G.out.trans (hb.mono G.out.size)); replace SA := Lib.hid (SA.out.below hb); replace SX := Lib.hid (SX.out.below hb); have SB := Lib.hid ha; have SY := Lib.hid hx; obtain ⟨ba, bc, hv6, A1, A2, -, -⟩ := ha.parts; rw [← HNM2.out] at hv6 A1; subst hv6; have HBC := Lib.hid (And.intro A1 A2); obtain ⟨ya, yc, rfl, -, -, -, -⟩ := hx.parts; clear ha hx hb KT2 A1 A2)
              | (go_at_call 24; refine (vc_rsame_any true (iff_of_true rfl fun _ => rfl) (seqI_of SX.out) (seqI_of SY.out) HXL.out HXL.out).mono ?_; rintro e u8 ⟨rfl, hw8⟩; subst hw8))
            go_loopw [13] (fun i wr => ∃ k : Nat, k ≤ nm ∧ i = .int .i64 k ∧ Aside (SeqE LTxn wr (.slice aa nm ac) m1 ∧ SeqE LTxn wr (.slice ba nm bc) m2 ∧ Below w.heap.size w wr)) (fun i _ => nm - (intOf i).toNat)
            case atStart => exact ⟨0, Nat.zero_le _, rfl, SA.out, SB.out, G.out⟩
            case round =>
              obtain ⟨k, hk, rfl, hrel⟩ := hrel
              obtain ⟨r3, r4, r5⟩ := Aside.out hrel
              replace SA := Lib.hid r3
              replace SB := Lib.hid r4
              replace G := Lib.hid r5
              clear hrel r3 r4 r5
              have l2 : nm ≤ n := by have := HM1.out; have := HNM.out; omega
              have j2 : (nm : Int) ≤ ac := by have := HAC.out.1; omega
              have j3 : (ac : Int) ≤ 9223372036854775807 := by have := HAC.out.2; omega
              have j4 : (nm : Int) ≤ bc := by have := HBC.out.1; omega
              have j5 : (bc : Int) ≤ 9223372036854775807 := by have := HBC.out.2; omega
              by_cases hlt : k < nm
              · have hkl : k < m1.length := by rw [← HNM.out]; exact hlt
                obtain ⟨ab, ao, hsl, hc⟩ := txns_at SA.out (by omega)
                subst hsl
                obtain ⟨da, dn, dc, ea, en, ec, hW⟩ := hc k hlt
                have HWX := Lib.hid hW
                have HEX : Hid (¬ ∀ j, j < nm → ¬ otx m2 j = otx m1 k) := Lib.hid (fun h => by
                  rw [HNM2.out] at h
                  have h1 := HIN.out (otx m1 k) (by rw [otx_lt hkl]; exact List.getElem_mem hkl)
                  obtain ⟨j, hj, he⟩ := List.mem_iff_getElem.1 h1
                  exact h j hj (by rw [otx_lt hj, he]))
                have k1 : (k : Int) < nm := by omega
                clear hc hW hkl
                generalize otx m1 k = t at *
                rename World => wo
                go_wp2_with fail
                go_loopw [14, 15] (fun s i wi => ∃ (j : Nat) (b : Bool), j ≤ nm ∧ s = .bool b ∧ i = .int .i64 j ∧ Aside ((b = false → ∀ j', j' < j → ¬ otx m2 j' = t) ∧ Below wo.heap.size wo wi)) (fun _ i _ => nm - (intOf i).toNat)
                case atStart => exact ⟨0, false, Nat.zero_le _, rfl, rfl, fun _ j hj => absurd hj (Nat.not_lt_zero _), Below.refl _ _⟩
                case round =>
                  obtain ⟨j, b, hj, rfl, rfl, hrel⟩ := hrel
                  obtain ⟨h1, h2⟩ := Aside.out hrel
                  have A2 := Lib.hid h1
                  have GB := Lib.hid h2
                  clear hrel h1 h2
                  by_cases hlt2 : j < nm
                  · obtain ⟨bb, bo, hsl, hc⟩ := txns_at SB.out (by omega)
                    subst hsl
                    obtain ⟨da2, dn2, dc2, ea2, en2, ec2, hW2⟩ := hc j hlt2
                    have KE : Hid (∀ u, Below wr.heap.size wr u → Below wr.heap.size wr u ∧ (u.cell? ⟨ab, ao + k * 4, none⟩ = some (.int .i64 t.node) ∧ u.cell? ⟨ab, ao + k * 4 + 1, none⟩ = some (.int .i64 t.seq) ∧ u.cell? ⟨ab, ao + k * 4 + 2, none⟩ = some (.slice da dn dc) ∧ u.cell? ⟨ab, ao + k * 4 + 3, none⟩ = some (.slice ea en ec)) ∧ u.cell? ⟨bb, bo + j * 4, none⟩ = some (.int .i64 (otx m2 j).node) ∧ u.cell? ⟨bb, bo + j * 4 + 1, none⟩ = some (.int .i64 (otx m2 j).seq) ∧ u.cell? ⟨bb, bo + j * 4 + 2, none⟩ = some (.slice da2 dn2 dc2) ∧ u.cell? ⟨bb, bo + j * 4 + 3, none⟩ = some (.slice ea2 en2 ec2)) := Lib.hid (fun u hb => ⟨hb, (HWX.out u (GB.out.trans (hb.mono GB.out.size))).1, (hW2 u (GB.out.trans (hb.mono GB.out.size))).1⟩)
                    have KS := Lib.hid (fun u (hb : Below wr.heap.size wr u) => rsameTx (HWX.out u (GB.out.trans (hb.mono GB.out.size))).2 (hW2 u (GB.out.trans (hb.mono GB.out.size))).2 _ rfl)
                    have HA : Hid (b = false → decide (t = otx m2 j) = false → ∀ j', j' < j + 1 → ¬ otx m2 j' = t) := Lib.hid (fun hb e j' hj' => by
                      by_cases c : j' = j
                      · rw [c]; exact fun h => of_decide_eq_false e h.symm
                      · exact A2.out hb j' (by omega))
                    have j1 : (j : Int) < nm := by omega
                    clear hW2 hc
                    generalize otx m2 j = y at *
                    obtain ⟨r, hr⟩ : ∃ r, r = decide (t = y) := ⟨_, rfl⟩
                    rw [← hr] at KS HA
                    clear hr
                    cases b
                    · go_upto_region 21 with fail
                      refine wp_region_held_drew (S := fun u' => Below wr.heap.size wr u' ∧ (u'.cell? ⟨ab, ao + k * 4, none⟩ = some (.int .i64 t.node) ∧ u'.cell? ⟨ab, ao + k * 4 + 1, none⟩ = some (.int .i64 t.seq) ∧ u'.cell? ⟨ab, ao + k * 4 + 2, none⟩ = some (.slice da dn dc) ∧ u'.cell? ⟨ab, ao + k * 4 + 3, none⟩ = some (.slice ea en ec)) ∧ u'.cell? ⟨bb, bo + j * 4, none⟩ = some (.int .i64 y.node) ∧ u'.cell? ⟨bb, bo + j * 4 + 1, none⟩ = some (.int .i64 y.seq) ∧ u'.cell? ⟨bb, bo + j * 4 + 2, none⟩ = some (.slice da2 dn2 dc2) ∧ u'.cell? ⟨bb, bo + j * 4 + 3, none⟩ = some (.slice ea2 en2 ec2)) (by kernel_rfl) ?_ (fun hHeld => ?_)
                      · (exact KE.out _ (Below.refl _ _).drew)
                      simp only [List.size_toArray, List.length_cons, List.length_nil, Nat.zero_add, Nat.reduceAdd]
                      refine wpAnyH_take (i := 0) (v := ?_) rfl (by kernel_rfl) (by kernel_rfl) (by kernel_rfl) (fun _ _ _ h => h) (Or.inl ⟨by rfl, ?_⟩) hHeld ?_
                      rotate_left
                      · (intro w' hSw; (try dsimp only at hSw); go_simp; try with_reducible rfl)
                      simp only [List.getElem_toArray, List.getElem_cons_zero, Act.put, List.setIfInBounds_toArray, List.set_cons_zero, List.set_cons_succ]
                      refine wpAnyH_take (i := 1) (v := ?_) rfl (by kernel_rfl) (by kernel_rfl) (by kernel_rfl) (fun _ _ _ h => h) (Or.inl ⟨by rfl, ?_⟩) hHeld ?_
                      rotate_left
                      · (intro w' hSw; (try dsimp only at hSw); go_simp; try with_reducible rfl)
                      simp only [List.getElem_toArray, List.getElem_cons_zero, List.getElem_cons_succ, Act.put, List.setIfInBounds_toArray, List.set_cons_zero, List.set_cons_succ]
                      refine wpAnyH_take (i := 2) (v := ?_) rfl (by kernel_rfl) (by kernel_rfl) (by kernel_rfl) (fun _ _ _ h => h) (Or.inl ⟨by rfl, ?_⟩) hHeld ?_
                      rotate_left
                      · (intro w' hSw; (try dsimp only at hSw); go_simp; try with_reducible rfl)
                      simp only [List.getElem_toArray, List.getElem_cons_zero, List.getElem_cons_succ, Act.put, List.setIfInBounds_toArray, List.set_cons_zero, List.set_cons_succ]
                      refine wpAnyH_take (i := 3) (v := ?_) rfl (by kernel_rfl) (by kernel_rfl) (by kernel_rfl) (fun _ _ _ h => h) (Or.inl ⟨by rfl, ?_⟩) hHeld ?_
                      rotate_left
                      · (intro w' hSw; (try dsimp only at hSw); go_simp; try with_reducible rfl)
                      simp only [List.getElem_toArray, List.getElem_cons_zero, List.getElem_cons_succ, Act.put, List.setIfInBounds_toArray, List.set_cons_zero, List.set_cons_succ]
                      refine wpAnyH_take (i := 4) (v := ?_) rfl (by kernel_rfl) (by kernel_rfl) (by kernel_rfl) (fun _ _ _ h => h) (Or.inl ⟨by rfl, ?_⟩) hHeld ?_
                      rotate_left
                      · (intro w' hSw; (try dsimp only at hSw); go_simp; try with_reducible rfl)
                      simp only [List.getElem_toArray, List.getElem_cons_zero, List.getElem_cons_succ, Act.put, List.setIfInBounds_toArray, List.set_cons_zero, List.set_cons_succ]
                      refine wpAnyH_take (i := 5) (v := ?_) rfl (by kernel_rfl) (by kernel_rfl) (by kernel_rfl) (fun _ _ _ h => h) (Or.inl ⟨by rfl, ?_⟩) hHeld ?_
                      rotate_left
                      · (intro w' hSw; (try dsimp only at hSw); go_simp; try with_reducible rfl)
                      simp only [List.getElem_toArray, List.getElem_cons_zero, List.getElem_cons_succ, Act.put, List.setIfInBounds_toArray, List.set_cons_zero, List.set_cons_succ]
                      refine wpAnyH_take (i := 6) (v := ?_) rfl (by kernel_rfl) (by kernel_rfl) (by kernel_rfl) (fun _ _ _ h => h) (Or.inl ⟨by rfl, ?_⟩) hHeld ?_
                      rotate_left
                      · (intro w' hSw; (try dsimp only at hSw); go_simp; try with_reducible rfl)
                      simp only [List.getElem_toArray, List.getElem_cons_zero, List.getElem_cons_succ, Act.put, List.setIfInBounds_toArray, List.set_cons_zero, List.set_cons_succ]
                      refine wpAnyH_take (i := 7) (v := ?_) rfl (by kernel_rfl) (by kernel_rfl) (by kernel_rfl) (fun _ _ _ h => h) (Or.inl ⟨by rfl, ?_⟩) hHeld ?_
                      rotate_left
                      · (intro w' hSw; (try dsimp only at hSw); go_simp; try with_reducible rfl)
                      simp only [List.getElem_toArray, List.getElem_cons_zero, List.getElem_cons_succ, Act.put, List.setIfInBounds_toArray, List.set_cons_zero, List.set_cons_succ]
                      refine wpAnyH_take (i := 8) (v := ?_) rfl (by kernel_rfl) (by kernel_rfl) (by kernel_rfl) (fun _ _ _ h => h) (Or.inl ⟨by rfl, ?_⟩) hHeld ?_
                      rotate_left
                      · (intro w' hSw; (try dsimp only at hSw); go_simp; try with_reducible rfl)
                      simp only [List.getElem_toArray, List.getElem_cons_zero, List.getElem_cons_succ, Act.put, List.setIfInBounds_toArray, List.set_cons_zero, List.set_cons_succ]
                      refine wpAnyH_take (i := 9) (v := ?_) rfl (by kernel_rfl) (by kernel_rfl) (by kernel_rfl) (fun _ _ _ h => h) (Or.inl ⟨by rfl, ?_⟩) hHeld ?_
                      rotate_left
                      · (intro w' hSw; (try dsimp only at hSw); go_simp; try with_reducible rfl)
                      simp only [List.getElem_toArray, List.getElem_cons_zero, List.getElem_cons_succ, Act.put, List.setIfInBounds_toArray, List.set_cons_zero, List.set_cons_succ]
                      refine wpAnyH_ready (rs := [10]) (by kernel_rfl) (by simp) ?_
                      refine AllReadyH.cons rfl (fun K hK => ?_) AllReadyH.nil
                      go_simp
                      refine (KS.out _ hHeld.1).mono ?_
                      rintro e s1 ⟨rfl, hb⟩
                      refine hK.out _ _ (KE.out _ (holdC hHeld hb)) (fun hHeld => ?_)
                      clear hK K hb
                      refine wpAnyH_take (i := 11) (v := ?_) rfl (by kernel_rfl) (by kernel_rfl) (by kernel_rfl) (fun _ _ _ h => h) (Or.inl ⟨by rfl, ?_⟩) hHeld ?_
                      rotate_left
                      · (intro w' hSw; (try dsimp only at hSw); go_simp; try with_reducible rfl)
                      simp only [List.getElem_toArray, List.getElem_cons_zero, List.getElem_cons_succ, Act.put, List.setIfInBounds_toArray, List.set_cons_zero, List.set_cons_succ]
                      refine wpAnyH_take (i := 12) (v := ?_) rfl (by kernel_rfl) (by kernel_rfl) (by kernel_rfl) (fun _ _ _ h => h) (Or.inl ⟨by rfl, ?_⟩) hHeld ?_
                      rotate_left
                      · (intro w' hSw; (try dsimp only at hSw); go_simp; try with_reducible rfl)
                      simp only [List.getElem_toArray, List.getElem_cons_zero, List.getElem_cons_succ, Act.put, List.setIfInBounds_toArray, List.set_cons_zero, List.set_cons_succ]
                      refine wpAnyH_done (by kernel_rfl) ?_ _
                      have GZ : Hid (Below wo.heap.size wo _) := Lib.hid (GB.out.trans (hHeld.1.mono GB.out.size))
                      clear hHeld
                      go_wp2_with fail
                      go_roundw
                      case rel => exact ⟨j + 1, r, by omega, rfl, by go_num, HA.out rfl, GZ.out⟩
                      case measure => simp [intOf]; omega
                    · go_upto_region 21 with fail
                      refine wp_region_held_drew (S := fun u' => Below wr.heap.size wr u' ∧ (u'.cell? ⟨ab, ao + k * 4, none⟩ = some (.int .i64 t.node) ∧ u'.cell? ⟨ab, ao + k * 4 + 1, none⟩ = some (.int .i64 t.seq) ∧ u'.cell? ⟨ab, ao + k * 4 + 2, none⟩ = some (.slice da dn dc) ∧ u'.cell? ⟨ab, ao + k * 4 + 3, none⟩ = some (.slice ea en ec)) ∧ u'.cell? ⟨bb, bo + j * 4, none⟩ = some (.int .i64 y.node) ∧ u'.cell? ⟨bb, bo + j * 4 + 1, none⟩ = some (.int .i64 y.seq) ∧ u'.cell? ⟨bb, bo + j * 4 + 2, none⟩ = some (.slice da2 dn2 dc2) ∧ u'.cell? ⟨bb, bo + j * 4 + 3, none⟩ = some (.slice ea2 en2 ec2)) (by kernel_rfl) ?_ (fun hHeld => ?_)
                      · (exact KE.out _ (Below.refl _ _).drew)
                      simp only [List.size_toArray, List.length_cons, List.length_nil, Nat.zero_add, Nat.reduceAdd]
                      refine wpAnyH_take (i := 0) (v := ?_) rfl (by kernel_rfl) (by kernel_rfl) (by kernel_rfl) (fun _ _ _ h => h) (Or.inl ⟨by rfl, ?_⟩) hHeld ?_
                      rotate_left
                      · (intro w' hSw; (try dsimp only at hSw); go_simp; try with_reducible rfl)
                      simp only [List.getElem_toArray, List.getElem_cons_zero, Act.put, List.setIfInBounds_toArray, List.set_cons_zero, List.set_cons_succ]
                      refine wpAnyH_take (i := 1) (v := ?_) rfl (by kernel_rfl) (by kernel_rfl) (by kernel_rfl) (fun _ _ _ h => h) (Or.inl ⟨by rfl, ?_⟩) hHeld ?_
                      rotate_left
                      · (intro w' hSw; (try dsimp only at hSw); go_simp; try with_reducible rfl)
                      simp only [List.getElem_toArray, List.getElem_cons_zero, List.getElem_cons_succ, Act.put, List.setIfInBounds_toArray, List.set_cons_zero, List.set_cons_succ]
                      refine wpAnyH_take (i := 2) (v := undef) rfl (by kernel_rfl) (by kernel_rfl) (by kernel_rfl) (fun _ _ _ h => h) (Or.inr ⟨by rfl, rfl⟩) hHeld ?_
                      simp only [List.getElem_toArray, List.getElem_cons_zero, List.getElem_cons_succ, Act.put, List.setIfInBounds_toArray, List.set_cons_zero, List.set_cons_succ]
                      refine wpAnyH_take (i := 3) (v := undef) rfl (by kernel_rfl) (by kernel_rfl) (by kernel_rfl) (fun _ _ _ h => h) (Or.inr ⟨by rfl, rfl⟩) hHeld ?_
                      simp only [List.getElem_toArray, List.getElem_cons_zero, List.getElem_cons_succ, Act.put, List.setIfInBounds_toArray, List.set_cons_zero, List.set_cons_succ]
                      refine wpAnyH_take (i := 4) (v := undef) rfl (by kernel_rfl) (by kernel_rfl) (by kernel_rfl) (fun _ _ _ h => h) (Or.inr ⟨by rfl, rfl⟩) hHeld ?_
                      simp only [List.getElem_toArray, List.getElem_cons_zero, List.getElem_cons_succ, Act.put, List.setIfInBounds_toArray, List.set_cons_zero, List.set_cons_succ]
                      refine wpAnyH_take (i := 5) (v := undef) rfl (by kernel_rfl) (by kernel_rfl) (by kernel_rfl) (fun _ _ _ h => h) (Or.inr ⟨by rfl, rfl⟩) hHeld ?_
                      simp only [List.getElem_toArray, List.getElem_cons_zero, List.getElem_cons_succ, Act.put, List.setIfInBounds_toArray, List.set_cons_zero, List.set_cons_succ]
                      refine wpAnyH_take (i := 6) (v := undef) rfl (by kernel_rfl) (by kernel_rfl) (by kernel_rfl) (fun _ _ _ h => h) (Or.inr ⟨by rfl, rfl⟩) hHeld ?_
                      simp only [List.getElem_toArray, List.getElem_cons_zero, List.getElem_cons_succ, Act.put, List.setIfInBounds_toArray, List.set_cons_zero, List.set_cons_succ]
                      refine wpAnyH_take (i := 7) (v := undef) rfl (by kernel_rfl) (by kernel_rfl) (by kernel_rfl) (fun _ _ _ h => h) (Or.inr ⟨by rfl, rfl⟩) hHeld ?_
                      simp only [List.getElem_toArray, List.getElem_cons_zero, List.getElem_cons_succ, Act.put, List.setIfInBounds_toArray, List.set_cons_zero, List.set_cons_succ]
                      refine wpAnyH_take (i := 8) (v := undef) rfl (by kernel_rfl) (by kernel_rfl) (by kernel_rfl) (fun _ _ _ h => h) (Or.inr ⟨by rfl, rfl⟩) hHeld ?_
                      simp only [List.getElem_toArray, List.getElem_cons_zero, List.getElem_cons_succ, Act.put, List.setIfInBounds_toArray, List.set_cons_zero, List.set_cons_succ]
                      refine wpAnyH_take (i := 9) (v := undef) rfl (by kernel_rfl) (by kernel_rfl) (by kernel_rfl) (fun _ _ _ h => h) (Or.inr ⟨by rfl, rfl⟩) hHeld ?_
                      simp only [List.getElem_toArray, List.getElem_cons_zero, List.getElem_cons_succ, Act.put, List.setIfInBounds_toArray, List.set_cons_zero, List.set_cons_succ]
                      refine wpAnyH_take (i := 10) (v := undef) rfl (by kernel_rfl) (by kernel_rfl) (by kernel_rfl) (fun _ _ _ h => h) (Or.inr ⟨by rfl, rfl⟩) hHeld ?_
                      simp only [List.getElem_toArray, List.getElem_cons_zero, List.getElem_cons_succ, Act.put, List.setIfInBounds_toArray, List.set_cons_zero, List.set_cons_succ]
                      refine wpAnyH_take (i := 11) (v := ?_) rfl (by kernel_rfl) (by kernel_rfl) (by kernel_rfl) (fun _ _ _ h => h) (Or.inl ⟨by rfl, ?_⟩) hHeld ?_
                      rotate_left
                      · (intro w' hSw; (try dsimp only at hSw); go_simp; try with_reducible rfl)
                      simp only [List.getElem_toArray, List.getElem_cons_zero, List.getElem_cons_succ, Act.put, List.setIfInBounds_toArray, List.set_cons_zero, List.set_cons_succ]
                      refine wpAnyH_take (i := 12) (v := ?_) rfl (by kernel_rfl) (by kernel_rfl) (by kernel_rfl) (fun _ _ _ h => h) (Or.inl ⟨by rfl, ?_⟩) hHeld ?_
                      rotate_left
                      · (intro w' hSw; (try dsimp only at hSw); go_simp; try with_reducible rfl)
                      simp only [List.getElem_toArray, List.getElem_cons_zero, List.getElem_cons_succ, Act.put, List.setIfInBounds_toArray, List.set_cons_zero, List.set_cons_succ]
                      refine wpAnyH_done (by kernel_rfl) ?_ _
                      have GZ : Hid (Below wo.heap.size wo _) := Lib.hid (GB.out.trans (hHeld.1.mono GB.out.size))
                      clear hHeld
                      go_wp2_with fail
                      go_roundw
                      case rel => exact ⟨j + 1, true, by omega, rfl, by go_num, (fun h => nomatch h), GZ.out⟩
                      case measure => simp [intOf]; omega
                  · obtain rfl : j = nm := by omega
                    cases b
                    · exact (HEX.out (A2.out rfl)).elim
                    · go_wp2_with fail
                      go_roundw
                      case rel => exact ⟨k + 1, by omega, by go_num, SA.out.below GB.out, SB.out.below GB.out, G.out.trans (GB.out.mono G.out.size)⟩
                      case measure => simp [intOf]; omega
              · go_wp2_with fail
                go_ret
                exact ⟨rfl, G.out⟩
      · have HAP := Lib.hid hap
        clear hap
        go_wp2_with (first
          | (go_at_call 9; refine KS.out.mono ?_; rintro e u3 ⟨rfl, hb⟩; replace SV := Lib.hid (SV.out.below hb); replace SL := Lib.hid (SL.out.below hb); replace G := Lib.hid (G.out.trans (hb.mono G.out.size)); clear hb KS)
          | (go_at_call 22; refine (twice_yes SL.out HL.out HAP.out).mono ?_; rintro e u4 ⟨rfl, hb⟩; replace SV := Lib.hid (SV.out.below hb); replace SL := Lib.hid (SL.out.below hb); replace G := Lib.hid (G.out.trans (hb.mono G.out.size)); clear hb))
        go_ret
        exact ⟨rfl, G.out⟩

set_option maxRecDepth 100000 in
theorem lifted (os : Os) (started : os.Started) (H : Type) (enc : TypeId × Value → H) :
    ReturnsInHanded {} Try.checked os 5 .any (Rows.orderAnySpec.pre6 enc Try.prog Try.f5 Rows.orderAnyRow.domain false) (Rows.orderAnySpec.post enc Try.prog Try.f5 false true false false) := by
  refine returnsInHanded_of_change (C := Try.checked) own started (by kernel_rfl) Try.func5
    (ChangeSpec.witness6 (enc := enc) (C := Try.checked) false ⟨#[], #[.slice none 0 0, .slice none 0 0, .int .i64 0], []⟩ 8 (by kernel_rfl) (by kernel_rfl) (by kernel_rfl) (by kernel_rfl)) ?_
  intro W base args ds gs before hval0 hW hcnd _
  have hval : ∀ (j : Nat) t v, Try.f5.params[j]? = some t → args[j]? = some v → Value.okWide Try.prog W .any base t v := hval0
  have hW' := hW
  obtain ⟨p, q, hA0, hV, rfl, hfz, hnd⟩ := hW
  have hA : DataW.TrodAll enc Try.prog W 0 (fun _ => true) true Try.f5.params.toList args.toList ds p := hA0
  rw [Try.params5] at hA hval
  obtain ⟨v0, vs0, d0, ds0, p0, q0, hargs, rfl, rfl, h0, r0⟩ := trodAll_cons hA
  obtain ⟨v1, vs1, d1, ds1, p1, q1, rfl, rfl, rfl, h1, r1⟩ := trodAll_cons r0
  obtain ⟨v2, vs2, d2, ds2, p2, q2, rfl, rfl, rfl, h2, r2⟩ := trodAll_cons r1
  obtain ⟨rfl, rfl, rfl⟩ := trodAll_nil r2
  obtain rfl : args = #[v0, v1, v2] := by cases args; simp_all
  obtain ⟨rfl, rfl⟩ := trodVars_none hV
  obtain ⟨a0, len0, cap0, rfl⟩ := okWide_slice Try.underlying23 (hval 0 23 v0 rfl rfl)
  have k0 := h0
  have lt0 : ∀ x ∈ p0, x.block < W.heap.size := by obtain ⟨m, hm⟩ := k0; exact DataW.trod_lt m _ _ _ hm
  obtain ⟨z0, w0⟩ : ∃ zs, IsRow .i64 W a0 len0 cap0 zs := by
    obtain ⟨fuel, hf⟩ := h0
    rcases open_ints Try.underlying23 Try.underlying3 (by kernel_rfl) hf with ⟨hcs, _⟩ | ⟨x, l, c, zs, hcs, _, hl, hm, hz, _, hcell, hwz⟩
    · simp [Value.cells] at hcs
      obtain ⟨rfl, rfl, rfl⟩ := hcs
      exact ⟨[], .inl ⟨rfl, rfl, rfl, rfl⟩⟩
    · simp [Value.cells] at hcs
      obtain ⟨rfl, rfl, rfl⟩ := hcs
      exact ⟨zs, .inr ⟨_, rfl, hl, hm, by simpa using hz, hcell, hwz⟩⟩
  have k1 := h1
  have lt1 : ∀ x ∈ p1, x.block < W.heap.size := by obtain ⟨m, hm⟩ := k1; exact DataW.trod_lt m _ _ _ hm
  have w1 := open1 (hval 1 24 v1 rfl rfl) h1
  obtain ⟨a2, rfl, rfl, rfl, w2⟩ := open_int Try.underlying3 (hval 2 3 v2 rfl rfl) h2
  clear hA0 hval0
  refine (walk a0 len0 cap0 z0 v1 a2 W w0 w1 w2).mono fun e W' ⟨he, bel⟩ => ?_
  subst he
  exact ⟨_, rfl, _, _, _, [], _, [], hW', trodAll_mk1 (shut_bool Try.underlying4 _), (trodAll_cons_mk (Below.trod laidOut (by kernel_rfl) (of_decide_eq_true (by kernel_rfl)) k0 bel lt0) (trodAll_cons_mk (Below.trod laidOut (by kernel_rfl) (of_decide_eq_true (by kernel_rfl)) k1 bel lt1) (trodAll_cons_mk (shut_int Try.underlying3 w2) trodAll_mk0))), rfl, bel.frame _, fun h => by cases h⟩

theorem over : Rows.orderAnyRow.holds Try.pinned (OpenSpec.ofChange Rows.orderAnySpec) :=
  OpenClaim.holds_of_wide 5 Try.f5 rfl rfl rfl rfl rfl rfl rfl ⟨rfl, rfl, rfl, rfl, rfl⟩ rfl rfl rfl rfl rfl (by kernel_rfl) Try.func5 (by kernel_rfl)
    (of_decide_eq_true (by kernel_rfl)) (by unfold Func.isWrapper; first | (rw [if_pos (by decide +kernel)]; kernel_rfl) | (rw [if_neg (by decide +kernel)]; exact ⟨rfl, rfl⟩))
    (fun os started H enc _ => lifted os started H enc)

/-- the given statement -/
theorem proved : Rows.OrderAnySaid := over
#print axioms proved
end Go.Proofs.Ytlpcpbangmonaaa.orderAny
