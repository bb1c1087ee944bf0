/-
  For any store, any transactions and any turn the law StoreAny answers true: in whatever order transactions come, no two of one dot, they leave the same store. No condition.
  (The frame was written by the guide's proof-skeleton.mjs, turned for stores and slices of transactions; the walk is ours.)
-/
import Derived.Test.YtpnpomocjkmncaaGreatRows
import Derived.WalkKit
import Derived.ProofKit
import Derived.OpenShut
import Derived.ShutString
import Derived.ChangeOld
import Derived.Below
import Derived.Test.YtpnpomocjkmncaaGreatStSz
import Derived.Deep.DeepCutAuto
namespace Go.Proofs.YtpnpomocjkmncaaGreat.storeAny
open Go.ChangeShapes Go.WideShapes Go.ChangeAt Go.RowKit
open Go.ChangeMaps (open_string shut_string)
set_option linter.unusedVariables false

theorem own : ownKnob Tryz.prog.godebug = none := by kernel_rfl
theorem laidOut : laidOutB Tryz.prog = true := by kernel_rfl

open Plain

set_option maxRecDepth 100000 in
theorem open0 {H : Type} {enc : TypeId × Value → H} {W : World} {r : Reach} {b : Nat} {v : Value} {d : DataW H} {p : List MemPlace} (hv : Value.okWide Tryz.prog W r b 26 v) (h : DataW.Trod enc Tryz.prog W 0 (fun _ => true) true 26 v d p) : IsStoreA W v := store_of_trod hv h
set_option maxRecDepth 100000 in
theorem open1 {H : Type} {enc : TypeId × Value → H} {W : World} {r : Reach} {b : Nat} {v : Value} {d : DataW H} {p : List MemPlace} (hv : Value.okWide Tryz.prog W r b 27 v) (h : DataW.Trod enc Tryz.prog W 0 (fun _ => true) true 27 v d p) : IsTxns W v := txns_of_trod hv h
theorem oturn_rem (turn : Int) (m : Nat) (hm : 0 < m) : ∃ r : Nat, (IntKind.u64.wrap turn).tmod m = (r : Int) ∧ r < m := by
  have h0 : 0 ≤ IntKind.u64.wrap turn := by rw [IntKind.wrap_u64]; omega
  obtain ⟨u, hu⟩ := Int.eq_ofNat_of_zero_le h0
  refine ⟨u % m, ?_, Nat.mod_lt _ hm⟩
  rw [hu, ← Int.ofNat_tmod]
/-- the first k of a list that is turned by r and read backwards -/
def rotL (l : List PTxn) (r k : Nat) : List PTxn := (List.range k).map fun i => otx l ((l.length - 1 - i + r) % l.length)
theorem rotL_len (l : List PTxn) (r k : Nat) : (rotL l r k).length = k := by simp [rotL]
theorem rotL_at (l : List PTxn) (r k i : Nat) (h : i < (rotL l r k).length) : (rotL l r k)[i] = otx l ((l.length - 1 - i + r) % l.length) := by simp [rotL]
theorem rotL_next (l : List PTxn) (r k : Nat) : rotL l r (k + 1) = rotL l r k ++ [otx l ((l.length - 1 - k + r) % l.length)] := by
  unfold rotL
  rw [List.range_succ, List.map_append]
  rfl
theorem rotL_all {l : List PTxn} {r : Nat} (hr : r < l.length) : rotL l r l.length = (l.drop r ++ l.take r).reverse := by
  apply List.ext_getElem
  · simp [rotL]; omega
  · intro i h1 h2
    have hi : i < l.length := by rw [rotL_len] at h1; exact h1
    rw [List.getElem_reverse, rotL_at, List.getElem_append]
    have e : (l.drop r ++ l.take r).length = l.length := by simp; omega
    split
    · rename_i h
      rw [List.length_drop] at h
      rw [List.getElem_drop, otx_lt (Nat.mod_lt _ (by omega))]
      congr 1
      rw [Nat.mod_eq_of_lt (by omega)]
      omega
    · rename_i h
      rw [List.length_drop] at h
      rw [List.getElem_take, otx_lt (Nat.mod_lt _ (by omega))]
      congr 1
      rw [List.length_drop, Nat.mod_eq_sub_mod (by omega), Nat.mod_eq_of_lt (by omega)]
      omega
theorem rotL_perm {l : List PTxn} {r : Nat} (hr : 0 < l.length → r < l.length) : l.Perm (rotL l r l.length) := by
  by_cases h0 : 0 < l.length
  · rw [rotL_all (hr h0)]
    have h := List.perm_append_comm (l₁ := l.take r) (l₂ := l.drop r)
    rw [List.take_append_drop] at h
    exact h.trans (List.reverse_perm _).symm
  · have e : l = [] := List.length_eq_zero_iff.1 (by omega)
    subst e
    exact List.Perm.refl _

set_option maxRecDepth 100000 in
set_option maxHeartbeats 32000000 in
theorem walk (v0 : Value) (v1 : Value) (x2 : Int) (w : World) (w0 : IsStoreA w v0) (w1 : IsTxns w v1) (w2 : (Lit.int .i64 x2).wf = true) :
    Calls Tryz.prog 5 #[v0, v1, .int .i64 x2] w fun e w' => e = .returned (.bool true) ∧ Below w.heap.size w w' := by
  obtain ⟨s, hs, hok⟩ := w0
  obtain ⟨ha, hn, hc, ia, im, ic, hv0, h1, h2⟩ := hs.slices
  subst hv0
  obtain ⟨l, sl, okl⟩ := w1
  obtain ⟨a1, c1, hv1, L1, L2, -, -⟩ := sl.parts
  subst hv1
  have OKS := Lib.hid hok
  have OKL := Lib.hid okl
  obtain ⟨n, hnn⟩ : ∃ n, n = l.length := ⟨_, rfl⟩
  have HN := Lib.hid hnn
  rw [← hnn] at sl L1 ⊢
  have hb := (Below.refl w.heap.size w).alloc (Nat.le_refl _) (.cells #[.slice ha hn hc, .slice ia im ic] 26)
  have SB := Lib.hid (stbox_new (s := s) h1 h2)
  have SL := Lib.hid (sl.below hb)
  have G := Lib.hid hb
  have IMM := Lib.hid h2.dims
  clear hs hok hb h1 h2 sl okl hnn
  go_enter Tryz.func5, Tryz.ntmps5
  go_upto_region 1 with fail
  generalize (w.alloc (.cells #[.slice ha hn hc, .slice ia im ic] 26)) = wB at *
  generalize hg0 : w.heap.size = g0 at SB ⊢
  go_wp2_with fail
  refine (stawake_any _).mono ?_
  rintro e u3 ⟨rfl, hb⟩
  replace SB := Lib.hid (SB.out.below hb)
  replace SL := Lib.hid (SL.out.below hb)
  replace G := Lib.hid (G.out.trans (hb.mono G.out.size))
  clear hb
  obtain ⟨sa, hsa⟩ : ∃ b, b = stShort s := ⟨_, rfl⟩
  have Hsa := Lib.hid hsa
  clear hsa
  obtain ⟨x0a, x0b⟩ := SB.out.c
  have K := Lib.hid (stShortR SB.out.is sa Hsa.out.symm)
  cases sa
  · go_wp2_with fail
    refine (K.out).mono ?_
    rintro e u4 ⟨rfl, hb⟩
    clear K
    replace SB := Lib.hid (SB.out.below hb)
    replace SL := Lib.hid (SL.out.below hb)
    replace G := Lib.hid (G.out.trans (hb.mono G.out.size))
    clear hb
    clear x0a x0b
    go_wp2_with fail
    go_ret
    exact ⟨rfl, G.out⟩
  go_wp2_with fail
  refine (K.out).mono ?_
  rintro e u4 ⟨rfl, hb⟩
  clear K
  replace SB := Lib.hid (SB.out.below hb)
  replace SL := Lib.hid (SL.out.below hb)
  replace G := Lib.hid (G.out.trans (hb.mono G.out.size))
  clear hb
  clear x0a x0b
  obtain ⟨sb, hsb⟩ : ∃ b, b = shortTx l := ⟨_, rfl⟩
  have Hsb := Lib.hid hsb
  clear hsb
  have K := Lib.hid (rshortTx_any SL.out sb Hsb.out.symm)
  cases sb
  · go_wp2_with fail
    refine (K.out).mono ?_
    rintro e u5 ⟨rfl, hb⟩
    clear K
    replace SB := Lib.hid (SB.out.below hb)
    replace SL := Lib.hid (SL.out.below hb)
    replace G := Lib.hid (G.out.trans (hb.mono G.out.size))
    clear hb
    go_wp2_with fail
    go_ret
    exact ⟨rfl, G.out⟩
  go_wp2_with fail
  refine (K.out).mono ?_
  rintro e u5 ⟨rfl, hb⟩
  clear K
  replace SB := Lib.hid (SB.out.below hb)
  replace SL := Lib.hid (SL.out.below hb)
  replace G := Lib.hid (G.out.trans (hb.mono G.out.size))
  clear hb
  have FS := Lib.hid (stfit_of Hsa.out.symm OKS.out)
  have FL := Lib.hid (fitB_of Hsb.out.symm OKL.out)
  have FS1 : Hid (StFit s 1000) := Lib.hid ⟨FS.out.1.heard, by have := FS.out.1.items; omega, FS.out.1.dots⟩
  have HLN : Hid (n ≤ 24) := Lib.hid (by rw [HN.out]; exact FL.out.1)
  by_cases hap : oApart l
  rotate_left
  · have HAP := Lib.hid hap
    clear hap
    go_wp2_with fail
    refine (twice_yes SL.out (by have := FL.out.1; omega) HAP.out).mono ?_
    rintro e u6 ⟨rfl, hb⟩
    replace SB := Lib.hid (SB.out.below hb)
    replace SL := Lib.hid (SL.out.below hb)
    replace G := Lib.hid (G.out.trans (hb.mono G.out.size))
    clear hb
    go_wp2_with fail
    go_ret
    exact ⟨rfl, G.out⟩
  have HAP := Lib.hid hap
  clear hap
  go_wp2_with fail
  refine (twice_no SL.out (by have := FL.out.1; omega) HAP.out).mono ?_
  rintro e u6 ⟨rfl, hb⟩
  replace SB := Lib.hid (SB.out.below hb)
  replace SL := Lib.hid (SL.out.below hb)
  replace G := Lib.hid (G.out.trans (hb.mono G.out.size))
  clear hb
  obtain ⟨sd, hsd⟩ : ∃ b, b = soundB s := ⟨_, rfl⟩
  have Hsd := Lib.hid hsd
  clear hsd
  obtain ⟨x0a, x0b⟩ := SB.out.c
  have K := Lib.hid (stSoundS SB.out.is FS1.out sd Hsd.out.symm)
  cases sd
  · go_wp2_with fail
    refine (K.out).mono ?_
    rintro e u7 ⟨rfl, hb⟩
    clear K
    replace SB := Lib.hid (SB.out.below hb)
    replace SL := Lib.hid (SL.out.below hb)
    replace G := Lib.hid (G.out.trans (hb.mono G.out.size))
    clear hb
    clear x0a x0b
    go_wp2_with fail
    go_ret
    exact ⟨rfl, G.out⟩
  go_wp2_with fail
  refine (K.out).mono ?_
  rintro e u7 ⟨rfl, hb⟩
  clear K
  replace SB := Lib.hid (SB.out.below hb)
  replace SL := Lib.hid (SL.out.below hb)
  replace G := Lib.hid (G.out.trans (hb.mono G.out.size))
  clear hb
  clear x0a x0b
  have SD := Lib.hid (sound_iff.1 Hsd.out.symm)
  obtain ⟨r, hr, hrl⟩ : ∃ r : Nat, (0 < n → (IntKind.u64.wrap x2).tmod n = (r : Int)) ∧ (0 < n → r < n) := by
    by_cases h : 0 < n
    · obtain ⟨r, h1, h2⟩ := oturn_rem x2 n h
      exact ⟨r, fun _ => h1, fun _ => h2⟩
    · exact ⟨0, fun k => absurd k h, fun k => absurd k h⟩
  have HR := Lib.hid hr
  have HRL := Lib.hid hrl
  have HNX : Hid (∀ j, j < n → rotL l r (n - j) = rotL l r (n - (j + 1)) ++ [otx l ((j + r) % n)]) := Lib.hid (fun j hj => by
    have e := rotL_next l r (n - (j + 1))
    rw [← HN.out, show n - (j + 1) + 1 = n - j by omega, show n - 1 - (n - (j + 1)) = j by omega] at e
    exact e)
  have HPM : Hid (l.Perm (rotL l r n)) := Lib.hid (by have := rotL_perm (l := l) (r := r) (by rw [← HN.out]; exact hrl); rw [← HN.out] at this; exact this)
  clear hr hrl
  have l0 : n ≤ 24 := HLN.out
  go_wp2_with fail
  go_loopw [7, 8] (fun s i wr => ∃ c : Nat, c ≤ n ∧ i = .int .i64 ((c : Int) - 1) ∧ Aside (OwnE LTxn u7.heap.size wr s (rotL l r (n - c)) ∧ Below u7.heap.size u7 wr)) (fun _ i _ => (intOf i + 1).toNat)
  case atStart => exact ⟨n, Nat.le_refl _, rfl, by rw [Nat.sub_self]; exact OwnE.nil _ _, Below.refl _ _⟩
  case round =>
    obtain ⟨c, hcn, rfl, hrel⟩ := hrel
    obtain ⟨h1, h2⟩ := Aside.out hrel
    have HO := Lib.hid h1
    have HB := Lib.hid h2
    clear hrel
    obtain ⟨ol, hol⟩ : ∃ q, q = n - c := ⟨_, rfl⟩
    obtain ⟨oa, oc, rfl, -, -, -⟩ := h1.at ol (by rw [hol]; exact rotL_len _ _ _)
    have HOL := Lib.hid hol
    clear h1 h2 hol
    by_cases hlt : 0 < c
    · obtain ⟨j, rfl⟩ : ∃ j, c = j + 1 := ⟨c - 1, by omega⟩
      rw [show (((j + 1 : Nat) : Int) - 1) = (j : Int) by omega]
      have hn0 : 0 < n := by omega
      have hr := HR.out hn0
      have hmod : (j + r) % n < n := Nat.mod_lt _ hn0
      obtain ⟨lb, lo, rfl, hc'⟩ := txns_atS SL.out hn0
      obtain ⟨da, dn, dc, ea, en, ec, hW, hsd, hse⟩ := hc' ((j + r) % n) hmod
      obtain ⟨c0', c1', c2', c3'⟩ := (hW wr HB.out).1
      have SDD : Hid (Sq LInt (fun b => b < u7.heap.size) wr (.slice da dn dc) (otx l ((j + r) % n)).deps) := Lib.hid (hsd.agree fun b hb => HB.out.block b hb)
      have SEE : Hid (Sq LEff (fun b => b < u7.heap.size) wr (.slice ea en ec) (otx l ((j + r) % n)).effs) := Lib.hid (hse.agree fun b hb => HB.out.block b hb)
      have HNJ := Lib.hid (HNX.out j (by omega))
      have HLK : Hid ((rotL l r (n - (j + 1))).length ≤ 24) := Lib.hid (by rw [rotL_len]; omega)
      have hi1 : 0 ≤ ((j : Int) + r) % n := Int.emod_nonneg _ (by omega)
      have hi2 : ((j : Int) + r) % n < n := Int.emod_lt_of_pos _ (by omega)
      have hrn : (r : Int) < n := by have := HRL.out hn0; omega
      have k2 : (n : Int) ≤ c1 := by omega
      have k3 : (c1 : Int) ≤ 9223372036854775807 := by omega
      have j1 : (j : Int) < n := by omega
      clear hc' hW hsd hse hmod
      generalize otx l ((j + r) % n) = t at *
      generalize rotL l r (n - (j + 1)) = P at *
      go_wp2_with (at_builtin; refine wpList_append_el LTxn rfl (.tmp 39) (.tmp 55) rfl u7.heap.size rfl (HO.out.alloc _) rfl (one_txnF (x := t) (N := u7.heap.size) SDD.out SEE.out HB.out.size HO.out.lt) (fun vs x h => h) (by have := HLK.out; simp; omega) (by have := HB.out.size; simp; omega) ?_)
      intro v5 w5 ho5 hg5 hat5
      have B5 : Hid (Below u7.heap.size u7 w5) := Lib.hid ((HB.out.alloc HB.out.size _).grown hg5 (by have := HB.out.size; simp; omega) fun b hb => (HO.out.lt b hb).1)
      rw [← HNJ.out] at ho5
      have O5 := Lib.hid ho5
      clear ho5 hg5 hat5 c0' c1' c2' c3'
      go_wp2_with fail
      go_roundw
      case rel => exact ⟨j, by omega, by go_num, O5.out, B5.out⟩
      case measure => simp [intOf]
    · obtain rfl : c = 0 := by omega
      rw [show (((0 : Nat) : Int) - 1) = -1 from rfl]
      have hb := HB.out
      have SO : Hid (SeqE LTxn wr (.slice oa ol oc) (rotL l r n)) := Lib.hid HO.out.seq
      have HPL : Hid ((rotL l r n).length ≤ 24) := Lib.hid (by rw [rotL_len]; exact l0)
      have HPF : Hid (∀ t ∈ rotL l r n, FitB t) := Lib.hid (fun t ht => FL.out.2.1 t (HPM.out.mem_iff.2 ht))
      have HAN := Lib.hid (sAll_any (s := s) HAP.out HPM.out)
      generalize rotL l r n = m at *
      replace SB := Lib.hid (SB.out.below hb)
      replace SL := Lib.hid (SL.out.below hb)
      replace G := Lib.hid (G.out.trans (hb.mono G.out.size))
      clear hb HO HB HNX HR
      obtain ⟨x0a, x0b⟩ := SB.out.c
      have K := Lib.hid (stAllS SB.out.is SL.out FS1.out FL.out.1 FL.out.2.1)
      go_upto_region 11 with (go_at_call 19; refine K.out.mono ?_; rintro e u18 ⟨pha, phn, phc, pia, pim, pic, pta, ptn, ptc, rfl, hh, hi, ht, hb⟩; have PB := Lib.hid (stbox_new (s := sAll s l) hh hi); have PT := Lib.hid (ht.below ((Below.refl u18.heap.size u18).alloc (Nat.le_refl _) (.cells #[.slice pha phn phc, .slice pia pim pic] 26))); have PBD := Lib.hid (And.intro hh.dims (And.intro hi.dims ht.dims)); replace hb := hb.trans (((Below.refl u18.heap.size u18).alloc (Nat.le_refl _) (.cells #[.slice pha phn phc, .slice pia pim pic] 26)).mono hb.size); replace SB := Lib.hid (SB.out.below hb); replace SL := Lib.hid (SL.out.below hb); replace SO := Lib.hid (SO.out.below hb); replace G := Lib.hid (G.out.trans (hb.mono G.out.size)); clear hb hh hi ht K x0a x0b)
      generalize (u18.alloc (.cells #[.slice pha phn phc, .slice pia pim pic] 26)) = u19 at *
      generalize u18.heap.size = pg at PB ⊢
      obtain ⟨x0a, x0b⟩ := SB.out.c
      have K := Lib.hid (stAllS SB.out.is SO.out FS1.out HPL.out HPF.out)
      go_upto_region 12 with (go_at_call 19; refine K.out.mono ?_; rintro e u20 ⟨qha, qhn, qhc, qia, qim, qic, qta, qtn, qtc, rfl, hh, hi, ht, hb⟩; have QB := Lib.hid (stbox_new (s := sAll s m) hh hi); have QT := Lib.hid (ht.below ((Below.refl u20.heap.size u20).alloc (Nat.le_refl _) (.cells #[.slice qha qhn qhc, .slice qia qim qic] 26))); have QBD := Lib.hid (And.intro hh.dims (And.intro hi.dims ht.dims)); replace hb := hb.trans (((Below.refl u20.heap.size u20).alloc (Nat.le_refl _) (.cells #[.slice qha qhn qhc, .slice qia qim qic] 26)).mono hb.size); replace SB := Lib.hid (SB.out.below hb); replace SL := Lib.hid (SL.out.below hb); replace SO := Lib.hid (SO.out.below hb); replace PB := Lib.hid (PB.out.below hb); replace PT := Lib.hid (PT.out.below hb); replace G := Lib.hid (G.out.trans (hb.mono G.out.size)); clear hb hh hi ht K x0a x0b)
      generalize (u20.alloc (.cells #[.slice qha qhn qhc, .slice qia qim qic] 26)) = u21 at *
      generalize u20.heap.size = qg at QB ⊢
      obtain rfl : qtn = ptn := by have h1 := PBD.out.2.2.1; have h2 := QBD.out.2.2.1; have h3 := HAN.out.1; omega
      have K := Lib.hid (stSameR PB.out.is QB.out.is true (decide_eq_true HAN.out.2))
      obtain ⟨x0a, x0b⟩ := PB.out.c
      obtain ⟨x1a, x1b⟩ := QB.out.c
      go_wp2_with fail
      refine (K.out).mono ?_
      rintro e u22 ⟨rfl, hb⟩
      clear K
      replace SB := Lib.hid (SB.out.below hb)
      replace SL := Lib.hid (SL.out.below hb)
      replace SO := Lib.hid (SO.out.below hb)
      replace PB := Lib.hid (PB.out.below hb)
      replace PT := Lib.hid (PT.out.below hb)
      replace QB := Lib.hid (QB.out.below hb)
      replace QT := Lib.hid (QT.out.below hb)
      replace G := Lib.hid (G.out.trans (hb.mono G.out.size))
      clear hb
      clear x0a x0b x1a x1b
      go_wp2_with fail
      go_ret
      exact ⟨rfl, G.out⟩

set_option maxRecDepth 100000 in
theorem lifted (os : Os) (started : os.Started) (H : Type) (enc : TypeId × Value → H) :
    ReturnsInHanded {} Tryz.checked os 5 .any (Rows.storeAnySpec.pre6 enc Tryz.prog Tryz.f5 Rows.storeAnyRow.domain false) (Rows.storeAnySpec.post enc Tryz.prog Tryz.f5 false true false false) := by
  refine returnsInHanded_of_change (C := Tryz.checked) own started (by kernel_rfl) Tryz.func5
    (ChangeSpec.witness6 (enc := enc) (C := Tryz.checked) false ⟨#[], #[.agg #[.slice none 0 0, .slice none 0 0], .slice none 0 0, .int .i64 0], []⟩ 8 (by kernel_rfl) (by kernel_rfl) (by kernel_rfl) (by kernel_rfl)) ?_
  intro W base args ds gs before hval0 hW hcnd _
  have hval : ∀ (j : Nat) t v, Tryz.f5.params[j]? = some t → args[j]? = some v → Value.okWide Tryz.prog W .any base t v := hval0
  have hW' := hW
  obtain ⟨p, q, hA0, hV, rfl, hfz, hnd⟩ := hW
  have hA : DataW.TrodAll enc Tryz.prog W 0 (fun _ => true) true Tryz.f5.params.toList args.toList ds p := hA0
  rw [Tryz.params5] at hA hval
  obtain ⟨v0, vs0, d0, ds0, p0, q0, hargs, rfl, rfl, h0, r0⟩ := trodAll_cons hA
  obtain ⟨v1, vs1, d1, ds1, p1, q1, rfl, rfl, rfl, h1, r1⟩ := trodAll_cons r0
  obtain ⟨v2, vs2, d2, ds2, p2, q2, rfl, rfl, rfl, h2, r2⟩ := trodAll_cons r1
  obtain ⟨rfl, rfl, rfl⟩ := trodAll_nil r2
  obtain rfl : args = #[v0, v1, v2] := by cases args; simp_all
  obtain ⟨rfl, rfl⟩ := trodVars_none hV
  have k0 := h0
  have lt0 : ∀ x ∈ p0, x.block < W.heap.size := by obtain ⟨m, hm⟩ := k0; exact DataW.trod_lt m _ _ _ hm
  have w0 := open0 (hval 0 26 v0 rfl rfl) h0
  have k1 := h1
  have lt1 : ∀ x ∈ p1, x.block < W.heap.size := by obtain ⟨m, hm⟩ := k1; exact DataW.trod_lt m _ _ _ hm
  have w1 := open1 (hval 1 27 v1 rfl rfl) h1
  obtain ⟨a2, rfl, rfl, rfl, w2⟩ := open_int Tryz.underlying3 (hval 2 3 v2 rfl rfl) h2
  clear hA0 hval0
  refine (walk v0 v1 a2 W w0 w1 w2).mono fun e W' ⟨he, bel⟩ => ?_
  subst he
  exact ⟨_, rfl, _, _, _, [], _, [], hW', trodAll_mk1 (shut_bool Tryz.underlying4 _), (trodAll_cons_mk (Below.trod laidOut (by kernel_rfl) (of_decide_eq_true (by kernel_rfl)) k0 bel lt0) (trodAll_cons_mk (Below.trod laidOut (by kernel_rfl) (of_decide_eq_true (by kernel_rfl)) k1 bel lt1) (trodAll_cons_mk (shut_int Tryz.underlying3 w2) trodAll_mk0))), rfl, bel.frame _, fun h => by cases h⟩

theorem over : Rows.storeAnyRow.holds Tryz.pinned (OpenSpec.ofChange Rows.storeAnySpec) :=
  OpenClaim.holds_of_wide 5 Tryz.f5 rfl rfl rfl rfl rfl rfl rfl ⟨rfl, rfl, rfl, rfl, rfl⟩ rfl rfl rfl rfl rfl (by kernel_rfl) Tryz.func5 (by kernel_rfl)
    (of_decide_eq_true (by kernel_rfl)) (by unfold Func.isWrapper; first | (rw [if_pos (by decide +kernel)]; kernel_rfl) | (rw [if_neg (by decide +kernel)]; exact ⟨rfl, rfl⟩))
    (fun os started H enc _ => lifted os started H enc)

/-- the given statement -/
theorem proved : Rows.StoreAnySaid := over
#print axioms proved
end Go.Proofs.YtpnpomocjkmncaaGreat.storeAny
