/-
  For any store and any transactions the law StoreSound answers true: a sound store stays sound, whatever transactions come. No condition.
  (The frame was written by the guide's proof-skeleton.mjs, turned for stores and slices of transactions; the walk is ours.)
-/
import Derived.Test.YtpnpomocjkmncaaGreatRows
import Derived.WalkKit
import Derived.ProofKit
import Derived.OpenShut
import Derived.ShutString
import Derived.ChangeOld
import Derived.Below
import Derived.Test.YtpnpomocjkmncaaGreatStSz
import Derived.Deep.DeepCutAuto
namespace Go.Proofs.YtpnpomocjkmncaaGreat.storeSound
open Go.ChangeShapes Go.WideShapes Go.ChangeAt Go.RowKit
open Go.ChangeMaps (open_string shut_string)
set_option linter.unusedVariables false

theorem own : ownKnob Tryz.prog.godebug = none := by kernel_rfl
theorem laidOut : laidOutB Tryz.prog = true := by kernel_rfl

open Plain

set_option maxRecDepth 100000 in
theorem open0 {H : Type} {enc : TypeId × Value → H} {W : World} {r : Reach} {b : Nat} {v : Value} {d : DataW H} {p : List MemPlace} (hv : Value.okWide Tryz.prog W r b 26 v) (h : DataW.Trod enc Tryz.prog W 0 (fun _ => true) true 26 v d p) : IsStoreA W v := store_of_trod hv h
set_option maxRecDepth 100000 in
theorem open1 {H : Type} {enc : TypeId × Value → H} {W : World} {r : Reach} {b : Nat} {v : Value} {d : DataW H} {p : List MemPlace} (hv : Value.okWide Tryz.prog W r b 27 v) (h : DataW.Trod enc Tryz.prog W 0 (fun _ => true) true 27 v d p) : IsTxns W v := txns_of_trod hv h

set_option maxRecDepth 100000 in
set_option maxHeartbeats 32000000 in
theorem walk (v0 : Value) (v1 : Value) (w : World) (w0 : IsStoreA w v0) (w1 : IsTxns w v1) :
    Calls Tryz.prog 4 #[v0, v1] w fun e w' => e = .returned (.bool true) ∧ Below w.heap.size w w' := by
  obtain ⟨s, hs, hok⟩ := w0
  obtain ⟨ha, hn, hc, ia, im, ic, hv0, h1, h2⟩ := hs.slices
  subst hv0
  obtain ⟨l, sl, okl⟩ := w1
  obtain ⟨a1, c1, hv1, L1, L2, -, -⟩ := sl.parts
  subst hv1
  have OKS := Lib.hid hok
  have OKL := Lib.hid okl
  obtain ⟨n, hnn⟩ : ∃ n, n = l.length := ⟨_, rfl⟩
  have HN := Lib.hid hnn
  rw [← hnn] at sl L1 ⊢
  have hb := (Below.refl w.heap.size w).alloc (Nat.le_refl _) (.cells #[.slice ha hn hc, .slice ia im ic] 26)
  have SB := Lib.hid (stbox_new (s := s) h1 h2)
  have SL := Lib.hid (sl.below hb)
  have G := Lib.hid hb
  have IMM := Lib.hid h2.dims
  clear hs hok hb h1 h2 sl okl hnn
  go_enter Tryz.func4, Tryz.ntmps4
  go_upto_region 1 with fail
  generalize (w.alloc (.cells #[.slice ha hn hc, .slice ia im ic] 26)) = wB at *
  generalize hg0 : w.heap.size = g0 at SB ⊢
  go_wp2_with fail
  refine (stawake_any _).mono ?_
  rintro e u3 ⟨rfl, hb⟩
  replace SB := Lib.hid (SB.out.below hb)
  replace SL := Lib.hid (SL.out.below hb)
  replace G := Lib.hid (G.out.trans (hb.mono G.out.size))
  clear hb
  obtain ⟨sa, hsa⟩ : ∃ b, b = stShort s := ⟨_, rfl⟩
  have Hsa := Lib.hid hsa
  clear hsa
  obtain ⟨x0a, x0b⟩ := SB.out.c
  have K := Lib.hid (stShortR SB.out.is sa Hsa.out.symm)
  cases sa
  · go_wp2_with fail
    refine (K.out).mono ?_
    rintro e u4 ⟨rfl, hb⟩
    clear K
    replace SB := Lib.hid (SB.out.below hb)
    replace SL := Lib.hid (SL.out.below hb)
    replace G := Lib.hid (G.out.trans (hb.mono G.out.size))
    clear hb
    clear x0a x0b
    go_wp2_with fail
    go_ret
    exact ⟨rfl, G.out⟩
  go_wp2_with fail
  refine (K.out).mono ?_
  rintro e u4 ⟨rfl, hb⟩
  clear K
  replace SB := Lib.hid (SB.out.below hb)
  replace SL := Lib.hid (SL.out.below hb)
  replace G := Lib.hid (G.out.trans (hb.mono G.out.size))
  clear hb
  clear x0a x0b
  obtain ⟨sb, hsb⟩ : ∃ b, b = shortTx l := ⟨_, rfl⟩
  have Hsb := Lib.hid hsb
  clear hsb
  have K := Lib.hid (rshortTx_any SL.out sb Hsb.out.symm)
  cases sb
  · go_wp2_with fail
    refine (K.out).mono ?_
    rintro e u5 ⟨rfl, hb⟩
    clear K
    replace SB := Lib.hid (SB.out.below hb)
    replace SL := Lib.hid (SL.out.below hb)
    replace G := Lib.hid (G.out.trans (hb.mono G.out.size))
    clear hb
    go_wp2_with fail
    go_ret
    exact ⟨rfl, G.out⟩
  go_wp2_with fail
  refine (K.out).mono ?_
  rintro e u5 ⟨rfl, hb⟩
  clear K
  replace SB := Lib.hid (SB.out.below hb)
  replace SL := Lib.hid (SL.out.below hb)
  replace G := Lib.hid (G.out.trans (hb.mono G.out.size))
  clear hb
  have FS := Lib.hid (stfit_of Hsa.out.symm OKS.out)
  have FL := Lib.hid (fitB_of Hsb.out.symm OKL.out)
  have FS1 : Hid (StFit s 1000) := Lib.hid ⟨FS.out.1.heard, by have := FS.out.1.items; omega, FS.out.1.dots⟩
  have HLN : Hid (n ≤ 24) := Lib.hid (by rw [HN.out]; exact FL.out.1)
  obtain ⟨sd, hsd⟩ : ∃ b, b = soundB s := ⟨_, rfl⟩
  have Hsd := Lib.hid hsd
  clear hsd
  obtain ⟨x0a, x0b⟩ := SB.out.c
  have K := Lib.hid (stSoundS SB.out.is FS1.out sd Hsd.out.symm)
  cases sd
  · go_wp2_with fail
    refine (K.out).mono ?_
    rintro e u6 ⟨rfl, hb⟩
    clear K
    replace SB := Lib.hid (SB.out.below hb)
    replace SL := Lib.hid (SL.out.below hb)
    replace G := Lib.hid (G.out.trans (hb.mono G.out.size))
    clear hb
    clear x0a x0b
    go_wp2_with fail
    go_ret
    exact ⟨rfl, G.out⟩
  go_wp2_with fail
  refine (K.out).mono ?_
  rintro e u6 ⟨rfl, hb⟩
  clear K
  replace SB := Lib.hid (SB.out.below hb)
  replace SL := Lib.hid (SL.out.below hb)
  replace G := Lib.hid (G.out.trans (hb.mono G.out.size))
  clear hb
  clear x0a x0b
  have SD := Lib.hid (sound_iff.1 Hsd.out.symm)
  obtain ⟨x0a, x0b⟩ := SB.out.c
  have K := Lib.hid (stAllS SB.out.is SL.out FS1.out FL.out.1 FL.out.2.1)
  go_upto_region 6 with (go_at_call 19; refine K.out.mono ?_; rintro e u7 ⟨pha, phn, phc, pia, pim, pic, pta, ptn, ptc, rfl, hh, hi, ht, hb⟩; have PB := Lib.hid (stbox_new (s := sAll s l) hh hi); have PT := Lib.hid (ht.below ((Below.refl u7.heap.size u7).alloc (Nat.le_refl _) (.cells #[.slice pha phn phc, .slice pia pim pic] 26))); have PBD := Lib.hid (And.intro hh.dims (And.intro hi.dims ht.dims)); replace hb := hb.trans (((Below.refl u7.heap.size u7).alloc (Nat.le_refl _) (.cells #[.slice pha phn phc, .slice pia pim pic] 26)).mono hb.size); replace SB := Lib.hid (SB.out.below hb); replace SL := Lib.hid (SL.out.below hb); replace G := Lib.hid (G.out.trans (hb.mono G.out.size)); clear hb hh hi ht K x0a x0b)
  generalize (u7.alloc (.cells #[.slice pha phn phc, .slice pia pim pic] 26)) = u8 at *
  generalize u7.heap.size = pg at PB ⊢
  have HS := Lib.hid (sAll_sound l SD.out)
  have FP := Lib.hid (stfit_all FS1.out FL.out.1 FL.out.2.1 (Nat.le_refl _))
  have K := Lib.hid (stSound_any PB.out.is (by have := FP.out.heard; omega) (by have := FP.out.items; omega) FP.out.dots true (sound_iff.2 HS.out.1))
  have HTL := Lib.hid (sTake_len s.heard l)
  have q1 : (ptn : Int) ≤ (n : Int) := by have h1 := PBD.out.2.2.1; have := HTL.out; have := HN.out; omega
  have q2 : (pim : Int) ≤ (im : Int) + 8 * (ptn : Int) := by have h1 := PBD.out.2.2.1; have h2 := PBD.out.2.1.1; have h3 := HS.out.2; have h4 := IMM.out.1; omega
  have q3 : (ptn : Int) ≤ 24 := by have := HLN.out; omega
  have q4 : (im : Int) ≤ 60 := by have := IMM.out.1; have := FS.out.1.items; omega
  obtain ⟨x0a, x0b⟩ := PB.out.c
  obtain ⟨x1a, x1b⟩ := SB.out.c
  go_wp2_with fail
  refine (K.out).mono ?_
  rintro e u9 ⟨rfl, hb⟩
  clear K
  replace SB := Lib.hid (SB.out.below hb)
  replace SL := Lib.hid (SL.out.below hb)
  replace PB := Lib.hid (PB.out.below hb)
  replace PT := Lib.hid (PT.out.below hb)
  replace G := Lib.hid (G.out.trans (hb.mono G.out.size))
  clear hb
  clear x0a x0b x1a x1b
  obtain ⟨x0a, x0b⟩ := PB.out.c
  obtain ⟨x1a, x1b⟩ := SB.out.c
  go_wp2_with fail
  go_ret
  exact ⟨rfl, G.out⟩

set_option maxRecDepth 100000 in
theorem lifted (os : Os) (started : os.Started) (H : Type) (enc : TypeId × Value → H) :
    ReturnsInHanded {} Tryz.checked os 4 .any (Rows.storeSoundSpec.pre6 enc Tryz.prog Tryz.f4 Rows.storeSoundRow.domain false) (Rows.storeSoundSpec.post enc Tryz.prog Tryz.f4 false true false false) := by
  refine returnsInHanded_of_change (C := Tryz.checked) own started (by kernel_rfl) Tryz.func4
    (ChangeSpec.witness6 (enc := enc) (C := Tryz.checked) false ⟨#[], #[.agg #[.slice none 0 0, .slice none 0 0], .slice none 0 0], []⟩ 8 (by kernel_rfl) (by kernel_rfl) (by kernel_rfl) (by kernel_rfl)) ?_
  intro W base args ds gs before hval0 hW hcnd _
  have hval : ∀ (j : Nat) t v, Tryz.f4.params[j]? = some t → args[j]? = some v → Value.okWide Tryz.prog W .any base t v := hval0
  have hW' := hW
  obtain ⟨p, q, hA0, hV, rfl, hfz, hnd⟩ := hW
  have hA : DataW.TrodAll enc Tryz.prog W 0 (fun _ => true) true Tryz.f4.params.toList args.toList ds p := hA0
  rw [Tryz.params4] at hA hval
  obtain ⟨v0, vs0, d0, ds0, p0, q0, hargs, rfl, rfl, h0, r0⟩ := trodAll_cons hA
  obtain ⟨v1, vs1, d1, ds1, p1, q1, rfl, rfl, rfl, h1, r1⟩ := trodAll_cons r0
  obtain ⟨rfl, rfl, rfl⟩ := trodAll_nil r1
  obtain rfl : args = #[v0, v1] := by cases args; simp_all
  obtain ⟨rfl, rfl⟩ := trodVars_none hV
  have k0 := h0
  have lt0 : ∀ x ∈ p0, x.block < W.heap.size := by obtain ⟨m, hm⟩ := k0; exact DataW.trod_lt m _ _ _ hm
  have w0 := open0 (hval 0 26 v0 rfl rfl) h0
  have k1 := h1
  have lt1 : ∀ x ∈ p1, x.block < W.heap.size := by obtain ⟨m, hm⟩ := k1; exact DataW.trod_lt m _ _ _ hm
  have w1 := open1 (hval 1 27 v1 rfl rfl) h1
  clear hA0 hval0
  refine (walk v0 v1 W w0 w1).mono fun e W' ⟨he, bel⟩ => ?_
  subst he
  exact ⟨_, rfl, _, _, _, [], _, [], hW', trodAll_mk1 (shut_bool Tryz.underlying4 _), (trodAll_cons_mk (Below.trod laidOut (by kernel_rfl) (of_decide_eq_true (by kernel_rfl)) k0 bel lt0) (trodAll_cons_mk (Below.trod laidOut (by kernel_rfl) (of_decide_eq_true (by kernel_rfl)) k1 bel lt1) trodAll_mk0)), rfl, bel.frame _, fun h => by cases h⟩

theorem over : Rows.storeSoundRow.holds Tryz.pinned (OpenSpec.ofChange Rows.storeSoundSpec) :=
  OpenClaim.holds_of_wide 4 Tryz.f4 rfl rfl rfl rfl rfl rfl rfl ⟨rfl, rfl, rfl, rfl, rfl⟩ rfl rfl rfl rfl rfl (by kernel_rfl) Tryz.func4 (by kernel_rfl)
    (of_decide_eq_true (by kernel_rfl)) (by unfold Func.isWrapper; first | (rw [if_pos (by decide +kernel)]; kernel_rfl) | (rw [if_neg (by decide +kernel)]; exact ⟨rfl, rfl⟩))
    (fun os started H enc _ => lifted os started H enc)

/-- the given statement -/
theorem proved : Rows.StoreSoundSaid := over
#print axioms proved
end Go.Proofs.YtpnpomocjkmncaaGreat.storeSound
