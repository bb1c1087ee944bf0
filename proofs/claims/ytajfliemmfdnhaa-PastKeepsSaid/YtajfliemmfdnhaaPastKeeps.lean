/-
  For any past and any vector the law PastKeeps answers true: whoever heard at least what was pruned, and is closed, is told a chain, behind which all that the end has is heard. No condition.
  (The frame was written by the guide's proof-skeleton.mjs, turned for pasts; the walk is ours.)
-/
import Derived.Test.YtajfliemmfdnhaaRows
import Derived.WalkKit
import Derived.ProofKit
import Derived.OpenShut
import Derived.ShutString
import Derived.ChangeOld
import Derived.Below
import Derived.Test.YtajfliemmfdnhaaPaUse
import Derived.Test.YtajfliemmfdnhaaPaClo
import Derived.Test.YtajfliemmfdnhaaPaPru
import Derived.Test.YtajfliemmfdnhaaVcAll
import Derived.Deep.RegionHeld3
import Derived.Deep.DeepCutAuto
namespace Go.Proofs.Ytajfliemmfdnhaa.pastKeeps
open Go.ChangeShapes Go.WideShapes Go.ChangeAt Go.RowKit
open Go.ChangeMaps (open_string shut_string)
set_option linter.unusedVariables false

theorem own : ownKnob Try.prog.godebug = none := by kernel_rfl
theorem laidOut : laidOutB Try.prog = true := by kernel_rfl

open Plain

set_option maxRecDepth 100000 in
theorem open0 {H : Type} {enc : TypeId × Value → H} {W : World} {r : Reach} {b : Nat} {v : Value} {d : DataW H} {p : List MemPlace} (hv : Value.okWide Try.prog W r b 26 v) (h : DataW.Trod enc Try.prog W 0 (fun _ => true) true 26 v d p) : IsPastA W v := past_of_trod hv h

set_option maxRecDepth 100000 in
set_option maxHeartbeats 32000000 in
theorem walk (v0 : Value) (a1 : Option Addr) (n1 : Nat) (c1 : Nat) (z1 : List Int) (w : World) (w0 : IsPastA w v0) (w1 : IsRow .i64 w a1 n1 c1 z1) :
    Calls Try.prog 3 #[v0, .slice a1 n1 c1] w fun e w' => e = .returned (.bool true) ∧ Below w.heap.size w w' := by
  obtain ⟨p, hp, hok⟩ := w0
  obtain ⟨fa, fn, fc, la, ln, lc, hv0, h1, h2⟩ := hp.slices
  subst hv0
  have OKP := Lib.hid hok
  have hb := (Below.refl w.heap.size w).alloc (Nat.le_refl _) (.cells #[.slice fa fn fc, .slice la ln lc] 26)
  have PB := Lib.hid (pabox_new (p := p) h1 h2)
  have HFN := Lib.hid h1.dims
  have HLN := Lib.hid h2.dims
  obtain ⟨v, sv, lv, cv⟩ := row_ints w1
  have SV := Lib.hid (sv.below hb)
  have LSV := Lib.hid lv
  clear w1 sv lv
  have G := Lib.hid hb
  clear hp hok hb h1 h2
  go_enter Try.func3, Try.ntmps3
  go_upto_region 1 with fail
  generalize (w.alloc (.cells #[.slice fa fn fc, .slice la ln lc] 26)) = wB at *
  generalize hg0 : w.heap.size = g0 at PB ⊢
  go_wp2_with fail
  refine (paawake_any _).mono ?_
  rintro e u3 ⟨rfl, hb⟩
  replace PB := Lib.hid (PB.out.below hb)
  replace SV := Lib.hid (SV.out.below hb)
  replace G := Lib.hid (G.out.trans (hb.mono G.out.size))
  clear hb
  obtain ⟨sa, hsa⟩ : ∃ b, b = paShort p := ⟨_, rfl⟩
  have Hsa := Lib.hid hsa
  clear hsa
  obtain ⟨x0a, x0b⟩ := PB.out.c
  have K := Lib.hid (paShortR PB.out.is sa Hsa.out.symm)
  cases sa
  · go_wp2_with fail
    refine (K.out).mono ?_
    rintro e u4 ⟨rfl, hb⟩
    clear K
    replace PB := Lib.hid (PB.out.below hb)
    replace SV := Lib.hid (SV.out.below hb)
    replace G := Lib.hid (G.out.trans (hb.mono G.out.size))
    clear hb
    clear x0a x0b
    go_wp2_with fail
    go_ret
    first | exact ⟨rfl, G.out⟩ | exact ⟨rfl, hg0 ▸ G.out⟩
  go_wp2_with fail
  refine (K.out).mono ?_
  rintro e u4 ⟨rfl, hb⟩
  clear K
  replace PB := Lib.hid (PB.out.below hb)
  replace SV := Lib.hid (SV.out.below hb)
  replace G := Lib.hid (G.out.trans (hb.mono G.out.size))
  clear hb
  clear x0a x0b
  have FP := Lib.hid (pafit_of Hsa.out.symm OKP.out)
  have FL1 : Hid (p.floor.length ≤ 1000) := Lib.hid (by have := FP.out.floor; omega)
  have FL2 : Hid (p.floor.length ≤ 1000000) := Lib.hid (by have := FP.out.floor; omega)
  have FL3 : Hid (p.list.length ≤ 1000000) := Lib.hid (by have := FP.out.list; omega)
  by_cases h60 : 60 < n1
  · have i60 : (60 : Int) < (n1 : Int) := by omega
    go_wp2_with fail
    go_ret
    first | exact ⟨rfl, G.out⟩ | exact ⟨rfl, hg0 ▸ G.out⟩
  have i60 : ¬ (60 : Int) < (n1 : Int) := by omega
  have HV60 : Hid (v.length ≤ 60) := Lib.hid (by have := LSV.out; omega)
  obtain ⟨sd, hsd⟩ : ∃ b, b = pSound p := ⟨_, rfl⟩
  have Hsd := Lib.hid hsd
  clear hsd
  obtain ⟨x0a, x0b⟩ := PB.out.c
  have K := Lib.hid (pasound_any PB.out.is FL2.out FL3.out FP.out.fit sd Hsd.out.symm)
  cases sd
  · go_wp2_with fail
    refine (K.out).mono ?_
    rintro e u5 ⟨rfl, hb⟩
    clear K
    replace PB := Lib.hid (PB.out.below hb)
    replace SV := Lib.hid (SV.out.below hb)
    replace G := Lib.hid (G.out.trans (hb.mono G.out.size))
    clear hb
    clear x0a x0b
    go_wp2_with fail
    go_ret
    first | exact ⟨rfl, G.out⟩ | exact ⟨rfl, hg0 ▸ G.out⟩
  go_wp2_with fail
  refine (K.out).mono ?_
  rintro e u5 ⟨rfl, hb⟩
  clear K
  replace PB := Lib.hid (PB.out.below hb)
  replace SV := Lib.hid (SV.out.below hb)
  replace G := Lib.hid (G.out.trans (hb.mono G.out.size))
  clear hb
  clear x0a x0b
  have SD := Lib.hid (pSound_iff.1 Hsd.out.symm)
  obtain ⟨sc, hsc⟩ : ∃ b, b = pClosedB p.list v := ⟨_, rfl⟩
  have Hsc := Lib.hid hsc
  clear hsc
  obtain ⟨x0a, x0b⟩ := PB.out.c
  have K := Lib.hid (closedR PB.out.l SV.out FL3.out (by have := HV60.out; omega) FP.out.deps sc Hsc.out.symm)
  cases sc
  · go_wp2_with fail
    refine (K.out).mono ?_
    rintro e u6 ⟨rfl, hb⟩
    clear K
    replace PB := Lib.hid (PB.out.below hb)
    replace SV := Lib.hid (SV.out.below hb)
    replace G := Lib.hid (G.out.trans (hb.mono G.out.size))
    clear hb
    clear x0a x0b
    go_wp2_with fail
    go_ret
    first | exact ⟨rfl, G.out⟩ | exact ⟨rfl, hg0 ▸ G.out⟩
  go_wp2_with fail
  refine (K.out).mono ?_
  rintro e u6 ⟨rfl, hb⟩
  clear K
  replace PB := Lib.hid (PB.out.below hb)
  replace SV := Lib.hid (SV.out.below hb)
  replace G := Lib.hid (G.out.trans (hb.mono G.out.size))
  clear hb
  clear x0a x0b
  obtain ⟨fb, hfb⟩ : ∃ b, b = within p.floor v := ⟨_, rfl⟩
  have HFB := Lib.hid hfb
  clear hfb
  cases fb
  · have EQ : Hid (sinceErr p v = 14) := Lib.hid (by unfold sinceErr; rw [← HFB.out]; rfl)
    obtain ⟨x0a, x0b⟩ := PB.out.c
    have K := Lib.hid (since_any PB.out.is SV.out FL2.out FL3.out FP.out.fit)
    go_wp2_with fail
    refine (K.out).mono ?_
    rintro e u7 ⟨A1a, A1n, A1c, rfl, ho, hb⟩
    have A1 := Lib.hid ho.new
    clear ho K
    replace PB := Lib.hid (PB.out.below hb)
    replace SV := Lib.hid (SV.out.below hb)
    replace G := Lib.hid (G.out.trans (hb.mono G.out.size))
    clear hb
    clear x0a x0b
    rw [EQ.out]
    clear EQ
    obtain ⟨x0a, x0b⟩ := PB.out.c
    have K := Lib.hid (vc_within_any (seqI_of PB.out.f) SV.out FL2.out)
    rw [← HFB.out] at K
    go_wp2_with fail
    refine (K.out).mono ?_
    rintro e u8 ⟨rfl, hw⟩
    have hb := below_of_same hw
    clear hw K
    replace PB := Lib.hid (PB.out.below hb)
    replace SV := Lib.hid (SV.out.below hb)
    replace A1 := Lib.hid (A1.out.below hb)
    replace G := Lib.hid (G.out.trans (hb.mono G.out.size))
    clear hb
    clear x0a x0b
    go_wp2_with fail
    go_ret
    first | exact ⟨rfl, G.out⟩ | exact ⟨rfl, hg0 ▸ G.out⟩
  have EP : Hid (sinceErr p v = 0) := Lib.hid (by unfold sinceErr; rw [← HFB.out]; rfl)
  have LP : Hid (sinceList p v = pLeft p.list v) := Lib.hid (by unfold sinceList; rw [← HFB.out]; rfl)
  have PK := Lib.hid (pKeeps SD.out (Plain.within_iff.1 HFB.out.symm))
  have LL : Hid ((pLeft p.list v).length ≤ 1000000) := Lib.hid (by have := pLeft_len p.list v; have := FL3.out; omega)
  have LF : Hid (∀ t ∈ pLeft p.list v, FitW t) := Lib.hid (fun t ht => (FP.out.fit t (mem_pLeft.1 ht).1).w)
  obtain ⟨x0a, x0b⟩ := PB.out.c
  have K := Lib.hid (since_any PB.out.is SV.out FL2.out FL3.out FP.out.fit)
  go_wp2_with fail
  refine (K.out).mono ?_
  rintro e u7 ⟨A1a, A1n, A1c, rfl, ho, hb⟩
  have A1 := Lib.hid ho.new
  clear ho K
  replace PB := Lib.hid (PB.out.below hb)
  replace SV := Lib.hid (SV.out.below hb)
  replace G := Lib.hid (G.out.trans (hb.mono G.out.size))
  clear hb
  clear x0a x0b
  rw [EP.out]
  rw [LP.out] at A1
  clear EP LP
  generalize pLeft p.list v = l at *
  have DL := Lib.hid A1.out.dims
  have K := Lib.hid (chainP_any SV.out A1.out LL.out LF.out (by have := HV60.out; omega))
  rw [PK.out.1] at K
  go_wp2_with fail
  refine (K.out).mono ?_
  rintro e u8 ⟨rfl, hb⟩
  clear K
  replace PB := Lib.hid (PB.out.below hb)
  replace SV := Lib.hid (SV.out.below hb)
  replace A1 := Lib.hid (A1.out.below hb)
  replace G := Lib.hid (G.out.trans (hb.mono G.out.size))
  clear hb
  have i1 : (A1n : Int) ≤ A1c := by have := DL.out; omega
  have i2 : (A1c : Int) ≤ 9223372036854775807 := by have := DL.out; omega
  go_wp2_with fail
  go_loopw [7, 8] (fun s7 i wr => ∃ (k : Nat) (u : Ints), k ≤ A1n ∧ i = .int .i64 k ∧ SeqI wr s7 u ∧ Aside (u = oEnd v (l.take k) ∧ u.length ≤ 1000000 ∧ Below u8.heap.size u8 wr)) (fun _ i _ => A1n - (intOf i).toNat)
  case atStart => exact ⟨0, v, Nat.zero_le _, rfl, SV.out, rfl, by have := HV60.out; omega, Below.refl _ _⟩
  case round =>
    obtain ⟨k, u, hk, rfl, hs, hrel⟩ := hrel
    obtain ⟨h2, h3, h4⟩ := Aside.out hrel
    have C2 := Lib.hid h2
    have C3 := Lib.hid h3
    have GB := Lib.hid h4
    have SU := Lib.hid hs
    obtain ⟨ua, uc, rfl, -, -, -, -⟩ := hs.parts
    clear hrel h2 h3 h4 hs
    by_cases hlt : k < A1n
    · have hkl : k < l.length := by rw [DL.out.1]; exact hlt
      obtain ⟨lb, lo, rfl, hc⟩ := txns_at A1.out (by omega)
      obtain ⟨da, dn, dc, ea, en, ec, hW⟩ := hc k hlt
      have GO : Hid (oNext u (otx l k) = oEnd v (l.take (k + 1))) := Lib.hid (by rw [C2.out]; exact end_go hkl)
      have NL : Hid ((oNext u (otx l k)).length ≤ 1000000) := Lib.hid (by have := oNext_len u (otx l k); have := C3.out; omega)
      have KN := Lib.hid (onextP_any SU.out (hW wr GB.out).2 C3.out)
      obtain ⟨c0, c1, c2, c3⟩ := (hW wr GB.out).1
      have k1 : (k : Int) < A1n := by omega
      clear hc hW hkl
      generalize otx l k = t at *
      go_wp2_with fail
      refine KN.out.mono ?_
      rintro e w3 ⟨v3, rfl, ho3, hb3⟩
      have S3 := Lib.hid ho3.seq
      have H3 := Lib.hid (GB.out.trans (hb3.mono GB.out.size))
      clear ho3 hb3 KN c0 c1 c2 c3
      go_wp2_with fail
      go_roundw
      case rel => exact ⟨k + 1, _, by omega, by go_num, S3.out, GO.out, NL.out, H3.out⟩
      case measure => simp [intOf]; omega
    · obtain rfl : k = A1n := by omega
      have UE : Hid (u = oEnd v l) := Lib.hid (by rw [C2.out]; congr 1; exact List.take_of_length_le (by have := DL.out.1; omega))
      have hb := GB.out
      replace PB := Lib.hid (PB.out.below hb)
      replace SV := Lib.hid (SV.out.below hb)
      replace A1 := Lib.hid (A1.out.below hb)
      replace G := Lib.hid (G.out.trans (hb.mono G.out.size))
      clear hb
      obtain ⟨x0a, x0b⟩ := PB.out.c
      have K := Lib.hid (paend_any PB.out.is FL2.out FL3.out)
      go_wp2_with fail
      refine (K.out).mono ?_
      rintro e u9 ⟨ev, rfl, ho, hb⟩
      have SE := Lib.hid ho.seq
      replace SU := Lib.hid (SU.out.below hb)
      obtain ⟨ea, ec, rfl, -, -, -, -⟩ := ho.parts
      clear ho K
      replace PB := Lib.hid (PB.out.below hb)
      replace SV := Lib.hid (SV.out.below hb)
      replace A1 := Lib.hid (A1.out.below hb)
      replace G := Lib.hid (G.out.trans (hb.mono G.out.size))
      clear hb
      clear x0a x0b
      have EL : Hid ((pEnd p).length ≤ 1000000) := Lib.hid (by
        have e1 := oEnd_len p.list p.floor
        have e2 := trim_len (oEnd p.floor p.list)
        have := FL1.out
        unfold pEnd
        omega)
      have K := Lib.hid (vc_join_any SV.out SE.out (by have := HV60.out; omega) EL.out)
      go_wp2_with fail
      refine (K.out).mono ?_
      rintro e u10 ⟨jv, rfl, ho, hb⟩
      have SJ := Lib.hid ho.seq
      replace SU := Lib.hid (SU.out.below hb)
      obtain ⟨ja, jc, rfl, -, -, -, -⟩ := ho.parts
      clear ho K
      replace PB := Lib.hid (PB.out.below hb)
      replace SV := Lib.hid (SV.out.below hb)
      replace A1 := Lib.hid (A1.out.below hb)
      replace G := Lib.hid (G.out.trans (hb.mono G.out.size))
      clear hb
      have JL : Hid ((join v (pEnd p)).length ≤ 1000000) := Lib.hid (by have := join_len v (pEnd p); have := EL.out; have := HV60.out; omega)
      have K := Lib.hid (vc_rsame_any true ⟨fun _ i => by rw [UE.out]; exact PK.out.2 i, fun _ => rfl⟩ SU.out SJ.out C3.out JL.out)
      go_wp2_with fail
      refine (K.out).mono ?_
      rintro e u11 ⟨rfl, hw⟩
      have hb := below_of_same hw
      clear hw K
      replace PB := Lib.hid (PB.out.below hb)
      replace SV := Lib.hid (SV.out.below hb)
      replace A1 := Lib.hid (A1.out.below hb)
      replace G := Lib.hid (G.out.trans (hb.mono G.out.size))
      clear hb
      go_wp2_with fail
      go_ret
      first | exact ⟨rfl, G.out⟩ | exact ⟨rfl, hg0 ▸ G.out⟩

set_option maxRecDepth 100000 in
theorem lifted (os : Os) (started : os.Started) (H : Type) (enc : TypeId × Value → H) :
    ReturnsInHanded {} Try.checked os 3 .any (Rows.pastKeepsSpec.pre6 enc Try.prog Try.f3 Rows.pastKeepsRow.domain false) (Rows.pastKeepsSpec.post enc Try.prog Try.f3 false true false false) := by
  refine returnsInHanded_of_change (C := Try.checked) own started (by kernel_rfl) Try.func3
    (ChangeSpec.witness6 (enc := enc) (C := Try.checked) false ⟨#[], #[.agg #[.slice none 0 0, .slice none 0 0], .slice none 0 0], []⟩ 8 (by kernel_rfl) (by kernel_rfl) (by kernel_rfl) (by kernel_rfl)) ?_
  intro W base args ds gs before hval0 hW hcnd _
  have hval : ∀ (j : Nat) t v, Try.f3.params[j]? = some t → args[j]? = some v → Value.okWide Try.prog W .any base t v := hval0
  have hW' := hW
  obtain ⟨p, q, hA0, hV, rfl, hfz, hnd⟩ := hW
  have hA : DataW.TrodAll enc Try.prog W 0 (fun _ => true) true Try.f3.params.toList args.toList ds p := hA0
  rw [Try.params3] at hA hval
  obtain ⟨v0, vs0, d0, ds0, p0, q0, hargs, rfl, rfl, h0, r0⟩ := trodAll_cons hA
  obtain ⟨v1, vs1, d1, ds1, p1, q1, rfl, rfl, rfl, h1, r1⟩ := trodAll_cons r0
  obtain ⟨rfl, rfl, rfl⟩ := trodAll_nil r1
  obtain rfl : args = #[v0, v1] := by cases args; simp_all
  obtain ⟨rfl, rfl⟩ := trodVars_none hV
  have k0 := h0
  have lt0 : ∀ x ∈ p0, x.block < W.heap.size := by obtain ⟨m, hm⟩ := k0; exact DataW.trod_lt m _ _ _ hm
  have w0 := open0 (hval 0 26 v0 rfl rfl) h0
  obtain ⟨a1, len1, cap1, rfl⟩ := okWide_slice Try.underlying23 (hval 1 23 v1 rfl rfl)
  have k1 := h1
  have lt1 : ∀ x ∈ p1, x.block < W.heap.size := by obtain ⟨m, hm⟩ := k1; exact DataW.trod_lt m _ _ _ hm
  obtain ⟨z1, w1⟩ : ∃ zs, IsRow .i64 W a1 len1 cap1 zs := by
    obtain ⟨fuel, hf⟩ := h1
    rcases open_ints Try.underlying23 Try.underlying3 (by kernel_rfl) hf with ⟨hcs, _⟩ | ⟨x, l, c, zs, hcs, _, hl, hm, hz, _, hcell, hwz⟩
    · simp [Value.cells] at hcs
      obtain ⟨rfl, rfl, rfl⟩ := hcs
      exact ⟨[], .inl ⟨rfl, rfl, rfl, rfl⟩⟩
    · simp [Value.cells] at hcs
      obtain ⟨rfl, rfl, rfl⟩ := hcs
      exact ⟨zs, .inr ⟨_, rfl, hl, hm, by simpa using hz, hcell, hwz⟩⟩
  clear hA0 hval0
  refine (walk v0 a1 len1 cap1 z1 W w0 w1).mono fun e W' ⟨he, bel⟩ => ?_
  subst he
  exact ⟨_, rfl, _, _, _, [], _, [], hW', trodAll_mk1 (shut_bool Try.underlying4 _), (trodAll_cons_mk (Below.trod laidOut (by kernel_rfl) (of_decide_eq_true (by kernel_rfl)) k0 bel lt0) (trodAll_cons_mk (Below.trod laidOut (by kernel_rfl) (of_decide_eq_true (by kernel_rfl)) k1 bel lt1) trodAll_mk0)), rfl, bel.frame _, fun h => by cases h⟩

theorem over : Rows.pastKeepsRow.holds Try.pinned (OpenSpec.ofChange Rows.pastKeepsSpec) :=
  OpenClaim.holds_of_wide 3 Try.f3 rfl rfl rfl rfl rfl rfl rfl ⟨rfl, rfl, rfl, rfl, rfl⟩ rfl rfl rfl rfl rfl (by kernel_rfl) Try.func3 (by kernel_rfl)
    (of_decide_eq_true (by kernel_rfl)) (by unfold Func.isWrapper; first | (rw [if_pos (by decide +kernel)]; kernel_rfl) | (rw [if_neg (by decide +kernel)]; exact ⟨rfl, rfl⟩))
    (fun os started H enc _ => lifted os started H enc)

/-- the given statement -/
theorem proved : Rows.PastKeepsSaid := over
#print axioms proved
end Go.Proofs.Ytajfliemmfdnhaa.pastKeeps
