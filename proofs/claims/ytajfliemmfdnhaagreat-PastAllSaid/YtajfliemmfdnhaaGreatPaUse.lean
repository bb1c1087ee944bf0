/- The laws' own function awake (stage 16); what the laws look at of pasts and transactions. -/
import Derived.Test.YtajfliemmfdnhaaGreatPaKeep
import Derived.Test.YtajfliemmfdnhaaGreatPaSnd
import Derived.Test.YtajfliemmfdnhaaGreatPaSin
import Derived.Test.YtajfliemmfdnhaaGreatPaRef
import Derived.Test.YtajfliemmfdnhaaGreatPaPru
import Derived.Deep.Cut
import Derived.Deep.DeepCutAuto
namespace Go.Proofs.YtajfliemmfdnhaaGreat
open Go.RowKit Plain
set_option linter.unusedVariables false

structure PaFit (p : PPast) : Prop where
 floor : p.floor.length ≤ 60
 list : p.list.length ≤ 24
 fit : ∀ t ∈ p.list, FitTx t
theorem pafit_of {p : PPast} (h : paShort p = true) (hok : pastOk p) : PaFit p := by
 unfold paShort shortTx at h
 rw [Bool.and_eq_true, decide_eq_true_iff, Bool.and_eq_true, decide_eq_true_iff] at h
 refine ⟨h.1, h.2.1, fun t ht => fitTx_of ?_ (hok.2 t ht)⟩
 unfold shortTx
 rw [Bool.and_eq_true, List.all_cons, List.all_nil, Bool.and_true]
 exact ⟨rfl, List.all_eq_true.1 h.2.2 t ht⟩
theorem PaFit.deps {p : PPast} (h : PaFit p) : ∀ t ∈ p.list, t.deps.length ≤ 1000000 := fun t ht => (h.fit t ht).w.deps
def paOne : PTxn := ⟨0, 1, [], []⟩
theorem one_err : pErr ⟨[], []⟩ paOne = 0 := by decide +kernel
theorem one_keep : pKeep ⟨[], []⟩ paOne = ⟨[], [paOne]⟩ := by decide +kernel
theorem one_since : sinceList ⟨[], [paOne]⟩ [] = [paOne] := by decide +kernel
theorem one_sinceErr : sinceErr ⟨[], [paOne]⟩ [] = 0 := by decide +kernel
theorem one_end : pEnd ⟨[], [paOne]⟩ = [1] := by decide +kernel
theorem one_sound : pSound ⟨[], [paOne]⟩ = true := by decide +kernel
theorem one_fit : FitTx paOne := ⟨by simp [paOne], by simp [paOne], fun e he => by simp [paOne] at he, ⟨by show intOk 0; unfold intOk; decide, by show intOk 1; unfold intOk; decide, fun n h => by simp [paOne] at h, fun e h => by simp [paOne] at h⟩⟩
theorem one_fits : ∀ t ∈ (⟨[], [paOne]⟩ : PPast).list, FitTx t := fun t ht => by rw [List.mem_singleton.1 ht]; exact one_fit
set_option maxRecDepth 100000 in
set_option maxHeartbeats 16000000 in
theorem paawake_any (w : World) : Calls Tryz.prog 4 #[] w (GivesB w true) := by
 have KK := Lib.hid (pakeep_any (p := ⟨[], []⟩) (t := paOne) (w := w) (v := .agg #[.slice none 0 0, .slice none 0 0]) (tv := .agg #[.int .i64 0, .int .i64 1, .slice none 0 0, .slice none 0 0]) ⟨_, _, rfl, SeqE.nil _, SeqE.nil _⟩ ⟨_, _, rfl, SeqE.nil _, SeqE.nil _⟩ (by simp) (by simp) (fun x hx => by simp at hx) one_fit)
 rw [one_err, one_keep] at KK
 go_enter Tryz.func4, Tryz.ntmps4
 go_upto_region 2 with (go_at_call 9; refine KK.out.mono ?_; rintro e w1 ⟨fa, fn, fc, la, ln, lc, rfl, hf, hl, hb⟩; have PB := Lib.hid (pabox_new (p := ⟨[], [paOne]⟩) hf.new hl.new); have G := Lib.hid (hb.trans (((Below.refl w1.heap.size w1).alloc (Nat.le_refl _) (.cells #[.slice fa fn fc, .slice la ln lc] 26)).mono hb.size)); clear hf hl hb KK)
 generalize (w1.alloc (.cells #[.slice fa fn fc, .slice la ln lc] 26)) = w2 at *
 generalize w1.heap.size = g at *
 have KS := Lib.hid (since_any PB.out.is (SeqI.nil w2) (by simp) (by simp) one_fits)
 rw [one_since, one_sinceErr] at KS
 obtain ⟨c0, c1⟩ := PB.out.c
 go_upto_region 3 with (go_at_call 19; refine KS.out.mono ?_; rintro e w3 ⟨sa, sn, sc, rfl, hs, hb⟩; have PB3 := Lib.hid (PB.out.below hb); have G3 := Lib.hid (G.out.trans (hb.mono G.out.size)); have SN := Lib.hid hs.new.dims.1; clear hs hb KS c0 c1)
 obtain rfl : 1 = sn := SN.out
 have KE := Lib.hid (paend_any PB3.out.is (by simp) (by simp))
 rw [one_end] at KE
 obtain ⟨c0, c1⟩ := PB3.out.c
 go_wp2_with fail
 refine KE.out.mono ?_
 rintro e w4 ⟨v4, rfl, ho, hb⟩
 have PB4 := Lib.hid (PB3.out.below hb)
 have G4 := Lib.hid (G3.out.trans (hb.mono G3.out.size))
 have SE := Lib.hid ho.seq
 obtain ⟨a4, c4, rfl, -, -, -, -⟩ := ho.parts
 clear ho hb KE c0 c1
 have hb5 := (Below.refl w4.heap.size w4).alloc (Nat.le_refl _) (.cells #[.int .i64 1] 3)
 have S1 := Lib.hid (SeqI.one w4 1)
 have KQ := Lib.hid (vc_requal_yes (SE.out.below hb5) S1.out)
 have PB5 := Lib.hid (PB4.out.below hb5)
 have G5 := Lib.hid (G4.out.trans (hb5.mono G4.out.size))
 clear hb5 S1 SE
 go_wp2_with fail
 generalize (w4.alloc (.cells #[.int .i64 1] 3)) = w5 at *
 refine KQ.out.mono ?_
 rintro e w6 ⟨rfl, q, hq⟩
 have hb : Below w5.heap.size w5 w6 := by rw [hq]; exact below_drewN (Below.refl _ _) q
 have PB6 := Lib.hid (PB5.out.below hb)
 have G6 := Lib.hid (G5.out.trans (hb.mono G5.out.size))
 clear hb hq KQ
 have KN := Lib.hid (pasound_any PB6.out.is (by simp) (by simp) one_fits true one_sound)
 obtain ⟨c0, c1⟩ := PB6.out.c
 go_wp2_with fail
 refine KN.out.mono ?_
 rintro e w7 ⟨rfl, hb⟩
 have G7 := Lib.hid (G6.out.trans (hb.mono G6.out.size))
 clear hb KN c0 c1
 go_wp2_with fail
 go_ret
 exact ⟨rfl, G7.out⟩
end Go.Proofs.YtajfliemmfdnhaaGreat
