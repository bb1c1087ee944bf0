/-
  For any past and any two vectors the law PastPruned answers true: pruned to a closed vector a past is sound, its end is the same; and whoever heard that much is told what it was told ahead of it. No condition.
  (The frame was written by the guide's proof-skeleton.mjs, turned for pasts; the walk is ours.)
-/
import Derived.Test.YtajfliemmfdnhaaRows
import Derived.WalkKit
import Derived.ProofKit
import Derived.OpenShut
import Derived.ShutString
import Derived.ChangeOld
import Derived.Below
import Derived.Test.YtajfliemmfdnhaaPaUse
import Derived.Test.YtajfliemmfdnhaaPaClo
import Derived.Test.YtajfliemmfdnhaaPaPru
import Derived.Test.YtajfliemmfdnhaaVcAll
import Derived.Deep.RegionHeld3
import Derived.Deep.DeepCutAuto
namespace Go.Proofs.Ytajfliemmfdnhaa.pastPruned
open Go.ChangeShapes Go.WideShapes Go.ChangeAt Go.RowKit
open Go.ChangeMaps (open_string shut_string)
set_option linter.unusedVariables false

theorem own : ownKnob Try.prog.godebug = none := by kernel_rfl
theorem laidOut : laidOutB Try.prog = true := by kernel_rfl

open Plain

set_option maxRecDepth 100000 in
theorem open0 {H : Type} {enc : TypeId × Value → H} {W : World} {r : Reach} {b : Nat} {v : Value} {d : DataW H} {p : List MemPlace} (hv : Value.okWide Try.prog W r b 26 v) (h : DataW.Trod enc Try.prog W 0 (fun _ => true) true 26 v d p) : IsPastA W v := past_of_trod hv h

set_option maxRecDepth 100000 in
set_option maxHeartbeats 32000000 in
theorem walk (v0 : Value) (a1 : Option Addr) (n1 : Nat) (c1 : Nat) (z1 : List Int) (a2 : Option Addr) (n2 : Nat) (c2 : Nat) (z2 : List Int) (w : World) (w0 : IsPastA w v0) (w1 : IsRow .i64 w a1 n1 c1 z1) (w2 : IsRow .i64 w a2 n2 c2 z2) :
    Calls Try.prog 4 #[v0, .slice a1 n1 c1, .slice a2 n2 c2] w fun e w' => e = .returned (.bool true) ∧ Below w.heap.size w w' := by
  obtain ⟨p, hp, hok⟩ := w0
  obtain ⟨fa, fn, fc, la, ln, lc, hv0, h1, h2⟩ := hp.slices
  subst hv0
  have OKP := Lib.hid hok
  have hb := (Below.refl w.heap.size w).alloc (Nat.le_refl _) (.cells #[.slice fa fn fc, .slice la ln lc] 26)
  have PB := Lib.hid (pabox_new (p := p) h1 h2)
  have HFN := Lib.hid h1.dims
  have HLN := Lib.hid h2.dims
  obtain ⟨tw, stw, ltw, ctw⟩ := row_ints w1
  have ST := Lib.hid (stw.below hb)
  have LST := Lib.hid ltw
  have cto := ctw
  clear w1 stw ltw ctw
  obtain ⟨v, sv, lv, cv⟩ := row_ints w2
  have SV := Lib.hid (sv.below hb)
  have LSV := Lib.hid lv
  clear w2 sv lv
  have G := Lib.hid hb
  clear hp hok hb h1 h2
  go_enter Try.func4, Try.ntmps4
  go_upto_region 1 with fail
  generalize (w.alloc (.cells #[.slice fa fn fc, .slice la ln lc] 26)) = wB at *
  generalize hg0 : w.heap.size = g0 at PB ⊢
  go_wp2_with fail
  refine (paawake_any _).mono ?_
  rintro e u3 ⟨rfl, hb⟩
  replace PB := Lib.hid (PB.out.below hb)
  replace ST := Lib.hid (ST.out.below hb)
  replace SV := Lib.hid (SV.out.below hb)
  replace G := Lib.hid (G.out.trans (hb.mono G.out.size))
  clear hb
  go_upto_region 3 with fail
  obtain ⟨sa, hsa⟩ : ∃ b, b = paShort p := ⟨_, rfl⟩
  have Hsa := Lib.hid hsa
  clear hsa
  have KA := Lib.hid (fun u (hb : Below u3.heap.size u3 u) => paShortR (PB.out.below hb).is sa Hsa.out.symm)
  cases sa
  · have KE : Hid (∀ u, Below u3.heap.size u3 u → Below u3.heap.size u3 u ∧ (u.cell? ⟨g0, 0, none⟩ = some (.slice fa fn fc) ∧ u.cell? ⟨g0, 1, none⟩ = some (.slice la ln lc))) := Lib.hid (fun u hb => ⟨hb, (PB.out.below hb).c⟩)
    refine wp_region_held_drew (S := fun u' => Below u3.heap.size u3 u' ∧ (u'.cell? ⟨g0, 0, none⟩ = some (.slice fa fn fc) ∧ u'.cell? ⟨g0, 1, none⟩ = some (.slice la ln lc))) (by kernel_rfl) ?_ (fun hHeld => ?_)
    · (exact KE.out _ (Below.refl _ _).drew)
    simp only [List.size_toArray, List.length_cons, List.length_nil, Nat.zero_add, Nat.reduceAdd]
    refine tkB (i := 0) hHeld ?_
    refine wpAnyH_ready (rs := [1]) (by kernel_rfl) (by simp) ?_
    refine AllReadyH.cons rfl (fun K hK => ?_) AllReadyH.nil
    go_simp
    refine (KA.out _ hHeld.1).mono ?_
    rintro e s1a ⟨rfl, hb⟩
    refine hK.out _ _ (KE.out _ (holdC hHeld hb)) (fun hHeld => ?_)
    clear hK K hb
    refine tkB (i := 2) hHeld ?_
    refine tkB (i := 3) hHeld ?_
    refine tkS (i := 4) hHeld ?_
    refine tkS (i := 5) hHeld ?_
    refine tkS (i := 6) hHeld ?_
    refine tkB (i := 7) hHeld ?_
    refine tkB (i := 8) hHeld ?_
    refine tkS (i := 9) hHeld ?_
    refine tkS (i := 10) hHeld ?_
    refine tkS (i := 11) hHeld ?_
    refine tkB (i := 12) hHeld ?_
    refine tkB (i := 13) hHeld ?_
    refine tkS (i := 14) hHeld ?_
    refine tkS (i := 15) hHeld ?_
    refine tkS (i := 16) hHeld ?_
    refine tkB (i := 17) hHeld ?_
    refine tkB (i := 18) hHeld ?_
    refine tkS (i := 19) hHeld ?_
    refine tkS (i := 20) hHeld ?_
    refine tkS (i := 21) hHeld ?_
    refine tkS (i := 22) hHeld ?_
    refine tkS (i := 23) hHeld ?_
    refine tkS (i := 24) hHeld ?_
    refine tkS (i := 25) hHeld ?_
    refine tkS (i := 26) hHeld ?_
    refine tkS (i := 27) hHeld ?_
    refine tkS (i := 28) hHeld ?_
    refine tkS (i := 29) hHeld ?_
    refine tkB (i := 30) hHeld ?_
    refine wpAnyH_done (by kernel_rfl) ?_ _
    have hb := hHeld.1
    clear hHeld KE
    replace PB := Lib.hid (PB.out.below hb)
    replace ST := Lib.hid (ST.out.below hb)
    replace SV := Lib.hid (SV.out.below hb)
    replace G := Lib.hid (G.out.trans (hb.mono G.out.size))
    clear hb
    go_wp2_with fail
    go_ret
    first | exact ⟨rfl, G.out⟩ | exact ⟨rfl, hg0 ▸ G.out⟩
  have FP := Lib.hid (pafit_of Hsa.out.symm OKP.out)
  have FL1 : Hid (p.floor.length ≤ 1000) := Lib.hid (by have := FP.out.floor; omega)
  have FL2 : Hid (p.floor.length ≤ 1000000) := Lib.hid (by have := FP.out.floor; omega)
  have FL3 : Hid (p.list.length ≤ 1000000) := Lib.hid (by have := FP.out.list; omega)
  have HN1 := Lib.hid cto
  clear cto
  by_cases h60 : 60 < n1
  · have i60 : (60 : Int) < (n1 : Int) := by omega
    have KE : Hid (∀ u, Below u3.heap.size u3 u → Below u3.heap.size u3 u ∧ (u.cell? ⟨g0, 0, none⟩ = some (.slice fa fn fc) ∧ u.cell? ⟨g0, 1, none⟩ = some (.slice la ln lc))) := Lib.hid (fun u hb => ⟨hb, (PB.out.below hb).c⟩)
    refine wp_region_held_drew (S := fun u' => Below u3.heap.size u3 u' ∧ (u'.cell? ⟨g0, 0, none⟩ = some (.slice fa fn fc) ∧ u'.cell? ⟨g0, 1, none⟩ = some (.slice la ln lc))) (by kernel_rfl) ?_ (fun hHeld => ?_)
    · (exact KE.out _ (Below.refl _ _).drew)
    simp only [List.size_toArray, List.length_cons, List.length_nil, Nat.zero_add, Nat.reduceAdd]
    refine tkB (i := 0) hHeld ?_
    refine wpAnyH_ready (rs := [1]) (by kernel_rfl) (by simp) ?_
    refine AllReadyH.cons rfl (fun K hK => ?_) AllReadyH.nil
    go_simp
    refine (KA.out _ hHeld.1).mono ?_
    rintro e s1a ⟨rfl, hb⟩
    refine hK.out _ _ (KE.out _ (holdC hHeld hb)) (fun hHeld => ?_)
    clear hK K hb
    refine tkB (i := 2) hHeld ?_
    refine tkB (i := 3) hHeld ?_
    refine tkB (i := 4) hHeld ?_
    refine tkB (i := 5) hHeld ?_
    refine tkB (i := 6) hHeld ?_
    refine tkB (i := 7) hHeld ?_
    refine tkB (i := 8) hHeld ?_
    refine tkS (i := 9) hHeld ?_
    refine tkS (i := 10) hHeld ?_
    refine tkS (i := 11) hHeld ?_
    refine tkB (i := 12) hHeld ?_
    refine tkB (i := 13) hHeld ?_
    refine tkS (i := 14) hHeld ?_
    refine tkS (i := 15) hHeld ?_
    refine tkS (i := 16) hHeld ?_
    refine tkB (i := 17) hHeld ?_
    refine tkB (i := 18) hHeld ?_
    refine tkS (i := 19) hHeld ?_
    refine tkS (i := 20) hHeld ?_
    refine tkS (i := 21) hHeld ?_
    refine tkS (i := 22) hHeld ?_
    refine tkS (i := 23) hHeld ?_
    refine tkS (i := 24) hHeld ?_
    refine tkS (i := 25) hHeld ?_
    refine tkS (i := 26) hHeld ?_
    refine tkS (i := 27) hHeld ?_
    refine tkS (i := 28) hHeld ?_
    refine tkS (i := 29) hHeld ?_
    refine tkB (i := 30) hHeld ?_
    refine wpAnyH_done (by kernel_rfl) ?_ _
    have hb := hHeld.1
    clear hHeld KE
    replace PB := Lib.hid (PB.out.below hb)
    replace ST := Lib.hid (ST.out.below hb)
    replace SV := Lib.hid (SV.out.below hb)
    replace G := Lib.hid (G.out.trans (hb.mono G.out.size))
    clear hb
    go_wp2_with fail
    go_ret
    first | exact ⟨rfl, G.out⟩ | exact ⟨rfl, hg0 ▸ G.out⟩
  have i60 : ¬ (60 : Int) < (n1 : Int) := by omega
  have HT60 : Hid (tw.length ≤ 60) := Lib.hid (by have := LST.out; omega)
  by_cases h61 : 60 < n2
  · have i61 : (60 : Int) < (n2 : Int) := by omega
    have KE : Hid (∀ u, Below u3.heap.size u3 u → Below u3.heap.size u3 u ∧ (u.cell? ⟨g0, 0, none⟩ = some (.slice fa fn fc) ∧ u.cell? ⟨g0, 1, none⟩ = some (.slice la ln lc))) := Lib.hid (fun u hb => ⟨hb, (PB.out.below hb).c⟩)
    refine wp_region_held_drew (S := fun u' => Below u3.heap.size u3 u' ∧ (u'.cell? ⟨g0, 0, none⟩ = some (.slice fa fn fc) ∧ u'.cell? ⟨g0, 1, none⟩ = some (.slice la ln lc))) (by kernel_rfl) ?_ (fun hHeld => ?_)
    · (exact KE.out _ (Below.refl _ _).drew)
    simp only [List.size_toArray, List.length_cons, List.length_nil, Nat.zero_add, Nat.reduceAdd]
    refine tkB (i := 0) hHeld ?_
    refine wpAnyH_ready (rs := [1]) (by kernel_rfl) (by simp) ?_
    refine AllReadyH.cons rfl (fun K hK => ?_) AllReadyH.nil
    go_simp
    refine (KA.out _ hHeld.1).mono ?_
    rintro e s1a ⟨rfl, hb⟩
    refine hK.out _ _ (KE.out _ (holdC hHeld hb)) (fun hHeld => ?_)
    clear hK K hb
    refine tkB (i := 2) hHeld ?_
    refine tkB (i := 3) hHeld ?_
    refine tkB (i := 4) hHeld ?_
    refine tkB (i := 5) hHeld ?_
    refine tkB (i := 6) hHeld ?_
    refine tkB (i := 7) hHeld ?_
    refine tkB (i := 8) hHeld ?_
    refine tkB (i := 9) hHeld ?_
    refine tkB (i := 10) hHeld ?_
    refine tkB (i := 11) hHeld ?_
    refine tkB (i := 12) hHeld ?_
    refine tkB (i := 13) hHeld ?_
    refine tkS (i := 14) hHeld ?_
    refine tkS (i := 15) hHeld ?_
    refine tkS (i := 16) hHeld ?_
    refine tkB (i := 17) hHeld ?_
    refine tkB (i := 18) hHeld ?_
    refine tkS (i := 19) hHeld ?_
    refine tkS (i := 20) hHeld ?_
    refine tkS (i := 21) hHeld ?_
    refine tkS (i := 22) hHeld ?_
    refine tkS (i := 23) hHeld ?_
    refine tkS (i := 24) hHeld ?_
    refine tkS (i := 25) hHeld ?_
    refine tkS (i := 26) hHeld ?_
    refine tkS (i := 27) hHeld ?_
    refine tkS (i := 28) hHeld ?_
    refine tkS (i := 29) hHeld ?_
    refine tkB (i := 30) hHeld ?_
    refine wpAnyH_done (by kernel_rfl) ?_ _
    have hb := hHeld.1
    clear hHeld KE
    replace PB := Lib.hid (PB.out.below hb)
    replace ST := Lib.hid (ST.out.below hb)
    replace SV := Lib.hid (SV.out.below hb)
    replace G := Lib.hid (G.out.trans (hb.mono G.out.size))
    clear hb
    go_wp2_with fail
    go_ret
    first | exact ⟨rfl, G.out⟩ | exact ⟨rfl, hg0 ▸ G.out⟩
  have i61 : ¬ (60 : Int) < (n2 : Int) := by omega
  have HV60 : Hid (v.length ≤ 60) := Lib.hid (by have := LSV.out; omega)
  obtain ⟨sd, hsd⟩ : ∃ b, b = pSound p := ⟨_, rfl⟩
  have Hsd := Lib.hid hsd
  clear hsd
  have KS := Lib.hid (fun u (hb : Below u3.heap.size u3 u) => pasound_any (PB.out.below hb).is FL2.out FL3.out FP.out.fit sd Hsd.out.symm)
  cases sd
  · have KE : Hid (∀ u, Below u3.heap.size u3 u → Below u3.heap.size u3 u ∧ (u.cell? ⟨g0, 0, none⟩ = some (.slice fa fn fc) ∧ u.cell? ⟨g0, 1, none⟩ = some (.slice la ln lc))) := Lib.hid (fun u hb => ⟨hb, (PB.out.below hb).c⟩)
    refine wp_region_held_drew (S := fun u' => Below u3.heap.size u3 u' ∧ (u'.cell? ⟨g0, 0, none⟩ = some (.slice fa fn fc) ∧ u'.cell? ⟨g0, 1, none⟩ = some (.slice la ln lc))) (by kernel_rfl) ?_ (fun hHeld => ?_)
    · (exact KE.out _ (Below.refl _ _).drew)
    simp only [List.size_toArray, List.length_cons, List.length_nil, Nat.zero_add, Nat.reduceAdd]
    refine tkB (i := 0) hHeld ?_
    refine wpAnyH_ready (rs := [1]) (by kernel_rfl) (by simp) ?_
    refine AllReadyH.cons rfl (fun K hK => ?_) AllReadyH.nil
    go_simp
    refine (KA.out _ hHeld.1).mono ?_
    rintro e s1a ⟨rfl, hb⟩
    refine hK.out _ _ (KE.out _ (holdC hHeld hb)) (fun hHeld => ?_)
    clear hK K hb
    refine tkB (i := 2) hHeld ?_
    refine tkB (i := 3) hHeld ?_
    refine tkB (i := 4) hHeld ?_
    refine tkB (i := 5) hHeld ?_
    refine tkB (i := 6) hHeld ?_
    refine tkB (i := 7) hHeld ?_
    refine tkB (i := 8) hHeld ?_
    refine tkB (i := 9) hHeld ?_
    refine tkB (i := 10) hHeld ?_
    refine tkB (i := 11) hHeld ?_
    refine tkB (i := 12) hHeld ?_
    refine tkB (i := 13) hHeld ?_
    refine tkB (i := 14) hHeld ?_
    refine wpAnyH_ready (rs := [15]) (by kernel_rfl) (by simp) ?_
    refine AllReadyH.cons rfl (fun K hK => ?_) AllReadyH.nil
    go_simp
    refine (KS.out _ hHeld.1).mono ?_
    rintro e s2a ⟨rfl, hb⟩
    refine hK.out _ _ (KE.out _ (holdC hHeld hb)) (fun hHeld => ?_)
    clear hK K hb
    refine tkB (i := 16) hHeld ?_
    refine tkB (i := 17) hHeld ?_
    refine tkB (i := 18) hHeld ?_
    refine tkS (i := 19) hHeld ?_
    refine tkS (i := 20) hHeld ?_
    refine tkS (i := 21) hHeld ?_
    refine tkS (i := 22) hHeld ?_
    refine tkS (i := 23) hHeld ?_
    refine tkS (i := 24) hHeld ?_
    refine tkS (i := 25) hHeld ?_
    refine tkS (i := 26) hHeld ?_
    refine tkS (i := 27) hHeld ?_
    refine tkS (i := 28) hHeld ?_
    refine tkS (i := 29) hHeld ?_
    refine tkB (i := 30) hHeld ?_
    refine wpAnyH_done (by kernel_rfl) ?_ _
    have hb := hHeld.1
    clear hHeld KE
    replace PB := Lib.hid (PB.out.below hb)
    replace ST := Lib.hid (ST.out.below hb)
    replace SV := Lib.hid (SV.out.below hb)
    replace G := Lib.hid (G.out.trans (hb.mono G.out.size))
    clear hb
    go_wp2_with fail
    go_ret
    first | exact ⟨rfl, G.out⟩ | exact ⟨rfl, hg0 ▸ G.out⟩
  have SD := Lib.hid (pSound_iff.1 Hsd.out.symm)
  have EL : Hid ((pEnd p).length ≤ 1000000) := Lib.hid (by
    have e1 := oEnd_len p.list p.floor
    have e2 := trim_len (oEnd p.floor p.list)
    have := FL1.out
    unfold pEnd
    omega)
  have ML : Hid ((meet tw (pEnd p)).length ≤ 1000000) := Lib.hid (by have := meet_len tw (pEnd p); have := HT60.out; omega)
  have PFL : Hid ((pFloor p tw).length ≤ 1000) := Lib.hid (pFloor_len (m := 1000) FL1.out (by have := HT60.out; omega))
  obtain ⟨sc, hsc⟩ : ∃ b, b = pClosedB p.list (pFloor p tw) := ⟨_, rfl⟩
  have Hsc := Lib.hid hsc
  clear hsc
  have KN := Lib.hid (fun u (hb : Below u3.heap.size u3 u) => paend_any (PB.out.below hb).is FL2.out FL3.out)
  have KM := Lib.hid (fun u ev (hb : Below u3.heap.size u3 u) (he : SeqI u ev (pEnd p)) => vc_meet_any (ST.out.below hb) he (by have := HT60.out; omega) EL.out)
  have KJ : Hid (∀ u ev, Below u3.heap.size u3 u → SeqI u ev (meet tw (pEnd p)) → Calls Try.prog 16 #[.slice fa fn fc, ev] u (MadeI u (pFloor p tw))) := Lib.hid (fun u ev hb he => vc_join_any (seqI_of (PB.out.below hb).f) he FL2.out ML.out)
  have KC : Hid (∀ u ev, Below u3.heap.size u3 u → SeqI u ev (pFloor p tw) → Calls Try.prog 10 #[.slice la ln lc, ev] u (GivesB u sc)) := Lib.hid (fun u ev hb he => by rw [Hsc.out]; exact closed_any (PB.out.below hb).l he FL3.out (by have := PFL.out; omega) FP.out.deps)
  have KE : Hid (∀ u, Below u3.heap.size u3 u → Below u3.heap.size u3 u ∧ (u.cell? ⟨g0, 0, none⟩ = some (.slice fa fn fc) ∧ u.cell? ⟨g0, 1, none⟩ = some (.slice la ln lc))) := Lib.hid (fun u hb => ⟨hb, (PB.out.below hb).c⟩)
  refine wp_region_held_drew (S := fun u' => Below u3.heap.size u3 u' ∧ (u'.cell? ⟨g0, 0, none⟩ = some (.slice fa fn fc) ∧ u'.cell? ⟨g0, 1, none⟩ = some (.slice la ln lc))) (by kernel_rfl) ?_ (fun hHeld => ?_)
  · (exact KE.out _ (Below.refl _ _).drew)
  simp only [List.size_toArray, List.length_cons, List.length_nil, Nat.zero_add, Nat.reduceAdd]
  refine tkB (i := 0) hHeld ?_
  refine wpAnyH_ready (rs := [1]) (by kernel_rfl) (by simp) ?_
  refine AllReadyH.cons rfl (fun K hK => ?_) AllReadyH.nil
  go_simp
  refine (KA.out _ hHeld.1).mono ?_
  rintro e s1a ⟨rfl, hb⟩
  refine hK.out _ _ (KE.out _ (holdC hHeld hb)) (fun hHeld => ?_)
  clear hK K hb
  refine tkB (i := 2) hHeld ?_
  refine tkB (i := 3) hHeld ?_
  refine tkB (i := 4) hHeld ?_
  refine tkB (i := 5) hHeld ?_
  refine tkB (i := 6) hHeld ?_
  refine tkB (i := 7) hHeld ?_
  refine tkB (i := 8) hHeld ?_
  refine tkB (i := 9) hHeld ?_
  refine tkB (i := 10) hHeld ?_
  refine tkB (i := 11) hHeld ?_
  refine tkB (i := 12) hHeld ?_
  refine tkB (i := 13) hHeld ?_
  refine tkB (i := 14) hHeld ?_
  refine wpAnyH_ready (rs := [15]) (by kernel_rfl) (by simp) ?_
  refine AllReadyH.cons rfl (fun K hK => ?_) AllReadyH.nil
  go_simp
  refine (KS.out _ hHeld.1).mono ?_
  rintro e s2a ⟨rfl, hb⟩
  refine hK.out _ _ (KE.out _ (holdC hHeld hb)) (fun hHeld => ?_)
  clear hK K hb
  refine tkB (i := 16) hHeld ?_
  refine tkB (i := 17) hHeld ?_
  refine tkB (i := 18) hHeld ?_
  refine tkB (i := 19) hHeld ?_
  refine tkB (i := 20) hHeld ?_
  refine tkB (i := 21) hHeld ?_
  refine tkB (i := 22) hHeld ?_
  refine tkB (i := 23) hHeld ?_
  refine tkB (i := 24) hHeld ?_
  refine wpAnyH_ready (rs := [25]) (by kernel_rfl) (by simp) ?_
  refine AllReadyH.cons rfl (fun K hK => ?_) AllReadyH.nil
  go_simp
  refine (KN.out _ hHeld.1).mono ?_
  rintro e s3a ⟨v3, rfl, ho, hb⟩; have Q1 := Lib.hid ho.seq; obtain ⟨Q1a, Q1c, rfl, -, -, -, -⟩ := ho.parts; clear ho
  refine hK.out _ _ (KE.out _ (holdC hHeld hb)) (fun hHeld => ?_)
  clear hK K hb
  refine wpAnyH_ready (rs := [26]) (by kernel_rfl) (by simp) ?_
  refine AllReadyH.cons rfl (fun K hK => ?_) AllReadyH.nil
  go_simp
  refine (KM.out _ _ hHeld.1 Q1.out).mono ?_
  rintro e s4a ⟨v4, rfl, ho, hb⟩; have Q2 := Lib.hid ho.seq; obtain ⟨Q2a, Q2c, rfl, -, -, -, -⟩ := ho.parts; clear ho; clear Q1
  refine hK.out _ _ (KE.out _ (holdC hHeld hb)) (fun hHeld => ?_)
  clear hK K hb
  refine wpAnyH_ready (rs := [27]) (by kernel_rfl) (by simp) ?_
  refine AllReadyH.cons rfl (fun K hK => ?_) AllReadyH.nil
  go_simp
  refine (KJ.out _ _ hHeld.1 Q2.out).mono ?_
  rintro e s5a ⟨v5, rfl, ho, hb⟩; have Q3 := Lib.hid ho.seq; obtain ⟨Q3a, Q3c, rfl, -, -, -, -⟩ := ho.parts; clear ho; clear Q2
  refine hK.out _ _ (KE.out _ (holdC hHeld hb)) (fun hHeld => ?_)
  clear hK K hb
  refine wpAnyH_ready (rs := [28]) (by kernel_rfl) (by simp) ?_
  refine AllReadyH.cons rfl (fun K hK => ?_) AllReadyH.nil
  go_simp
  refine (KC.out _ _ hHeld.1 Q3.out).mono ?_
  rintro e s6a ⟨rfl, hb⟩; clear Q3
  refine hK.out _ _ (KE.out _ (holdC hHeld hb)) (fun hHeld => ?_)
  clear hK K hb
  refine tkB (i := 29) hHeld ?_
  refine tkB (i := 30) hHeld ?_
  refine wpAnyH_done (by kernel_rfl) ?_ _
  have hb := hHeld.1
  clear hHeld KE
  replace PB := Lib.hid (PB.out.below hb)
  replace ST := Lib.hid (ST.out.below hb)
  replace SV := Lib.hid (SV.out.below hb)
  replace G := Lib.hid (G.out.trans (hb.mono G.out.size))
  clear hb
  clear KA KS KN KM KJ KC
  cases sc
  · go_wp2_with fail
    go_ret
    first | exact ⟨rfl, G.out⟩ | exact ⟨rfl, hg0 ▸ G.out⟩
  obtain ⟨x0a, x0b⟩ := PB.out.c
  have K := Lib.hid (prune_any PB.out.is ST.out FL1.out FL3.out FP.out.fit (by have := HT60.out; omega))
  go_upto_region 6 with (go_at_call 19; refine K.out.mono ?_; rintro e u4 ⟨qa, qn, qc, ma, mn, mc, rfl, hf, hl, hb⟩; have QB := Lib.hid (pabox_new (p := pPrune p tw) hf.new hl.new); replace hb := hb.trans (((Below.refl u4.heap.size u4).alloc (Nat.le_refl _) (.cells #[.slice qa qn qc, .slice ma mn mc] 26)).mono hb.size); replace PB := Lib.hid (PB.out.below hb); replace ST := Lib.hid (ST.out.below hb); replace SV := Lib.hid (SV.out.below hb); replace G := Lib.hid (G.out.trans (hb.mono G.out.size)); clear hb hf hl K x0a x0b)
  generalize (u4.alloc (.cells #[.slice qa qn qc, .slice ma mn mc] 26)) = u5 at *
  generalize u4.heap.size = g1 at QB ⊢
  have HQL : Hid ((pPrune p tw).list.length ≤ 1000000) := Lib.hid (by have := pLeft_len p.list (pFloor p tw); have := FL3.out; show (pLeft p.list (pFloor p tw)).length ≤ _; omega)
  have HQF : Hid (∀ t ∈ (pPrune p tw).list, FitTx t) := Lib.hid (fun t ht => FP.out.fit t (mem_pLeft.1 ht).1)
  have HQ1 : Hid ((pPrune p tw).floor.length ≤ 1000) := Lib.hid PFL.out
  have HQ2 : Hid ((pPrune p tw).floor.length ≤ 1000000) := Lib.hid (by have := HQ1.out; omega)
  have PS := Lib.hid (pPrune_sound SD.out tw)
  have PUP := Lib.hid (pFloor_up p tw)
  have HQL0 : Hid ((pPrune p tw).list = pLeft p.list (pPrune p tw).floor) := Lib.hid rfl
  have PUP1 : Hid (Within p.floor (pPrune p tw).floor) := Lib.hid (pFloor_up p tw)
  clear PUP
  generalize pPrune p tw = q at *
  have K1 := Lib.hid (fun u (hb : Below u5.heap.size u5 u) => pasound_any (QB.out.below hb).is HQ2.out HQL.out HQF.out true (pSound_iff.2 PS.out.1))
  have K2 := Lib.hid (fun u (hb : Below u5.heap.size u5 u) => paend_any (QB.out.below hb).is HQ2.out HQL.out)
  rw [PS.out.2] at K2
  have K3 := Lib.hid (fun u (hb : Below u5.heap.size u5 u) => paend_any (PB.out.below hb).is FL2.out FL3.out)
  have K4 : Hid (∀ u x y, SeqI u x (pEnd p) → SeqI u y (pEnd p) → Calls Try.prog 20 #[x, y] u (GivesB u true)) := Lib.hid (fun u x y hx hy => (vc_requal_yes hx hy).mono (fun e w' h => ⟨h.1, below_of_drawn h.2⟩))
  have K5 : Hid (∀ u, Below u5.heap.size u5 u → Calls Try.prog 12 #[.slice fa fn fc, .slice qa qn qc] u (GivesB u true)) := Lib.hid (fun u hb => (vc_within_any (seqI_of (PB.out.below hb).f) (seqI_of (QB.out.below hb).f) FL2.out).mono (fun e w' h => ⟨by rw [h.1, Plain.within_true PUP1.out], below_of_same h.2⟩))
  go_upto_region 6 with fail
  have KE : Hid (∀ u, Below u5.heap.size u5 u → Below u5.heap.size u5 u ∧ (u.cell? ⟨g0, 0, none⟩ = some (.slice fa fn fc) ∧ u.cell? ⟨g0, 1, none⟩ = some (.slice la ln lc)) ∧ u.cell? ⟨g1, 0, none⟩ = some (.slice qa qn qc) ∧ u.cell? ⟨g1, 1, none⟩ = some (.slice ma mn mc)) := Lib.hid (fun u hb => ⟨hb, (PB.out.below hb).c, (QB.out.below hb).c⟩)
  refine wp_region_held_drew (S := fun u' => Below u5.heap.size u5 u' ∧ (u'.cell? ⟨g0, 0, none⟩ = some (.slice fa fn fc) ∧ u'.cell? ⟨g0, 1, none⟩ = some (.slice la ln lc)) ∧ u'.cell? ⟨g1, 0, none⟩ = some (.slice qa qn qc) ∧ u'.cell? ⟨g1, 1, none⟩ = some (.slice ma mn mc)) (by kernel_rfl) ?_ (fun hHeld => ?_)
  · (exact KE.out _ (Below.refl _ _).drew)
  simp only [List.size_toArray, List.length_cons, List.length_nil, Nat.zero_add, Nat.reduceAdd]
  refine tkB (i := 0) hHeld ?_
  refine wpAnyH_ready (rs := [1]) (by kernel_rfl) (by simp) ?_
  refine AllReadyH.cons rfl (fun K hK => ?_) AllReadyH.nil
  go_simp
  refine (K1.out _ hHeld.1).mono ?_
  rintro e t1 ⟨rfl, hb⟩
  refine hK.out _ _ (KE.out _ (holdC hHeld hb)) (fun hHeld => ?_)
  clear hK K hb
  refine tkB (i := 2) hHeld ?_
  refine tkB (i := 3) hHeld ?_
  refine tkB (i := 4) hHeld ?_
  refine tkB (i := 6) hHeld ?_
  refine wpAnyH_ready (rs := [5]) (by kernel_rfl) (by simp) ?_
  refine AllReadyH.cons rfl (fun K hK => ?_) AllReadyH.nil
  go_simp
  refine (K2.out _ hHeld.1).mono ?_
  rintro e t2 ⟨v2, rfl, ho, hb⟩; have Q1 := Lib.hid ho.seq; obtain ⟨Q1a, Q1c, rfl, -, -, -, -⟩ := ho.parts; clear ho
  refine hK.out _ _ (KE.out _ (holdC hHeld hb)) (fun hHeld => ?_)
  clear hK K hb
  refine wpAnyH_ready (rs := [7]) (by kernel_rfl) (by simp) ?_
  refine AllReadyH.cons rfl (fun K hK => ?_) AllReadyH.nil
  go_simp
  refine (K3.out _ hHeld.1).mono ?_
  rintro e t3 ⟨v3, rfl, ho, hb⟩; have Q2 := Lib.hid (Q1.out.below hb); clear Q1; have Q3 := Lib.hid ho.seq; obtain ⟨Q3a, Q3c, rfl, -, -, -, -⟩ := ho.parts; clear ho
  refine hK.out _ _ (KE.out _ (holdC hHeld hb)) (fun hHeld => ?_)
  clear hK K hb
  refine wpAnyH_ready (rs := [8]) (by kernel_rfl) (by simp) ?_
  refine AllReadyH.cons rfl (fun K hK => ?_) AllReadyH.nil
  go_simp
  refine (K4.out _ _ _ Q2.out Q3.out).mono ?_
  rintro e t4 ⟨rfl, hb⟩; clear Q2 Q3
  refine hK.out _ _ (KE.out _ (holdC hHeld hb)) (fun hHeld => ?_)
  clear hK K hb
  refine tkB (i := 9) hHeld ?_
  refine tkB (i := 10) hHeld ?_
  refine tkB (i := 11) hHeld ?_
  refine tkB (i := 12) hHeld ?_
  refine tkB (i := 13) hHeld ?_
  refine tkB (i := 14) hHeld ?_
  refine tkB (i := 15) hHeld ?_
  refine wpAnyH_ready (rs := [16]) (by kernel_rfl) (by simp) ?_
  refine AllReadyH.cons rfl (fun K hK => ?_) AllReadyH.nil
  go_simp
  refine (K5.out _ hHeld.1).mono ?_
  rintro e t5 ⟨rfl, hb⟩
  refine hK.out _ _ (KE.out _ (holdC hHeld hb)) (fun hHeld => ?_)
  clear hK K hb
  refine tkB (i := 17) hHeld ?_
  refine tkB (i := 18) hHeld ?_
  refine wpAnyH_done (by kernel_rfl) ?_ _
  have hb := hHeld.1
  clear hHeld KE
  replace PB := Lib.hid (PB.out.below hb)
  replace ST := Lib.hid (ST.out.below hb)
  replace SV := Lib.hid (SV.out.below hb)
  replace QB := Lib.hid (QB.out.below hb)
  replace G := Lib.hid (G.out.trans (hb.mono G.out.size))
  clear hb
  clear K1 K2 K3 K4 K5
  obtain ⟨fb, hfb⟩ : ∃ b, b = within (q.floor) v := ⟨_, rfl⟩
  have HFB := Lib.hid hfb
  clear hfb
  cases fb
  · have EQ : Hid (sinceErr q v = 14) := Lib.hid (by unfold sinceErr; rw [← HFB.out]; rfl)
    obtain ⟨x0a, x0b⟩ := PB.out.c
    have K := Lib.hid (since_any PB.out.is SV.out FL2.out FL3.out FP.out.fit)
    go_wp2_with fail
    refine (K.out).mono ?_
    rintro e u6 ⟨A1a, A1n, A1c, rfl, ho, hb⟩
    have A1 := Lib.hid ho.new
    clear ho K
    replace PB := Lib.hid (PB.out.below hb)
    replace ST := Lib.hid (ST.out.below hb)
    replace SV := Lib.hid (SV.out.below hb)
    replace QB := Lib.hid (QB.out.below hb)
    replace G := Lib.hid (G.out.trans (hb.mono G.out.size))
    clear hb
    clear x0a x0b
    obtain ⟨x0a, x0b⟩ := QB.out.c
    have K := Lib.hid (since_any QB.out.is SV.out HQ2.out HQL.out HQF.out)
    go_wp2_with fail
    refine (K.out).mono ?_
    rintro e u7 ⟨A2a, A2n, A2c, rfl, ho, hb⟩
    have A2 := Lib.hid ho.new
    clear ho K
    replace PB := Lib.hid (PB.out.below hb)
    replace ST := Lib.hid (ST.out.below hb)
    replace SV := Lib.hid (SV.out.below hb)
    replace QB := Lib.hid (QB.out.below hb)
    replace A1 := Lib.hid (A1.out.below hb)
    replace G := Lib.hid (G.out.trans (hb.mono G.out.size))
    clear hb
    clear x0a x0b
    rw [EQ.out]
    generalize sinceErr p v = er at *
    go_wp2_with fail
    go_ret
    first | exact ⟨rfl, G.out⟩ | exact ⟨rfl, hg0 ▸ G.out⟩
  have EQ : Hid (sinceErr q v = 0) := Lib.hid (by unfold sinceErr; rw [← HFB.out]; rfl)
  have WQ : Hid (Within q.floor v) := Lib.hid (Plain.within_iff.1 HFB.out.symm)
  have WP : Hid (within p.floor v = true) := Lib.hid (Plain.within_true fun i => Int.le_trans (PUP1.out i) (WQ.out i))
  have EP : Hid (sinceErr p v = 0) := Lib.hid (by unfold sinceErr; rw [WP.out]; rfl)
  have LP : Hid (sinceList p v = pLeft p.list v) := Lib.hid (by unfold sinceList; rw [WP.out]; rfl)
  have LQ : Hid (sinceList q v = pLeft p.list v) := Lib.hid (by unfold sinceList; rw [← HFB.out, if_pos rfl, HQL0.out]; exact pLeft_two WQ.out)
  have LL : Hid ((pLeft p.list v).length ≤ 1000000) := Lib.hid (by have := pLeft_len p.list v; have := FL3.out; omega)
  obtain ⟨x0a, x0b⟩ := PB.out.c
  have K := Lib.hid (since_any PB.out.is SV.out FL2.out FL3.out FP.out.fit)
  go_wp2_with fail
  refine (K.out).mono ?_
  rintro e u6 ⟨A1a, A1n, A1c, rfl, ho, hb⟩
  have A1 := Lib.hid ho.new
  clear ho K
  replace PB := Lib.hid (PB.out.below hb)
  replace ST := Lib.hid (ST.out.below hb)
  replace SV := Lib.hid (SV.out.below hb)
  replace QB := Lib.hid (QB.out.below hb)
  replace G := Lib.hid (G.out.trans (hb.mono G.out.size))
  clear hb
  clear x0a x0b
  obtain ⟨x0a, x0b⟩ := QB.out.c
  have K := Lib.hid (since_any QB.out.is SV.out HQ2.out HQL.out HQF.out)
  go_wp2_with fail
  refine (K.out).mono ?_
  rintro e u7 ⟨A2a, A2n, A2c, rfl, ho, hb⟩
  have A2 := Lib.hid ho.new
  clear ho K
  replace PB := Lib.hid (PB.out.below hb)
  replace ST := Lib.hid (ST.out.below hb)
  replace SV := Lib.hid (SV.out.below hb)
  replace QB := Lib.hid (QB.out.below hb)
  replace A1 := Lib.hid (A1.out.below hb)
  replace G := Lib.hid (G.out.trans (hb.mono G.out.size))
  clear hb
  clear x0a x0b
  rw [EQ.out, EP.out]
  rw [LP.out] at A1
  rw [LQ.out] at A2
  have K := Lib.hid (sameAllR A1.out A2.out LL.out true (decide_eq_true rfl))
  go_wp2_with fail
  refine (K.out).mono ?_
  rintro e u8 ⟨rfl, hb⟩
  clear K
  replace PB := Lib.hid (PB.out.below hb)
  replace ST := Lib.hid (ST.out.below hb)
  replace SV := Lib.hid (SV.out.below hb)
  replace QB := Lib.hid (QB.out.below hb)
  replace A1 := Lib.hid (A1.out.below hb)
  replace A2 := Lib.hid (A2.out.below hb)
  replace G := Lib.hid (G.out.trans (hb.mono G.out.size))
  clear hb
  go_wp2_with fail
  go_ret
  first | exact ⟨rfl, G.out⟩ | exact ⟨rfl, hg0 ▸ G.out⟩

set_option maxRecDepth 100000 in
theorem lifted (os : Os) (started : os.Started) (H : Type) (enc : TypeId × Value → H) :
    ReturnsInHanded {} Try.checked os 4 .any (Rows.pastPrunedSpec.pre6 enc Try.prog Try.f4 Rows.pastPrunedRow.domain false) (Rows.pastPrunedSpec.post enc Try.prog Try.f4 false true false false) := by
  refine returnsInHanded_of_change (C := Try.checked) own started (by kernel_rfl) Try.func4
    (ChangeSpec.witness6 (enc := enc) (C := Try.checked) false ⟨#[], #[.agg #[.slice none 0 0, .slice none 0 0], .slice none 0 0, .slice none 0 0], []⟩ 8 (by kernel_rfl) (by kernel_rfl) (by kernel_rfl) (by kernel_rfl)) ?_
  intro W base args ds gs before hval0 hW hcnd _
  have hval : ∀ (j : Nat) t v, Try.f4.params[j]? = some t → args[j]? = some v → Value.okWide Try.prog W .any base t v := hval0
  have hW' := hW
  obtain ⟨p, q, hA0, hV, rfl, hfz, hnd⟩ := hW
  have hA : DataW.TrodAll enc Try.prog W 0 (fun _ => true) true Try.f4.params.toList args.toList ds p := hA0
  rw [Try.params4] at hA hval
  obtain ⟨v0, vs0, d0, ds0, p0, q0, hargs, rfl, rfl, h0, r0⟩ := trodAll_cons hA
  obtain ⟨v1, vs1, d1, ds1, p1, q1, rfl, rfl, rfl, h1, r1⟩ := trodAll_cons r0
  obtain ⟨v2, vs2, d2, ds2, p2, q2, rfl, rfl, rfl, h2, r2⟩ := trodAll_cons r1
  obtain ⟨rfl, rfl, rfl⟩ := trodAll_nil r2
  obtain rfl : args = #[v0, v1, v2] := by cases args; simp_all
  obtain ⟨rfl, rfl⟩ := trodVars_none hV
  have k0 := h0
  have lt0 : ∀ x ∈ p0, x.block < W.heap.size := by obtain ⟨m, hm⟩ := k0; exact DataW.trod_lt m _ _ _ hm
  have w0 := open0 (hval 0 26 v0 rfl rfl) h0
  obtain ⟨a1, len1, cap1, rfl⟩ := okWide_slice Try.underlying23 (hval 1 23 v1 rfl rfl)
  have k1 := h1
  have lt1 : ∀ x ∈ p1, x.block < W.heap.size := by obtain ⟨m, hm⟩ := k1; exact DataW.trod_lt m _ _ _ hm
  obtain ⟨z1, w1⟩ : ∃ zs, IsRow .i64 W a1 len1 cap1 zs := by
    obtain ⟨fuel, hf⟩ := h1
    rcases open_ints Try.underlying23 Try.underlying3 (by kernel_rfl) hf with ⟨hcs, _⟩ | ⟨x, l, c, zs, hcs, _, hl, hm, hz, _, hcell, hwz⟩
    · simp [Value.cells] at hcs
      obtain ⟨rfl, rfl, rfl⟩ := hcs
      exact ⟨[], .inl ⟨rfl, rfl, rfl, rfl⟩⟩
    · simp [Value.cells] at hcs
      obtain ⟨rfl, rfl, rfl⟩ := hcs
      exact ⟨zs, .inr ⟨_, rfl, hl, hm, by simpa using hz, hcell, hwz⟩⟩
  obtain ⟨a2, len2, cap2, rfl⟩ := okWide_slice Try.underlying23 (hval 2 23 v2 rfl rfl)
  have k2 := h2
  have lt2 : ∀ x ∈ p2, x.block < W.heap.size := by obtain ⟨m, hm⟩ := k2; exact DataW.trod_lt m _ _ _ hm
  obtain ⟨z2, w2⟩ : ∃ zs, IsRow .i64 W a2 len2 cap2 zs := by
    obtain ⟨fuel, hf⟩ := h2
    rcases open_ints Try.underlying23 Try.underlying3 (by kernel_rfl) hf with ⟨hcs, _⟩ | ⟨x, l, c, zs, hcs, _, hl, hm, hz, _, hcell, hwz⟩
    · simp [Value.cells] at hcs
      obtain ⟨rfl, rfl, rfl⟩ := hcs
      exact ⟨[], .inl ⟨rfl, rfl, rfl, rfl⟩⟩
    · simp [Value.cells] at hcs
      obtain ⟨rfl, rfl, rfl⟩ := hcs
      exact ⟨zs, .inr ⟨_, rfl, hl, hm, by simpa using hz, hcell, hwz⟩⟩
  clear hA0 hval0
  refine (walk v0 a1 len1 cap1 z1 a2 len2 cap2 z2 W w0 w1 w2).mono fun e W' ⟨he, bel⟩ => ?_
  subst he
  exact ⟨_, rfl, _, _, _, [], _, [], hW', trodAll_mk1 (shut_bool Try.underlying4 _), (trodAll_cons_mk (Below.trod laidOut (by kernel_rfl) (of_decide_eq_true (by kernel_rfl)) k0 bel lt0) (trodAll_cons_mk (Below.trod laidOut (by kernel_rfl) (of_decide_eq_true (by kernel_rfl)) k1 bel lt1) (trodAll_cons_mk (Below.trod laidOut (by kernel_rfl) (of_decide_eq_true (by kernel_rfl)) k2 bel lt2) trodAll_mk0))), rfl, bel.frame _, fun h => by cases h⟩

theorem over : Rows.pastPrunedRow.holds Try.pinned (OpenSpec.ofChange Rows.pastPrunedSpec) :=
  OpenClaim.holds_of_wide 4 Try.f4 rfl rfl rfl rfl rfl rfl rfl ⟨rfl, rfl, rfl, rfl, rfl⟩ rfl rfl rfl rfl rfl (by kernel_rfl) Try.func4 (by kernel_rfl)
    (of_decide_eq_true (by kernel_rfl)) (by unfold Func.isWrapper; first | (rw [if_pos (by decide +kernel)]; kernel_rfl) | (rw [if_neg (by decide +kernel)]; exact ⟨rfl, rfl⟩))
    (fun os started H enc _ => lifted os started H enc)

/-- the given statement -/
theorem proved : Rows.PastPrunedSaid := over
#print axioms proved
end Go.Proofs.Ytajfliemmfdnhaa.pastPruned
