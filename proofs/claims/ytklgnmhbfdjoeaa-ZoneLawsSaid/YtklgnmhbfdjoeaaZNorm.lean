/- What the program's own Norm, Union, Without, Within, Inter, Covers of texts leave. -/
import Derived.Test.YtklgnmhbfdjoeaaZAll
import Derived.Test.YtklgnmhbfdjoeaaZRight
import Derived.Test.YtklgnmhbfdjoeaaTConcat
namespace Go.Proofs.Ytklgnmhbfdjoeaa
open Go.RowKit Plain
set_option linter.unusedVariables false

theorem any_not (xs : List Txt) : (xs.any fun s => !prefixB s) = !xs.all prefixB := by
  rw [List.all_eq_not_any_not, Bool.not_not]
theorem nE_form {xs : List Txt} (h : xs.all prefixB = false) : nE xs = 2 ∧ nV xs = [] := by
  have e : nE xs = 2 := by unfold nE; rw [if_neg (by rw [h]; decide)]
  exact ⟨e, by unfold nV; rw [e]; rfl⟩
theorem nE_all {xs : List Txt} (h : xs.all prefixB = true) (g : allB (least xs) = true) : nE xs = 0 ∧ nV xs = [[]] := by
  have e : nE xs = 0 := by unfold nE; rw [if_pos h, if_pos g]
  exact ⟨e, by unfold nV; rw [e, if_pos rfl, if_pos g]⟩
theorem nE_long {xs : List Txt} (h : xs.all prefixB = true) (g : allB (least xs) = false) (hl : 8 < (least xs).length) : nE xs = 4 ∧ nV xs = [] := by
  have e : nE xs = 4 := by unfold nE; rw [if_pos h, if_neg (by rw [g]; decide), if_pos hl]
  exact ⟨e, by unfold nV; rw [e]; rfl⟩
theorem nE_ok {xs : List Txt} (h : xs.all prefixB = true) (g : allB (least xs) = false) (hl : ¬ 8 < (least xs).length) : nE xs = 0 ∧ nV xs = least xs := by
  have e : nE xs = 0 := by unfold nE; rw [if_pos h, if_neg (by rw [g]; decide), if_neg hl]
  exact ⟨e, by unfold nV; rw [e, if_pos rfl, if_neg (by rw [g]; decide)]⟩
theorem seqT_nil1 (w : World) : SeqT (w.alloc (.cells #[.string (bt [])] 9)) (.slice (some ⟨w.heap.size, 0, none⟩) 1 1) [[]] := SeqT.one w []

set_option maxRecDepth 100000 in
set_option maxHeartbeats 2000000 in
/-- Norm -/
theorem znorm_any {v : Value} {xs : List Txt} {w : World} (hv : SeqT w v xs) (hx : xs.length ≤ 1000000) :
    Calls Try.prog 10 #[v] w (GivesE w (nV xs) (nE xs)) := by
  have K1 := contains_texts hv hx (fun s => !prefixB s) 26 #[] enters26 (fun W x _ => gives26 x W)
  rw [any_not] at K1
  have KH : Hid (∀ q, Calls Try.prog 28 #[v] (w.drewN q) (MadeT (w.drewN q) (least xs))) := Lib.hid fun q => zheads_any (hv.drawn q) hx
  obtain ⟨a, cap, rfl, -⟩ := hv.parts
  have hll := least_len xs
  cases hall : xs.all prefixB with
  | false =>
    obtain ⟨e1, e2⟩ := nE_form hall
    rw [hall] at K1
    rw [e1, e2]
    clear hv hall e1 e2
    go_enter Try.func10, Try.ntmps10
    go_wp2_with fail
    refine K1.mono ?_
    rintro e w' ⟨rfl, q, rfl⟩
    go_wp2_with fail
    go_ret2
    exact ⟨_, rfl, SeqT.nil _, below_drewN (Below.refl _ _) q⟩
  | true =>
    rw [hall] at K1
    have N1 := Lib.hid (nE_all hall)
    have N2 := Lib.hid (nE_long hall)
    have N3 := Lib.hid (nE_ok hall)
    have HR : Hid (Rising (least xs)) := Lib.hid (rising_once _)
    have HA := Lib.hid (apart_least xs)
    clear hv hall
    generalize nE xs = E at *
    generalize nV xs = V at *
    generalize least xs = z at *
    obtain ⟨m, hM⟩ : ∃ m, z.length = m := ⟨_, rfl⟩
    rw [hM] at hll N2 N3
    have LM := Lib.hid hM
    clear hM
    go_enter Try.func10, Try.ntmps10
    go_wp2_with fail
    refine K1.mono ?_
    rintro e w' ⟨rfl, q, rfl⟩
    have K2 := KH.out q
    clear K1
    go_wp2_with fail
    refine K2.mono ?_
    rintro e w2 ⟨v2, rfl, ho, hb⟩
    have G2 : Hid (Below w.heap.size w w2) := Lib.hid ((below_drewN (Below.refl w.heap.size w) q).trans hb)
    have K3 := zall_any ho.seq HR.out HA.out (by rw [LM.out]; omega)
    have HS := Lib.hid ho.seq
    obtain ⟨a2, c2, rfl, g1, g2, -⟩ := ho.at m LM.out
    clear ho hb K2
    cases hb : allB z with
    | true =>
      obtain ⟨rfl, rfl⟩ := N1.out hb
      rw [hb] at K3
      clear hb
      go_wp2_with fail
      refine K3.mono ?_
      rintro e w3 ⟨rfl, hb3⟩
      have G3 : Hid (Below w.heap.size w w3) := Lib.hid (G2.out.trans (hb3.mono G2.out.size))
      have O3 := Lib.hid (seqT_nil1 w3)
      have G4 := Lib.hid (G3.out.alloc G3.out.size (.cells #[.string (bt [])] 9))
      clear hb3 K3
      go_wp2_with fail
      go_ret2
      exact ⟨_, rfl, O3.out, G4.out⟩
    | false =>
      rw [hb] at K3
      by_cases hl : 8 < m
      · obtain ⟨rfl, rfl⟩ := N2.out hb hl
        have hl' : (8 : Int) < (m : Int) := by omega
        clear hb hl
        go_wp2_with fail
        refine K3.mono ?_
        rintro e w3 ⟨rfl, hb3⟩
        have G3 : Hid (Below w.heap.size w w3) := Lib.hid (G2.out.trans (hb3.mono G2.out.size))
        clear hb3 K3
        go_wp2_with fail
        go_ret2
        exact ⟨_, rfl, SeqT.nil _, G3.out⟩
      · obtain ⟨rfl, rfl⟩ := N3.out hb hl
        have hl' : ¬ (8 : Int) < (m : Int) := by omega
        clear hb hl
        go_wp2_with fail
        refine K3.mono ?_
        rintro e w3 ⟨rfl, hb3⟩
        have G3 : Hid (Below w.heap.size w w3) := Lib.hid (G2.out.trans (hb3.mono G2.out.size))
        have O3 := Lib.hid (HS.out.below hb3)
        clear hb3 K3
        go_wp2_with fail
        go_ret2
        exact ⟨_, rfl, O3.out, G3.out⟩
end Go.Proofs.Ytklgnmhbfdjoeaa
