/- What the document's own Inter of texts leaves. -/
import Derived.Test.YtklgnmhbfdjoeaaRefI
namespace Go.Proofs.Ytklgnmhbfdjoeaa
open Go.RowKit Plain
set_option linter.unusedVariables false

set_option maxRecDepth 100000 in
set_option maxHeartbeats 8000000 in
/-- Inter -/
theorem rinter_any {u v : Value} {xs ys : List Txt} {w : World} (hu : SeqT w u xs) (hv : SeqT w v ys) (hx : FitT xs) (hy : FitT ys) (hn : xs.length ≤ 400000) (hm : ys.length ≤ 400000) :
    Calls Try.prog 16 #[u, v] w (MadeT w (inter xs ys)) := by
  obtain ⟨a, cap, rfl, g1, g2, g0, h⟩ := hu.parts
  obtain ⟨a', cap', rfl, e1, e2, -, h'⟩ := hv.parts
  have HW := Lib.hid (show inter xs ys = once (pick (covers ys) xs xs.length ++ pick (covers xs) ys ys.length) by rw [pick_all, pick_all]; rfl)
  have hmx : maxLen = 9223372036854775807 := rfl
  rw [hmx] at g2 e2
  rw [HW.out]
  obtain ⟨f, hf⟩ : ∃ f : Txt → Bool, covers ys = f := ⟨_, rfl⟩
  obtain ⟨g, hg⟩ : ∃ g : Txt → Bool, covers xs = g := ⟨_, rfl⟩
  rw [hf, hg]
  obtain ⟨n, hN⟩ : ∃ n, xs.length = n := ⟨_, rfl⟩
  obtain ⟨m, hM⟩ : ∃ m, ys.length = m := ⟨_, rfl⟩
  rw [hN] at h g1 hn ⊢
  rw [hM] at h' e1 hm ⊢
  have HS := Lib.hid h
  have HS' := Lib.hid h'
  have KC := Lib.hid (fun (k : Nat) (hk : k < xs.length) (W : World) (hb : Below w.heap.size w W) => (rcovers_any (h'.below hb) hy (by omega) (xs.getD k []) (hx.at k hk)))
  have KD := Lib.hid (fun (k : Nat) (hk : k < ys.length) (W : World) (hb : Below w.heap.size w W) => (rcovers_any (h.below hb) hx (by omega) (ys.getD k []) (hy.at k hk)))
  have HF := Lib.hid (fun s => (congrFun hf s).symm)
  have HG := Lib.hid (fun s => (congrFun hg s).symm)
  have LN := Lib.hid hN
  have LM := Lib.hid hM
  clear hu hv h h' g0 hmx hx hy hf hg hN hM HW
  go_enter Try.func16, Try.ntmps16
  go_wp2_with fail
  go_loopw [5, 6] (fun o i wr => ∃ k : Nat, k ≤ n ∧ i = .int .i64 k ∧ OwnsT w.heap.size wr o (pick f xs k) ∧ Below w.heap.size w wr) (fun _ i _ => n - (intOf i).toNat)
  case atStart => exact ⟨0, Nat.zero_le _, rfl, OwnsT.nil _ _, Below.refl _ _⟩
  case round =>
    obtain ⟨k, hk, rfl, ho, hb⟩ := hrel
    have HO := Lib.hid ho
    have HB := Lib.hid hb
    have PL := pick_len f xs k
    clear ho hb
    by_cases hlt : k < n
    · have HK := Lib.hid (show k < xs.length by rw [LN.out]; exact hlt)
      obtain ⟨b, o, c, hv, -, -, -, hc⟩ := (HS.out.below HB.out).spot (by rw [LN.out]; omega)
      rw [LN.out] at hv
      simp only [Value.slice.injEq] at hv
      obtain ⟨rfl, -, rfl⟩ := hv
      have c1 := hc k HK.out
      unfold tv at c1
      clear hc
      have K := KC.out k HK.out wr HB.out
      have hff := HF.out (xs.getD k [])
      have S1 := Lib.hid (fun (W : World) => SeqT.one W (xs.getD k []))
      unfold tv at S1
      have PY := Lib.hid (fun h => pick_yes (f := f) HK.out h)
      have PN := Lib.hid (fun h => pick_no (f := f) HK.out h)
      generalize xs.getD k [] = x at *
      cases hcv : covers ys x with
      | true =>
        rw [hcv] at K hff
        have HP := Lib.hid (PY.out hff)
        clear hcv hff PY PN
        generalize bt x = X at *
        go_wp2_with fail
        refine K.mono ?_
        rintro e w' ⟨rfl, q, rfl⟩
        have O1 := Lib.hid (HO.out.below (below_drewN (Below.refl _ _) q) (Nat.le_refl _))
        have G1 := Lib.hid (below_drewN HB.out q)
        have S2 := Lib.hid (show SeqT ((wr.drewN q).alloc (.cells #[.string X] 9)) (.slice (some ⟨wr.heap.size, 0, none⟩) 1 1) [x] from S1.out (wr.drewN q))
        clear K
        go_wp2_with (at_builtin; refine wpList_append_texts rfl (.tmp 20) (.tmp 25) rfl w.heap.size rfl (O1.out.alloc _) rfl S2.out (by simp; omega) (by have := HB.out.size; simp; omega) ?_)
        intro v' w1 ho' hgr _
        have O2 := Lib.hid ho'
        have G2 : Hid (Below w.heap.size w w1) := Lib.hid ((G1.out.alloc G1.out.size _).grown hgr (by have := HB.out.size; simp; omega) (fun j hj => (O1.out.lt j hj).1))
        clear ho' hgr
        rw [HP.out] at O2
        go_wp2_with fail
        go_roundw
        case rel => exact ⟨k + 1, by omega, by go_num, O2.out, G2.out⟩
        case measure => simp [intOf]; omega
      | false =>
        rw [hcv] at K hff
        have HP := Lib.hid (PN.out hff)
        clear hcv hff PY PN
        generalize bt x = X at *
        go_wp2_with fail
        refine K.mono ?_
        rintro e w' ⟨rfl, q, rfl⟩
        have O2 := Lib.hid (HO.out.below (below_drewN (Below.refl _ _) q) (Nat.le_refl _))
        have G2 := Lib.hid (below_drewN HB.out q)
        rw [HP.out] at O2
        go_wp2_with fail
        go_roundw
        case rel => exact ⟨k + 1, by omega, by go_num, O2.out, G2.out⟩
        case measure => simp [intOf]; omega
    · obtain rfl : k = n := by omega
      have PLn := PL
      generalize pick f xs k = p at *
      have HO0 := HO
      have HB0 := HB
      clear HO HB PL
      go_wp2_with fail
      go_loopw [5, 7] (fun o i wr => ∃ j : Nat, j ≤ m ∧ i = .int .i64 j ∧ OwnsT w.heap.size wr o (p ++ pick g ys j) ∧ Below w.heap.size w wr) (fun _ i _ => m - (intOf i).toNat)
      case atStart => exact ⟨0, Nat.zero_le _, rfl, by rw [pick_zero, List.append_nil]; exact HO0.out, HB0.out⟩
      case round =>
        clear HO0 HB0 hlt hk
        obtain ⟨k, hk, rfl, ho, hb⟩ := hrel
        have HO := Lib.hid ho
        have HB := Lib.hid hb
        have PL := pick_len g ys k
        clear ho hb
        by_cases hlt : k < m
        · have HK := Lib.hid (show k < ys.length by rw [LM.out]; exact hlt)
          obtain ⟨b, o, c, hv, -, -, -, hc⟩ := (HS'.out.below HB.out).spot (by rw [LM.out]; omega)
          rw [LM.out] at hv
          simp only [Value.slice.injEq] at hv
          obtain ⟨rfl, -, rfl⟩ := hv
          have c1 := hc k HK.out
          unfold tv at c1
          clear hc
          have K := KD.out k HK.out wr HB.out
          have hff := HG.out (ys.getD k [])
          have S1 := Lib.hid (fun (W : World) => SeqT.one W (ys.getD k []))
          unfold tv at S1
          have PY := Lib.hid (fun h => pick_yes (f := g) HK.out h)
          have PN := Lib.hid (fun h => pick_no (f := g) HK.out h)
          generalize ys.getD k [] = x at *
          cases hcv : covers xs x with
          | true =>
            rw [hcv] at K hff
            have HP := Lib.hid (PY.out hff)
            clear hcv hff PY PN
            generalize bt x = X at *
            go_wp2_with fail
            refine K.mono ?_
            rintro e w' ⟨rfl, q, rfl⟩
            have O1 := Lib.hid (HO.out.below (below_drewN (Below.refl _ _) q) (Nat.le_refl _))
            have G1 := Lib.hid (below_drewN HB.out q)
            have S2 := Lib.hid (show SeqT ((wr.drewN q).alloc (.cells #[.string X] 9)) (.slice (some ⟨wr.heap.size, 0, none⟩) 1 1) [x] from S1.out (wr.drewN q))
            clear K
            go_wp2_with (at_builtin; refine wpList_append_texts rfl (.tmp 39) (.tmp 44) rfl w.heap.size rfl (O1.out.alloc _) rfl S2.out (by simp; omega) (by have := HB.out.size; simp; omega) ?_)
            intro v' w1 ho' hgr _
            have O2 := Lib.hid ho'
            have G2 : Hid (Below w.heap.size w w1) := Lib.hid ((G1.out.alloc G1.out.size _).grown hgr (by have := HB.out.size; simp; omega) (fun j hj => (O1.out.lt j hj).1))
            clear ho' hgr
            rw [HP.out] at O2
            go_wp2_with fail
            go_roundw
            case rel => exact ⟨k + 1, by omega, by go_num, O2.out, G2.out⟩
            case measure => simp [intOf]; omega
          | false =>
            rw [hcv] at K hff
            have HP := Lib.hid (PN.out hff)
            clear hcv hff PY PN
            generalize bt x = X at *
            go_wp2_with fail
            refine K.mono ?_
            rintro e w' ⟨rfl, q, rfl⟩
            have O2 := Lib.hid (HO.out.below (below_drewN (Below.refl _ _) q) (Nat.le_refl _))
            have G2 := Lib.hid (below_drewN HB.out q)
            rw [HP.out] at O2
            go_wp2_with fail
            go_roundw
            case rel => exact ⟨k + 1, by omega, by go_num, O2.out, G2.out⟩
            case measure => simp [intOf]; omega
        · obtain rfl : k = m := by omega
          have K := ronce_any HO.out.seq (by simp; omega)
          go_wp2_with fail
          refine K.mono ?_
          rintro e w2 ⟨v2, rfl, ho, hb⟩
          have O2 := Lib.hid (ho.mono HB.out.size)
          have G2 := Lib.hid (HB.out.trans (hb.mono HB.out.size))
          clear ho hb
          go_wp2_with fail
          go_ret
          exact ⟨_, rfl, O2.out, G2.out⟩


end Go.Proofs.Ytklgnmhbfdjoeaa
