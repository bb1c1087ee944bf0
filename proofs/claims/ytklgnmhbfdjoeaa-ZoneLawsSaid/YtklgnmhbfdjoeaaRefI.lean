/- What the document's own Inter, Without, Within, Same, Short of texts leave. -/
import Derived.Test.YtklgnmhbfdjoeaaRefO
namespace Go.Proofs.Ytklgnmhbfdjoeaa
open Go.RowKit Plain
set_option linter.unusedVariables false

/-- of the first k those of which f holds -/
def pick (f : Txt → Bool) (xs : List Txt) (k : Nat) : List Txt := (xs.take k).filter f
theorem pick_zero (f : Txt → Bool) (xs : List Txt) : pick f xs 0 = [] := rfl
theorem take_next {xs : List Txt} {k : Nat} (hk : k < xs.length) : xs.take (k + 1) = xs.take k ++ [xs.getD k []] := by
  rw [List.take_succ_eq_append_getElem hk]
  simp [List.getD, List.getElem?_eq_getElem hk]
theorem pick_yes {f : Txt → Bool} {xs : List Txt} {k : Nat} (hk : k < xs.length) (h : f (xs.getD k []) = true) : pick f xs k ++ [xs.getD k []] = pick f xs (k + 1) := by
  unfold pick
  rw [take_next hk, List.filter_append]
  simp only [List.filter_cons, h, if_true, List.filter_nil]
theorem pick_no {f : Txt → Bool} {xs : List Txt} {k : Nat} (hk : k < xs.length) (h : f (xs.getD k []) = false) : pick f xs k = pick f xs (k + 1) := by
  unfold pick
  rw [take_next hk, List.filter_append, List.filter_cons, if_neg (by rw [h]; decide), List.filter_nil, List.append_nil]
theorem pick_all (f : Txt → Bool) (xs : List Txt) : pick f xs xs.length = xs.filter f := by unfold pick; rw [List.take_length]
theorem pick_len (f : Txt → Bool) (xs : List Txt) (k : Nat) : (pick f xs k).length ≤ k := by
  unfold pick
  have := List.length_filter_le f (xs.take k)
  have := List.length_take_le k xs
  omega

set_option maxRecDepth 100000 in
set_option maxHeartbeats 4000000 in
/-- Without -/
theorem rwithout_any {u v : Value} {xs ys : List Txt} {w : World} (hu : SeqT w u xs) (hv : SeqT w v ys) (hx : FitT xs) (hy : FitT ys) (hn : xs.length ≤ 1000000) (hm : ys.length ≤ 1000000) :
    Calls Try.prog 18 #[u, v] w (MadeT w (without xs ys)) := by
  obtain ⟨a, cap, rfl, g1, g2, g0, h⟩ := hu.parts
  obtain ⟨a', cap', rfl, -, -, -, h'⟩ := hv.parts
  have HS := Lib.hid h
  have HW := Lib.hid (show without xs ys = once (pick (fun s => !covers ys s) xs xs.length) by rw [pick_all]; rfl)
  have hmx : maxLen = 9223372036854775807 := rfl
  rw [hmx] at g2
  rw [HW.out]
  obtain ⟨f, hf⟩ : ∃ f : Txt → Bool, (fun s => !covers ys s) = f := ⟨_, rfl⟩
  rw [hf]
  have KC := Lib.hid (fun (k : Nat) (hk : k < xs.length) (W : World) (hb : Below w.heap.size w W) => (rcovers_any (h'.below hb) hy hm (xs.getD k []) (hx.at k hk)))
  have HF := Lib.hid (fun s => (congrFun hf s).symm)
  obtain ⟨n, hN⟩ : ∃ n, xs.length = n := ⟨_, rfl⟩
  rw [hN] at g1 hn ⊢
  have LN := Lib.hid hN
  clear hu hv h h' g0 hmx hx hy hm hf hN HW
  go_enter Try.func18, Try.ntmps18
  go_wp2_with fail
  go_loopw [5, 6] (fun o i wr => ∃ k : Nat, k ≤ n ∧ i = .int .i64 k ∧ OwnsT w.heap.size wr o (pick f xs k) ∧ Below w.heap.size w wr) (fun _ i _ => n - (intOf i).toNat)
  case atStart => exact ⟨0, Nat.zero_le _, rfl, OwnsT.nil _ _, Below.refl _ _⟩
  case round =>
    obtain ⟨k, hk, rfl, ho, hb⟩ := hrel
    have HO := Lib.hid ho
    have HB := Lib.hid hb
    have PL := pick_len f xs k
    clear ho hb
    by_cases hlt : k < n
    · have HK := Lib.hid (show k < xs.length by rw [LN.out]; exact hlt)
      obtain ⟨b, o, c, hv, -, -, -, hc⟩ := (HS.out.below HB.out).spot (by rw [LN.out]; omega)
      rw [LN.out] at hv
      simp only [Value.slice.injEq] at hv
      obtain ⟨rfl, -, rfl⟩ := hv
      have c1 := hc k HK.out
      unfold tv at c1
      clear hc
      have K := KC.out k HK.out wr HB.out
      have hff := HF.out (xs.getD k [])
      have S1 := Lib.hid (fun (W : World) => SeqT.one W (xs.getD k []))
      unfold tv at S1
      have PY := Lib.hid (fun h => pick_yes (f := f) HK.out h)
      have PN := Lib.hid (fun h => pick_no (f := f) HK.out h)
      generalize xs.getD k [] = x at *
      cases hcv : covers ys x with
      | true =>
        rw [hcv] at K hff
        have HP := Lib.hid (PN.out hff)
        clear hcv hff PY PN
        generalize bt x = X at *
        go_wp2_with fail
        refine K.mono ?_
        rintro e w' ⟨rfl, q, rfl⟩
        have O2 := Lib.hid (HO.out.below (below_drewN (Below.refl _ _) q) (Nat.le_refl _))
        have G2 := Lib.hid (below_drewN HB.out q)
        rw [HP.out] at O2
        go_wp2_with fail
        go_roundw
        case rel => exact ⟨k + 1, by omega, by go_num, O2.out, G2.out⟩
        case measure => simp [intOf]; omega
      | false =>
        rw [hcv] at K hff
        have HP := Lib.hid (PY.out hff)
        clear hcv hff PY PN
        generalize bt x = X at *
        go_wp2_with fail
        refine K.mono ?_
        rintro e w' ⟨rfl, q, rfl⟩
        have O1 := Lib.hid (HO.out.below (below_drewN (Below.refl _ _) q) (Nat.le_refl _))
        have G1 := Lib.hid (below_drewN HB.out q)
        have S2 := Lib.hid (show SeqT ((wr.drewN q).alloc (.cells #[.string X] 9)) (.slice (some ⟨wr.heap.size, 0, none⟩) 1 1) [x] from S1.out (wr.drewN q))
        clear K
        go_wp2_with (at_builtin; refine wpList_append_texts rfl (.tmp 20) (.tmp 25) rfl w.heap.size rfl (O1.out.alloc _) rfl S2.out (by simp; omega) (by have := HB.out.size; simp; omega) ?_)
        intro v' w1 ho' hgr _
        have O2 := Lib.hid ho'
        have G2 : Hid (Below w.heap.size w w1) := Lib.hid ((G1.out.alloc G1.out.size _).grown hgr (by have := HB.out.size; simp; omega) (fun j hj => (O1.out.lt j hj).1))
        clear ho' hgr
        rw [HP.out] at O2
        go_wp2_with fail
        go_roundw
        case rel => exact ⟨k + 1, by omega, by go_num, O2.out, G2.out⟩
        case measure => simp [intOf]; omega
    · obtain rfl : k = n := by omega
      have K := ronce_any HO.out.seq (by omega)
      go_wp2_with fail
      refine K.mono ?_
      rintro e w2 ⟨v2, rfl, ho, hb⟩
      have O2 := Lib.hid (ho.mono HB.out.size)
      have G2 := Lib.hid (HB.out.trans (hb.mono HB.out.size))
      clear ho hb
      go_wp2_with fail
      go_ret
      exact ⟨_, rfl, O2.out, G2.out⟩

set_option maxRecDepth 100000 in
set_option maxHeartbeats 1000000 in
/-- Within -/
theorem rwithinZ_any {u v : Value} {xs ys : List Txt} {w : World} (hu : SeqT w u xs) (hv : SeqT w v ys) (hx : FitT xs) (hy : FitT ys) (hn : xs.length ≤ 1000000) (hm : ys.length ≤ 1000000) :
    Calls Try.prog 20 #[u, v] w fun e w' => e = .returned (.bool (withinZ xs ys)) ∧ Below w.heap.size w w' := by
  have K := rwithout_any hu hv hx hy hn hm
  have hw : withinZ xs ys = decide ((without xs ys).length = 0) := by
    rw [within_without]
    cases without xs ys <;> rfl
  have hl : (without xs ys).length ≤ 1000000 := by have := without_len xs ys; omega
  rw [hw]
  generalize without xs ys = z at *
  obtain ⟨n, hN⟩ : ∃ n, z.length = n := ⟨_, rfl⟩
  rw [hN]
  have HN := Lib.hid hN
  clear hu hv hx hy hn hm hw hN hl
  go_enter Try.func20, Try.ntmps20
  go_wp2_with fail
  refine K.mono ?_
  rintro e w2 ⟨v2, rfl, ho, hb⟩
  obtain ⟨a, c, rfl, -, -, -⟩ := ho.at n HN.out
  have HB := Lib.hid hb
  have hd : (((n : Nat) : Int) == 0) = decide (n = 0) := by by_cases h : n = 0 <;> simp [h]
  clear ho hb K
  go_wp2_with fail
  go_ret
  exact ⟨rfl, HB.out⟩
end Go.Proofs.Ytklgnmhbfdjoeaa
