/- What the document's own Is, Without, Under, Of, Keys, Size, Same of items leave. -/
import Derived.Test.YtnjkkhfaggkgjaaRefA
import Derived.Test.YtnjkkhfaggkgjaaRefZ
import Derived.Test.YtnjkkhfaggkgjaaRefO
import Derived.Test.YtnjkkhfaggkgjaaEqI
import Derived.Deep.QuietTactic
namespace Go.Proofs.Ytnjkkhfaggkgjaa
open Go.RowKit Plain
set_option linter.unusedVariables false

theorem hasDot_yes {xs : List PDot} {d : PDot} {k : Nat} (hk : k < xs.length) (h : xs.getD k default = d) : hasDot xs d = true := hasDot_iff.2 (by rw [← h]; exact mem_def hk)
theorem hasDot_no {xs : List PDot} {d : PDot} (h : ∀ j, j < xs.length → ¬ xs.getD j default = d) : hasDot xs d = false := by
  cases e : hasDot xs d with
  | false => rfl
  | true =>
    obtain ⟨j, hj, rfl⟩ := List.getElem_of_mem (hasDot_iff.1 e)
    exact absurd (by simp [List.getD, List.getElem?_eq_getElem hj]) (h j hj)
theorem dv_eq (d : PDot) : dv d = .agg #[.int .i64 d.node, .int .i64 d.seq, .int .i64 d.pos] := rfl

set_option maxRecDepth 100000 in
set_option maxHeartbeats 2000000 in
/-- Is -/
theorem ris_any {v : Value} {xs : List PDot} {w : World} (hv : SeqE LDot w v xs) (hn : xs.length ≤ 1000000) (d : PDot) :
    Calls Try.prog 44 #[v, dv d] w fun e w' => e = .returned (.bool (hasDot xs d)) ∧ Below w.heap.size w w' := by
  have HY := Lib.hid (fun k hk h => hasDot_yes (xs := xs) (d := d) (k := k) hk h)
  have HN := Lib.hid (hasDot_no (xs := xs) (d := d))
  have HW := Lib.hid ((Below.refl w.heap.size w).alloc (Nat.le_refl _) (.cells #[.int .i64 d.node, .int .i64 d.seq, .int .i64 d.pos] 24))
  have HD : Hid (DotAt (w.alloc (.cells #[.int .i64 d.node, .int .i64 d.seq, .int .i64 d.pos] 24)) w.heap.size 0 d) := Lib.hid ⟨by simp, by simp, by simp⟩
  obtain ⟨a, cap, rfl, g1, g2, g0, h⟩ := hv.parts
  have HS := Lib.hid (h.below_alloc (.cells #[.int .i64 d.node, .int .i64 d.seq, .int .i64 d.pos] 24))
  clear hv h g0
  generalize hasDot xs d = r at *
  rw [dv_eq]
  go_enter Try.func44, Try.ntmps44
  go_wp2_with fail
  generalize (w.alloc (.cells #[.int .i64 d.node, .int .i64 d.seq, .int .i64 d.pos] 24)) = W1 at *
  go_loopw [5] (fun i wr => ∃ k : Nat, k ≤ xs.length ∧ i = .int .i64 k ∧ (∀ j, j < k → ¬ xs.getD j default = d) ∧ ∃ q, wr = W1.drewN q) (fun i _ => xs.length - (intOf i).toNat)
  case atStart => exact ⟨0, Nat.zero_le _, rfl, (fun j hj => absurd hj (Nat.not_lt_zero _)), 0, rfl⟩
  case round =>
    obtain ⟨k, hk, rfl, hall, q, rfl⟩ := hrel
    have HA := Lib.hid hall
    clear hall
    by_cases hlt : k < xs.length
    · obtain ⟨b, o, c, hv, -, -, -, hc⟩ := dots_spot HS.out (by omega)
      simp only [Value.slice.injEq] at hv
      obtain ⟨rfl, -, rfl⟩ := hv
      obtain ⟨c0, c1, c2⟩ := hc k hlt
      obtain ⟨d0, d1, d2⟩ := HD.out
      simp only [Nat.zero_add] at d1 d2
      clear hc
      have HYK := Lib.hid (HY.out k hlt)
      have HNX : Hid (¬ xs.getD k default = d → ∀ j, j < k + 1 → ¬ xs.getD j default = d) := Lib.hid (fun he j hj => by
          by_cases e : j = k
          · rw [e]; exact he
          · exact HA.out j (by omega))
      generalize xs.getD k default = y at *
      have hq := eql_dot y d
      by_cases he : y = d
      · obtain rfl : r = true := HYK.out he
        rw [decide_eq_true he] at hq
        clear he
        go_wp2_with fail
        go_quiet (fail)
        go_wp2_with fail
        go_ret
        exact ⟨rfl, below_drewN (below_drewN HW.out _) _⟩
      · have HA2 := Lib.hid (HNX.out he)
        rw [decide_eq_false he] at hq
        clear he
        go_wp2_with fail
        go_quiet (fail)
        go_wp2_with fail
        go_roundw
        case rel => exact ⟨k + 1, by omega, by go_num, HA2.out, _, rfl⟩
        case measure => simp [intOf]; omega
    · obtain rfl : k = xs.length := by omega
      obtain rfl : r = false := HN.out HA.out
      go_wp2_with fail
      go_ret
      exact ⟨rfl, below_drewN HW.out _⟩

/-! ### those of which f holds, one behind the other -/
def pickG {α : Type} (f : α → Bool) (xs : List α) (k : Nat) : List α := (xs.take k).filter f
theorem takeG {α : Type} [Inhabited α] {xs : List α} {k : Nat} (hk : k < xs.length) : xs.take (k + 1) = xs.take k ++ [xs.getD k default] := by
  rw [List.take_succ_eq_append_getElem hk]
  simp [List.getD, List.getElem?_eq_getElem hk]
theorem pickG_yes {α : Type} [Inhabited α] {f : α → Bool} {xs : List α} {k : Nat} (hk : k < xs.length) (h : f (xs.getD k default) = true) : pickG f xs k ++ [xs.getD k default] = pickG f xs (k + 1) := by
  unfold pickG
  rw [takeG hk, List.filter_append]
  simp only [List.filter_cons, h, if_true, List.filter_nil]
theorem pickG_no {α : Type} [Inhabited α] {f : α → Bool} {xs : List α} {k : Nat} (hk : k < xs.length) (h : f (xs.getD k default) = false) : pickG f xs k = pickG f xs (k + 1) := by
  unfold pickG
  rw [takeG hk, List.filter_append, List.filter_cons, if_neg (by rw [h]; decide), List.filter_nil, List.append_nil]
theorem pickG_all {α : Type} (f : α → Bool) (xs : List α) : pickG f xs xs.length = xs.filter f := by unfold pickG; rw [List.take_length]
theorem pickG_len {α : Type} (f : α → Bool) (xs : List α) (k : Nat) : (pickG f xs k).length ≤ k := by
  unfold pickG
  have := List.length_filter_le f (xs.take k)
  have := List.length_take_le k xs
  omega

set_option maxRecDepth 100000 in
set_option maxHeartbeats 4000000 in
/-- Without -/
theorem rwithoutI_any {u v : Value} {xs : List PItem} {ds : List PDot} {w : World} (hu : SeqE LItem w u xs) (hv : SeqE LDot w v ds) (hn : xs.length ≤ 1000000) (hm : ds.length ≤ 1000000) :
    Calls Try.prog 17 #[u, v] w (MadeE LItem w (iwithout xs ds)) := by
  obtain ⟨a, cap, rfl, g1, g2, g0, h⟩ := hu.parts
  obtain ⟨a', cap', rfl, -, -, -, h'⟩ := hv.parts
  have HS := Lib.hid h
  have HW := Lib.hid (pickG_all (fun x : PItem => !hasDot ds x.dot) xs)
  have KC := Lib.hid (fun (W : World) (hb : Below w.heap.size w W) (d : PDot) => ris_any (h'.below hb) hm d)
  show Calls _ _ _ _ (MadeE LItem w (xs.filter fun x : PItem => !hasDot ds x.dot))
  rw [← HW.out]
  obtain ⟨f, hf⟩ : ∃ f : PItem → Bool, (fun x : PItem => !hasDot ds x.dot) = f := ⟨_, rfl⟩
  have HF := Lib.hid (fun x => (congrFun hf x).symm)
  rw [hf]
  obtain ⟨n, hN⟩ : ∃ n, xs.length = n := ⟨_, rfl⟩
  rw [hN] at g1 hn ⊢
  have LN := Lib.hid hN
  clear hu hv h h' g0 hf hN HW
  go_enter Try.func17, Try.ntmps17
  go_wp2_with fail
  go_loopw [5, 6] (fun o i wr => ∃ k : Nat, k ≤ n ∧ i = .int .i64 k ∧ OwnE LItem w.heap.size wr o (pickG f xs k) ∧ Below w.heap.size w wr) (fun _ i _ => n - (intOf i).toNat)
  case atStart => exact ⟨0, Nat.zero_le _, rfl, OwnE.nil _ _, Below.refl _ _⟩
  case round =>
    obtain ⟨k, hk, rfl, ho, hb⟩ := hrel
    have HO := Lib.hid ho
    have HB := Lib.hid hb
    have PL := pickG_len f xs k
    clear ho hb
    by_cases hlt : k < n
    · have HK := Lib.hid (show k < xs.length by rw [LN.out]; exact hlt)
      obtain ⟨b, o, c, hv, -, -, -, hc⟩ := items_spot (HS.out.below HB.out) (by rw [LN.out]; omega)
      rw [LN.out] at hv
      simp only [Value.slice.injEq] at hv
      obtain ⟨rfl, -, rfl⟩ := hv
      have IA := Lib.hid (hc k HK.out)
      clear hc
      have K := KC.out wr HB.out (xs.getD k default).dot
      have hff := HF.out (xs.getD k default)
      have S1 := Lib.hid (fun (W : World) => one_item W (xs.getD k default))
      have PY := Lib.hid (fun h => pickG_yes (f := f) HK.out h)
      have PN := Lib.hid (fun h => pickG_no (f := f) HK.out h)
      generalize xs.getD k default = x at *
      obtain ⟨c0, c1, c2, c3, c4, c5, c6, c7⟩ := IA.out
      cases hcv : hasDot ds x.dot with
      | true =>
        rw [hcv] at K hff
        have HP := Lib.hid (PN.out hff)
        clear hcv hff PY PN
        go_wp2_with fail
        refine K.mono ?_
        rintro e w' ⟨rfl, hb⟩
        have O2 := Lib.hid (HO.out.below hb (Nat.le_refl _))
        have G2 : Hid (Below w.heap.size w w') := Lib.hid (HB.out.trans (hb.mono HB.out.size))
        rw [HP.out] at O2
        clear hb
        go_wp2_with fail
        go_roundw
        case rel => exact ⟨k + 1, by omega, by go_num, O2.out, G2.out⟩
        case measure => simp [intOf]; omega
      | false =>
        rw [hcv] at K hff
        have HP := Lib.hid (PY.out hff)
        clear hcv hff PY PN
        go_wp2_with fail
        refine K.mono ?_
        rintro e w' ⟨rfl, hb⟩
        have O1 := Lib.hid (HO.out.below hb (Nat.le_refl _))
        have G1 : Hid (Below w.heap.size w w') := Lib.hid (HB.out.trans (hb.mono HB.out.size))
        clear c0 c1 c2 c3 c4 c5 c6 c7
        obtain ⟨c0, c1, c2, c3, c4, c5, c6, c7⟩ := IA.out.below hb IA.out.lt
        clear K hb
        go_wp2_with (at_builtin; refine wpList_append_el LItem rfl (.tmp 21) (.tmp 26) rfl w.heap.size rfl (O1.out.alloc _) rfl (S1.out _) (fun _ _ h => h) (by simp; omega) (by have := G1.out.size; simp; omega) ?_)
        intro v' w1 ho' hgr _
        have O2 := Lib.hid ho'
        have G2 : Hid (Below w.heap.size w w1) := Lib.hid ((G1.out.alloc G1.out.size _).grown hgr (by have := G1.out.size; simp; omega) (fun j hj => (O1.out.lt j hj).1))
        clear ho' hgr
        rw [HP.out] at O2
        go_wp2_with fail
        go_roundw
        case rel => exact ⟨k + 1, by omega, by go_num, O2.out, G2.out⟩
        case measure => simp [intOf]; omega
    · obtain rfl : k = n := by omega
      go_wp2_with fail
      go_ret
      exact ⟨_, rfl, HO.out, HB.out⟩
theorem rcoversB {v : Value} {zs : List Txt} {w : World} (hv : SeqT w v zs) (hz : FitT zs) (hm : zs.length ≤ 1000000) (s : Txt) (hs : s.length ≤ 1000000) :
    Calls Try.prog 48 #[v, .string (bt s)] w fun e w' => e = .returned (.bool (covers zs s)) ∧ Below w.heap.size w w' :=
  (rcovers_any hv hz hm s hs).mono fun _ _ ⟨h, q, hq⟩ => ⟨h, by rw [hq]; exact below_drewN (Below.refl _ _) q⟩
set_option maxRecDepth 100000 in
set_option maxHeartbeats 4000000 in
/-- Under -/
theorem runderI_any {u v : Value} {xs : List PItem} {zs : List Txt} {w : World} (hu : SeqE LItem w u xs) (hv : SeqT w v zs) (hz : FitT zs) (hxf : ∀ x ∈ xs, x.key.length ≤ 1000000) (hn : xs.length ≤ 1000000) (hm : zs.length ≤ 1000000) :
    Calls Try.prog 19 #[u, v] w (MadeE LItem w (iunder xs zs)) := by
  obtain ⟨a, cap, rfl, g1, g2, g0, h⟩ := hu.parts
  obtain ⟨a', cap', rfl, -, -, -, h'⟩ := hv.parts
  have HS := Lib.hid h
  have HW := Lib.hid (pickG_all (fun x : PItem => covers zs x.key) xs)
  have KC := Lib.hid (fun (W : World) (hb : Below w.heap.size w W) (k : Nat) (hk : k < xs.length) => rcoversB (h'.below hb) hz hm (xs.getD k default).key (hxf _ (mem_def hk)))
  show Calls _ _ _ _ (MadeE LItem w (xs.filter fun x : PItem => covers zs x.key))
  rw [← HW.out]
  obtain ⟨f, hf⟩ : ∃ f : PItem → Bool, (fun x : PItem => covers zs x.key) = f := ⟨_, rfl⟩
  have HF := Lib.hid (fun x => (congrFun hf x).symm)
  rw [hf]
  obtain ⟨n, hN⟩ : ∃ n, xs.length = n := ⟨_, rfl⟩
  rw [hN] at g1 hn ⊢
  have LN := Lib.hid hN
  clear hu hv h h' g0 hf hN HW hz hxf
  go_enter Try.func19, Try.ntmps19
  go_wp2_with fail
  go_loopw [5, 6] (fun o i wr => ∃ k : Nat, k ≤ n ∧ i = .int .i64 k ∧ OwnE LItem w.heap.size wr o (pickG f xs k) ∧ Below w.heap.size w wr) (fun _ i _ => n - (intOf i).toNat)
  case atStart => exact ⟨0, Nat.zero_le _, rfl, OwnE.nil _ _, Below.refl _ _⟩
  case round =>
    obtain ⟨k, hk, rfl, ho, hb⟩ := hrel
    have HO := Lib.hid ho
    have HB := Lib.hid hb
    have PL := pickG_len f xs k
    clear ho hb
    by_cases hlt : k < n
    · have HK := Lib.hid (show k < xs.length by rw [LN.out]; exact hlt)
      obtain ⟨b, o, c, hv, -, -, -, hc⟩ := items_spot (HS.out.below HB.out) (by rw [LN.out]; omega)
      rw [LN.out] at hv
      simp only [Value.slice.injEq] at hv
      obtain ⟨rfl, -, rfl⟩ := hv
      have IA := Lib.hid (hc k HK.out)
      clear hc
      have K := KC.out wr HB.out k HK.out
      have hff := HF.out (xs.getD k default)
      have S1 := Lib.hid (fun (W : World) => one_item W (xs.getD k default))
      have PY := Lib.hid (fun h => pickG_yes (f := f) HK.out h)
      have PN := Lib.hid (fun h => pickG_no (f := f) HK.out h)
      generalize xs.getD k default = x at *
      obtain ⟨c0, c1, c2, c3, c4, c5, c6, c7⟩ := IA.out
      cases hcv : covers zs x.key with
      | true =>
        rw [hcv] at K hff
        have HP := Lib.hid (PY.out hff)
        clear hcv hff PY PN
        go_wp2_with fail
        refine K.mono ?_
        rintro e w' ⟨rfl, hb⟩
        have O1 := Lib.hid (HO.out.below hb (Nat.le_refl _))
        have G1 : Hid (Below w.heap.size w w') := Lib.hid (HB.out.trans (hb.mono HB.out.size))
        clear c0 c1 c2 c3 c4 c5 c6 c7
        obtain ⟨c0, c1, c2, c3, c4, c5, c6, c7⟩ := IA.out.below hb IA.out.lt
        clear K hb
        go_wp2_with (at_builtin; refine wpList_append_el LItem rfl (.tmp 20) (.tmp 25) rfl w.heap.size rfl (O1.out.alloc _) rfl (S1.out _) (fun _ _ h => h) (by simp; omega) (by have := G1.out.size; simp; omega) ?_)
        intro v' w1 ho' hgr _
        have O2 := Lib.hid ho'
        have G2 : Hid (Below w.heap.size w w1) := Lib.hid ((G1.out.alloc G1.out.size _).grown hgr (by have := G1.out.size; simp; omega) (fun j hj => (O1.out.lt j hj).1))
        clear ho' hgr
        rw [HP.out] at O2
        go_wp2_with fail
        go_roundw
        case rel => exact ⟨k + 1, by omega, by go_num, O2.out, G2.out⟩
        case measure => simp [intOf]; omega
      | false =>
        rw [hcv] at K hff
        have HP := Lib.hid (PN.out hff)
        clear hcv hff PY PN
        go_wp2_with fail
        refine K.mono ?_
        rintro e w' ⟨rfl, hb⟩
        have O2 := Lib.hid (HO.out.below hb (Nat.le_refl _))
        have G2 : Hid (Below w.heap.size w w') := Lib.hid (HB.out.trans (hb.mono HB.out.size))
        rw [HP.out] at O2
        clear hb
        go_wp2_with fail
        go_roundw
        case rel => exact ⟨k + 1, by omega, by go_num, O2.out, G2.out⟩
        case measure => simp [intOf]; omega
    · obtain rfl : k = n := by omega
      go_wp2_with fail
      go_ret
      exact ⟨_, rfl, HO.out, HB.out⟩
set_option maxRecDepth 100000 in
set_option maxHeartbeats 4000000 in
/-- Of -/
theorem rofI_any {u : Value} {xs : List PItem} {w : World} (hu : SeqE LItem w u xs) (hn : xs.length ≤ 1000000) (s : Txt) :
    Calls Try.prog 21 #[u, .string (bt s)] w (MadeE LItem w (iof xs s)) := by
  obtain ⟨a, cap, rfl, g1, g2, g0, h⟩ := hu.parts
  have HS := Lib.hid h
  have HW := Lib.hid (pickG_all (fun x : PItem => decide (x.key = s)) xs)
  show Calls _ _ _ _ (MadeE LItem w (xs.filter fun x : PItem => decide (x.key = s)))
  rw [← HW.out]
  obtain ⟨f, hf⟩ : ∃ f : PItem → Bool, (fun x : PItem => decide (x.key = s)) = f := ⟨_, rfl⟩
  have HF := Lib.hid (fun x => (congrFun hf x).symm)
  rw [hf]
  obtain ⟨n, hN⟩ : ∃ n, xs.length = n := ⟨_, rfl⟩
  rw [hN] at g1 hn ⊢
  have LN := Lib.hid hN
  clear hu h g0 hf hN HW
  go_enter Try.func21, Try.ntmps21
  go_wp2_with fail
  go_loopw [5, 6] (fun o i wr => ∃ k : Nat, k ≤ n ∧ i = .int .i64 k ∧ OwnE LItem w.heap.size wr o (pickG f xs k) ∧ Below w.heap.size w wr) (fun _ i _ => n - (intOf i).toNat)
  case atStart => exact ⟨0, Nat.zero_le _, rfl, OwnE.nil _ _, Below.refl _ _⟩
  case round =>
    obtain ⟨k, hk, rfl, ho, hb⟩ := hrel
    have HO := Lib.hid ho
    have HB := Lib.hid hb
    have PL := pickG_len f xs k
    clear ho hb
    by_cases hlt : k < n
    · have HK := Lib.hid (show k < xs.length by rw [LN.out]; exact hlt)
      obtain ⟨b, o, c, hv, -, -, -, hc⟩ := items_spot (HS.out.below HB.out) (by rw [LN.out]; omega)
      rw [LN.out] at hv
      simp only [Value.slice.injEq] at hv
      obtain ⟨rfl, -, rfl⟩ := hv
      have IA := Lib.hid (hc k HK.out)
      clear hc
      have t1 := text_eq (xs.getD k default).key s
      have hff := HF.out (xs.getD k default)
      have S1 := Lib.hid (fun (W : World) => one_item W (xs.getD k default))
      have PY := Lib.hid (fun h => pickG_yes (f := f) HK.out h)
      have PN := Lib.hid (fun h => pickG_no (f := f) HK.out h)
      generalize xs.getD k default = x at *
      obtain ⟨c0, c1, c2, c3, c4, c5, c6, c7⟩ := IA.out
      cases hcv : decide (x.key = s) with
      | true =>
        rw [hcv] at t1 hff
        have HP := Lib.hid (PY.out hff)
        clear hcv hff PY PN
        generalize bt s = T at *
        go_wp2_with (at_builtin; refine wpList_append_el LItem rfl (.tmp 20) (.tmp 25) rfl w.heap.size rfl (HO.out.alloc _) rfl (S1.out _) (fun _ _ h => h) (by simp; omega) (by have := HB.out.size; simp; omega) ?_)
        intro v' w1 ho' hgr _
        have O2 := Lib.hid ho'
        have G2 : Hid (Below w.heap.size w w1) := Lib.hid ((HB.out.alloc HB.out.size _).grown hgr (by have := HB.out.size; simp; omega) (fun j hj => (HO.out.lt j hj).1))
        clear ho' hgr
        rw [HP.out] at O2
        go_wp2_with fail
        go_roundw
        case rel => exact ⟨k + 1, by omega, by go_num, O2.out, G2.out⟩
        case measure => simp [intOf]; omega
      | false =>
        rw [hcv] at t1 hff
        have HP := Lib.hid (PN.out hff)
        clear hcv hff PY PN
        have O2 := HO
        have G2 := HB
        rw [HP.out] at O2
        generalize bt s = T at *
        go_wp2_with fail
        go_roundw
        case rel => exact ⟨k + 1, by omega, by go_num, O2.out, G2.out⟩
        case measure => simp [intOf]; omega
    · obtain rfl : k = n := by omega
      go_wp2_with fail
      go_ret
      exact ⟨_, rfl, HO.out, HB.out⟩

set_option maxRecDepth 100000 in
set_option maxHeartbeats 4000000 in
/-- Same -/
theorem rsameI_any {u v : Value} {xs ys : List PItem} {w : World} (hu : SeqE LItem w u xs) (hv : SeqE LItem w v ys) :
    Calls Try.prog 13 #[u, v] w fun e w' => e = .returned (.bool (decide (xs = ys))) ∧ ∃ n, w' = w.drewN n := by
  obtain ⟨a, cap, rfl, g1, g2, g0, h⟩ := hu.parts
  obtain ⟨a', cap', rfl, e1, e2, e0, h'⟩ := hv.parts
  by_cases hl : xs.length = ys.length
  · obtain ⟨n, hN⟩ : ∃ n, xs.length = n := ⟨_, rfl⟩
    have hM : ys.length = n := by omega
    have hT : (∀ j, j < n → xs.getD j default = ys.getD j default) → decide (xs = ys) = true := fun hall => decide_eq_true (by
      apply List.ext_getElem hl
      intro j h1 h2
      have := hall j (by omega)
      simpa [List.getD, List.getElem?_eq_getElem h1, List.getElem?_eq_getElem h2] using this)
    have hF : ∀ j, ¬ xs.getD j default = ys.getD j default → decide (xs = ys) = false := fun j hne => decide_eq_false (by
      intro e; subst e; exact hne rfl)
    have HT := Lib.hid hT
    have HF := Lib.hid hF
    generalize decide (xs = ys) = r at *
    rw [hN] at h g1 ⊢
    rw [hM] at h' e1 ⊢
    have HS := Lib.hid h
    have HS' := Lib.hid h'
    have LN := Lib.hid hN
    have LM := Lib.hid hM
    clear hu hv h h' g0 e0 hl hT hF hN hM
    go_enter Try.func13, Try.ntmps13
    go_wp2_with fail
    go_loopw [5] (fun i wr => ∃ k : Nat, k ≤ n ∧ i = .int .i64 k ∧ (∀ j, j < k → xs.getD j default = ys.getD j default) ∧ ∃ q, wr = w.drewN q) (fun i _ => n - (intOf i).toNat)
    case atStart => exact ⟨0, Nat.zero_le _, rfl, (fun j hj => absurd hj (by omega)), 0, rfl⟩
    case round =>
      obtain ⟨k, hk, rfl, hall, q, rfl⟩ := hrel
      have HALL := Lib.hid hall
      clear hall
      by_cases hlt : k < n
      · obtain ⟨b, o, c, hv, -, -, -, hc⟩ := items_spot HS.out (by rw [LN.out]; omega)
        rw [LN.out] at hv
        simp only [Value.slice.injEq] at hv
        obtain ⟨rfl, -, rfl⟩ := hv
        obtain ⟨b', o', c', hv', -, -, -, hc'⟩ := items_spot HS'.out (by rw [LM.out]; omega)
        rw [LM.out] at hv'
        simp only [Value.slice.injEq] at hv'
        obtain ⟨rfl, -, rfl⟩ := hv'
        obtain ⟨c0, c1, c2, c3, c4, c5, c6, c7⟩ := hc k (by rw [LN.out]; exact hlt)
        obtain ⟨d0, d1, d2, d3, d4, d5, d6, d7⟩ := hc' k (by rw [LM.out]; exact hlt)
        have HFK := Lib.hid (HF.out k)
        have HNX : Hid (xs.getD k default = ys.getD k default → ∀ j, j < k + 1 → xs.getD j default = ys.getD j default) := Lib.hid (fun he j hj => by
          by_cases e : j = k
          · rw [e]; exact he
          · exact HALL.out j (by omega))
        clear hc hc'
        generalize xs.getD k default = x at *
        generalize ys.getD k default = y at *
        have hq := neq_item x y
        by_cases he : x = y
        · have HX := Lib.hid (HNX.out he)
          rw [decide_eq_true he] at hq
          clear he HNX HFK
          go_wp2_with fail
          go_quiet (fail)
          go_wp2_with fail
          go_roundw
          case rel => exact ⟨k + 1, by omega, by go_num, HX.out, _, rfl⟩
          case measure => simp [intOf]; omega
        · obtain rfl : r = false := HFK.out he
          rw [decide_eq_false he] at hq
          clear he HNX HFK
          go_wp2_with fail
          go_quiet (fail)
          go_wp2_with fail
          go_ret
          exact ⟨rfl, _, World.drewN_drewN _ _ _⟩
      · obtain rfl : k = n := by omega
        obtain rfl : r = true := HT.out HALL.out
        go_wp2_with fail
        go_ret
        exact ⟨rfl, _, rfl⟩
  · have hne : ((xs.length : Int) == (ys.length : Int)) = false := by simp; omega
    rw [decide_eq_false (by intro e; subst e; exact hl rfl)]
    clear hu hv h h' g0 e0 g1 g2 e1 e2
    generalize xs.length = n at *
    generalize ys.length = m at *
    go_enter Try.func13, Try.ntmps13
    go_wp2_with fail
    go_ret
    exact ⟨rfl, 0, rfl⟩
theorem rsameIR {u v : Value} {xs ys : List PItem} {w : World} {r : Bool} (hu : SeqE LItem w u xs) (hv : SeqE LItem w v ys) (e : decide (xs = ys) = r) :
    Calls Try.prog 13 #[u, v] w fun e w' => e = .returned (.bool r) ∧ Below w.heap.size w w' := by
  rw [← e]
  exact (rsameI_any hu hv).mono fun _ _ ⟨h, n, hw⟩ => ⟨h, by rw [hw]; exact below_drewN (Below.refl _ _) n⟩

set_option maxRecDepth 100000 in
set_option maxHeartbeats 4000000 in
/-- Keys -/
theorem rkeysI_any {u : Value} {xs : List PItem} {w : World} (hu : SeqE LItem w u xs) (hn : xs.length ≤ 1000000) :
    Calls Try.prog 24 #[u] w (MadeT w (ikeys xs)) := by
  obtain ⟨a, cap, rfl, g1, g2, g0, h⟩ := hu.parts
  have HS := Lib.hid h
  have HW : Hid (ikeys xs = once ((xs.map (·.key)).take xs.length)) := Lib.hid (by rw [List.take_of_length_le (by simp)]; rfl)
  rw [HW.out]
  obtain ⟨n, hN⟩ : ∃ n, xs.length = n := ⟨_, rfl⟩
  rw [hN] at g1 hn ⊢
  have LN := Lib.hid hN
  have HT : Hid (∀ k, k < xs.length → (xs.map (·.key)).take (k + 1) = (xs.map (·.key)).take k ++ [(xs.getD k default).key]) := Lib.hid (fun k hk => by
    rw [List.take_succ_eq_append_getElem (by simpa using hk)]
    simp [List.getD, List.getElem?_eq_getElem hk])
  have HL : Hid (∀ k, ((xs.map (·.key)).take k).length ≤ k) := Lib.hid (fun k => by rw [List.length_take]; omega)
  have KO := Lib.hid (fun (W : World) (v : Value) (ys : List Txt) (h : SeqT W v ys) (hl : ys.length ≤ 1000000) => ronce_any h hl)
  clear hu h g0 hN HW
  generalize xs.map (·.key) = ks at *
  go_enter Try.func24, Try.ntmps24
  go_wp2_with fail
  go_loopw [3, 4] (fun o i wr => ∃ k : Nat, k ≤ n ∧ i = .int .i64 k ∧ OwnsT w.heap.size wr o (ks.take k) ∧ Below w.heap.size w wr) (fun _ i _ => n - (intOf i).toNat)
  case atStart => exact ⟨0, Nat.zero_le _, rfl, OwnsT.nil _ _, Below.refl _ _⟩
  case round =>
    obtain ⟨k, hk, rfl, ho, hb⟩ := hrel
    have HO := Lib.hid ho
    have HB := Lib.hid hb
    have PL := HL.out k
    clear ho hb
    by_cases hlt : k < n
    · have HK := Lib.hid (show k < xs.length by rw [LN.out]; exact hlt)
      obtain ⟨b, o, c, hv, -, -, -, hc⟩ := items_spot (HS.out.below HB.out) (by rw [LN.out]; omega)
      rw [LN.out] at hv
      simp only [Value.slice.injEq] at hv
      obtain ⟨rfl, -, rfl⟩ := hv
      obtain ⟨c0, -, -, -, -, -, -, -⟩ := hc k HK.out
      have HTK := Lib.hid (HT.out k HK.out)
      have S1 := Lib.hid (fun (W : World) => SeqT.one W (xs.getD k default).key)
      unfold tv at S1
      clear hc
      generalize (xs.getD k default).key = x at *
      go_wp2_with (at_builtin; refine wpList_append_texts rfl (.tmp 11) (.tmp 17) rfl w.heap.size rfl (HO.out.alloc _) rfl (S1.out _) (by simp; omega) (by have := HB.out.size; simp; omega) ?_)
      intro v' w1 ho' hgr _
      have O2 := Lib.hid ho'
      have G2 : Hid (Below w.heap.size w w1) := Lib.hid ((HB.out.alloc HB.out.size _).grown hgr (by have := HB.out.size; simp; omega) (fun j hj => (HO.out.lt j hj).1))
      clear ho' hgr
      rw [← HTK.out] at O2
      go_wp2_with fail
      go_roundw
      case rel => exact ⟨k + 1, by omega, by go_num, O2.out, G2.out⟩
      case measure => simp [intOf]; omega
    · obtain rfl : k = n := by omega
      have K := KO.out wr _ _ HO.out.seq (by omega)
      go_wp2_with fail
      refine K.mono ?_
      rintro e w2 ⟨v2, rfl, ho, hb⟩
      have O2 := Lib.hid (ho.mono HB.out.size)
      have G2 := Lib.hid (HB.out.trans (hb.mono HB.out.size))
      clear ho hb
      go_wp2_with fail
      go_ret
      exact ⟨_, rfl, O2.out, G2.out⟩

/-- the size of the first k -/
def sizeTo (xs : List PItem) (k : Nat) : Nat := isize (xs.take k)
theorem sizeTo_next {xs : List PItem} {k : Nat} (hk : k < xs.length) : sizeTo xs (k + 1) = sizeTo xs k + isize1 (xs.getD k default) := by
  unfold sizeTo
  rw [takeG hk, isize_append]
  rfl
theorem isize_count (xs : List PItem) (k : Nat) (hk : k ≤ xs.length) : 24 * k ≤ sizeTo xs k := by
  induction k with
  | zero => omega
  | succ k ih =>
    rw [sizeTo_next (by omega)]
    have := ih (by omega)
    unfold isize1
    omega

set_option maxRecDepth 100000 in
set_option maxHeartbeats 4000000 in
/-- Size -/
theorem rsizeI_any {u : Value} {xs : List PItem} {w : World} (hu : SeqE LItem w u xs) (hn : xs.length ≤ 1000000) (hb : ∀ x ∈ xs, shortB1 x = true) :
    Calls Try.prog 26 #[u] w fun e w' => e = .returned (.int .i64 (isize xs : Int)) ∧ ∃ q, w' = w.drewN q := by
  obtain ⟨a, cap, rfl, g1, g2, g0, h⟩ := hu.parts
  have HS := Lib.hid h
  have HW : Hid (isize xs = sizeTo xs xs.length) := Lib.hid (by unfold sizeTo; rw [List.take_length])
  rw [HW.out]
  obtain ⟨n, hN⟩ : ∃ n, xs.length = n := ⟨_, rfl⟩
  rw [hN] at g1 hn ⊢
  have LN := Lib.hid hN
  have HX := Lib.hid (fun k hk => sizeTo_next (xs := xs) (k := k) hk)
  have HB := Lib.hid (fun k (hk : k < xs.length) => short1_iff.1 (hb _ (mem_def hk)))
  have HC := Lib.hid (isize_count xs)
  have H0 : Hid (sizeTo xs 0 = 0) := Lib.hid rfl
  clear hu h g0 hN HW hb
  generalize sizeTo xs = f at *
  go_enter Try.func26, Try.ntmps26
  go_wp2_with fail
  go_loopw [3, 4] (fun s i wr => ∃ k : Nat, k ≤ n ∧ i = .int .i64 k ∧ s = .int .i64 ((24 * (n - k) + f k : Nat) : Int) ∧ f k ≤ 924 * k ∧ ∃ q, wr = w.drewN q) (fun _ i _ => n - (intOf i).toNat)
  case atStart => exact ⟨0, Nat.zero_le _, rfl, by rw [H0.out]; simp, by rw [H0.out]; omega, 0, rfl⟩
  case round =>
    obtain ⟨k, hk, rfl, rfl, hf, q, rfl⟩ := hrel
    by_cases hlt : k < n
    · have HK := Lib.hid (show k < xs.length by rw [LN.out]; exact hlt)
      obtain ⟨b, o, c, hv, -, -, -, hc⟩ := items_spot HS.out (by rw [LN.out]; omega)
      rw [LN.out] at hv
      simp only [Value.slice.injEq] at hv
      obtain ⟨rfl, -, rfl⟩ := hv
      obtain ⟨c0, c1, -, c3, -, -, -, -⟩ := hc k HK.out
      have HXK := Lib.hid (HX.out k HK.out)
      obtain ⟨b1, b2, b3⟩ := HB.out k HK.out
      clear hc
      generalize xs.getD k default = x at *
      have z1 := bt_size x.key
      have z2 := bt_size x.field
      have z3 := bt_size x.elem
      have HI : Hid (isize1 x = 24 + x.key.length + x.field.length + x.elem.length) := Lib.hid rfl
      generalize bt x.key = K at *
      generalize bt x.field = F at *
      generalize bt x.elem = El at *
      generalize x.key.length = m1 at *
      generalize x.field.length = m2 at *
      generalize x.elem.length = m3 at *
      obtain ⟨s, hs⟩ : ∃ s, 24 * (n - k) + f k = s := ⟨_, rfl⟩
      have HSS := Lib.hid hs
      rw [hs]
      have hs2 : s ≤ 924000000 := by omega
      clear hs
      have i1 : IntKind.i64.wrap ((m1 : Int) + m2) = (m1 : Int) + m2 := IntWalk.i64_in _ (by omega)
      have i2 : IntKind.i64.wrap ((m1 : Int) + m2 + m3) = (m1 : Int) + m2 + m3 := IntWalk.i64_in _ (by omega)
      have i3 : IntKind.i64.wrap ((s : Int) + ((m1 : Int) + m2 + m3)) = (s : Int) + ((m1 : Int) + m2 + m3) := IntWalk.i64_in _ (by omega)
      go_wp2_with fail
      go_quiet (fail)
      go_wp2_with fail
      go_roundw
      case rel => exact ⟨k + 1, by omega, by go_num, by have := HSS.out; have h2 := HXK.out; rw [HI.out] at h2; congr 1; omega, by have h2 := HXK.out; rw [HI.out] at h2; omega, _, rfl⟩
      case measure => simp [intOf]; omega
    · obtain rfl : k = n := by omega
      go_wp2_with fail
      go_ret
      exact ⟨ret_int (by omega), _, rfl⟩
end Go.Proofs.Ytnjkkhfaggkgjaa
