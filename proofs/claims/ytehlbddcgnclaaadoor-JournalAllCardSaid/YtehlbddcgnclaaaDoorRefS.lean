/- What the document's own Scan leaves. -/
import Derived.Test.YtehlbddcgnclaaaDoorShort
import Derived.Test.YtehlbddcgnclaaaDoorRefF
import Derived.Deep.QuietTactic
import Derived.BigQuiet
import Derived.WalkSmall
import Derived.IntWalk
import Derived.Deep.RegionWith
import Derived.Deep.RegionHeld3
namespace Go.Proofs.YtehlbddcgnclaaaDoor
open Go.RowKit Plain
set_option linter.unusedVariables false

theorem take_four (ys : Bytes) (h : 4 ≤ ys.length) : ival (ys.take 4) = (ys.getD 0 0#8).toNat + 256 * (ys.getD 1 0#8).toNat + 65536 * (ys.getD 2 0#8).toNat + 16777216 * (ys.getD 3 0#8).toNat := by
  match ys, h with
  | a :: b :: c :: d :: r, _ =>
    show ival [a, b, c, d] = _
    simp only [ival, List.getD_cons_zero, List.getD_cons_succ]
    omega
theorem refScan_empty (a : Option Addr) (cap : Nat) (w : World) :
    Calls Tryd.prog 14 #[.slice a 0 cap] w (ScanT [] w) := by
  have S0 := Lib.hid (scans_none (first_short [] (by simp)))
  go_enter Tryd.func14, Tryd.ntmps14
  go_wp2_with fail
  go_loop [4, 5] (fun r t => r = .slice none 0 0 ∧ t = .int .i64 0) (fun _ _ => 0)
  case atStart => exact ⟨rfl, rfl⟩
  case round =>
    obtain ⟨rfl, rfl⟩ := hrel
    go_wp2_with fail
    go_ret2
    exact ⟨_, [], 0, rfl, S0.out, OwnsR.nil _ _, Below.refl _ _⟩

set_option maxRecDepth 100000 in
set_option maxHeartbeats 4000000 in
theorem refScan_any {v : Value} {xs : Bytes} {w : World} (hs : Seq w v xs) (hlen : xs.length ≤ 6000) :
    Calls Tryd.prog 14 #[v] w (ScanT xs w) := by
  by_cases hp : 0 < xs.length
  · obtain ⟨b, o, cap, rfl, g1, g2, hs, hc⟩ := hs.spot hp
    have SX := Lib.hid hs
    have HC := Lib.hid hc
    have hm : maxLen = 9223372036854775807 := rfl
    rw [hm] at g2
    generalize hL : xs.length = len at *
    have HL := Lib.hid hL
    have hcl : (len : Int) ≤ cap := by omega
    have hci : (cap : Int) ≤ 9223372036854775807 := by omega
    have hli : (len : Int) ≤ 6000 := by omega
    have hblt : b < w.heap.size := World.block_lt_of_cell? w ⟨b, o + 0, none⟩ (hc 0 (by omega))
    have HBLT := Lib.hid hblt
    have HG2 := Lib.hid g2
    clear hs hm hL hc hblt g2
    go_enter Tryd.func14, Tryd.ntmps14
    go_wp2_with fail
    go_loopw [4, 5] (fun r t wr => ∃ (k : Nat) (ls : List Bytes), t = .int .i64 k ∧ At xs ls k ∧ OwnsR w.heap.size wr r ls ∧ Below w.heap.size w wr) (fun _ t _ => len - (intOf t).toNat)
    case atStart => exact ⟨0, [], rfl, At.zero xs, OwnsR.nil _ _, Below.refl _ _⟩
    case round =>
      obtain ⟨k, ls, rfl, hA, hO, hB⟩ := hrel
      have hk : k ≤ len := by rw [← HL.out]; exact hA.2.2.2
      have hki : (k : Int) ≤ len := by omega
      have AT := Lib.hid hA
      have RO := Lib.hid hO
      have HB := Lib.hid hB
      clear hA hO hB
      by_cases h8 : k + 8 ≤ len
      · have h8i : (k : Int) + 8 ≤ len := by omega
        have cell : ∀ j, j < 4 → wr.cell? ⟨b, o + (k + j), none⟩ = some (bv ((xs.drop k).getD j 0#8)) := by
          intro j hj
          have := (HB.out.cell (p := ⟨b, o + (k + j), none⟩) HBLT.out).trans (HC.out (k + j) (by omega))
          rw [this]
          simp [List.getD]
        have k0 : wr.cell? ⟨b, o + k, none⟩ = some (bv ((xs.drop k).getD 0 0#8)) := cell 0 (by omega)
        have k1 := cell 1 (by omega)
        have k2 := cell 2 (by omega)
        have k3 := cell 3 (by omega)
        unfold bv at k0 k1 k2 k3
        clear cell
        have T4 := Lib.hid (take_four (xs.drop k) (by rw [List.length_drop, HL.out]; omega))
        generalize (xs.drop k).getD 0 0#8 = x0 at *
        generalize (xs.drop k).getD 1 0#8 = x1 at *
        generalize (xs.drop k).getD 2 0#8 = x2 at *
        generalize (xs.drop k).getD 3 0#8 = x3 at *
        have y0 := x0.isLt
        have y1 := x1.isLt
        have y2 := x2.isLt
        have y3 := x3.isLt
        obtain ⟨n, hn⟩ : ∃ n : Nat, n = x0.toNat + 256 * x1.toNat + 65536 * x2.toNat + 16777216 * x3.toNat := ⟨_, rfl⟩
        have HN := Lib.hid hn
        have T5 : Hid (ival ((xs.drop k).take 4) = n) := Lib.hid (by rw [T4.out, hn])
        have q3 : IntKind.i64.wrap ((x0.toNat : Int) + 256 * x1.toNat + 65536 * x2.toNat + 16777216 * x3.toNat) = (n : Int) := by
          rw [i64_small _ (by omega)]; omega
        have s1 := i64_small ((k : Int) + 1) (by omega)
        have s2 := i64_small ((k : Int) + 2) (by omega)
        have s3 := i64_small ((k : Int) + 3) (by omega)
        have p1 := i64_small (256 * (x1.toNat : Int)) (by omega)
        have p2 := i64_small (65536 * (x2.toNat : Int)) (by omega)
        have p3 := i64_small (16777216 * (x3.toNat : Int)) (by omega)
        have q1 := i64_small ((x0.toNat : Int) + 256 * x1.toNat) (by omega)
        have q2 := i64_small ((x0.toNat : Int) + 256 * x1.toNat + 65536 * x2.toNat) (by omega)
        have n0 : 0 ≤ (k : Int) := by omega
        have n1 : 0 ≤ (k : Int) + 1 := by omega
        have n2 : 0 ≤ (k : Int) + 2 := by omega
        have n3 : 0 ≤ (k : Int) + 3 := by omega
        have l0 : (k : Int) < len := by omega
        have l1 : (k : Int) + 1 < len := by omega
        have l2 : (k : Int) + 2 < len := by omega
        have l3 : (k : Int) + 3 < len := by omega
        have t1 : ((k : Int) + 1).toNat = k + 1 := by omega
        have t2 : ((k : Int) + 2).toNat = k + 2 := by omega
        have t3 : ((k : Int) + 3).toNat = k + 3 := by omega
        clear hn
        go_wp2_with fail
        go_quiet (fail)
        clear s1 s2 s3 p1 p2 p3 q1 q2 q3 t1 t2 t3 n1 n2 n3 l1 l2 l3 k0 k1 k2 k3
        have hni0 : (0 : Int) ≤ n := by omega
        by_cases hbig : 1048576 < n
        · have ST := Lib.hid (AT.out.stop (first_big _ (by rw [T5.out]; exact .inl hbig)))
          have hbi : (1048576 : Int) < n := by omega
          have RO1 := Lib.hid (RO.out.below (below_drewN (Below.refl _ _) nq) (Nat.le_refl _))
          have HB1 := Lib.hid (below_drewN HB.out nq)
          clear hbig
          go_wp2_with fail
          go_ret2
          exact ⟨_, ls, _, rfl, ST.out, RO1.out, HB1.out⟩
        · have hbi : (n : Int) ≤ 1048576 := by omega
          by_cases hfit : len < k + 8 + n
          · have ST := Lib.hid (AT.out.stop (first_big _ (by rw [T5.out, List.length_drop, HL.out]; right; omega)))
            have hfi : (len : Int) < k + 8 + n := by omega
            have RO1 := Lib.hid (RO.out.below (below_drewN (Below.refl _ _) nq) (Nat.le_refl _))
            have HB1 := Lib.hid (below_drewN HB.out nq)
            clear hbig hfit
            go_wp2_with fail
            go_ret2
            exact ⟨_, ls, _, rfl, ST.out, RO1.out, HB1.out⟩
          · have hfi : (k : Int) + 8 + n ≤ len := by omega
            have hfc : (k : Int) + 8 + n ≤ cap := by omega
            have hne : ¬ cap = k := by omega
            have hpl : (((xs.drop k).drop 8).take n).length = n := by rw [List.length_take, List.length_drop, List.length_drop, HL.out]; omega
            have hp1 := (SX.out.from (k + 8) (by rw [HL.out]; omega)).first n (by rw [List.length_drop, HL.out]; omega)
            rw [show xs.drop (k + 8) = (xs.drop k).drop 8 by rw [List.drop_drop]] at hp1
            have hp2 := (SX.out.from k (by rw [HL.out]; omega)).first (8 + n) (by rw [List.length_drop, HL.out]; omega)
            rw [if_neg hne] at hp2
            have FI := first_iff (xs := xs.drop k) (by rw [List.length_drop, HL.out]; omega) (by rw [T5.out]; omega) (by rw [T5.out, List.length_drop, HL.out]; omega)
            rw [T5.out] at FI
            have FY := Lib.hid FI.1
            have FN := Lib.hid FI.2
            have HPL := Lib.hid hpl
            have P2 := Lib.hid hp2
            have P1 := Lib.hid hp1
            have HB1 := Lib.hid (below_drewN HB.out nq)
            have RO1 := Lib.hid (RO.out.below (below_drewN (Below.refl _ _) nq) (Nat.le_refl _))
            have P22 : Hid (8 + n = ((xs.drop k).take (8 + n)).length) := Lib.hid (by rw [List.length_take, List.length_drop, HL.out]; omega)
            generalize hpp : ((xs.drop k).drop 8).take n = p at *
            generalize hpq : (xs.drop k).take (8 + n) = pq at *
            have hn4 : (n : Int) ≤ 5992 := by omega
            have HN4 : Hid (n ≤ 5992) := Lib.hid (by omega)
            clear hpp hpq hpl hp2 FI hbig hfit T4 T5 HN
            generalize wr.drewN nq = ur at *
            have hur := HB1.out.size
            by_cases hcs : cap = k + 8
            · rw [if_pos hcs] at P1
              have hn0 : n = 0 := by omega
              have hl0 : len = k + 8 := by omega
              subst hn0
              subst hcs
              subst hl0
              simp only [Nat.sub_self, Nat.add_zero, Nat.add_sub_cancel_left] at P1 P2 P22
              clear hs hne hp1
              go_wp2_with (at_builtin; refine wpList_append_seq rfl (.tmp 53) (.tmp 61) rfl ur.heap.size rfl (Owns.empty _ _ (Nat.le_refl _)) rfl (Seq.cong (P1.out.below (HB1.out.alloc hur _)) (by simp [Act.eval])) (by rw [HPL.out]; simp <;> (have := HN4.out; omega)) (le_alloc _ _) ?_)
              intro v1 u1 ho1 hg1 _
              obtain ⟨a1, c1, rfl, q3, q4, ho1, -⟩ := ho1.parts
              have B1 := Lib.hid (((Below.refl ur.heap.size ur).alloc (Nat.le_refl _) _).grown hg1 (le_alloc _ _) (by intro k hk; simp [Value.ownBlock] at hk; omega))
              have O1 := Lib.hid ho1
              clear ho1 hg1
              go_wp2_with fail
              have KF : Hid (∀ u', Below u1.heap.size u1 u' → _) := Lib.hid (fun u' (hb : Below u1.heap.size u1 u') => refFrame_any (O1.out.seq.below hb) (by rw [HPL.out]; have := HN4.out; omega))
              have HB2 := Lib.hid (HB1.out.trans (B1.out.mono hur))
              have w1' := i64_small ((k : Int) + 8) (by omega)
              have z1 : (0 : Int) ≤ (k : Int) + 8 := by omega
              have z2 : (k : Int) ≤ (k : Int) + 8 := by omega
              have z4 : ((k : Int) + 8).toNat = k + 8 := by omega
              have z5 : k + 8 - k = 8 := by omega
              have hne : ¬ k + 8 = k := by omega
              by_cases hq : frm p = pq
              · have hf1 := FY.out hq
                have KS : Hid (∀ u' x, Below w.heap.size w u' → Seq u' x (frm p) → _) := Lib.hid (fun u' x (hb : Below w.heap.size w u') (hx : Seq u' x (frm p)) => sameB hx (by rw [hq]; exact P2.out.below hb))
                have HQ := Lib.hid hq
                have AT2 := Lib.hid (AT.out.step hf1).1
                rw [HPL.out] at AT2
                clear hq hf1
                go_region_held3 (fun _ => True) (trivial) ((first
                  | (go_at_call 11; refine (KF.out _ ?_).mono ?_; exact (Below.refl _ _).drew; rintro e u2 ⟨v2, rfl, ho2, hb2⟩)
                  | (go_at_call 22; refine (KS.out _ _ ?_ ho2.seq).mono ?_; exact HB2.out.trans (((Below.refl _ _).drew.trans hb2).mono HB2.out.size); rintro e u3 ⟨rfl, hb3⟩)))
                have B12 : Below u1.heap.size u1 u2 := (Below.refl _ _).drew.trans hb2
                have B13 := Lib.hid (B12.trans (hb3.mono B12.size))
                have BR3 := Lib.hid (B1.out.trans (B13.out.mono B1.out.size))
                have HB3 := Lib.hid (HB1.out.trans (BR3.out.mono hur))
                have RO3 := Lib.hid (RO1.out.below BR3.out (Nat.le_refl _))
                clear w1' z1 z2 z4 z5 ho2 hb2 hb3 B12
                obtain ⟨vs, hvs, hov, hel⟩ := (RO3.out.alloc (.cells #[.slice a1 p.length c1] 22))
                have HVS := Lib.hid hvs
                have HOV := Lib.hid hov
                have HEL := Lib.hid hel
                have HMANY := Lib.hid AT.out.many
                have hsz := HB3.out.size
                clear hvs hov hel
                go_wp2_with (at_builtin; refine wpList_append_row (by rfl) (.tmp 74) (.tmp 76) rfl w.heap.size rfl HOV.out rfl (rowOf_one _ _ _) (one_cell _ _ _) (by have := HMANY.out; have := HVS.out; have := HL.out; simp; omega) (by simp; omega) ?_)
                intro v5 u5 ho5 hg5 _
                have RO5 := Lib.hid (OwnsR.push HVS.out HOV.out HEL.out (((O1.out.below B13.out (Nat.le_refl _)).mono hur).alloc _) ho5 hg5)
                have HB5 := Lib.hid ((HB3.out.alloc hsz _).grown hg5 (by simp; omega) (fun k hk => (HOV.out.lt k hk).1))
                clear ho5 hg5
                go_wp2_with fail
                go_roundw
                case rel => exact ⟨k + (8 + 0), ls ++ [p], by go_num, AT2.out, RO5.out, HB5.out⟩
                case measure => simp [intOf]; omega
              · have ST := Lib.hid (AT.out.stop (FN.out hq))
                have KS : Hid (∀ u' x, Below w.heap.size w u' → Seq u' x (frm p) → _) := Lib.hid (fun u' x (hb : Below w.heap.size w u') (hx : Seq u' x (frm p)) => sameN hx (P2.out.below hb) (by rw [frm_len, HPL.out]; exact P22.out) hq)
                clear hq
                go_region_held3 (fun _ => True) (trivial) ((first
                  | (go_at_call 11; refine (KF.out _ ?_).mono ?_; exact (Below.refl _ _).drew; rintro e u2 ⟨v2, rfl, ho2, hb2⟩)
                  | (go_at_call 22; refine (KS.out _ _ ?_ ho2.seq).mono ?_; exact HB2.out.trans (((Below.refl _ _).drew.trans hb2).mono HB2.out.size); rintro e u3 ⟨rfl, hb3⟩)))
                have B12 : Below u1.heap.size u1 u2 := (Below.refl _ _).drew.trans hb2
                have B13 := Lib.hid (B12.trans (hb3.mono B12.size))
                have BR3 := Lib.hid (B1.out.trans (B13.out.mono B1.out.size))
                have HB3 := Lib.hid (HB1.out.trans (BR3.out.mono hur))
                have RO3 := Lib.hid (RO1.out.below BR3.out (Nat.le_refl _))
                clear w1' z1 z2 z4 z5 ho2 hb2 hb3 B12
                go_wp2_with fail
                go_ret2
                exact ⟨_, ls, _, rfl, ST.out, RO3.out, HB3.out⟩
            · rw [if_neg hcs] at P1 hp1
              clear hp1 hs hne
              go_wp2_with (at_builtin; refine wpList_append_seq rfl (.tmp 53) (.tmp 61) rfl ur.heap.size rfl (Owns.empty _ _ (Nat.le_refl _)) rfl (Seq.cong (P1.out.below (HB1.out.alloc hur _)) (by simp [Act.eval])) (by rw [HPL.out]; simp <;> (have := HN4.out; omega)) (le_alloc _ _) ?_)
              intro v1 u1 ho1 hg1 _
              obtain ⟨a1, c1, rfl, q3, q4, ho1, -⟩ := ho1.parts
              have B1 := Lib.hid (((Below.refl ur.heap.size ur).alloc (Nat.le_refl _) _).grown hg1 (le_alloc _ _) (by intro k hk; simp [Value.ownBlock] at hk; omega))
              have O1 := Lib.hid ho1
              clear ho1 hg1
              go_wp2_with fail
              have KF : Hid (∀ u', Below u1.heap.size u1 u' → _) := Lib.hid (fun u' (hb : Below u1.heap.size u1 u') => refFrame_any (O1.out.seq.below hb) (by rw [HPL.out]; have := HN4.out; omega))
              have HB2 := Lib.hid (HB1.out.trans (B1.out.mono hur))
              have hne : ¬ cap = k := by omega
              have w1' := i64_small ((k : Int) + 8) (by omega)
              have w2' := i64_small ((k : Int) + 8 + n) (by omega)
              have z1 : (0 : Int) ≤ (k : Int) + 8 + n := by omega
              have z2 : (k : Int) ≤ (k : Int) + 8 + n := by omega
              have z4 : ((k : Int) + 8 + n).toNat = k + 8 + n := by omega
              have z5 : k + 8 + n - k = 8 + n := by omega
              by_cases hq : frm p = pq
              · have hf1 := FY.out hq
                have KS : Hid (∀ u' x, Below w.heap.size w u' → Seq u' x (frm p) → _) := Lib.hid (fun u' x (hb : Below w.heap.size w u') (hx : Seq u' x (frm p)) => sameB hx (by rw [hq]; exact P2.out.below hb))
                have HQ := Lib.hid hq
                have AT2 := Lib.hid (AT.out.step hf1).1
                rw [HPL.out] at AT2
                clear hq hf1
                go_region_held3 (fun _ => True) (trivial) ((first
                  | (go_at_call 11; refine (KF.out _ ?_).mono ?_; exact (Below.refl _ _).drew; rintro e u2 ⟨v2, rfl, ho2, hb2⟩)
                  | (go_at_call 22; refine (KS.out _ _ ?_ ho2.seq).mono ?_; exact HB2.out.trans (((Below.refl _ _).drew.trans hb2).mono HB2.out.size); rintro e u3 ⟨rfl, hb3⟩)))
                have B12 : Below u1.heap.size u1 u2 := (Below.refl _ _).drew.trans hb2
                have B13 := Lib.hid (B12.trans (hb3.mono B12.size))
                have BR3 := Lib.hid (B1.out.trans (B13.out.mono B1.out.size))
                have HB3 := Lib.hid (HB1.out.trans (BR3.out.mono hur))
                have RO3 := Lib.hid (RO1.out.below BR3.out (Nat.le_refl _))
                clear w1' w2' z1 z2 z4 z5 ho2 hb2 hb3 B12
                obtain ⟨vs, hvs, hov, hel⟩ := (RO3.out.alloc (.cells #[.slice a1 p.length c1] 22))
                have HVS := Lib.hid hvs
                have HOV := Lib.hid hov
                have HEL := Lib.hid hel
                have HMANY := Lib.hid AT.out.many
                have hsz := HB3.out.size
                clear hvs hov hel
                go_wp2_with (at_builtin; refine wpList_append_row (by rfl) (.tmp 74) (.tmp 76) rfl w.heap.size rfl HOV.out rfl (rowOf_one _ _ _) (one_cell _ _ _) (by have := HMANY.out; have := HVS.out; have := HL.out; simp; omega) (by simp; omega) ?_)
                intro v5 u5 ho5 hg5 _
                have RO5 := Lib.hid (OwnsR.push HVS.out HOV.out HEL.out (((O1.out.below B13.out (Nat.le_refl _)).mono hur).alloc _) ho5 hg5)
                have HB5 := Lib.hid ((HB3.out.alloc hsz _).grown hg5 (by simp; omega) (fun k hk => (HOV.out.lt k hk).1))
                clear ho5 hg5
                go_wp2_with fail
                go_roundw
                case rel => exact ⟨k + (8 + n), ls ++ [p], by go_num, AT2.out, RO5.out, HB5.out⟩
                case measure => simp [intOf]; omega
              · have ST := Lib.hid (AT.out.stop (FN.out hq))
                have KS : Hid (∀ u' x, Below w.heap.size w u' → Seq u' x (frm p) → _) := Lib.hid (fun u' x (hb : Below w.heap.size w u') (hx : Seq u' x (frm p)) => sameN hx (P2.out.below hb) (by rw [frm_len, HPL.out]; exact P22.out) hq)
                clear hq
                go_region_held3 (fun _ => True) (trivial) ((first
                  | (go_at_call 11; refine (KF.out _ ?_).mono ?_; exact (Below.refl _ _).drew; rintro e u2 ⟨v2, rfl, ho2, hb2⟩)
                  | (go_at_call 22; refine (KS.out _ _ ?_ ho2.seq).mono ?_; exact HB2.out.trans (((Below.refl _ _).drew.trans hb2).mono HB2.out.size); rintro e u3 ⟨rfl, hb3⟩)))
                have B12 : Below u1.heap.size u1 u2 := (Below.refl _ _).drew.trans hb2
                have B13 := Lib.hid (B12.trans (hb3.mono B12.size))
                have BR3 := Lib.hid (B1.out.trans (B13.out.mono B1.out.size))
                have HB3 := Lib.hid (HB1.out.trans (BR3.out.mono hur))
                have RO3 := Lib.hid (RO1.out.below BR3.out (Nat.le_refl _))
                clear w1' w2' z1 z2 z4 z5 ho2 hb2 hb3 B12
                go_wp2_with fail
                go_ret2
                exact ⟨_, ls, _, rfl, ST.out, RO3.out, HB3.out⟩
      · have h8i : ¬ (k : Int) + 8 ≤ len := by omega
        have ST := Lib.hid (AT.out.stop (first_short _ (by rw [List.length_drop, HL.out]; omega)))
        go_wp2_with fail
        go_ret2
        exact ⟨_, ls, _, rfl, ST.out, RO.out, HB.out⟩
  · obtain rfl : xs = [] := List.eq_nil_of_length_eq_zero (by omega)
    obtain ⟨a, cap, rfl, -, -, h0, -⟩ := hs.parts
    exact refScan_empty a cap w
end Go.Proofs.YtehlbddcgnclaaaDoor
