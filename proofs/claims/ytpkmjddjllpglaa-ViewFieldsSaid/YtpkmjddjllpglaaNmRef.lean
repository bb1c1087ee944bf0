/- The document's own Total: the sum of at most 2^30 integers where it is one of 64 bits, else 0 and 5. -/
import Derived.Test.YtpkmjddjllpglaaNmSeq
import Derived.BigQuiet
import Derived.WalkSmall
import Derived.Deep.QuietTactic
namespace Go.Proofs.Ytpkmjddjllpglaa.Nm
open Go.RowKit Plain
set_option linter.unusedVariables false

def pos (xs : List Int) : List Int := xs.filter (fun x => decide (0 < x))
def neg (xs : List Int) : List Int := xs.filter (fun x => decide (x < 0))
theorem pos_neg (xs : List Int) : tot (pos xs) + tot (neg xs) = tot xs := by
  induction xs with
  | nil => rfl
  | cons a l ih =>
    unfold pos neg at *
    simp only [List.filter_cons]
    by_cases h1 : 0 < a <;> by_cases h2 : a < 0 <;> simp only [h1, h2, decide_true, decide_false, if_true, if_false, tot_cons, Bool.false_eq_true] <;> omega
theorem pos_le (xs : List Int) : (pos xs).length ≤ xs.length := List.length_filter_le _ _
theorem neg_le (xs : List Int) : (neg xs).length ≤ xs.length := List.length_filter_le _ _
theorem pos_up (xs : List Int) (k : Nat) (hk : k < xs.length) (h : 0 < xs.getD k 0) : pos (xs.take (k + 1)) = pos (xs.take k) ++ [xs.getD k 0] ∧ neg (xs.take (k + 1)) = neg (xs.take k) := by
  rw [take_snoc xs k hk]; unfold pos neg; simp only [List.filter_append]
  generalize xs.getD k 0 = x at *
  simp [h, show ¬ x < 0 by omega]
theorem pos_down (xs : List Int) (k : Nat) (hk : k < xs.length) (h : xs.getD k 0 < 0) : pos (xs.take (k + 1)) = pos (xs.take k) ∧ neg (xs.take (k + 1)) = neg (xs.take k) ++ [xs.getD k 0] := by
  rw [take_snoc xs k hk]; unfold pos neg; simp only [List.filter_append]
  generalize xs.getD k 0 = x at *
  simp [h, show ¬ 0 < x by omega]
theorem pos_zero (xs : List Int) (k : Nat) (hk : k < xs.length) (h : xs.getD k 0 = 0) : pos (xs.take (k + 1)) = pos (xs.take k) ∧ neg (xs.take (k + 1)) = neg (xs.take k) := by
  rw [take_snoc xs k hk]; unfold pos neg; simp only [List.filter_append, h]
  simp

theorem Apart.symm {u v : Value} (h : Apart u v) : Apart v u := by
  rcases h with h | h
  · by_cases e : v.ownBlock = none
    · exact .inl e
    · right; rw [h]; exact e
  · right; exact fun e => h e.symm
def lenV : Value → Nat
  | .slice _ n _ => n
  | _ => 0
/-- between the two loops and in the second: what is left above 0, what is left below 0, and the sum so far make the whole -/
def Mid (w : World) (T : Int) (u v s : Value) (wr : World) : Prop :=
  ∃ ps ns t, s = .int .i64 t ∧ Seq wr u ps ∧ Seq wr v ns ∧ (∀ x ∈ ps, 0 < x ∧ fits x) ∧ (∀ x ∈ ns, x < 0 ∧ fits x) ∧ fits t ∧ t + tot ps + tot ns = T ∧ Below w.heap.size w wr ∧ ps.length ≤ 1073741824 ∧ ns.length ≤ 1073741824
theorem Mid.down {w wr : World} {T t y : Int} {u v : Value} {ps ns : List Int} (hu : Seq wr u ps) (hv : Seq wr v ns) (hp : ∀ x ∈ ps, 0 < x ∧ fits x) (hn : ∀ x ∈ y :: ns, x < 0 ∧ fits x)
    (ht : fits (t + y)) (hs : t + tot ps + tot (y :: ns) = T) (hb : Below w.heap.size w wr) (lp : ps.length ≤ 1073741824) (ln : ns.length + 1 ≤ 1073741824) : Mid w T u v (.int .i64 (t + y)) wr :=
  ⟨ps, ns, t + y, rfl, hu, hv, hp, fun x hx => hn x (List.mem_cons_of_mem _ hx), ht, by rw [tot_cons] at hs; omega, hb, lp, by omega⟩
theorem Mid.up {w wr : World} {T t x : Int} {u v : Value} {ps ns : List Int} (hu : Seq wr u ps) (hv : Seq wr v ns) (hp : ∀ z ∈ x :: ps, 0 < z ∧ fits z) (hn : ∀ x ∈ ns, x < 0 ∧ fits x)
    (ht : fits (t + x)) (hs : t + tot (x :: ps) + tot ns = T) (hb : Below w.heap.size w wr) (lp : ps.length + 1 ≤ 1073741824) (ln : ns.length ≤ 1073741824) : Mid w T u v (.int .i64 (t + x)) wr :=
  ⟨ps, ns, t + x, rfl, hu, hv, fun z hz => hp z (List.mem_cons_of_mem _ hz), hn, ht, by rw [tot_cons] at hs; omega, hb, by omega, ln⟩
theorem tot_pos (l : List Int) (h : ∀ x ∈ l, 0 < x ∧ fits x) : 0 ≤ tot l := by
  induction l with
  | nil => simp [tot_nil]
  | cons a l ih => have := ih (fun x hx => h x (List.mem_cons_of_mem _ hx)); have := (h a List.mem_cons_self).1; rw [tot_cons]; omega
theorem tot_neg (l : List Int) (h : ∀ x ∈ l, x < 0 ∧ fits x) : tot l ≤ 0 := by
  induction l with
  | nil => simp [tot_nil]
  | cons a l ih => have := ih (fun x hx => h x (List.mem_cons_of_mem _ hx)); have := (h a List.mem_cons_self).1; rw [tot_cons]; omega
theorem Mid.drewN {w wr : World} {T : Int} {u v s : Value} (h : Mid w T u v s wr) (n : Nat) : Mid w T u v s (wr.drewN n) := by
  obtain ⟨ps, ns, t, rfl, hu, hv, hp, hn, ht, hs, hb, lp, ln⟩ := h
  exact ⟨ps, ns, t, rfl, hu.of_cell (fun _ => rfl), hv.of_cell (fun _ => rfl), hp, hn, ht, hs, below_drewN hb n, lp, ln⟩
theorem not_down {t y : Int} {T : Int} {ns : List Int} (hp : ∀ x ∈ ([] : List Int), 0 < x ∧ fits x) (hn : ∀ x ∈ y :: ns, x < 0 ∧ fits x) (ht : fits t) (h0 : t < 0) (hf : ¬ fits (t + y)) (hs : t + tot [] + tot (y :: ns) = T) : ¬ fits T := by
  have := tot_neg ns (fun x hx => hn x (List.mem_cons_of_mem _ hx))
  have := (hn y List.mem_cons_self).1
  rw [tot_cons, tot_nil] at hs
  unfold fits at *
  omega
theorem not_up {t x : Int} {T : Int} {ps : List Int} (hp : ∀ z ∈ x :: ps, 0 < z ∧ fits z) (hn : ∀ x ∈ ([] : List Int), x < 0 ∧ fits x) (ht : fits t) (h0 : 0 < t) (hf : ¬ fits (t + x)) (hs : t + tot (x :: ps) + tot [] = T) : ¬ fits T := by
  have := tot_pos ps (fun z hz => hp z (List.mem_cons_of_mem _ hz))
  have := (hp x List.mem_cons_self).1
  rw [tot_cons, tot_nil] at hs
  unfold fits at *
  omega
theorem info2 : (Try.prog.info? 2).map (fun i => (i.zero, i.size, i.bytes)) = some (some (.int .i64 0), 1, 8) := by kernel_rfl

set_option maxHeartbeats 4000000 in
theorem refTot_any (b off cap : Nat) (zs : List Int) (w : World) (hz : 0 < zs.length) (hbig : zs.length ≤ 1073741824) (hwf : ∀ n ∈ zs, fits n) (hc : ∀ j, j < zs.length → w.cell? ⟨b, off + j, none⟩ = some (.int .i64 (zs.getD j 0))) :
    Calls Try.prog 24 #[.slice (some ⟨b, off, none⟩) zs.length cap] w fun e w' => e = .returned (.tuple #[.int .i64 (sumV (tot zs)), .int .i64 (sumE (tot zs))]) ∧ Below w.heap.size w w' := by
  obtain ⟨i0, hi, hz0, hz1, hz2⟩ := info_parts info2
  have hbB : b < w.heap.size := World.block_lt_of_cell? w ⟨b, off + 0, none⟩ (hc 0 hz)
  have HC := Lib.hid hc
  have HW := Lib.hid hwf
  clear hc hwf
  go_enter Try.func24, Try.ntmps24
  go_wp2
  go_loopw [4, 5, 6] (fun u v i wr => ∃ k : Nat, k ≤ zs.length ∧ i = .int .i64 k ∧ Owns w.heap.size wr u (pos (zs.take k)) ∧ Owns w.heap.size wr v (neg (zs.take k)) ∧ Apart v u ∧ Apart u v ∧ Below w.heap.size w wr ∧ w.heap.size ≤ wr.heap.size)
    (fun _ _ i _ => zs.length - (intOf i).toNat)
  case atStart => exact ⟨0, Nat.zero_le _, rfl, Owns.nil _ _, Owns.nil _ _, .inl rfl, .inl rfl, Below.refl _ _, Nat.le_refl _⟩
  case round =>
    obtain ⟨k, hk, rfl, hu, hv, hvu, huv, hb, hB⟩ := hrel
    by_cases hlt : k < zs.length
    · have hcell : wr.cell? ⟨b, off + k, none⟩ = some (.int .i64 (zs.getD k 0)) := (hb.cell (p := ⟨b, off + k, none⟩) hbB).trans (HC.out k hlt)
      have E1 := Lib.hid (pos_up zs k hlt)
      have E2 := Lib.hid (pos_down zs k hlt)
      have E3 := Lib.hid (pos_zero zs k hlt)
      have l1 : (pos (zs.take k)).length ≤ k := Nat.le_trans (pos_le _) (List.length_take_le _ _)
      have l2 : (neg (zs.take k)).length ≤ k := Nat.le_trans (neg_le _) (List.length_take_le _ _)
      generalize zs.getD k 0 = x at *
      generalize hps : pos (zs.take k) = ps at *
      generalize hns : neg (zs.take k) = ns at *
      clear hps hns
      by_cases h1 : 0 < x
      · have h2 : ¬ x < 0 := by omega
        go_wp2_with (at_builtin; refine wpList_append_own_at _ rfl _ _ 47 rfl w.heap.size 2 i0 (.int .i64 0) 1 8 Try.underlying47 hi hz0 hz1 hz2 rfl (by decide) _ _ _ rfl (World.ownsRow.alloc hu _) ⟨wr.heap.size, 0, none⟩ 1 1 [.int .i64 x] rfl rfl (cell_one_new _ _ _) (by intro u hu; simp at hu; subst hu; rfl) (by unfold maxLen; omega) (by omega) (by simp; omega) ?_)
        intro u' w1 hown hgrow hnil hat
        obtain ⟨p1, p2, p3, p4, p5⟩ := Owns.push hB hu hv hvu hb hown hgrow hat
        have hcell' : w1.cell? ⟨b, off + k, none⟩ = some (.int .i64 x) := by rw [← hcell]; exact (p4.cell (p := ⟨b, off + k, none⟩) hbB).trans (hb.cell (p := ⟨b, off + k, none⟩) hbB).symm
        clear hown hgrow hnil hat hu hv hvu huv hb hB hcell
        go_wp2
        go_roundw
        case rel => exact ⟨k + 1, by omega, by go_num, by rw [(E1.out h1).1]; exact p1, by rw [(E1.out h1).2]; exact p2, p3, Apart.symm p3, p4, p5⟩
        case measure => simp [intOf]; omega
      · by_cases h2 : x < 0
        · go_wp2_with (at_builtin; refine wpList_append_own_at _ rfl _ _ 47 rfl w.heap.size 2 i0 (.int .i64 0) 1 8 Try.underlying47 hi hz0 hz1 hz2 rfl (by decide) _ _ _ rfl (World.ownsRow.alloc hv _) ⟨wr.heap.size, 0, none⟩ 1 1 [.int .i64 x] rfl rfl (cell_one_new _ _ _) (by intro u hu; simp at hu; subst hu; rfl) (by unfold maxLen; omega) (by omega) (by simp; omega) ?_)
          intro u' w1 hown hgrow hnil hat
          obtain ⟨p1, p2, p3, p4, p5⟩ := Owns.push hB hv hu huv hb hown hgrow hat
          clear hown hgrow hnil hat hu hv hvu huv hb hB hcell
          go_wp2
          go_roundw
          case rel => exact ⟨k + 1, by omega, by go_num, by rw [(E2.out h2).1]; exact p2, by rw [(E2.out h2).2]; exact p1, Apart.symm p3, p3, p4, p5⟩
          case measure => simp [intOf]; omega
        · go_wp2
          go_roundw
          case rel => exact ⟨k + 1, by omega, by go_num, by rw [(E3.out (by omega)).1]; exact hu, by rw [(E3.out (by omega)).2]; exact hv, hvu, huv, hb, hB⟩
          case measure => simp [intOf]; omega
    · obtain rfl : k = zs.length := by omega
      have hu' := Owns.seq hu
      have hv' := Owns.seq hv
      rw [List.take_length] at hu' hv'
      have hsum := pos_neg zs
      have hpf : ∀ x ∈ pos zs, 0 < x ∧ fits x := fun x hx => by
        obtain ⟨m, h⟩ := List.mem_filter.1 hx; exact ⟨by simpa using h, HW.out x m⟩
      have hnf : ∀ x ∈ neg zs, x < 0 ∧ fits x := fun x hx => by
        obtain ⟨m, h⟩ := List.mem_filter.1 hx; exact ⟨by simpa using h, HW.out x m⟩
      have R : Mid w (tot zs) u4 u5 (.int .i64 0) wr := ⟨_, _, 0, rfl, hu', hv', hpf, hnf, by unfold fits; omega, by omega, hb, by have := pos_le zs; omega, by have := neg_le zs; omega⟩
      clear hu hv hvu huv hB hu' hv' hsum hpf hnf hb HC HW
      go_wp2
      go_loopw [4, 5, 7] (fun u v s wr => Mid w (tot zs) u v s wr) (fun u v _ _ => lenV u + lenV v)
      case atStart => exact R
      case round =>
        clear R
        obtain ⟨ps, ns, t, rfl, hu, hv, hp, hn, ht, hs, hb, lp, ln⟩ := hrel
        have ht1 : -9223372036854775808 ≤ t := ht.1
        have ht2 : t ≤ 9223372036854775807 := ht.2
        have HS := Lib.hid hs
        have HP := Lib.hid hp
        have HN := Lib.hid hn
        have HT := Lib.hid ht
        clear hs hp hn ht
        cases ps with
        | nil =>
          obtain ⟨au, cu, rfl, -, hcu, -⟩ := hu
          simp only [List.length_nil] at *
          have HU : Hid (Seq wr (.slice au 0 cu) []) := Lib.hid (Seq.nil wr au cu hcu)
          cases ns with
          | nil =>
            obtain ⟨av, cv, rfl, -, -, -⟩ := hv
            simp only [List.length_nil] at *
            have hT : t = tot zs := by have := HS.out; simp only [tot_nil] at this; omega
            have hT' := HT.out
            rw [hT] at hT'
            have E := Lib.hid (And.intro hT (yes _ hT'))
            clear hT hT'
            go_wp2
            go_ret2
            exact ⟨ret2_int (by rw [E.out.2.1]; exact E.out.1) (by rw [E.out.2.2]), hb⟩
          | cons y ns =>
            obtain ⟨bv, ov, cv, rfl, hlv, hcv, hcell, htl, hone⟩ := Seq.head hv
            have HTL := Lib.hid htl
            have HON := Lib.hid hone
            simp only [List.length_cons] at ln
            clear htl hone hv
            have hy := HN.out y List.mem_cons_self
            have hy1 : -9223372036854775808 ≤ y := hy.2.1
            have hy2 : y < 0 := hy.1
            have HY := Lib.hid hy
            clear hy
            by_cases h0 : 0 ≤ t
            · have F := Lib.hid (show fits (t + y) by unfold fits; omega)
              by_cases hc1 : cv = 1
              · obtain rfl := HON.out hc1
                subst hc1
                by_cases h00 : t ≤ 0
                all_goals
                  go_wp2
                  go_roundw
                  case rel => exact Mid.down HU.out (Seq.nil _ _ _ (Nat.zero_le _)) HP.out HN.out F.out HS.out hb lp ln
                  case measure => simp [lenV]
              · have V := Lib.hid (HTL.out hc1)
                by_cases h00 : t ≤ 0
                all_goals
                  go_wp2
                  go_roundw
                  case rel => exact Mid.down HU.out V.out HP.out HN.out F.out HS.out hb lp ln
                  case measure => simp [lenV]
            · by_cases hc1 : cv = 1
              · obtain rfl := HON.out hc1
                subst hc1
                by_cases hf : fits (t + y)
                · have F := Lib.hid hf
                  clear hf
                  go_wp2_with (go_quiet (fail))
                  refine (refAdd_yes t y _ HT.out HY.out.2 F.out).mono ?_
                  rintro e w' ⟨rfl, rfl⟩
                  go_wp2
                  go_roundw
                  case rel => exact Mid.drewN (Mid.down HU.out (Seq.nil _ _ _ (Nat.zero_le _)) HP.out HN.out F.out HS.out hb lp ln) _
                  case measure => simp [lenV]
                · have F := Lib.hid hf
                  have N := Lib.hid (no _ (not_down HP.out HN.out HT.out (by omega) hf HS.out))
                  clear hf
                  go_wp2_with (go_quiet (fail))
                  refine (refAdd_no t y _ HT.out HY.out.2 F.out).mono ?_
                  rintro e w' ⟨rfl, rfl⟩
                  go_wp2
                  go_ret2
                  exact ⟨ret2_int N.out.1.symm N.out.2.symm, below_drewN hb _⟩
              · have V := Lib.hid (HTL.out hc1)
                by_cases hf : fits (t + y)
                · have F := Lib.hid hf
                  clear hf
                  go_wp2_with (go_quiet (fail))
                  refine (refAdd_yes t y _ HT.out HY.out.2 F.out).mono ?_
                  rintro e w' ⟨rfl, rfl⟩
                  go_wp2
                  go_roundw
                  case rel => exact Mid.drewN (Mid.down HU.out V.out HP.out HN.out F.out HS.out hb lp ln) _
                  case measure => simp [lenV]
                · have F := Lib.hid hf
                  have N := Lib.hid (no _ (not_down HP.out HN.out HT.out (by omega) hf HS.out))
                  clear hf
                  go_wp2_with (go_quiet (fail))
                  refine (refAdd_no t y _ HT.out HY.out.2 F.out).mono ?_
                  rintro e w' ⟨rfl, rfl⟩
                  go_wp2
                  go_ret2
                  exact ⟨ret2_int N.out.1.symm N.out.2.symm, below_drewN hb _⟩
        | cons x ps =>
          obtain ⟨bu, ou, cu, rfl, hlu, hcu, hcell, htl, hone⟩ := Seq.head hu
          have HTL := Lib.hid htl
          have HON := Lib.hid hone
          have hu0 := Lib.hid hu
          simp only [List.length_cons] at lp
          clear htl hone hu
          have hx := HP.out x List.mem_cons_self
          have hx1 : x ≤ 9223372036854775807 := hx.2.2
          have hx2 : 0 < x := hx.1
          have HX := Lib.hid hx
          clear hx
          by_cases h0 : t ≤ 0
          · have F := Lib.hid (show fits (t + x) by unfold fits; omega)
            obtain ⟨av, cv, rfl, -, hcv, -⟩ := id hv
            have HV := Lib.hid hv
            clear hv
            by_cases hc1 : cu = 1
            · obtain rfl := HON.out hc1
              subst hc1
              go_wp2
              go_roundw
              case rel => exact Mid.up (Seq.nil _ _ _ (Nat.zero_le _)) HV.out HP.out HN.out F.out HS.out hb lp ln
              case measure => simp [lenV]
            · have V := Lib.hid (HTL.out hc1)
              go_wp2
              go_roundw
              case rel => exact Mid.up V.out HV.out HP.out HN.out F.out HS.out hb lp ln
              case measure => simp [lenV]
          · cases ns with
            | nil =>
              obtain ⟨av, cv, rfl, -, hcv, -⟩ := hv
              simp only [List.length_nil] at *
              have HV : Hid (Seq wr (.slice av 0 cv) []) := Lib.hid (Seq.nil wr av cv hcv)
              by_cases hc1 : cu = 1
              · obtain rfl := HON.out hc1
                subst hc1
                by_cases hf : fits (t + x)
                · have F := Lib.hid hf
                  clear hf
                  go_wp2_with (go_quiet (fail))
                  refine (refAdd_yes t x _ HT.out HX.out.2 F.out).mono ?_
                  rintro e w' ⟨rfl, rfl⟩
                  go_wp2
                  go_roundw
                  case rel => exact Mid.drewN (Mid.up (Seq.nil _ _ _ (Nat.zero_le _)) HV.out HP.out HN.out F.out HS.out hb lp ln) _
                  case measure => simp [lenV]
                · have F := Lib.hid hf
                  have N := Lib.hid (no _ (not_up HP.out HN.out HT.out (by omega) hf HS.out))
                  clear hf
                  go_wp2_with (go_quiet (fail))
                  refine (refAdd_no t x _ HT.out HX.out.2 F.out).mono ?_
                  rintro e w' ⟨rfl, rfl⟩
                  go_wp2
                  go_ret2
                  exact ⟨ret2_int N.out.1.symm N.out.2.symm, below_drewN hb _⟩
              · have V := Lib.hid (HTL.out hc1)
                by_cases hf : fits (t + x)
                · have F := Lib.hid hf
                  clear hf
                  go_wp2_with (go_quiet (fail))
                  refine (refAdd_yes t x _ HT.out HX.out.2 F.out).mono ?_
                  rintro e w' ⟨rfl, rfl⟩
                  go_wp2
                  go_roundw
                  case rel => exact Mid.drewN (Mid.up V.out HV.out HP.out HN.out F.out HS.out hb lp ln) _
                  case measure => simp [lenV]
                · have F := Lib.hid hf
                  have N := Lib.hid (no _ (not_up HP.out HN.out HT.out (by omega) hf HS.out))
                  clear hf
                  go_wp2_with (go_quiet (fail))
                  refine (refAdd_no t x _ HT.out HX.out.2 F.out).mono ?_
                  rintro e w' ⟨rfl, rfl⟩
                  go_wp2
                  go_ret2
                  exact ⟨ret2_int N.out.1.symm N.out.2.symm, below_drewN hb _⟩
            | cons y ns =>
              obtain ⟨bv, ov, cv, rfl, hlv, hcv, hcellv, htl, hone⟩ := Seq.head hv
              have HTLv := Lib.hid htl
              have HONv := Lib.hid hone
              simp only [List.length_cons] at ln
              clear htl hone hv
              have hy := HN.out y List.mem_cons_self
              have hy1 : -9223372036854775808 ≤ y := hy.2.1
              have hy2 : y < 0 := hy.1
              have F := Lib.hid (show fits (t + y) by unfold fits; omega)
              clear hy
              have HU : Hid (Seq wr (.slice (some ⟨bu, ou, none⟩) (ps.length + 1) cu) (x :: ps)) := Lib.hid hu0.out
              by_cases hc1 : cv = 1
              · obtain rfl := HONv.out hc1
                subst hc1
                go_wp2
                go_roundw
                case rel => exact Mid.down HU.out (Seq.nil _ _ _ (Nat.zero_le _)) HP.out HN.out F.out HS.out hb lp ln
                case measure => simp [lenV]
              · have V := Lib.hid (HTLv.out hc1)
                go_wp2
                go_roundw
                case rel => exact Mid.down HU.out V.out HP.out HN.out F.out HS.out hb lp ln
                case measure => simp [lenV]

theorem refTot_none (a : Option Addr) (cap : Nat) (w : World) :
    Calls Try.prog 24 #[.slice a 0 cap] w fun e w' => e = .returned (.tuple #[.int .i64 0, .int .i64 0]) ∧ Below w.heap.size w w' := by
  go_enter Try.func24, Try.ntmps24
  go_wp2
  go_loop [4, 5, 6] (fun u v i => i = .int .i64 0 ∧ u = .slice none 0 0 ∧ v = .slice none 0 0) (fun _ _ _ => 0)
  case atStart => exact ⟨rfl, rfl, rfl⟩
  case round =>
    obtain ⟨rfl, rfl, rfl⟩ := hrel
    go_wp2
    go_loop [4, 5, 7] (fun u v s => s = .int .i64 0 ∧ u = .slice none 0 0 ∧ v = .slice none 0 0) (fun _ _ _ => 0)
    case atStart => exact ⟨rfl, rfl, rfl⟩
    case round =>
      obtain ⟨rfl, rfl, rfl⟩ := hrel
      go_wp2
      go_ret2
      exact ⟨rfl, Below.refl _ _⟩

/-- the document's Total over a slice that reads as xs -/
theorem refTot_seq {w : World} {v : Value} {xs : List Int} (h : Seq w v xs) (hn : xs.length ≤ 1073741824) (hf : ∀ n ∈ xs, fits n) :
    Calls Try.prog 24 #[v] w fun e w' => e = .returned (.tuple #[.int .i64 (sumV (tot xs)), .int .i64 (sumE (tot xs))]) ∧ Below w.heap.size w w' := by
  obtain ⟨a, cap, rfl, h1, h2, h3⟩ := h
  by_cases hp : 0 < xs.length
  · obtain ⟨b, off, rfl, hc⟩ := h3 hp
    exact refTot_any b off cap xs w hp hn hf hc
  · obtain rfl : xs = [] := List.eq_nil_of_length_eq_zero (by omega)
    exact refTot_none a cap w
end Go.Proofs.Ytpkmjddjllpglaa.Nm
