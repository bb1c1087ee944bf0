/-
  For any list of steps the law NetKeeps answers true: of its first 150 steps, of 100 bytes each, what is on the way is just what was sent or doubled, and wasn't taken, in the order in which it came, and never more than may be. No condition.
  (The frame was written by the guide's proof-skeleton.mjs, turned for a list of steps; the walk is ours, written by gen-keeps.py.)
-/
import Derived.Test.YtgllaoanpemjlaaRows
import Derived.WalkKit
import Derived.ProofKit
import Derived.OpenShut
import Derived.ShutString
import Derived.ChangeOld
import Derived.Below
import Derived.Test.YtgllaoanpemjlaaNtKeep
import Derived.Lib.MinMax
import Derived.Deep.RegionHeld3
import Derived.Deep.LoopGhost
import Derived.Deep.Cut
import Derived.Deep.DeepCutAuto
namespace Go.Proofs.Ytgllaoanpemjlaa.netKeeps
open Go.ChangeShapes Go.WideShapes Go.ChangeAt Go.RowKit
open Go.ChangeMaps (open_string shut_string)
set_option linter.unusedVariables false

theorem own : ownKnob Try.prog.godebug = none := by kernel_rfl
theorem laidOut : laidOutB Try.prog = true := by kernel_rfl

open Plain

theorem pk_end (xs : List PPkt) (q : PPkt) (n : Nat) (h : xs.length = n) : pk (xs ++ [q]) n = q := by
  subst h
  unfold pk
  simp [List.getD]
theorem snoc_short {l : List PPkt} {q : PPkt} (h : ∀ x ∈ l, x.bytes.length ≤ 1000000) (hq : q.bytes.length ≤ 1000000) : ∀ x ∈ l ++ [q], x.bytes.length ≤ 1000000 := fun x hx => (List.mem_append.1 hx).elim (h x) (fun e => by rw [List.mem_singleton.1 e]; exact hq)
set_option maxRecDepth 100000 in
theorem open0 {H : Type} {enc : TypeId × Value → H} {W : World} {r : Reach} {b : Nat} {v : Value} {d : DataW H} {p : List MemPlace} (hv : Value.okWide Try.prog W r b 43 v) (h : DataW.Trod enc Try.prog W 0 (fun _ => true) true 43 v d p) : IsNOps W v := nops_of_trod hv h

set_option maxRecDepth 100000 in
set_option maxHeartbeats 64000000 in
theorem walk (v0 : Value) (w : World) (w0 : IsNOps w v0) :
    Calls Try.prog 4 #[v0] w fun e w' => e = .returned (.bool true) ∧ Below w.heap.size w w' := by
  obtain ⟨ops, hv, hok⟩ := w0
  obtain ⟨a, cap, rfl, g1, g2, -, hs⟩ := hv.parts
  obtain ⟨n, hN⟩ : ∃ n, ops.length = n := ⟨_, rfl⟩
  rw [hN] at g1 hs ⊢
  have LN := Lib.hid hN
  have OS := Lib.hid hs
  have OK := Lib.hid hok
  have n1 : (n : Int) ≤ cap := by omega
  have n2 : (cap : Int) ≤ 9223372036854775807 := by omega
  clear hv hok hs hN g1 g2
  go_enter Try.func4, Try.ntmps4
  go_wp2_with fail
  refine (ntawake_any _).mono ?_
  rintro e u1 ⟨rfl, hb1⟩
  have hbe := hb1.alloc hb1.size (.cells #[.slice none 0 0] 24)
  have N0 : Hid (NKeep w u1.heap.size (u1.alloc (.cells #[.slice none 0 0] 24)) [] none 0 none 0 0) := Lib.hid ⟨hbe, hb1.size, ntb_new _ _ _, ⟨none, 0, [], rfl, Nat.zero_le _, Nat.zero_le _, fun _ => rfl, Rows.nil _ _, fun h => absurd h (by simp)⟩, OwnJ.nil _ _ _, by simp, fun x h => by cases h⟩
  clear hb1 hbe
  go_upto_region 4 with fail
  generalize hg : u1.heap.size = g at *
  generalize (u1.alloc (.cells #[.slice none 0 0] 24)) = u2 at *
  clear hg u1
  go_wp2_with fail
  go_loopw [4, 5] (fun v4 iv wr => ∃ (k : Nat) (l : List PPkt) (an : Option Addr) (cn : Nat) (a4 : Option Addr) (m c4 : Nat), k ≤ n ∧ v4 = .slice a4 m c4 ∧ iv = .int .i64 k ∧ NKeep w g wr l an cn a4 m c4) (fun _ iv _ => n - (intOf iv).toNat)
  case atStart => exact ⟨0, [], none, 0, none, 0, 0, Nat.zero_le _, rfl, rfl, N0.out⟩
  clear N0
  case round =>
    obtain ⟨k, l, an, cn, a4, m, c4, hk, rfl, rfl, hN⟩ := hrel
    have NK := Lib.hid hN
    have hD := hN.dims
    have LM := Lib.hid hD.1
    obtain ⟨-, m64, m1, m2, m3, m4⟩ := hD
    have q1 : (m : Int) ≤ c4 := by omega
    have q2 : (c4 : Int) ≤ 9223372036854775807 := by omega
    have q3 : (m : Int) ≤ 64 := by omega
    clear hN
    by_cases hin : k < n ∧ k < 150
    rotate_left
    · by_cases hkn : k < n
      · have h1 : (k : Int) < n := by omega
        have h2 : ¬ (k : Int) < 150 := by omega
        clear hin hkn
        go_wp2_with fail
        go_ret
        exact ⟨rfl, NK.out.low⟩
      · have h1 : ¬ (k : Int) < n := by omega
        clear hin hkn
        go_wp2_with fail
        go_ret
        exact ⟨rfl, NK.out.low⟩
    obtain ⟨hkn, hk150⟩ := hin
    have k1 : (k : Int) < n := by omega
    have k2 : (k : Int) < 150 := by omega
    obtain ⟨lb, lo, rfl, hc⟩ := nops_at OS.out (by omega)
    obtain ⟨x, da, dn, dc, hx, hB, hW⟩ := hc k hkn
    have OX := OK.out x (List.mem_of_getElem? hx)
    have OX1 := i64_in OX.1
    have OX4 := i64_in OX.2.2.2
    have BX := Lib.hid hB
    obtain ⟨x0, x1, x2, x3, x4⟩ := hW wr NK.out.low
    obtain ⟨dn_, d1, d2⟩ := hB.dims
    have BN := Lib.hid dn_
    clear dn_ hc hx hB hW OX hk150
    generalize x.nd = nd at *
    generalize x.nf = nf at *
    generalize x.nt = nt at *
    generalize x.ni = ni at *
    generalize x.nb = nb at *
    clear x
    have hb := (Below.refl wr.heap.size wr).alloc (Nat.le_refl _) (.cells #[.int .i64 nd, .int .i64 nf, .int .i64 nt, .int .i64 ni, .slice da dn dc] 45)
    have HG6 : Hid (g < wr.heap.size) := Lib.hid NK.out.box.lt
    replace NK := Lib.hid (NK.out.below hb)
    have XO := Lib.hid (ntb_new wr #[.int .i64 nd, .int .i64 nf, .int .i64 nt, .int .i64 ni, .slice da dn dc] 45)
    clear hb
    go_upto_region 9 with fail
    clear x0 x1 x2 x3 x4
    generalize hg6 : wr.heap.size = g6 at XO HG6 ⊢
    clear hg6
    generalize (wr.alloc (.cells #[.int .i64 nd, .int .i64 nf, .int .i64 nt, .int .i64 ni, .slice da dn dc] 45)) = wA at *
    obtain ⟨y0, -⟩ := box_bare XO.out.blk 0
    simp only [List.getElem?_toArray, List.getElem?_cons_zero] at y0
    have r0 : 0 ≤ IntKind.u64.wrap nd := by simp [IntKind.wrap, IntKind.signed, IntKind.bits]; omega
    go_upto_region 16 with fail
    clear y0 r0
    generalize IntKind.u64.wrap nd % 4 = r at *
    have NKA := Lib.hid NK.out
    have GO : Hid (g < g6) := Lib.hid HG6.out
    by_cases r0 : r = 0
    · subst r0
      obtain ⟨bm, hbm⟩ : ∃ b, min dn 100 = b := ⟨_, rfl⟩
      have M3 : min (dn : Int) 100 = (bm : Int) := by omega
      have b1 : (bm : Int) ≤ dc := by omega
      have b2 : (0 : Int) ≤ bm := by omega
      have b3 : (dn : Int) ≤ dc := by omega
      have b4 : (dc : Int) ≤ 9223372036854775807 := by omega
      have BP := Lib.hid (BX.out.first bm (by omega))
      have BPL : Hid ((nb.take bm).length ≤ 1000000) := Lib.hid (by rw [List.length_take]; omega)
      clear hbm
      generalize nb.take bm = pb at *
      have KE : Hid (∀ v, Below wA.heap.size wA v → Below wA.heap.size wA v ∧ v.cell? ⟨g6, 1, none⟩ = some (.int .i64 nf) ∧ v.cell? ⟨g6, 2, none⟩ = some (.int .i64 nt) ∧ v.cell? ⟨g6, 4, none⟩ = some (.slice da dn dc)) := Lib.hid (fun v hb => ⟨hb, (box_bare (XO.out.below hb).blk 1).1, (box_bare (XO.out.below hb).blk 2).1, (box_bare (XO.out.below hb).blk 4).1⟩)
      go_upto_region 18 with fail
      refine wp_region_held_drew (S := fun u' => Below wA.heap.size wA u' ∧ u'.cell? ⟨g6, 1, none⟩ = some (.int .i64 nf) ∧ u'.cell? ⟨g6, 2, none⟩ = some (.int .i64 nt) ∧ u'.cell? ⟨g6, 4, none⟩ = some (.slice da dn dc)) (by kernel_rfl) ?_ (fun hHeld => ?_)
      · (exact KE.out _ (Below.refl _ _).drew)
      simp only [List.size_toArray, List.length_cons, List.length_nil, Nat.zero_add, Nat.reduceAdd]
      refine wpAnyH_take (i := 0) (v := ?_) rfl (by kernel_rfl) (by kernel_rfl) (by kernel_rfl) (fun _ _ _ h => h) (Or.inl ⟨by rfl, ?_⟩) hHeld ?_
      rotate_left
      · (intro w' hSw; (try dsimp only at hSw); go_simp; try with_reducible rfl)
      simp only [List.getElem_toArray, List.getElem_cons_zero, Act.put, List.setIfInBounds_toArray, List.set_cons_zero, List.set_cons_succ]
      refine wpAnyH_take (i := 1) (v := ?_) rfl (by kernel_rfl) (by kernel_rfl) (by kernel_rfl) (fun _ _ _ h => h) (Or.inl ⟨by rfl, ?_⟩) hHeld ?_
      rotate_left
      · (intro w' hSw; (try dsimp only at hSw); go_simp; try with_reducible rfl)
      simp only [List.getElem_toArray, List.getElem_cons_zero, List.getElem_cons_succ, Act.put, List.setIfInBounds_toArray, List.set_cons_zero, List.set_cons_succ]
      refine wpAnyH_take (i := 2) (v := ?_) rfl (by kernel_rfl) (by kernel_rfl) (by kernel_rfl) (fun _ _ _ h => h) (Or.inl ⟨by rfl, ?_⟩) hHeld ?_
      rotate_left
      · (intro w' hSw; (try dsimp only at hSw); go_simp; try with_reducible rfl)
      simp only [List.getElem_toArray, List.getElem_cons_zero, List.getElem_cons_succ, Act.put, List.setIfInBounds_toArray, List.set_cons_zero, List.set_cons_succ]
      refine wpAnyH_take (i := 3) (v := ?_) rfl (by kernel_rfl) (by kernel_rfl) (by kernel_rfl) (fun _ _ _ h => h) (Or.inl ⟨by rfl, ?_⟩) hHeld ?_
      rotate_left
      · (intro w' hSw; (try dsimp only at hSw); go_simp; try with_reducible rfl)
      simp only [List.getElem_toArray, List.getElem_cons_zero, List.getElem_cons_succ, Act.put, List.setIfInBounds_toArray, List.set_cons_zero, List.set_cons_succ]
      refine wpAnyH_take (i := 4) (v := ?_) rfl (by kernel_rfl) (by kernel_rfl) (by kernel_rfl) (fun _ _ _ h => h) (Or.inl ⟨by rfl, ?_⟩) hHeld ?_
      rotate_left
      · (intro w' hSw; (try dsimp only at hSw); go_simp; try with_reducible rfl)
      simp only [List.getElem_toArray, List.getElem_cons_zero, List.getElem_cons_succ, Act.put, List.setIfInBounds_toArray, List.set_cons_zero, List.set_cons_succ]
      refine wpAnyH_take (i := 5) (v := ?_) rfl (by kernel_rfl) (by kernel_rfl) (by kernel_rfl) (fun _ _ _ h => h) (Or.inl ⟨by rfl, ?_⟩) hHeld ?_
      rotate_left
      · (intro w' hSw; (try dsimp only at hSw); go_simp; try with_reducible rfl)
      simp only [List.getElem_toArray, List.getElem_cons_zero, List.getElem_cons_succ, Act.put, List.setIfInBounds_toArray, List.set_cons_zero, List.set_cons_succ]
      refine wpAnyH_take (i := 6) (v := ?_) rfl (by kernel_rfl) (by kernel_rfl) (by kernel_rfl) (fun _ _ _ h => h) (Or.inl ⟨by rfl, ?_⟩) hHeld ?_
      rotate_left
      · (intro w' hSw; (try dsimp only at hSw); go_simp; try with_reducible rfl)
      simp only [List.getElem_toArray, List.getElem_cons_zero, List.getElem_cons_succ, Act.put, List.setIfInBounds_toArray, List.set_cons_zero, List.set_cons_succ]
      refine wpAnyH_take (i := 7) (v := ?_) rfl (by kernel_rfl) (by kernel_rfl) (by kernel_rfl) (fun _ _ _ h => h) (Or.inl ⟨by rfl, ?_⟩) hHeld ?_
      rotate_left
      · (intro w' hSw; (try dsimp only at hSw); go_simp; try with_reducible rfl)
      simp only [List.getElem_toArray, List.getElem_cons_zero, List.getElem_cons_succ, Act.put, List.setIfInBounds_toArray, List.set_cons_zero, List.set_cons_succ]
      refine wpAnyH_take (i := 8) (v := ?_) rfl (by kernel_rfl) (by kernel_rfl) (by kernel_rfl) (fun _ _ _ h => h) (Or.inl ⟨by rfl, ?_⟩) hHeld ?_
      rotate_left
      · (intro w' hSw; (try dsimp only at hSw); go_simp; try with_reducible rfl)
      simp only [List.getElem_toArray, List.getElem_cons_zero, List.getElem_cons_succ, Act.put, List.setIfInBounds_toArray, List.set_cons_zero, List.set_cons_succ]
      refine wpAnyH_ready (rs := [9, 12]) (by kernel_rfl) (by simp) ?_
      refine AllReadyH.cons rfl (fun K hK => ?_) (AllReadyH.cons rfl (fun K hK => ?_) AllReadyH.nil)
      · skip
        go_simp
        refine hK.out _ _ hHeld (fun hHeld => ?_)
        clear hK K
        refine wpAnyH_take (i := 10) (v := ?_) rfl (by kernel_rfl) (by kernel_rfl) (by kernel_rfl) (fun _ _ _ h => h) (Or.inl ⟨by rfl, ?_⟩) hHeld ?_
        rotate_left
        · (intro w' hSw; (try dsimp only at hSw); go_simp; try with_reducible rfl)
        simp only [List.getElem_toArray, List.getElem_cons_zero, List.getElem_cons_succ, Act.put, List.setIfInBounds_toArray, List.set_cons_zero, List.set_cons_succ]
        refine wpAnyH_take (i := 11) (v := ?_) rfl (by kernel_rfl) (by kernel_rfl) (by kernel_rfl) (fun _ _ _ h => h) (Or.inl ⟨by rfl, ?_⟩) hHeld ?_
        rotate_left
        · (intro w' hSw; (try dsimp only at hSw); go_simp; try with_reducible rfl)
        simp only [List.getElem_toArray, List.getElem_cons_zero, List.getElem_cons_succ, Act.put, List.setIfInBounds_toArray, List.set_cons_zero, List.set_cons_succ]
        refine wpAnyH_ready (rs := [12]) (by kernel_rfl) (by simp) ?_
        refine AllReadyH.cons rfl (fun K hK => ?_) AllReadyH.nil
        go_simp
        have hb : Below wA.heap.size wA (wA.alloc (.cells #[.int .i64 0, .int .i64 0, .slice none 0 0] 27)).drew := (Below.refl _ _).drew.alloc (Nat.le_refl _) _
        have E1 := Lib.hid hb
        have NX : Hid (NtB (wA.alloc (.cells #[.int .i64 0, .int .i64 0, .slice none 0 0] 27)).drew wA.heap.size #[.int .i64 0, .int .i64 0, .slice none 0 0] 27) := Lib.hid (ntb_new wA.drew _ _)
        refine hK.out _ _ (KE.out _ hb) (fun hHeld => ?_)
        clear hK K hb
        generalize (wA.alloc (.cells #[.int .i64 0, .int .i64 0, .slice none 0 0] 27)).drew = s1 at *
        refine wpAnyH_ready (rs := [13]) (by kernel_rfl) (by simp) ?_
        refine AllReadyH.cons rfl (fun K hK => ?_) AllReadyH.nil
        obtain ⟨z0, f0⟩ := box_bare NX.out.blk 0
        obtain ⟨z1, f1⟩ := box_bare NX.out.blk 1
        obtain ⟨z2, f2⟩ := box_bare NX.out.blk 2
        simp only [List.getElem?_toArray, List.getElem?_cons_zero, List.getElem?_cons_succ] at z0 z1 z2
        go_simp
        have PB := Lib.hid (put3_box NX.out.blk (.int .i64 nf) (.int .i64 nt) (.slice da bm dc))
        have hb : Below wA.heap.size wA (put3 s1 wA.heap.size (.int .i64 nf) (.int .i64 nt) (.slice da bm dc)) := E1.out.trans (PB.out.2 _ (Nat.le_refl _))
        have XP := Lib.hid PB.out.1
        have HB2 := Lib.hid hb
        refine hK.out _ _ (KE.out _ hb) (fun hHeld => ?_)
        clear hK K z0 z1 z2 f0 f1 f2 NX E1 hb PB hHeld KE
        refine wpAnyH_done (by kernel_rfl) ?_ _
        unfold put3 at XP HB2
        generalize ((s1.setCell ⟨wA.heap.size, 0, none⟩ (.int .i64 nf)).setCell ⟨wA.heap.size, 1, none⟩ (.int .i64 nt)).setCell ⟨wA.heap.size, 2, none⟩ (.slice da bm dc) = wB at *
        have hb := HB2.out
        replace NK := Lib.hid (NK.out.below hb)
        replace XO := Lib.hid (XO.out.below hb)
        have GG : Hid (g < wA.heap.size) := Lib.hid NKA.out.box.lt
        clear hb HB2 M3 b1 b2 b3 b4
        generalize hg7 : wA.heap.size = g7 at XP GG ⊢
        clear hg7
        have BB := Lib.hid (BP.out.below NK.out.low)
        by_cases h63 : m ≤ 63
        rotate_left
        · have KW := Lib.hid (ntsendFull (f := nf) (t := nt) ⟨_, rfl, NK.out.seqN⟩ BB.out (by rw [LM.out]; omega))
          have h64 : ¬ (m : Int) < 64 := by omega
          have xn := NK.out.box.net
          obtain ⟨xp0, xp1, xp2⟩ := XP.out.pkt
          go_wp2_with fail
          refine (KW.out).mono ?_
          rintro e uq1 ⟨v5, rfl, ho, hb⟩
          replace NK := Lib.hid (NK.out.below hb)
          replace XO := Lib.hid (XO.out.below hb)
          replace XP := Lib.hid (XP.out.below hb)
          obtain ⟨a5, c5, rfl, -, -, -⟩ := ho.own.at 0 rfl
          clear hb ho KW xn xp0 xp1 xp2
          have hb := (Below.refl uq1.heap.size uq1).alloc (Nat.le_refl _) (.cells #[.slice a5 0 c5] 24)
          replace NK := Lib.hid (NK.out.below hb)
          replace XO := Lib.hid (XO.out.below hb)
          replace XP := Lib.hid (XP.out.below hb)
          have XA := Lib.hid (ntb_new uq1 #[.slice a5 0 c5] 24)
          clear hb
          go_upto_region 20 with fail
          generalize hgq3 : uq1.heap.size = gq3 at XA ⊢
          clear hgq3
          generalize (uq1.alloc (.cells #[.slice a5 0 c5] 24)) = uq2 at *
          have DM := NK.out.dims
          have xn := NK.out.box.net
          have KA := Lib.hid (rsameN ⟨_, rfl, NK.out.seqN⟩ ⟨_, rfl, NK.out.seqW⟩ (by omega) true (decide_eq_true rfl))
          clear DM
          go_wp2_with fail
          refine KA.out.mono ?_
          rintro e uz ⟨rfl, hb⟩
          have NZ := Lib.hid (NK.out.below hb)
          clear hb KA xn
          go_wp2_with fail
          go_roundw
          case rel => exact ⟨k + 1, _, _, _, _, _, _, by omega, rfl, by go_num, NZ.out⟩
          case measure => simp [intOf]; omega
        have KW := Lib.hid (ntsendP (f := nf) (t := nt) ⟨_, rfl, NK.out.seqN⟩ BB.out (by rw [LM.out]; omega) NK.out.byt BPL.out)
        have h64 : (m : Int) < 64 := by omega
        have LS : Hid ((l ++ [(⟨nf, nt, pb⟩ : PPkt)]).length = m + 1) := Lib.hid (by simp [LM.out])
        have xn := NK.out.box.net
        obtain ⟨xp0, xp1, xp2⟩ := XP.out.pkt
        have N1 := Lib.hid NK.out
        go_wp2_with fail
        refine (KW.out).mono ?_
        rintro e uq4 ⟨v5, rfl, ho, hb⟩
        have HC := Lib.hid hb
        replace NK := Lib.hid (NK.out.below hb)
        replace XO := Lib.hid (XO.out.below hb)
        replace XP := Lib.hid (XP.out.below hb)
        obtain ⟨a5, c5, rfl, -, -, ho5⟩ := ho.at (m + 1) LS.out
        have SA := Lib.hid (ho5.sq fun b h _ => h)
        clear hb ho ho5 KW xn xp0 xp1 xp2
        have hb := (Below.refl uq4.heap.size uq4).alloc (Nat.le_refl _) (.cells #[.slice a5 (m + 1) c5] 24)
        replace SA := Lib.hid (SA.out.since hb)
        replace HC := Lib.hid (HC.out.trans (hb.mono HC.out.size))
        clear hb
        have hb := (Below.refl uq4.heap.size uq4).alloc (Nat.le_refl _) (.cells #[.slice a5 (m + 1) c5] 24)
        replace NK := Lib.hid (NK.out.below hb)
        replace XO := Lib.hid (XO.out.below hb)
        replace XP := Lib.hid (XP.out.below hb)
        have XA := Lib.hid (ntb_new uq4 #[.slice a5 (m + 1) c5] 24)
        clear hb
        go_upto_region 20 with fail
        generalize hgq6 : uq4.heap.size = gq6 at XA ⊢
        clear hgq6
        generalize (uq4.alloc (.cells #[.slice a5 (m + 1) c5] 24)) = uq5 at *
        have ST := Lib.hid (N1.out.store HC.out SA.out)
        have xa := XA.out.net
        obtain ⟨z0, f0⟩ := box_bare NK.out.box.blk 0
        simp only [List.getElem?_toArray, List.getElem?_cons_zero] at z0
        replace XP := Lib.hid (XP.out.other (show g7 ≠ g by have := GG.out; omega) (.slice a5 (m + 1) c5))
        replace XO := Lib.hid (XO.out.other (show g6 ≠ g by have := GO.out; omega) (.slice a5 (m + 1) c5))
        go_upto_region 24 with fail
        clear xa z0 f0
        generalize (uq5.setCell ⟨g, 0, none⟩ (.slice a5 (m + 1) c5)) = wS at *
        have SL := Lib.hid ST.out.1
        have SB := Lib.hid ST.out.2.1
        have SN := Lib.hid ST.out.2.2.1
        have SO := Lib.hid ST.out.2.2.2
        clear ST SA NK XA
        skip
        skip
        have BS : Hid (Sq LByte (fun b => b < w.heap.size) wS (.slice da bm dc) pb) := Lib.hid (BP.out.agree fun b hb => SL.out.block b hb)
        obtain ⟨xp0, xp1, xp2⟩ := XP.out.pkt
        have LP := Lib.hid (lone_pkt (g := 0) (B := g + 1) (x := ⟨nf, nt, pb⟩) (v := .slice a4 m c4) SL.out (BS.out) (fun b e => (N1.out.way.lt b e).1) (by have := N1.out.gw; omega))
        have WB := Lib.hid SB.out.lt
        go_wp2_with (at_builtin; refine wpList_append_elR (fun b => b < w.heap.size) _ LPkt rfl (.tmp 106) (.tmp 108) rfl (g + 1) rfl (SO.out.alloc _) rfl LP.out (by rw [LM.out]; simp; omega) (by have := WB.out; simp; omega) ?_)
        intro v2 w2 ho2 hg2 hat
        have HAT := Lib.hid hat
        have HGR := Lib.hid hg2
        obtain ⟨a6, c6, rfl, -, -, ho6⟩ := ho2.at (m + 1) LS.out
        have O6 := Lib.hid ho6
        clear xp0 xp1 xp2 hg2 ho2 ho6 hat
        have NK := Lib.hid (nkeep_grown SL.out N1.out.gw N1.out.box.lt SB.out SN.out (fun b e => N1.out.way.lt b e) ((Below.refl _ _).alloc (Nat.le_refl _) (.cells #[.int .i64 nf, .int .i64 nt, .slice da bm dc] 27)) HGR.out (HAT.out.imp id fun h => ⟨_, h, Nat.le_succ _⟩) O6.out (by rw [LS.out]; omega) (snoc_short N1.out.byt BPL.out))
        clear SL SB SN SO HAT HGR O6 LP
        skip
        have DM := NK.out.dims
        have xn := NK.out.box.net
        have KA := Lib.hid (rsameN ⟨_, rfl, NK.out.seqN⟩ ⟨_, rfl, NK.out.seqW⟩ (by omega) true (decide_eq_true rfl))
        clear DM
        go_wp2_with fail
        refine KA.out.mono ?_
        rintro e uz ⟨rfl, hb⟩
        have NZ := Lib.hid (NK.out.below hb)
        clear hb KA xn
        go_wp2_with fail
        go_roundw
        case rel => exact ⟨k + 1, _, _, _, _, _, _, by omega, rfl, by go_num, NZ.out⟩
        case measure => simp [intOf]; omega
      · skip
        go_simp
        have hb : Below wA.heap.size wA (wA.alloc (.cells #[.int .i64 0, .int .i64 0, .slice none 0 0] 27)).drew := (Below.refl _ _).drew.alloc (Nat.le_refl _) _
        have E1 := Lib.hid hb
        have NX : Hid (NtB (wA.alloc (.cells #[.int .i64 0, .int .i64 0, .slice none 0 0] 27)).drew wA.heap.size #[.int .i64 0, .int .i64 0, .slice none 0 0] 27) := Lib.hid (ntb_new wA.drew _ _)
        refine hK.out _ _ (KE.out _ hb) (fun hHeld => ?_)
        clear hK K hb
        generalize (wA.alloc (.cells #[.int .i64 0, .int .i64 0, .slice none 0 0] 27)).drew = s1 at *
        refine wpAnyH_ready (rs := [9]) (by kernel_rfl) (by simp) ?_
        refine AllReadyH.cons rfl (fun K hK => ?_) AllReadyH.nil
        go_simp
        refine hK.out _ _ hHeld (fun hHeld => ?_)
        clear hK K
        refine wpAnyH_take (i := 10) (v := ?_) rfl (by kernel_rfl) (by kernel_rfl) (by kernel_rfl) (fun _ _ _ h => h) (Or.inl ⟨by rfl, ?_⟩) hHeld ?_
        rotate_left
        · (intro w' hSw; (try dsimp only at hSw); go_simp; try with_reducible rfl)
        simp only [List.getElem_toArray, List.getElem_cons_zero, List.getElem_cons_succ, Act.put, List.setIfInBounds_toArray, List.set_cons_zero, List.set_cons_succ]
        refine wpAnyH_take (i := 11) (v := ?_) rfl (by kernel_rfl) (by kernel_rfl) (by kernel_rfl) (fun _ _ _ h => h) (Or.inl ⟨by rfl, ?_⟩) hHeld ?_
        rotate_left
        · (intro w' hSw; (try dsimp only at hSw); go_simp; try with_reducible rfl)
        simp only [List.getElem_toArray, List.getElem_cons_zero, List.getElem_cons_succ, Act.put, List.setIfInBounds_toArray, List.set_cons_zero, List.set_cons_succ]
        refine wpAnyH_ready (rs := [13]) (by kernel_rfl) (by simp) ?_
        refine AllReadyH.cons rfl (fun K hK => ?_) AllReadyH.nil
        obtain ⟨z0, f0⟩ := box_bare NX.out.blk 0
        obtain ⟨z1, f1⟩ := box_bare NX.out.blk 1
        obtain ⟨z2, f2⟩ := box_bare NX.out.blk 2
        simp only [List.getElem?_toArray, List.getElem?_cons_zero, List.getElem?_cons_succ] at z0 z1 z2
        go_simp
        have PB := Lib.hid (put3_box NX.out.blk (.int .i64 nf) (.int .i64 nt) (.slice da bm dc))
        have hb : Below wA.heap.size wA (put3 s1 wA.heap.size (.int .i64 nf) (.int .i64 nt) (.slice da bm dc)) := E1.out.trans (PB.out.2 _ (Nat.le_refl _))
        have XP := Lib.hid PB.out.1
        have HB2 := Lib.hid hb
        refine hK.out _ _ (KE.out _ hb) (fun hHeld => ?_)
        clear hK K z0 z1 z2 f0 f1 f2 NX E1 hb PB hHeld KE
        refine wpAnyH_done (by kernel_rfl) ?_ _
        unfold put3 at XP HB2
        generalize ((s1.setCell ⟨wA.heap.size, 0, none⟩ (.int .i64 nf)).setCell ⟨wA.heap.size, 1, none⟩ (.int .i64 nt)).setCell ⟨wA.heap.size, 2, none⟩ (.slice da bm dc) = wB at *
        have hb := HB2.out
        replace NK := Lib.hid (NK.out.below hb)
        replace XO := Lib.hid (XO.out.below hb)
        have GG : Hid (g < wA.heap.size) := Lib.hid NKA.out.box.lt
        clear hb HB2 M3 b1 b2 b3 b4
        generalize hg7 : wA.heap.size = g7 at XP GG ⊢
        clear hg7
        have BB := Lib.hid (BP.out.below NK.out.low)
        by_cases h63 : m ≤ 63
        rotate_left
        · have KW := Lib.hid (ntsendFull (f := nf) (t := nt) ⟨_, rfl, NK.out.seqN⟩ BB.out (by rw [LM.out]; omega))
          have h64 : ¬ (m : Int) < 64 := by omega
          have xn := NK.out.box.net
          obtain ⟨xp0, xp1, xp2⟩ := XP.out.pkt
          go_wp2_with fail
          refine (KW.out).mono ?_
          rintro e uq7 ⟨v5, rfl, ho, hb⟩
          replace NK := Lib.hid (NK.out.below hb)
          replace XO := Lib.hid (XO.out.below hb)
          replace XP := Lib.hid (XP.out.below hb)
          obtain ⟨a5, c5, rfl, -, -, -⟩ := ho.own.at 0 rfl
          clear hb ho KW xn xp0 xp1 xp2
          have hb := (Below.refl uq7.heap.size uq7).alloc (Nat.le_refl _) (.cells #[.slice a5 0 c5] 24)
          replace NK := Lib.hid (NK.out.below hb)
          replace XO := Lib.hid (XO.out.below hb)
          replace XP := Lib.hid (XP.out.below hb)
          have XA := Lib.hid (ntb_new uq7 #[.slice a5 0 c5] 24)
          clear hb
          go_upto_region 20 with fail
          generalize hgq9 : uq7.heap.size = gq9 at XA ⊢
          clear hgq9
          generalize (uq7.alloc (.cells #[.slice a5 0 c5] 24)) = uq8 at *
          have DM := NK.out.dims
          have xn := NK.out.box.net
          have KA := Lib.hid (rsameN ⟨_, rfl, NK.out.seqN⟩ ⟨_, rfl, NK.out.seqW⟩ (by omega) true (decide_eq_true rfl))
          clear DM
          go_wp2_with fail
          refine KA.out.mono ?_
          rintro e uz ⟨rfl, hb⟩
          have NZ := Lib.hid (NK.out.below hb)
          clear hb KA xn
          go_wp2_with fail
          go_roundw
          case rel => exact ⟨k + 1, _, _, _, _, _, _, by omega, rfl, by go_num, NZ.out⟩
          case measure => simp [intOf]; omega
        have KW := Lib.hid (ntsendP (f := nf) (t := nt) ⟨_, rfl, NK.out.seqN⟩ BB.out (by rw [LM.out]; omega) NK.out.byt BPL.out)
        have h64 : (m : Int) < 64 := by omega
        have LS : Hid ((l ++ [(⟨nf, nt, pb⟩ : PPkt)]).length = m + 1) := Lib.hid (by simp [LM.out])
        have xn := NK.out.box.net
        obtain ⟨xp0, xp1, xp2⟩ := XP.out.pkt
        have N1 := Lib.hid NK.out
        go_wp2_with fail
        refine (KW.out).mono ?_
        rintro e uq10 ⟨v5, rfl, ho, hb⟩
        have HC := Lib.hid hb
        replace NK := Lib.hid (NK.out.below hb)
        replace XO := Lib.hid (XO.out.below hb)
        replace XP := Lib.hid (XP.out.below hb)
        obtain ⟨a5, c5, rfl, -, -, ho5⟩ := ho.at (m + 1) LS.out
        have SA := Lib.hid (ho5.sq fun b h _ => h)
        clear hb ho ho5 KW xn xp0 xp1 xp2
        have hb := (Below.refl uq10.heap.size uq10).alloc (Nat.le_refl _) (.cells #[.slice a5 (m + 1) c5] 24)
        replace SA := Lib.hid (SA.out.since hb)
        replace HC := Lib.hid (HC.out.trans (hb.mono HC.out.size))
        clear hb
        have hb := (Below.refl uq10.heap.size uq10).alloc (Nat.le_refl _) (.cells #[.slice a5 (m + 1) c5] 24)
        replace NK := Lib.hid (NK.out.below hb)
        replace XO := Lib.hid (XO.out.below hb)
        replace XP := Lib.hid (XP.out.below hb)
        have XA := Lib.hid (ntb_new uq10 #[.slice a5 (m + 1) c5] 24)
        clear hb
        go_upto_region 20 with fail
        generalize hgq12 : uq10.heap.size = gq12 at XA ⊢
        clear hgq12
        generalize (uq10.alloc (.cells #[.slice a5 (m + 1) c5] 24)) = uq11 at *
        have ST := Lib.hid (N1.out.store HC.out SA.out)
        have xa := XA.out.net
        obtain ⟨z0, f0⟩ := box_bare NK.out.box.blk 0
        simp only [List.getElem?_toArray, List.getElem?_cons_zero] at z0
        replace XP := Lib.hid (XP.out.other (show g7 ≠ g by have := GG.out; omega) (.slice a5 (m + 1) c5))
        replace XO := Lib.hid (XO.out.other (show g6 ≠ g by have := GO.out; omega) (.slice a5 (m + 1) c5))
        go_upto_region 24 with fail
        clear xa z0 f0
        generalize (uq11.setCell ⟨g, 0, none⟩ (.slice a5 (m + 1) c5)) = wS at *
        have SL := Lib.hid ST.out.1
        have SB := Lib.hid ST.out.2.1
        have SN := Lib.hid ST.out.2.2.1
        have SO := Lib.hid ST.out.2.2.2
        clear ST SA NK XA
        skip
        skip
        have BS : Hid (Sq LByte (fun b => b < w.heap.size) wS (.slice da bm dc) pb) := Lib.hid (BP.out.agree fun b hb => SL.out.block b hb)
        obtain ⟨xp0, xp1, xp2⟩ := XP.out.pkt
        have LP := Lib.hid (lone_pkt (g := 0) (B := g + 1) (x := ⟨nf, nt, pb⟩) (v := .slice a4 m c4) SL.out (BS.out) (fun b e => (N1.out.way.lt b e).1) (by have := N1.out.gw; omega))
        have WB := Lib.hid SB.out.lt
        go_wp2_with (at_builtin; refine wpList_append_elR (fun b => b < w.heap.size) _ LPkt rfl (.tmp 106) (.tmp 108) rfl (g + 1) rfl (SO.out.alloc _) rfl LP.out (by rw [LM.out]; simp; omega) (by have := WB.out; simp; omega) ?_)
        intro v2 w2 ho2 hg2 hat
        have HAT := Lib.hid hat
        have HGR := Lib.hid hg2
        obtain ⟨a6, c6, rfl, -, -, ho6⟩ := ho2.at (m + 1) LS.out
        have O6 := Lib.hid ho6
        clear xp0 xp1 xp2 hg2 ho2 ho6 hat
        have NK := Lib.hid (nkeep_grown SL.out N1.out.gw N1.out.box.lt SB.out SN.out (fun b e => N1.out.way.lt b e) ((Below.refl _ _).alloc (Nat.le_refl _) (.cells #[.int .i64 nf, .int .i64 nt, .slice da bm dc] 27)) HGR.out (HAT.out.imp id fun h => ⟨_, h, Nat.le_succ _⟩) O6.out (by rw [LS.out]; omega) (snoc_short N1.out.byt BPL.out))
        clear SL SB SN SO HAT HGR O6 LP
        skip
        have DM := NK.out.dims
        have xn := NK.out.box.net
        have KA := Lib.hid (rsameN ⟨_, rfl, NK.out.seqN⟩ ⟨_, rfl, NK.out.seqW⟩ (by omega) true (decide_eq_true rfl))
        clear DM
        go_wp2_with fail
        refine KA.out.mono ?_
        rintro e uz ⟨rfl, hb⟩
        have NZ := Lib.hid (NK.out.below hb)
        clear hb KA xn
        go_wp2_with fail
        go_roundw
        case rel => exact ⟨k + 1, _, _, _, _, _, _, by omega, rfl, by go_num, NZ.out⟩
        case measure => simp [intOf]; omega
    by_cases r1 : r = 1
    · subst r1
      clear r0
      obtain ⟨bm, hbm⟩ : ∃ b, min dn 100 = b := ⟨_, rfl⟩
      have M3 : min (dn : Int) 100 = (bm : Int) := by omega
      have b1 : (bm : Int) ≤ dc := by omega
      have b2 : (0 : Int) ≤ bm := by omega
      have b3 : (dn : Int) ≤ dc := by omega
      have b4 : (dc : Int) ≤ 9223372036854775807 := by omega
      have BP := Lib.hid (BX.out.first bm (by omega))
      have BPL : Hid ((nb.take bm).length ≤ 1000000) := Lib.hid (by rw [List.length_take]; omega)
      clear hbm
      generalize nb.take bm = pb at *
      have KE : Hid (∀ v, Below wA.heap.size wA v → Below wA.heap.size wA v ∧ v.cell? ⟨g6, 1, none⟩ = some (.int .i64 nf) ∧ v.cell? ⟨g6, 2, none⟩ = some (.int .i64 nt) ∧ v.cell? ⟨g6, 4, none⟩ = some (.slice da dn dc)) := Lib.hid (fun v hb => ⟨hb, (box_bare (XO.out.below hb).blk 1).1, (box_bare (XO.out.below hb).blk 2).1, (box_bare (XO.out.below hb).blk 4).1⟩)
      go_upto_region 18 with fail
      refine wp_region_held_drew (S := fun u' => Below wA.heap.size wA u' ∧ u'.cell? ⟨g6, 1, none⟩ = some (.int .i64 nf) ∧ u'.cell? ⟨g6, 2, none⟩ = some (.int .i64 nt) ∧ u'.cell? ⟨g6, 4, none⟩ = some (.slice da dn dc)) (by kernel_rfl) ?_ (fun hHeld => ?_)
      · (exact KE.out _ (Below.refl _ _).drew)
      simp only [List.size_toArray, List.length_cons, List.length_nil, Nat.zero_add, Nat.reduceAdd]
      refine wpAnyH_take (i := 0) (v := ?_) rfl (by kernel_rfl) (by kernel_rfl) (by kernel_rfl) (fun _ _ _ h => h) (Or.inl ⟨by rfl, ?_⟩) hHeld ?_
      rotate_left
      · (intro w' hSw; (try dsimp only at hSw); go_simp; try with_reducible rfl)
      simp only [List.getElem_toArray, List.getElem_cons_zero, Act.put, List.setIfInBounds_toArray, List.set_cons_zero, List.set_cons_succ]
      refine wpAnyH_take (i := 1) (v := ?_) rfl (by kernel_rfl) (by kernel_rfl) (by kernel_rfl) (fun _ _ _ h => h) (Or.inl ⟨by rfl, ?_⟩) hHeld ?_
      rotate_left
      · (intro w' hSw; (try dsimp only at hSw); go_simp; try with_reducible rfl)
      simp only [List.getElem_toArray, List.getElem_cons_zero, List.getElem_cons_succ, Act.put, List.setIfInBounds_toArray, List.set_cons_zero, List.set_cons_succ]
      refine wpAnyH_take (i := 2) (v := ?_) rfl (by kernel_rfl) (by kernel_rfl) (by kernel_rfl) (fun _ _ _ h => h) (Or.inl ⟨by rfl, ?_⟩) hHeld ?_
      rotate_left
      · (intro w' hSw; (try dsimp only at hSw); go_simp; try with_reducible rfl)
      simp only [List.getElem_toArray, List.getElem_cons_zero, List.getElem_cons_succ, Act.put, List.setIfInBounds_toArray, List.set_cons_zero, List.set_cons_succ]
      refine wpAnyH_take (i := 3) (v := ?_) rfl (by kernel_rfl) (by kernel_rfl) (by kernel_rfl) (fun _ _ _ h => h) (Or.inl ⟨by rfl, ?_⟩) hHeld ?_
      rotate_left
      · (intro w' hSw; (try dsimp only at hSw); go_simp; try with_reducible rfl)
      simp only [List.getElem_toArray, List.getElem_cons_zero, List.getElem_cons_succ, Act.put, List.setIfInBounds_toArray, List.set_cons_zero, List.set_cons_succ]
      refine wpAnyH_take (i := 4) (v := ?_) rfl (by kernel_rfl) (by kernel_rfl) (by kernel_rfl) (fun _ _ _ h => h) (Or.inl ⟨by rfl, ?_⟩) hHeld ?_
      rotate_left
      · (intro w' hSw; (try dsimp only at hSw); go_simp; try with_reducible rfl)
      simp only [List.getElem_toArray, List.getElem_cons_zero, List.getElem_cons_succ, Act.put, List.setIfInBounds_toArray, List.set_cons_zero, List.set_cons_succ]
      refine wpAnyH_take (i := 5) (v := ?_) rfl (by kernel_rfl) (by kernel_rfl) (by kernel_rfl) (fun _ _ _ h => h) (Or.inl ⟨by rfl, ?_⟩) hHeld ?_
      rotate_left
      · (intro w' hSw; (try dsimp only at hSw); go_simp; try with_reducible rfl)
      simp only [List.getElem_toArray, List.getElem_cons_zero, List.getElem_cons_succ, Act.put, List.setIfInBounds_toArray, List.set_cons_zero, List.set_cons_succ]
      refine wpAnyH_take (i := 6) (v := ?_) rfl (by kernel_rfl) (by kernel_rfl) (by kernel_rfl) (fun _ _ _ h => h) (Or.inl ⟨by rfl, ?_⟩) hHeld ?_
      rotate_left
      · (intro w' hSw; (try dsimp only at hSw); go_simp; try with_reducible rfl)
      simp only [List.getElem_toArray, List.getElem_cons_zero, List.getElem_cons_succ, Act.put, List.setIfInBounds_toArray, List.set_cons_zero, List.set_cons_succ]
      refine wpAnyH_take (i := 7) (v := ?_) rfl (by kernel_rfl) (by kernel_rfl) (by kernel_rfl) (fun _ _ _ h => h) (Or.inl ⟨by rfl, ?_⟩) hHeld ?_
      rotate_left
      · (intro w' hSw; (try dsimp only at hSw); go_simp; try with_reducible rfl)
      simp only [List.getElem_toArray, List.getElem_cons_zero, List.getElem_cons_succ, Act.put, List.setIfInBounds_toArray, List.set_cons_zero, List.set_cons_succ]
      refine wpAnyH_take (i := 8) (v := ?_) rfl (by kernel_rfl) (by kernel_rfl) (by kernel_rfl) (fun _ _ _ h => h) (Or.inl ⟨by rfl, ?_⟩) hHeld ?_
      rotate_left
      · (intro w' hSw; (try dsimp only at hSw); go_simp; try with_reducible rfl)
      simp only [List.getElem_toArray, List.getElem_cons_zero, List.getElem_cons_succ, Act.put, List.setIfInBounds_toArray, List.set_cons_zero, List.set_cons_succ]
      refine wpAnyH_ready (rs := [9, 12]) (by kernel_rfl) (by simp) ?_
      refine AllReadyH.cons rfl (fun K hK => ?_) (AllReadyH.cons rfl (fun K hK => ?_) AllReadyH.nil)
      · skip
        go_simp
        refine hK.out _ _ hHeld (fun hHeld => ?_)
        clear hK K
        refine wpAnyH_take (i := 10) (v := ?_) rfl (by kernel_rfl) (by kernel_rfl) (by kernel_rfl) (fun _ _ _ h => h) (Or.inl ⟨by rfl, ?_⟩) hHeld ?_
        rotate_left
        · (intro w' hSw; (try dsimp only at hSw); go_simp; try with_reducible rfl)
        simp only [List.getElem_toArray, List.getElem_cons_zero, List.getElem_cons_succ, Act.put, List.setIfInBounds_toArray, List.set_cons_zero, List.set_cons_succ]
        refine wpAnyH_take (i := 11) (v := ?_) rfl (by kernel_rfl) (by kernel_rfl) (by kernel_rfl) (fun _ _ _ h => h) (Or.inl ⟨by rfl, ?_⟩) hHeld ?_
        rotate_left
        · (intro w' hSw; (try dsimp only at hSw); go_simp; try with_reducible rfl)
        simp only [List.getElem_toArray, List.getElem_cons_zero, List.getElem_cons_succ, Act.put, List.setIfInBounds_toArray, List.set_cons_zero, List.set_cons_succ]
        refine wpAnyH_ready (rs := [12]) (by kernel_rfl) (by simp) ?_
        refine AllReadyH.cons rfl (fun K hK => ?_) AllReadyH.nil
        go_simp
        have hb : Below wA.heap.size wA (wA.alloc (.cells #[.int .i64 0, .int .i64 0, .slice none 0 0] 27)).drew := (Below.refl _ _).drew.alloc (Nat.le_refl _) _
        have E1 := Lib.hid hb
        have NX : Hid (NtB (wA.alloc (.cells #[.int .i64 0, .int .i64 0, .slice none 0 0] 27)).drew wA.heap.size #[.int .i64 0, .int .i64 0, .slice none 0 0] 27) := Lib.hid (ntb_new wA.drew _ _)
        refine hK.out _ _ (KE.out _ hb) (fun hHeld => ?_)
        clear hK K hb
        generalize (wA.alloc (.cells #[.int .i64 0, .int .i64 0, .slice none 0 0] 27)).drew = s1 at *
        refine wpAnyH_ready (rs := [13]) (by kernel_rfl) (by simp) ?_
        refine AllReadyH.cons rfl (fun K hK => ?_) AllReadyH.nil
        obtain ⟨z0, f0⟩ := box_bare NX.out.blk 0
        obtain ⟨z1, f1⟩ := box_bare NX.out.blk 1
        obtain ⟨z2, f2⟩ := box_bare NX.out.blk 2
        simp only [List.getElem?_toArray, List.getElem?_cons_zero, List.getElem?_cons_succ] at z0 z1 z2
        go_simp
        have PB := Lib.hid (put3_box NX.out.blk (.int .i64 nf) (.int .i64 nt) (.slice da bm dc))
        have hb : Below wA.heap.size wA (put3 s1 wA.heap.size (.int .i64 nf) (.int .i64 nt) (.slice da bm dc)) := E1.out.trans (PB.out.2 _ (Nat.le_refl _))
        have XP := Lib.hid PB.out.1
        have HB2 := Lib.hid hb
        refine hK.out _ _ (KE.out _ hb) (fun hHeld => ?_)
        clear hK K z0 z1 z2 f0 f1 f2 NX E1 hb PB hHeld KE
        refine wpAnyH_done (by kernel_rfl) ?_ _
        unfold put3 at XP HB2
        generalize ((s1.setCell ⟨wA.heap.size, 0, none⟩ (.int .i64 nf)).setCell ⟨wA.heap.size, 1, none⟩ (.int .i64 nt)).setCell ⟨wA.heap.size, 2, none⟩ (.slice da bm dc) = wB at *
        have hb := HB2.out
        replace NK := Lib.hid (NK.out.below hb)
        replace XO := Lib.hid (XO.out.below hb)
        have GG : Hid (g < wA.heap.size) := Lib.hid NKA.out.box.lt
        clear hb HB2 M3 b1 b2 b3 b4
        generalize hg7 : wA.heap.size = g7 at XP GG ⊢
        clear hg7
        have BB := Lib.hid (BP.out.below NK.out.low)
        by_cases h63 : m ≤ 63
        rotate_left
        · have KW := Lib.hid (ntsendFull (f := nf) (t := nt) ⟨_, rfl, NK.out.seqN⟩ BB.out (by rw [LM.out]; omega))
          have h64 : ¬ (m : Int) < 64 := by omega
          have xn := NK.out.box.net
          obtain ⟨xp0, xp1, xp2⟩ := XP.out.pkt
          go_wp2_with fail
          refine (KW.out).mono ?_
          rintro e uq13 ⟨v5, rfl, ho, hb⟩
          replace NK := Lib.hid (NK.out.below hb)
          replace XO := Lib.hid (XO.out.below hb)
          replace XP := Lib.hid (XP.out.below hb)
          obtain ⟨a5, c5, rfl, -, -, -⟩ := ho.own.at 0 rfl
          clear hb ho KW xn xp0 xp1 xp2
          have hb := (Below.refl uq13.heap.size uq13).alloc (Nat.le_refl _) (.cells #[.slice a5 0 c5] 24)
          replace NK := Lib.hid (NK.out.below hb)
          replace XO := Lib.hid (XO.out.below hb)
          replace XP := Lib.hid (XP.out.below hb)
          have XA := Lib.hid (ntb_new uq13 #[.slice a5 0 c5] 24)
          clear hb
          go_upto_region 20 with fail
          generalize hgq15 : uq13.heap.size = gq15 at XA ⊢
          clear hgq15
          generalize (uq13.alloc (.cells #[.slice a5 0 c5] 24)) = uq14 at *
          have DM := NK.out.dims
          have xn := NK.out.box.net
          have KA := Lib.hid (rsameN ⟨_, rfl, NK.out.seqN⟩ ⟨_, rfl, NK.out.seqW⟩ (by omega) true (decide_eq_true rfl))
          clear DM
          go_wp2_with fail
          refine KA.out.mono ?_
          rintro e uz ⟨rfl, hb⟩
          have NZ := Lib.hid (NK.out.below hb)
          clear hb KA xn
          go_wp2_with fail
          go_roundw
          case rel => exact ⟨k + 1, _, _, _, _, _, _, by omega, rfl, by go_num, NZ.out⟩
          case measure => simp [intOf]; omega
        have KW := Lib.hid (ntsendP (f := nf) (t := nt) ⟨_, rfl, NK.out.seqN⟩ BB.out (by rw [LM.out]; omega) NK.out.byt BPL.out)
        have h64 : (m : Int) < 64 := by omega
        have LS : Hid ((l ++ [(⟨nf, nt, pb⟩ : PPkt)]).length = m + 1) := Lib.hid (by simp [LM.out])
        have xn := NK.out.box.net
        obtain ⟨xp0, xp1, xp2⟩ := XP.out.pkt
        have N1 := Lib.hid NK.out
        go_wp2_with fail
        refine (KW.out).mono ?_
        rintro e uq16 ⟨v5, rfl, ho, hb⟩
        have HC := Lib.hid hb
        replace NK := Lib.hid (NK.out.below hb)
        replace XO := Lib.hid (XO.out.below hb)
        replace XP := Lib.hid (XP.out.below hb)
        obtain ⟨a5, c5, rfl, -, -, ho5⟩ := ho.at (m + 1) LS.out
        have SA := Lib.hid (ho5.sq fun b h _ => h)
        clear hb ho ho5 KW xn xp0 xp1 xp2
        have hb := (Below.refl uq16.heap.size uq16).alloc (Nat.le_refl _) (.cells #[.slice a5 (m + 1) c5] 24)
        replace SA := Lib.hid (SA.out.since hb)
        replace HC := Lib.hid (HC.out.trans (hb.mono HC.out.size))
        clear hb
        have hb := (Below.refl uq16.heap.size uq16).alloc (Nat.le_refl _) (.cells #[.slice a5 (m + 1) c5] 24)
        replace NK := Lib.hid (NK.out.below hb)
        replace XO := Lib.hid (XO.out.below hb)
        replace XP := Lib.hid (XP.out.below hb)
        have XA := Lib.hid (ntb_new uq16 #[.slice a5 (m + 1) c5] 24)
        clear hb
        go_upto_region 20 with fail
        generalize hgq18 : uq16.heap.size = gq18 at XA ⊢
        clear hgq18
        generalize (uq16.alloc (.cells #[.slice a5 (m + 1) c5] 24)) = uq17 at *
        have ST := Lib.hid (N1.out.store HC.out SA.out)
        have xa := XA.out.net
        obtain ⟨z0, f0⟩ := box_bare NK.out.box.blk 0
        simp only [List.getElem?_toArray, List.getElem?_cons_zero] at z0
        replace XP := Lib.hid (XP.out.other (show g7 ≠ g by have := GG.out; omega) (.slice a5 (m + 1) c5))
        replace XO := Lib.hid (XO.out.other (show g6 ≠ g by have := GO.out; omega) (.slice a5 (m + 1) c5))
        go_upto_region 24 with fail
        clear xa z0 f0
        generalize (uq17.setCell ⟨g, 0, none⟩ (.slice a5 (m + 1) c5)) = wS at *
        have SL := Lib.hid ST.out.1
        have SB := Lib.hid ST.out.2.1
        have SN := Lib.hid ST.out.2.2.1
        have SO := Lib.hid ST.out.2.2.2
        clear ST SA NK XA
        skip
        skip
        have BS : Hid (Sq LByte (fun b => b < w.heap.size) wS (.slice da bm dc) pb) := Lib.hid (BP.out.agree fun b hb => SL.out.block b hb)
        obtain ⟨xp0, xp1, xp2⟩ := XP.out.pkt
        have LP := Lib.hid (lone_pkt (g := 0) (B := g + 1) (x := ⟨nf, nt, pb⟩) (v := .slice a4 m c4) SL.out (BS.out) (fun b e => (N1.out.way.lt b e).1) (by have := N1.out.gw; omega))
        have WB := Lib.hid SB.out.lt
        go_wp2_with (at_builtin; refine wpList_append_elR (fun b => b < w.heap.size) _ LPkt rfl (.tmp 106) (.tmp 108) rfl (g + 1) rfl (SO.out.alloc _) rfl LP.out (by rw [LM.out]; simp; omega) (by have := WB.out; simp; omega) ?_)
        intro v2 w2 ho2 hg2 hat
        have HAT := Lib.hid hat
        have HGR := Lib.hid hg2
        obtain ⟨a6, c6, rfl, -, -, ho6⟩ := ho2.at (m + 1) LS.out
        have O6 := Lib.hid ho6
        clear xp0 xp1 xp2 hg2 ho2 ho6 hat
        have NK := Lib.hid (nkeep_grown SL.out N1.out.gw N1.out.box.lt SB.out SN.out (fun b e => N1.out.way.lt b e) ((Below.refl _ _).alloc (Nat.le_refl _) (.cells #[.int .i64 nf, .int .i64 nt, .slice da bm dc] 27)) HGR.out (HAT.out.imp id fun h => ⟨_, h, Nat.le_succ _⟩) O6.out (by rw [LS.out]; omega) (snoc_short N1.out.byt BPL.out))
        clear SL SB SN SO HAT HGR O6 LP
        skip
        have DM := NK.out.dims
        have xn := NK.out.box.net
        have KA := Lib.hid (rsameN ⟨_, rfl, NK.out.seqN⟩ ⟨_, rfl, NK.out.seqW⟩ (by omega) true (decide_eq_true rfl))
        clear DM
        go_wp2_with fail
        refine KA.out.mono ?_
        rintro e uz ⟨rfl, hb⟩
        have NZ := Lib.hid (NK.out.below hb)
        clear hb KA xn
        go_wp2_with fail
        go_roundw
        case rel => exact ⟨k + 1, _, _, _, _, _, _, by omega, rfl, by go_num, NZ.out⟩
        case measure => simp [intOf]; omega
      · skip
        go_simp
        have hb : Below wA.heap.size wA (wA.alloc (.cells #[.int .i64 0, .int .i64 0, .slice none 0 0] 27)).drew := (Below.refl _ _).drew.alloc (Nat.le_refl _) _
        have E1 := Lib.hid hb
        have NX : Hid (NtB (wA.alloc (.cells #[.int .i64 0, .int .i64 0, .slice none 0 0] 27)).drew wA.heap.size #[.int .i64 0, .int .i64 0, .slice none 0 0] 27) := Lib.hid (ntb_new wA.drew _ _)
        refine hK.out _ _ (KE.out _ hb) (fun hHeld => ?_)
        clear hK K hb
        generalize (wA.alloc (.cells #[.int .i64 0, .int .i64 0, .slice none 0 0] 27)).drew = s1 at *
        refine wpAnyH_ready (rs := [9]) (by kernel_rfl) (by simp) ?_
        refine AllReadyH.cons rfl (fun K hK => ?_) AllReadyH.nil
        go_simp
        refine hK.out _ _ hHeld (fun hHeld => ?_)
        clear hK K
        refine wpAnyH_take (i := 10) (v := ?_) rfl (by kernel_rfl) (by kernel_rfl) (by kernel_rfl) (fun _ _ _ h => h) (Or.inl ⟨by rfl, ?_⟩) hHeld ?_
        rotate_left
        · (intro w' hSw; (try dsimp only at hSw); go_simp; try with_reducible rfl)
        simp only [List.getElem_toArray, List.getElem_cons_zero, List.getElem_cons_succ, Act.put, List.setIfInBounds_toArray, List.set_cons_zero, List.set_cons_succ]
        refine wpAnyH_take (i := 11) (v := ?_) rfl (by kernel_rfl) (by kernel_rfl) (by kernel_rfl) (fun _ _ _ h => h) (Or.inl ⟨by rfl, ?_⟩) hHeld ?_
        rotate_left
        · (intro w' hSw; (try dsimp only at hSw); go_simp; try with_reducible rfl)
        simp only [List.getElem_toArray, List.getElem_cons_zero, List.getElem_cons_succ, Act.put, List.setIfInBounds_toArray, List.set_cons_zero, List.set_cons_succ]
        refine wpAnyH_ready (rs := [13]) (by kernel_rfl) (by simp) ?_
        refine AllReadyH.cons rfl (fun K hK => ?_) AllReadyH.nil
        obtain ⟨z0, f0⟩ := box_bare NX.out.blk 0
        obtain ⟨z1, f1⟩ := box_bare NX.out.blk 1
        obtain ⟨z2, f2⟩ := box_bare NX.out.blk 2
        simp only [List.getElem?_toArray, List.getElem?_cons_zero, List.getElem?_cons_succ] at z0 z1 z2
        go_simp
        have PB := Lib.hid (put3_box NX.out.blk (.int .i64 nf) (.int .i64 nt) (.slice da bm dc))
        have hb : Below wA.heap.size wA (put3 s1 wA.heap.size (.int .i64 nf) (.int .i64 nt) (.slice da bm dc)) := E1.out.trans (PB.out.2 _ (Nat.le_refl _))
        have XP := Lib.hid PB.out.1
        have HB2 := Lib.hid hb
        refine hK.out _ _ (KE.out _ hb) (fun hHeld => ?_)
        clear hK K z0 z1 z2 f0 f1 f2 NX E1 hb PB hHeld KE
        refine wpAnyH_done (by kernel_rfl) ?_ _
        unfold put3 at XP HB2
        generalize ((s1.setCell ⟨wA.heap.size, 0, none⟩ (.int .i64 nf)).setCell ⟨wA.heap.size, 1, none⟩ (.int .i64 nt)).setCell ⟨wA.heap.size, 2, none⟩ (.slice da bm dc) = wB at *
        have hb := HB2.out
        replace NK := Lib.hid (NK.out.below hb)
        replace XO := Lib.hid (XO.out.below hb)
        have GG : Hid (g < wA.heap.size) := Lib.hid NKA.out.box.lt
        clear hb HB2 M3 b1 b2 b3 b4
        generalize hg7 : wA.heap.size = g7 at XP GG ⊢
        clear hg7
        have BB := Lib.hid (BP.out.below NK.out.low)
        by_cases h63 : m ≤ 63
        rotate_left
        · have KW := Lib.hid (ntsendFull (f := nf) (t := nt) ⟨_, rfl, NK.out.seqN⟩ BB.out (by rw [LM.out]; omega))
          have h64 : ¬ (m : Int) < 64 := by omega
          have xn := NK.out.box.net
          obtain ⟨xp0, xp1, xp2⟩ := XP.out.pkt
          go_wp2_with fail
          refine (KW.out).mono ?_
          rintro e uq19 ⟨v5, rfl, ho, hb⟩
          replace NK := Lib.hid (NK.out.below hb)
          replace XO := Lib.hid (XO.out.below hb)
          replace XP := Lib.hid (XP.out.below hb)
          obtain ⟨a5, c5, rfl, -, -, -⟩ := ho.own.at 0 rfl
          clear hb ho KW xn xp0 xp1 xp2
          have hb := (Below.refl uq19.heap.size uq19).alloc (Nat.le_refl _) (.cells #[.slice a5 0 c5] 24)
          replace NK := Lib.hid (NK.out.below hb)
          replace XO := Lib.hid (XO.out.below hb)
          replace XP := Lib.hid (XP.out.below hb)
          have XA := Lib.hid (ntb_new uq19 #[.slice a5 0 c5] 24)
          clear hb
          go_upto_region 20 with fail
          generalize hgq21 : uq19.heap.size = gq21 at XA ⊢
          clear hgq21
          generalize (uq19.alloc (.cells #[.slice a5 0 c5] 24)) = uq20 at *
          have DM := NK.out.dims
          have xn := NK.out.box.net
          have KA := Lib.hid (rsameN ⟨_, rfl, NK.out.seqN⟩ ⟨_, rfl, NK.out.seqW⟩ (by omega) true (decide_eq_true rfl))
          clear DM
          go_wp2_with fail
          refine KA.out.mono ?_
          rintro e uz ⟨rfl, hb⟩
          have NZ := Lib.hid (NK.out.below hb)
          clear hb KA xn
          go_wp2_with fail
          go_roundw
          case rel => exact ⟨k + 1, _, _, _, _, _, _, by omega, rfl, by go_num, NZ.out⟩
          case measure => simp [intOf]; omega
        have KW := Lib.hid (ntsendP (f := nf) (t := nt) ⟨_, rfl, NK.out.seqN⟩ BB.out (by rw [LM.out]; omega) NK.out.byt BPL.out)
        have h64 : (m : Int) < 64 := by omega
        have LS : Hid ((l ++ [(⟨nf, nt, pb⟩ : PPkt)]).length = m + 1) := Lib.hid (by simp [LM.out])
        have xn := NK.out.box.net
        obtain ⟨xp0, xp1, xp2⟩ := XP.out.pkt
        have N1 := Lib.hid NK.out
        go_wp2_with fail
        refine (KW.out).mono ?_
        rintro e uq22 ⟨v5, rfl, ho, hb⟩
        have HC := Lib.hid hb
        replace NK := Lib.hid (NK.out.below hb)
        replace XO := Lib.hid (XO.out.below hb)
        replace XP := Lib.hid (XP.out.below hb)
        obtain ⟨a5, c5, rfl, -, -, ho5⟩ := ho.at (m + 1) LS.out
        have SA := Lib.hid (ho5.sq fun b h _ => h)
        clear hb ho ho5 KW xn xp0 xp1 xp2
        have hb := (Below.refl uq22.heap.size uq22).alloc (Nat.le_refl _) (.cells #[.slice a5 (m + 1) c5] 24)
        replace SA := Lib.hid (SA.out.since hb)
        replace HC := Lib.hid (HC.out.trans (hb.mono HC.out.size))
        clear hb
        have hb := (Below.refl uq22.heap.size uq22).alloc (Nat.le_refl _) (.cells #[.slice a5 (m + 1) c5] 24)
        replace NK := Lib.hid (NK.out.below hb)
        replace XO := Lib.hid (XO.out.below hb)
        replace XP := Lib.hid (XP.out.below hb)
        have XA := Lib.hid (ntb_new uq22 #[.slice a5 (m + 1) c5] 24)
        clear hb
        go_upto_region 20 with fail
        generalize hgq24 : uq22.heap.size = gq24 at XA ⊢
        clear hgq24
        generalize (uq22.alloc (.cells #[.slice a5 (m + 1) c5] 24)) = uq23 at *
        have ST := Lib.hid (N1.out.store HC.out SA.out)
        have xa := XA.out.net
        obtain ⟨z0, f0⟩ := box_bare NK.out.box.blk 0
        simp only [List.getElem?_toArray, List.getElem?_cons_zero] at z0
        replace XP := Lib.hid (XP.out.other (show g7 ≠ g by have := GG.out; omega) (.slice a5 (m + 1) c5))
        replace XO := Lib.hid (XO.out.other (show g6 ≠ g by have := GO.out; omega) (.slice a5 (m + 1) c5))
        go_upto_region 24 with fail
        clear xa z0 f0
        generalize (uq23.setCell ⟨g, 0, none⟩ (.slice a5 (m + 1) c5)) = wS at *
        have SL := Lib.hid ST.out.1
        have SB := Lib.hid ST.out.2.1
        have SN := Lib.hid ST.out.2.2.1
        have SO := Lib.hid ST.out.2.2.2
        clear ST SA NK XA
        skip
        skip
        have BS : Hid (Sq LByte (fun b => b < w.heap.size) wS (.slice da bm dc) pb) := Lib.hid (BP.out.agree fun b hb => SL.out.block b hb)
        obtain ⟨xp0, xp1, xp2⟩ := XP.out.pkt
        have LP := Lib.hid (lone_pkt (g := 0) (B := g + 1) (x := ⟨nf, nt, pb⟩) (v := .slice a4 m c4) SL.out (BS.out) (fun b e => (N1.out.way.lt b e).1) (by have := N1.out.gw; omega))
        have WB := Lib.hid SB.out.lt
        go_wp2_with (at_builtin; refine wpList_append_elR (fun b => b < w.heap.size) _ LPkt rfl (.tmp 106) (.tmp 108) rfl (g + 1) rfl (SO.out.alloc _) rfl LP.out (by rw [LM.out]; simp; omega) (by have := WB.out; simp; omega) ?_)
        intro v2 w2 ho2 hg2 hat
        have HAT := Lib.hid hat
        have HGR := Lib.hid hg2
        obtain ⟨a6, c6, rfl, -, -, ho6⟩ := ho2.at (m + 1) LS.out
        have O6 := Lib.hid ho6
        clear xp0 xp1 xp2 hg2 ho2 ho6 hat
        have NK := Lib.hid (nkeep_grown SL.out N1.out.gw N1.out.box.lt SB.out SN.out (fun b e => N1.out.way.lt b e) ((Below.refl _ _).alloc (Nat.le_refl _) (.cells #[.int .i64 nf, .int .i64 nt, .slice da bm dc] 27)) HGR.out (HAT.out.imp id fun h => ⟨_, h, Nat.le_succ _⟩) O6.out (by rw [LS.out]; omega) (snoc_short N1.out.byt BPL.out))
        clear SL SB SN SO HAT HGR O6 LP
        skip
        have DM := NK.out.dims
        have xn := NK.out.box.net
        have KA := Lib.hid (rsameN ⟨_, rfl, NK.out.seqN⟩ ⟨_, rfl, NK.out.seqW⟩ (by omega) true (decide_eq_true rfl))
        clear DM
        go_wp2_with fail
        refine KA.out.mono ?_
        rintro e uz ⟨rfl, hb⟩
        have NZ := Lib.hid (NK.out.below hb)
        clear hb KA xn
        go_wp2_with fail
        go_roundw
        case rel => exact ⟨k + 1, _, _, _, _, _, _, by omega, rfl, by go_num, NZ.out⟩
        case measure => simp [intOf]; omega
    by_cases r2 : r = 2
    · subst r2
      clear r0 r1
      by_cases hi : 0 ≤ ni ∧ ni < m
      rotate_left
      · have xn := NK.out.box.net
        obtain ⟨y3, -⟩ := box_bare XO.out.blk 3
        simp only [List.getElem?_toArray, List.getElem?_cons_zero, List.getElem?_cons_succ] at y3
        have KT := Lib.hid (nttakeNo (i := ni) ⟨_, rfl, NK.out.seqN⟩ (by rw [LM.out]; exact hi))
        go_wp2_with fail
        refine (KT.out).mono ?_
        rintro e uq25 ⟨bv, sv, rfl, hbv, hsv, hb⟩
        replace NK := Lib.hid (NK.out.below hb)
        replace XO := Lib.hid (XO.out.below hb)
        obtain ⟨b7, d7, rfl, -, -, -, hbv⟩ := hbv.parts
        obtain ⟨a7, c7, rfl, -, -, -, hsv⟩ := hsv.parts
        clear hb hbv hsv KT xn y3
        have hb := ((Below.refl uq25.heap.size uq25).alloc (Nat.le_refl _) (.cells #[.int .i64 0, .int .i64 0, .slice b7 0 d7] 27)).alloc (by simp) (.cells #[.slice a7 0 c7] 24)
        replace NK := Lib.hid (NK.out.below hb)
        replace XO := Lib.hid (XO.out.below hb)
        have PC := npair_heap uq25 #[.int .i64 0, .int .i64 0, .slice b7 0 d7] #[.slice a7 0 c7] 27 24
        have XQ := Lib.hid PC.1
        have XC := Lib.hid PC.2
        clear hb PC
        go_upto_region 27 with fail
        generalize hgq27 : uq25.heap.size = gq27 at XQ XC ⊢
        clear hgq27
        generalize ((uq25.alloc (.cells #[.int .i64 0, .int .i64 0, .slice b7 0 d7] 27)).alloc (.cells #[.slice a7 0 c7] 24)) = uq26 at *
        obtain ⟨y3, -⟩ := box_bare XO.out.blk 3
        simp only [List.getElem?_toArray, List.getElem?_cons_zero, List.getElem?_cons_succ] at y3
        by_cases hneg : ni < 0
        · have hge : ¬ 0 ≤ ni := by omega
          clear hi hneg
          have DM := NK.out.dims
          have xn := NK.out.box.net
          have KA := Lib.hid (rsameN ⟨_, rfl, NK.out.seqN⟩ ⟨_, rfl, NK.out.seqW⟩ (by omega) true (decide_eq_true rfl))
          clear DM
          go_wp2_with fail
          refine KA.out.mono ?_
          rintro e uz ⟨rfl, hb⟩
          have NZ := Lib.hid (NK.out.below hb)
          clear hb KA xn
          go_wp2_with fail
          go_roundw
          case rel => exact ⟨k + 1, _, _, _, _, _, _, by omega, rfl, by go_num, NZ.out⟩
          case measure => simp [intOf]; omega
        · have hge : 0 ≤ ni := by omega
          have hge2 : ¬ ni < (m : Int) := by omega
          clear hi hneg
          have DM := NK.out.dims
          have xn := NK.out.box.net
          have KA := Lib.hid (rsameN ⟨_, rfl, NK.out.seqN⟩ ⟨_, rfl, NK.out.seqW⟩ (by omega) true (decide_eq_true rfl))
          clear DM
          go_wp2_with fail
          refine KA.out.mono ?_
          rintro e uz ⟨rfl, hb⟩
          have NZ := Lib.hid (NK.out.below hb)
          clear hb KA xn
          go_wp2_with fail
          go_roundw
          case rel => exact ⟨k + 1, _, _, _, _, _, _, by omega, rfl, by go_num, NZ.out⟩
          case measure => simp [intOf]; omega
      obtain ⟨hi0, hi1⟩ := hi
      obtain ⟨i, rfl⟩ := Int.eq_ofNat_of_zero_le hi0
      clear hi0 OX4
      have him : i < m := by omega
      have i1 : (i : Int) < m := by omega
      have i0 : (0 : Int) ≤ i := by omega
      obtain ⟨rb, ea, en, ec, rfl, -, -⟩ := NK.out.way.pktAt him
      have HQ := Lib.hid (pk_bytes (show i < l.length by rw [LM.out]; exact him) NK.out.byt)
      have KT := Lib.hid (nttakeP (i := i) ⟨_, rfl, NK.out.seqN⟩ (by rw [LM.out]; omega) (by rw [LM.out]; exact him) NK.out.byt)
      have XE : Hid (l.eraseIdx i = l.take i ++ l.drop (i + 1)) := Lib.hid (List.eraseIdx_eq_take_drop_succ _ _)
      have YB : Hid (∀ x ∈ l.eraseIdx i, x.bytes.length ≤ 1000000) := Lib.hid (fun x h => NK.out.byt x (List.mem_of_mem_eraseIdx h))
      have YL : Hid ((l.eraseIdx i).length ≤ 64) := Lib.hid (Nat.le_trans (List.eraseIdx_sublist _ _).length_le NK.out.len)
      generalize l.eraseIdx i = ys at *
      obtain ⟨mm, hmm⟩ : ∃ m, ys.length = m := ⟨_, rfl⟩
      have LMM := Lib.hid hmm
      clear hmm
      have N1 := Lib.hid NK.out
      have xn := NK.out.box.net
      obtain ⟨y3, -⟩ := box_bare XO.out.blk 3
      simp only [List.getElem?_toArray, List.getElem?_cons_zero, List.getElem?_cons_succ] at y3
      go_wp2_with fail
      refine (KT.out).mono ?_
      rintro e uq28 ⟨bv, sv, rfl, hbv, hsv, hb⟩
      have HC := Lib.hid hb
      replace NK := Lib.hid (NK.out.below hb)
      replace XO := Lib.hid (XO.out.below hb)
      obtain ⟨a7, c7, rfl, -, -, hsv7⟩ := hsv.at mm LMM.out
      have SA := Lib.hid (hsv7.sq fun b h _ => h)
      obtain ⟨b7, d7, rfl, -, -, -, hbv⟩ := SeqE.parts (L := LByte) (hbv.mono fun b hb => hb.2)
      have S7 := Lib.hid hbv
      clear hb hbv hsv hsv7 KT xn y3
      skip
      generalize hq : pk l i = q at *
      obtain ⟨qn, hqn⟩ : ∃ m, q.bytes.length = m := ⟨_, rfl⟩
      rw [hqn] at S7 ⊢
      have HQQ := Lib.hid hq
      clear hqn hq
      have hb := ((Below.refl uq28.heap.size uq28).alloc (Nat.le_refl _) (.cells #[.int .i64 q.frm, .int .i64 q.to, .slice b7 qn d7] 27)).alloc (by simp) (.cells #[.slice a7 mm c7] 24)
      replace NK := Lib.hid (NK.out.below hb)
      replace XO := Lib.hid (XO.out.below hb)
      replace SA := Lib.hid (SA.out.since hb)
      replace HC := Lib.hid (HC.out.trans (hb.mono HC.out.size))
      replace S7 := Lib.hid (S7.out.below hb)
      have PC := npair_heap uq28 #[.int .i64 q.frm, .int .i64 q.to, .slice b7 qn d7] #[.slice a7 mm c7] 27 24
      have XQ := Lib.hid PC.1
      have XA := Lib.hid PC.2
      clear hb PC
      go_upto_region 27 with fail
      generalize hgq30 : uq28.heap.size = gq30 at XQ XA ⊢
      clear hgq30
      generalize ((uq28.alloc (.cells #[.int .i64 q.frm, .int .i64 q.to, .slice b7 qn d7] 27)).alloc (.cells #[.slice a7 mm c7] 24)) = uq29 at *
      obtain ⟨y3, -⟩ := box_bare XO.out.blk 3
      simp only [List.getElem?_toArray, List.getElem?_cons_zero, List.getElem?_cons_succ] at y3
      go_upto_region 30 with fail
      clear y3
      obtain ⟨rb2, fa, fn, fc, e4, PA, PB⟩ := NK.out.way.pktAt him
      obtain rfl : rb = rb2 := by cases e4; rfl
      clear e4
      rw [HQQ.out] at PA PB
      have HPA := Lib.hid PA
      have HPB := Lib.hid (PB.mono fun b hb => hb.2)
      clear PA PB
      have KE : Hid (∀ v, Below uq29.heap.size uq29 v → Below uq29.heap.size uq29 v ∧ (v.cell? ⟨gq30, 0, none⟩ = some (.int .i64 q.frm) ∧ v.cell? ⟨gq30, 1, none⟩ = some (.int .i64 q.to) ∧ v.cell? ⟨gq30, 2, none⟩ = some (.slice b7 qn d7)) ∧ v.cell? ⟨g6, 3, none⟩ = some (.int .i64 i) ∧ v.cell? ⟨rb, i * 3, none⟩ = some (.int .i64 q.frm) ∧ v.cell? ⟨rb, i * 3 + 1, none⟩ = some (.int .i64 q.to) ∧ v.cell? ⟨rb, i * 3 + 2, none⟩ = some (.slice fa fn fc)) := Lib.hid (fun v hb => ⟨hb, (XQ.out.below hb).pkt, (box_bare (XO.out.below hb).blk 3).1, (HPA.out.below hb HPA.out.lt).c0, (HPA.out.below hb HPA.out.lt).c1, (HPA.out.below hb HPA.out.lt).c2⟩)
      have KB := Lib.hid (fun v (hb : Below uq29.heap.size uq29 v) => rsamePk (p := q) (q := q) ⟨_, rfl, S7.out.below hb⟩ ⟨_, rfl, SeqE.below (L := LByte) HPB.out hb⟩ true (decide_eq_true rfl))
      refine wp_region_held_drew (S := fun u' => Below uq29.heap.size uq29 u' ∧ (u'.cell? ⟨gq30, 0, none⟩ = some (.int .i64 q.frm) ∧ u'.cell? ⟨gq30, 1, none⟩ = some (.int .i64 q.to) ∧ u'.cell? ⟨gq30, 2, none⟩ = some (.slice b7 qn d7)) ∧ u'.cell? ⟨g6, 3, none⟩ = some (.int .i64 i) ∧ u'.cell? ⟨rb, i * 3, none⟩ = some (.int .i64 q.frm) ∧ u'.cell? ⟨rb, i * 3 + 1, none⟩ = some (.int .i64 q.to) ∧ u'.cell? ⟨rb, i * 3 + 2, none⟩ = some (.slice fa fn fc)) (by kernel_rfl) ?_ (fun hHeld => ?_)
      · (exact KE.out _ (Below.refl _ _).drew)
      simp only [List.size_toArray, List.length_cons, List.length_nil, Nat.zero_add, Nat.reduceAdd]
      refine wpAnyH_take (i := 0) (v := ?_) rfl (by kernel_rfl) (by kernel_rfl) (by kernel_rfl) (fun _ _ _ h => h) (Or.inl ⟨by rfl, ?_⟩) hHeld ?_
      rotate_left
      · (intro w' hSw; (try dsimp only at hSw); go_simp; try with_reducible rfl)
      simp only [List.getElem_toArray, List.getElem_cons_zero, Act.put, List.setIfInBounds_toArray, List.set_cons_zero, List.set_cons_succ]
      refine wpAnyH_take (i := 1) (v := ?_) rfl (by kernel_rfl) (by kernel_rfl) (by kernel_rfl) (fun _ _ _ h => h) (Or.inl ⟨by rfl, ?_⟩) hHeld ?_
      rotate_left
      · (intro w' hSw; (try dsimp only at hSw); go_simp; try with_reducible rfl)
      simp only [List.getElem_toArray, List.getElem_cons_zero, List.getElem_cons_succ, Act.put, List.setIfInBounds_toArray, List.set_cons_zero, List.set_cons_succ]
      refine wpAnyH_take (i := 2) (v := ?_) rfl (by kernel_rfl) (by kernel_rfl) (by kernel_rfl) (fun _ _ _ h => h) (Or.inl ⟨by rfl, ?_⟩) hHeld ?_
      rotate_left
      · (intro w' hSw; (try dsimp only at hSw); go_simp; try with_reducible rfl)
      simp only [List.getElem_toArray, List.getElem_cons_zero, List.getElem_cons_succ, Act.put, List.setIfInBounds_toArray, List.set_cons_zero, List.set_cons_succ]
      refine wpAnyH_take (i := 3) (v := ?_) rfl (by kernel_rfl) (by kernel_rfl) (by kernel_rfl) (fun _ _ _ h => h) (Or.inl ⟨by rfl, ?_⟩) hHeld ?_
      rotate_left
      · (intro w' hSw; (try dsimp only at hSw); go_simp; try with_reducible rfl)
      simp only [List.getElem_toArray, List.getElem_cons_zero, List.getElem_cons_succ, Act.put, List.setIfInBounds_toArray, List.set_cons_zero, List.set_cons_succ]
      refine wpAnyH_take (i := 4) (v := ?_) rfl (by kernel_rfl) (by kernel_rfl) (by kernel_rfl) (fun _ _ _ h => h) (Or.inl ⟨by rfl, ?_⟩) hHeld ?_
      rotate_left
      · (intro w' hSw; (try dsimp only at hSw); go_simp; try with_reducible rfl)
      simp only [List.getElem_toArray, List.getElem_cons_zero, List.getElem_cons_succ, Act.put, List.setIfInBounds_toArray, List.set_cons_zero, List.set_cons_succ]
      refine wpAnyH_take (i := 5) (v := ?_) rfl (by kernel_rfl) (by kernel_rfl) (by kernel_rfl) (fun _ _ _ h => h) (Or.inl ⟨by rfl, ?_⟩) hHeld ?_
      rotate_left
      · (intro w' hSw; (try dsimp only at hSw); go_simp; try with_reducible rfl)
      simp only [List.getElem_toArray, List.getElem_cons_zero, List.getElem_cons_succ, Act.put, List.setIfInBounds_toArray, List.set_cons_zero, List.set_cons_succ]
      refine wpAnyH_ready (rs := [6]) (by kernel_rfl) (by simp) ?_
      refine AllReadyH.cons rfl (fun K hK => ?_) AllReadyH.nil
      go_simp
      refine (KB.out _ hHeld.1).mono ?_
      rintro e t1 ⟨rfl, hb⟩
      refine hK.out _ _ (KE.out _ (holdC hHeld hb)) (fun hHeld => ?_)
      clear hK K hb
      refine wpAnyH_take (i := 7) (v := ?_) rfl (by kernel_rfl) (by kernel_rfl) (by kernel_rfl) (fun _ _ _ h => h) (Or.inl ⟨by rfl, ?_⟩) hHeld ?_
      rotate_left
      · (intro w' hSw; (try dsimp only at hSw); go_simp; try with_reducible rfl)
      simp only [List.getElem_toArray, List.getElem_cons_zero, List.getElem_cons_succ, Act.put, List.setIfInBounds_toArray, List.set_cons_zero, List.set_cons_succ]
      refine wpAnyH_done (by kernel_rfl) ?_ _
      have hb : Below uq29.heap.size uq29 t1 := hHeld.1
      clear hHeld KE KB HPA HPB
      replace NK := Lib.hid (NK.out.below hb)
      replace XO := Lib.hid (XO.out.below hb)
      replace SA := Lib.hid (SA.out.since hb)
      replace HC := Lib.hid (HC.out.trans (hb.mono HC.out.size))
      replace XA := Lib.hid (XA.out.below hb)
      clear hb
      have ST := Lib.hid (N1.out.store HC.out SA.out)
      have xa := XA.out.net
      obtain ⟨z0, f0⟩ := box_bare NK.out.box.blk 0
      simp only [List.getElem?_toArray, List.getElem?_cons_zero] at z0
      replace XO := Lib.hid (XO.out.other (show g6 ≠ g by have := GO.out; omega) (.slice a7 mm c7))
      go_upto_region 33 with fail
      clear xa z0 f0
      generalize (t1.setCell ⟨g, 0, none⟩ (.slice a7 mm c7)) = wS at *
      have SL := Lib.hid ST.out.1
      have SB := Lib.hid ST.out.2.1
      have SN := Lib.hid ST.out.2.2.1
      have SO := Lib.hid ST.out.2.2.2
      clear ST SA NK XA
      skip
      obtain ⟨j, hj⟩ : ∃ j, j = i + 1 := ⟨_, rfl⟩
      have HJ := Lib.hid hj
      have j1 : (j : Int) ≤ m := by omega
      have j2 : (i : Int) ≤ c4 := by omega
      have kw : IntKind.i64.wrap (((i : Nat) : Int) + 1) = ((j : Nat) : Int) := by rw [IntWalk.i64_in _ (by omega)]; omega
      clear hj
      have WW := Lib.hid SO.out.sqKR
      have GWS : Hid (w.heap.size ≤ wS.heap.size) := Lib.hid SL.out.size
      have KE : Hid (∀ v, Below wS.heap.size wS v → Below wS.heap.size wS v ∧ v.cell? ⟨g6, 3, none⟩ = some (.int .i64 i)) := Lib.hid (fun v hb => ⟨hb, (box_bare (XO.out.below hb).blk 3).1⟩)
      have T1 : Hid (SqKR LPkt (fun b => b < wS.heap.size) (fun b => b < w.heap.size) wS (.slice (some ⟨rb, 0, none⟩) i c4) (l.take i)) := Lib.hid ((WW.out.first i (by omega)).mono (fun b hb => hb.2.2) (fun b hb => hb.1))
      by_cases hck : c4 = j
      · have hck2 := hck.symm
        subst hck2
        obtain rfl : m = j := by omega
        have T2 : Hid (SqKR LPkt (fun b => b < wS.heap.size) (fun b => b < w.heap.size) wS (.slice (some ⟨rb, 0, none⟩) 0 0) (l.drop (i + 1))) := Lib.hid (by rw [List.drop_eq_nil_of_le (by rw [LM.out, HJ.out]; exact Nat.le_refl _)]; exact SqKR.none _ _ _ (by unfold maxLen; omega))
        refine wp_region_held_drew (S := fun u' => Below wS.heap.size wS u' ∧ u'.cell? ⟨g6, 3, none⟩ = some (.int .i64 i)) (by kernel_rfl) ?_ (fun hHeld => ?_)
        · (exact KE.out _ (Below.refl _ _).drew)
        simp only [List.size_toArray, List.length_cons, List.length_nil, Nat.zero_add, Nat.reduceAdd]
        refine wpAnyH_take (i := 1) (v := ?_) rfl (by kernel_rfl) (by kernel_rfl) (by kernel_rfl) (fun _ _ _ h => h) (Or.inl ⟨by rfl, ?_⟩) hHeld ?_
        rotate_left
        · (intro w' hSw; (try dsimp only at hSw); go_simp; try with_reducible rfl)
        simp only [List.getElem_toArray, List.getElem_cons_zero, List.getElem_cons_succ, Act.put, List.setIfInBounds_toArray, List.set_cons_zero, List.set_cons_succ]
        refine wpAnyH_take (i := 2) (v := ?_) rfl (by kernel_rfl) (by kernel_rfl) (by kernel_rfl) (fun _ _ _ h => h) (Or.inl ⟨by rfl, ?_⟩) hHeld ?_
        rotate_left
        · (intro w' hSw; (try dsimp only at hSw); go_simp; try with_reducible rfl)
        simp only [List.getElem_toArray, List.getElem_cons_zero, List.getElem_cons_succ, Act.put, List.setIfInBounds_toArray, List.set_cons_zero, List.set_cons_succ]
        refine wpAnyH_take (i := 3) (v := ?_) rfl (by kernel_rfl) (by kernel_rfl) (by kernel_rfl) (fun _ _ _ h => h) (Or.inl ⟨by rfl, ?_⟩) hHeld ?_
        rotate_left
        · (intro w' hSw; (try dsimp only at hSw); go_simp; try with_reducible rfl)
        simp only [List.getElem_toArray, List.getElem_cons_zero, List.getElem_cons_succ, Act.put, List.setIfInBounds_toArray, List.set_cons_zero, List.set_cons_succ]
        refine wpAnyH_take (i := 4) (v := ?_) rfl (by kernel_rfl) (by kernel_rfl) (by kernel_rfl) (fun _ _ _ h => h) (Or.inl ⟨by rfl, ?_⟩) hHeld ?_
        rotate_left
        · (intro w' hSw; (try dsimp only at hSw); go_simp; try with_reducible rfl)
        simp only [List.getElem_toArray, List.getElem_cons_zero, List.getElem_cons_succ, Act.put, List.setIfInBounds_toArray, List.set_cons_zero, List.set_cons_succ]
        refine wpAnyH_take (i := 6) (v := ?_) rfl (by kernel_rfl) (by kernel_rfl) (by kernel_rfl) (fun _ _ _ h => h) (Or.inl ⟨by rfl, ?_⟩) hHeld ?_
        rotate_left
        · (intro w' hSw; (try dsimp only at hSw); go_simp; try with_reducible rfl)
        simp only [List.getElem_toArray, List.getElem_cons_zero, List.getElem_cons_succ, Act.put, List.setIfInBounds_toArray, List.set_cons_zero, List.set_cons_succ]
        refine wpAnyH_take (i := 7) (v := ?_) rfl (by kernel_rfl) (by kernel_rfl) (by kernel_rfl) (fun _ _ _ h => h) (Or.inl ⟨by rfl, ?_⟩) hHeld ?_
        rotate_left
        · (intro w' hSw; (try dsimp only at hSw); go_simp; try with_reducible rfl)
        simp only [List.getElem_toArray, List.getElem_cons_zero, List.getElem_cons_succ, Act.put, List.setIfInBounds_toArray, List.set_cons_zero, List.set_cons_succ]
        refine wpAnyH_take (i := 8) (v := ?_) rfl (by kernel_rfl) (by kernel_rfl) (by kernel_rfl) (fun _ _ _ h => h) (Or.inl ⟨by rfl, ?_⟩) hHeld ?_
        rotate_left
        · (intro w' hSw; (try dsimp only at hSw); go_simp; try with_reducible rfl)
        simp only [List.getElem_toArray, List.getElem_cons_zero, List.getElem_cons_succ, Act.put, List.setIfInBounds_toArray, List.set_cons_zero, List.set_cons_succ]
        refine wpAnyH_take (i := 9) (v := ?_) rfl (by kernel_rfl) (by kernel_rfl) (by kernel_rfl) (fun _ _ _ h => h) (Or.inl ⟨by rfl, ?_⟩) hHeld ?_
        rotate_left
        · (intro w' hSw; (try dsimp only at hSw); go_simp; try with_reducible rfl)
        simp only [List.getElem_toArray, List.getElem_cons_zero, List.getElem_cons_succ, Act.put, List.setIfInBounds_toArray, List.set_cons_zero, List.set_cons_succ]
        refine wpAnyH_take (i := 10) (v := ?_) rfl (by kernel_rfl) (by kernel_rfl) (by kernel_rfl) (fun _ _ _ h => h) (Or.inl ⟨by rfl, ?_⟩) hHeld ?_
        rotate_left
        · (intro w' hSw; (try dsimp only at hSw); go_simp; try with_reducible rfl)
        simp only [List.getElem_toArray, List.getElem_cons_zero, List.getElem_cons_succ, Act.put, List.setIfInBounds_toArray, List.set_cons_zero, List.set_cons_succ]
        refine wpAnyH_ready (rs := [0]) (by kernel_rfl) (by simp) ?_
        refine AllReadyH.cons rfl (fun K hK => ?_) AllReadyH.nil
        go_simp
        have hb : Below wS.heap.size wS (wS.alloc (.cells #[] 27)).drew := (Below.refl _ _).drew.alloc (Nat.le_refl _) _
        have A2 := Lib.hid hb
        have EO : Hid (OwnJ (fun b => b < w.heap.size) LPkt wS.heap.size (wS.alloc (.cells #[] 27)).drew (.slice (some ⟨wS.heap.size, 0, none⟩) 0 0) []) := Lib.hid ⟨[], World.ownsRow_made (size := 3) wS.drew #[] 0 (Nat.le_refl _) (Nat.zero_le _) (by simp), Rows.nil _ _⟩
        have UZ : Hid (wS.heap.size + 1 = (wS.alloc (.cells #[] 27)).drew.heap.size) := Lib.hid (by simp)
        refine hK.out _ _ (KE.out _ hb) (fun hHeld => ?_)
        clear hK K hb
        generalize (wS.alloc (.cells #[] 27)).drew = ua at *
        have W1 : Hid (SqKR LPkt (fun b => b < wS.heap.size) (fun b => b < w.heap.size ∧ b < ua.heap.size ∧ Value.ownBlock (.slice (some ⟨wS.heap.size, 0, none⟩) 0 0) ≠ some b) ua (.slice (some ⟨rb, 0, none⟩) i m) (l.take i)) := Lib.hid ((T1.out.agree (fun b hb => A2.out.block b hb) (fun b hb => A2.out.block b (Nat.lt_of_lt_of_le hb GWS.out))).mono (fun b hb => hb) (fun b hb => ⟨hb, by have := GWS.out; have := UZ.out; have h2 : b < w.heap.size := hb; omega, fun e => by have := GWS.out; have h2 : b < w.heap.size := hb; have h3 : wS.heap.size = b := Option.some.inj e; omega⟩))
        refine wpAnyH_ready (rs := [5]) (by kernel_rfl) (by simp) ?_
        refine AllReadyH.cons rfl (fun K hK => ?_) AllReadyH.nil
        refine step_append_elR (fun b => b < w.heap.size) _ LPkt (by rfl) (.tmp 144) (.tmp 148) (by rfl) wS.heap.size (by rfl) EO.out (by rfl) W1.out (by rw [List.length_take, LM.out]; simp; omega) A2.out.size ?_
        intro v2 s1 ho2 hg2 hat2
        have hb : Below wS.heap.size wS s1 := A2.out.grown hg2 A2.out.size (fun q hq => (EO.out.lt q hq).1)
        obtain ⟨a8, c8, rfl, -, -, ho8⟩ := ho2.at i (by rw [List.nil_append, List.length_take, LM.out]; omega)
        have O8 := Lib.hid ho8
        have B1 := Lib.hid hb
        refine hK.out _ _ (KE.out _ hb) (fun hHeld => ?_)
        clear hK K hb ho2 hg2 hat2 ho8 W1 EO A2 UZ
        have W2 : Hid (SqKR LPkt (fun b => b < wS.heap.size) (fun b => b < w.heap.size ∧ b < s1.heap.size ∧ Value.ownBlock (.slice a8 i c8) ≠ some b) s1 (.slice (some ⟨rb, 0, none⟩) 0 0) (l.drop (i + 1))) := Lib.hid ((T2.out.agree (fun b hb => B1.out.block b hb) (fun b hb => B1.out.block b (Nat.lt_of_lt_of_le hb GWS.out))).mono (fun b hb => hb) (fun b hb => ⟨hb, by have := GWS.out; have := B1.out.size; have h2 : b < w.heap.size := hb; omega, fun e => by have := (O8.out.lt b e).1; have := GWS.out; have h2 : b < w.heap.size := hb; omega⟩))
        refine wpAnyH_ready (rs := [11]) (by kernel_rfl) (by simp) ?_
        refine AllReadyH.cons rfl (fun K hK => ?_) AllReadyH.nil
        refine step_append_elR (fun b => b < w.heap.size) _ LPkt (by rfl) (.tmp 149) (.tmp 154) (by rfl) wS.heap.size (by rfl) O8.out (by rfl) W2.out (by rw [List.nil_append, List.length_take, List.length_drop, LM.out]; omega) B1.out.size ?_
        intro v3 s2 ho3 hg3 hat3
        have hb : Below wS.heap.size wS s2 := B1.out.grown hg3 B1.out.size (fun q hq => (O8.out.lt q hq).1)
        rw [List.nil_append, ← XE.out] at ho3
        obtain ⟨a9, c9, rfl, -, -, ho9⟩ := ho3.at mm LMM.out
        have O9 := Lib.hid ho9
        have B2 := Lib.hid hb
        refine hK.out _ _ (KE.out _ hb) (fun hHeld => ?_)
        clear hK K hb ho3 hg3 hat3 ho9 W2 O8 B1 T1 T2 WW
        refine wpAnyH_take (i := 12) (v := ?_) rfl (by kernel_rfl) (by kernel_rfl) (by kernel_rfl) (fun _ _ _ h => h) (Or.inl ⟨by rfl, ?_⟩) hHeld ?_
        rotate_left
        · (intro w' hSw; (try dsimp only at hSw); go_simp; try with_reducible rfl)
        simp only [List.getElem_toArray, List.getElem_cons_zero, List.getElem_cons_succ, Act.put, List.setIfInBounds_toArray, List.set_cons_zero, List.set_cons_succ]
        refine wpAnyH_done (by kernel_rfl) ?_ _
        clear hHeld KE
        have NK := Lib.hid (nkeep_fresh SL.out N1.out.gw N1.out.box.lt SB.out SN.out B2.out (fun b e => (O9.out.lt b e).1) (O9.out.mono SB.out.lt) YL.out YB.out)
        clear SL SB SN SO O9 B2
        have DM := NK.out.dims
        have xn := NK.out.box.net
        have KA := Lib.hid (rsameN ⟨_, rfl, NK.out.seqN⟩ ⟨_, rfl, NK.out.seqW⟩ (by omega) true (decide_eq_true rfl))
        clear DM
        go_wp2_with fail
        refine KA.out.mono ?_
        rintro e uz ⟨rfl, hb⟩
        have NZ := Lib.hid (NK.out.below hb)
        clear hb KA xn
        go_wp2_with fail
        go_roundw
        case rel => exact ⟨k + 1, _, _, _, _, _, _, by omega, rfl, by go_num, NZ.out⟩
        case measure => simp [intOf]; omega
      · have T2 : Hid (SqKR LPkt (fun b => b < wS.heap.size) (fun b => b < w.heap.size) wS (.slice (some ⟨rb, j * 3, none⟩) (m - j) (c4 - j)) (l.drop (i + 1))) := Lib.hid (by
          have h := (WW.out.behind j (by omega)).mono (K' := fun b => b < wS.heap.size) (R' := fun b => b < w.heap.size) (fun b hb => hb.2.2) (fun b hb => hb.1)
          rw [← HJ.out]
          rw [Nat.zero_add] at h
          exact h)
        refine wp_region_held_drew (S := fun u' => Below wS.heap.size wS u' ∧ u'.cell? ⟨g6, 3, none⟩ = some (.int .i64 i)) (by kernel_rfl) ?_ (fun hHeld => ?_)
        · (exact KE.out _ (Below.refl _ _).drew)
        simp only [List.size_toArray, List.length_cons, List.length_nil, Nat.zero_add, Nat.reduceAdd]
        refine wpAnyH_take (i := 1) (v := ?_) rfl (by kernel_rfl) (by kernel_rfl) (by kernel_rfl) (fun _ _ _ h => h) (Or.inl ⟨by rfl, ?_⟩) hHeld ?_
        rotate_left
        · (intro w' hSw; (try dsimp only at hSw); go_simp; try with_reducible rfl)
        simp only [List.getElem_toArray, List.getElem_cons_zero, List.getElem_cons_succ, Act.put, List.setIfInBounds_toArray, List.set_cons_zero, List.set_cons_succ]
        refine wpAnyH_take (i := 2) (v := ?_) rfl (by kernel_rfl) (by kernel_rfl) (by kernel_rfl) (fun _ _ _ h => h) (Or.inl ⟨by rfl, ?_⟩) hHeld ?_
        rotate_left
        · (intro w' hSw; (try dsimp only at hSw); go_simp; try with_reducible rfl)
        simp only [List.getElem_toArray, List.getElem_cons_zero, List.getElem_cons_succ, Act.put, List.setIfInBounds_toArray, List.set_cons_zero, List.set_cons_succ]
        refine wpAnyH_take (i := 3) (v := ?_) rfl (by kernel_rfl) (by kernel_rfl) (by kernel_rfl) (fun _ _ _ h => h) (Or.inl ⟨by rfl, ?_⟩) hHeld ?_
        rotate_left
        · (intro w' hSw; (try dsimp only at hSw); go_simp; try with_reducible rfl)
        simp only [List.getElem_toArray, List.getElem_cons_zero, List.getElem_cons_succ, Act.put, List.setIfInBounds_toArray, List.set_cons_zero, List.set_cons_succ]
        refine wpAnyH_take (i := 4) (v := ?_) rfl (by kernel_rfl) (by kernel_rfl) (by kernel_rfl) (fun _ _ _ h => h) (Or.inl ⟨by rfl, ?_⟩) hHeld ?_
        rotate_left
        · (intro w' hSw; (try dsimp only at hSw); go_simp; try with_reducible rfl)
        simp only [List.getElem_toArray, List.getElem_cons_zero, List.getElem_cons_succ, Act.put, List.setIfInBounds_toArray, List.set_cons_zero, List.set_cons_succ]
        refine wpAnyH_take (i := 6) (v := ?_) rfl (by kernel_rfl) (by kernel_rfl) (by kernel_rfl) (fun _ _ _ h => h) (Or.inl ⟨by rfl, ?_⟩) hHeld ?_
        rotate_left
        · (intro w' hSw; (try dsimp only at hSw); go_simp; try with_reducible rfl)
        simp only [List.getElem_toArray, List.getElem_cons_zero, List.getElem_cons_succ, Act.put, List.setIfInBounds_toArray, List.set_cons_zero, List.set_cons_succ]
        refine wpAnyH_take (i := 7) (v := ?_) rfl (by kernel_rfl) (by kernel_rfl) (by kernel_rfl) (fun _ _ _ h => h) (Or.inl ⟨by rfl, ?_⟩) hHeld ?_
        rotate_left
        · (intro w' hSw; (try dsimp only at hSw); go_simp; try with_reducible rfl)
        simp only [List.getElem_toArray, List.getElem_cons_zero, List.getElem_cons_succ, Act.put, List.setIfInBounds_toArray, List.set_cons_zero, List.set_cons_succ]
        refine wpAnyH_take (i := 8) (v := ?_) rfl (by kernel_rfl) (by kernel_rfl) (by kernel_rfl) (fun _ _ _ h => h) (Or.inl ⟨by rfl, ?_⟩) hHeld ?_
        rotate_left
        · (intro w' hSw; (try dsimp only at hSw); go_simp; try with_reducible rfl)
        simp only [List.getElem_toArray, List.getElem_cons_zero, List.getElem_cons_succ, Act.put, List.setIfInBounds_toArray, List.set_cons_zero, List.set_cons_succ]
        refine wpAnyH_take (i := 9) (v := ?_) rfl (by kernel_rfl) (by kernel_rfl) (by kernel_rfl) (fun _ _ _ h => h) (Or.inl ⟨by rfl, ?_⟩) hHeld ?_
        rotate_left
        · (intro w' hSw; (try dsimp only at hSw); go_simp; try with_reducible rfl)
        simp only [List.getElem_toArray, List.getElem_cons_zero, List.getElem_cons_succ, Act.put, List.setIfInBounds_toArray, List.set_cons_zero, List.set_cons_succ]
        refine wpAnyH_take (i := 10) (v := ?_) rfl (by kernel_rfl) (by kernel_rfl) (by kernel_rfl) (fun _ _ _ h => h) (Or.inl ⟨by rfl, ?_⟩) hHeld ?_
        rotate_left
        · (intro w' hSw; (try dsimp only at hSw); go_simp; try with_reducible rfl)
        simp only [List.getElem_toArray, List.getElem_cons_zero, List.getElem_cons_succ, Act.put, List.setIfInBounds_toArray, List.set_cons_zero, List.set_cons_succ]
        refine wpAnyH_ready (rs := [0]) (by kernel_rfl) (by simp) ?_
        refine AllReadyH.cons rfl (fun K hK => ?_) AllReadyH.nil
        go_simp
        have hb : Below wS.heap.size wS (wS.alloc (.cells #[] 27)).drew := (Below.refl _ _).drew.alloc (Nat.le_refl _) _
        have A2 := Lib.hid hb
        have EO : Hid (OwnJ (fun b => b < w.heap.size) LPkt wS.heap.size (wS.alloc (.cells #[] 27)).drew (.slice (some ⟨wS.heap.size, 0, none⟩) 0 0) []) := Lib.hid ⟨[], World.ownsRow_made (size := 3) wS.drew #[] 0 (Nat.le_refl _) (Nat.zero_le _) (by simp), Rows.nil _ _⟩
        have UZ : Hid (wS.heap.size + 1 = (wS.alloc (.cells #[] 27)).drew.heap.size) := Lib.hid (by simp)
        refine hK.out _ _ (KE.out _ hb) (fun hHeld => ?_)
        clear hK K hb
        generalize (wS.alloc (.cells #[] 27)).drew = ua at *
        have W1 : Hid (SqKR LPkt (fun b => b < wS.heap.size) (fun b => b < w.heap.size ∧ b < ua.heap.size ∧ Value.ownBlock (.slice (some ⟨wS.heap.size, 0, none⟩) 0 0) ≠ some b) ua (.slice (some ⟨rb, 0, none⟩) i c4) (l.take i)) := Lib.hid ((T1.out.agree (fun b hb => A2.out.block b hb) (fun b hb => A2.out.block b (Nat.lt_of_lt_of_le hb GWS.out))).mono (fun b hb => hb) (fun b hb => ⟨hb, by have := GWS.out; have := UZ.out; have h2 : b < w.heap.size := hb; omega, fun e => by have := GWS.out; have h2 : b < w.heap.size := hb; have h3 : wS.heap.size = b := Option.some.inj e; omega⟩))
        refine wpAnyH_ready (rs := [5]) (by kernel_rfl) (by simp) ?_
        refine AllReadyH.cons rfl (fun K hK => ?_) AllReadyH.nil
        refine step_append_elR (fun b => b < w.heap.size) _ LPkt (by rfl) (.tmp 144) (.tmp 148) (by rfl) wS.heap.size (by rfl) EO.out (by rfl) W1.out (by rw [List.length_take, LM.out]; simp; omega) A2.out.size ?_
        intro v2 s1 ho2 hg2 hat2
        have hb : Below wS.heap.size wS s1 := A2.out.grown hg2 A2.out.size (fun q hq => (EO.out.lt q hq).1)
        obtain ⟨a8, c8, rfl, -, -, ho8⟩ := ho2.at i (by rw [List.nil_append, List.length_take, LM.out]; omega)
        have O8 := Lib.hid ho8
        have B1 := Lib.hid hb
        refine hK.out _ _ (KE.out _ hb) (fun hHeld => ?_)
        clear hK K hb ho2 hg2 hat2 ho8 W1 EO A2 UZ
        have W2 : Hid (SqKR LPkt (fun b => b < wS.heap.size) (fun b => b < w.heap.size ∧ b < s1.heap.size ∧ Value.ownBlock (.slice a8 i c8) ≠ some b) s1 (.slice (some ⟨rb, j * 3, none⟩) (m - j) (c4 - j)) (l.drop (i + 1))) := Lib.hid ((T2.out.agree (fun b hb => B1.out.block b hb) (fun b hb => B1.out.block b (Nat.lt_of_lt_of_le hb GWS.out))).mono (fun b hb => hb) (fun b hb => ⟨hb, by have := GWS.out; have := B1.out.size; have h2 : b < w.heap.size := hb; omega, fun e => by have := (O8.out.lt b e).1; have := GWS.out; have h2 : b < w.heap.size := hb; omega⟩))
        refine wpAnyH_ready (rs := [11]) (by kernel_rfl) (by simp) ?_
        refine AllReadyH.cons rfl (fun K hK => ?_) AllReadyH.nil
        refine step_append_elR (fun b => b < w.heap.size) _ LPkt (by rfl) (.tmp 149) (.tmp 154) (by rfl) wS.heap.size (by rfl) O8.out (by rfl) W2.out (by rw [List.nil_append, List.length_take, List.length_drop, LM.out]; omega) B1.out.size ?_
        intro v3 s2 ho3 hg3 hat3
        have hb : Below wS.heap.size wS s2 := B1.out.grown hg3 B1.out.size (fun q hq => (O8.out.lt q hq).1)
        rw [List.nil_append, ← XE.out] at ho3
        obtain ⟨a9, c9, rfl, -, -, ho9⟩ := ho3.at mm LMM.out
        have O9 := Lib.hid ho9
        have B2 := Lib.hid hb
        refine hK.out _ _ (KE.out _ hb) (fun hHeld => ?_)
        clear hK K hb ho3 hg3 hat3 ho9 W2 O8 B1 T1 T2 WW
        refine wpAnyH_take (i := 12) (v := ?_) rfl (by kernel_rfl) (by kernel_rfl) (by kernel_rfl) (fun _ _ _ h => h) (Or.inl ⟨by rfl, ?_⟩) hHeld ?_
        rotate_left
        · (intro w' hSw; (try dsimp only at hSw); go_simp; try with_reducible rfl)
        simp only [List.getElem_toArray, List.getElem_cons_zero, List.getElem_cons_succ, Act.put, List.setIfInBounds_toArray, List.set_cons_zero, List.set_cons_succ]
        refine wpAnyH_done (by kernel_rfl) ?_ _
        clear hHeld KE
        have NK := Lib.hid (nkeep_fresh SL.out N1.out.gw N1.out.box.lt SB.out SN.out B2.out (fun b e => (O9.out.lt b e).1) (O9.out.mono SB.out.lt) YL.out YB.out)
        clear SL SB SN SO O9 B2
        have DM := NK.out.dims
        have xn := NK.out.box.net
        have KA := Lib.hid (rsameN ⟨_, rfl, NK.out.seqN⟩ ⟨_, rfl, NK.out.seqW⟩ (by omega) true (decide_eq_true rfl))
        clear DM
        go_wp2_with fail
        refine KA.out.mono ?_
        rintro e uz ⟨rfl, hb⟩
        have NZ := Lib.hid (NK.out.below hb)
        clear hb KA xn
        go_wp2_with fail
        go_roundw
        case rel => exact ⟨k + 1, _, _, _, _, _, _, by omega, rfl, by go_num, NZ.out⟩
        case measure => simp [intOf]; omega
    have q0 : (r == 0) = false := beq_false_of_ne r0
    have q1b : (r == 1) = false := beq_false_of_ne r1
    have q2b : (r == 2) = false := beq_false_of_ne r2
    clear r0 r1 r2
    by_cases hi : 0 ≤ ni ∧ ni < m
    rotate_left
    · have xn := NK.out.box.net
      obtain ⟨y3, -⟩ := box_bare XO.out.blk 3
      simp only [List.getElem?_toArray, List.getElem?_cons_zero, List.getElem?_cons_succ] at y3
      have KT := Lib.hid (nttwiceNone (i := ni) ⟨_, rfl, NK.out.seqN⟩ (by rw [LM.out]; exact hi))
      go_wp2_with fail
      refine (KT.out).mono ?_
      rintro e uq31 ⟨v5, rfl, ho, hb⟩
      replace NK := Lib.hid (NK.out.below hb)
      replace XO := Lib.hid (XO.out.below hb)
      obtain ⟨a7, c7, rfl, -, -, -⟩ := ho.own.at 0 rfl
      clear hb ho KT xn y3
      have hb := (Below.refl uq31.heap.size uq31).alloc (Nat.le_refl _) (.cells #[.slice a7 0 c7] 24)
      replace NK := Lib.hid (NK.out.below hb)
      replace XO := Lib.hid (XO.out.below hb)
      have XC := Lib.hid (ntb_new uq31 #[.slice a7 0 c7] 24)
      clear hb
      go_upto_region 11 with fail
      generalize hgq33 : uq31.heap.size = gq33 at XC ⊢
      clear hgq33
      generalize (uq31.alloc (.cells #[.slice a7 0 c7] 24)) = uq32 at *
      obtain ⟨y3, -⟩ := box_bare XO.out.blk 3
      simp only [List.getElem?_toArray, List.getElem?_cons_zero, List.getElem?_cons_succ] at y3
      by_cases hneg : ni < 0
      · have hge : ¬ 0 ≤ ni := by omega
        clear hi hneg
        have DM := NK.out.dims
        have xn := NK.out.box.net
        have KA := Lib.hid (rsameN ⟨_, rfl, NK.out.seqN⟩ ⟨_, rfl, NK.out.seqW⟩ (by omega) true (decide_eq_true rfl))
        clear DM
        go_wp2_with fail
        refine KA.out.mono ?_
        rintro e uz ⟨rfl, hb⟩
        have NZ := Lib.hid (NK.out.below hb)
        clear hb KA xn
        go_wp2_with fail
        go_roundw
        case rel => exact ⟨k + 1, _, _, _, _, _, _, by omega, rfl, by go_num, NZ.out⟩
        case measure => simp [intOf]; omega
      · have hge : 0 ≤ ni := by omega
        have hge2 : ¬ ni < (m : Int) := by omega
        clear hi hneg
        have DM := NK.out.dims
        have xn := NK.out.box.net
        have KA := Lib.hid (rsameN ⟨_, rfl, NK.out.seqN⟩ ⟨_, rfl, NK.out.seqW⟩ (by omega) true (decide_eq_true rfl))
        clear DM
        go_wp2_with fail
        refine KA.out.mono ?_
        rintro e uz ⟨rfl, hb⟩
        have NZ := Lib.hid (NK.out.below hb)
        clear hb KA xn
        go_wp2_with fail
        go_roundw
        case rel => exact ⟨k + 1, _, _, _, _, _, _, by omega, rfl, by go_num, NZ.out⟩
        case measure => simp [intOf]; omega
    obtain ⟨hi0, hi1⟩ := hi
    obtain ⟨i, rfl⟩ := Int.eq_ofNat_of_zero_le hi0
    clear hi0 OX4
    have him : i < m := by omega
    have i1 : (i : Int) < m := by omega
    have i0 : (0 : Int) ≤ i := by omega
    obtain ⟨rb, ea, en, ec, rfl, -, -⟩ := NK.out.way.pktAt him
    have HQ := Lib.hid (pk_bytes (show i < l.length by rw [LM.out]; exact him) NK.out.byt)
    by_cases h63 : m ≤ 63
    rotate_left
    · have KW := Lib.hid (nttwiceP (i := i) ⟨_, rfl, NK.out.seqN⟩ (by rw [LM.out]; omega) (by rw [LM.out]; exact him) NK.out.byt [] 6 (.inr ⟨by rw [LM.out]; omega, rfl, rfl⟩))
      have h64 : ¬ (m : Int) < 64 := by omega
      have xn := NK.out.box.net
      obtain ⟨y3, -⟩ := box_bare XO.out.blk 3
      simp only [List.getElem?_toArray, List.getElem?_cons_zero, List.getElem?_cons_succ] at y3
      go_wp2_with fail
      refine (KW.out).mono ?_
      rintro e uq34 ⟨v5, rfl, ho, hb⟩
      replace NK := Lib.hid (NK.out.below hb)
      replace XO := Lib.hid (XO.out.below hb)
      obtain ⟨a7, c7, rfl, -, -, -⟩ := ho.own.at 0 rfl
      clear hb ho KW xn y3
      have hb := (Below.refl uq34.heap.size uq34).alloc (Nat.le_refl _) (.cells #[.slice a7 0 c7] 24)
      replace NK := Lib.hid (NK.out.below hb)
      replace XO := Lib.hid (XO.out.below hb)
      have XC := Lib.hid (ntb_new uq34 #[.slice a7 0 c7] 24)
      clear hb
      go_upto_region 11 with fail
      generalize hgq36 : uq34.heap.size = gq36 at XC ⊢
      clear hgq36
      generalize (uq34.alloc (.cells #[.slice a7 0 c7] 24)) = uq35 at *
      obtain ⟨y3, -⟩ := box_bare XO.out.blk 3
      simp only [List.getElem?_toArray, List.getElem?_cons_zero, List.getElem?_cons_succ] at y3
      have DM := NK.out.dims
      have xn := NK.out.box.net
      have KA := Lib.hid (rsameN ⟨_, rfl, NK.out.seqN⟩ ⟨_, rfl, NK.out.seqW⟩ (by omega) true (decide_eq_true rfl))
      clear DM
      go_wp2_with fail
      refine KA.out.mono ?_
      rintro e uz ⟨rfl, hb⟩
      have NZ := Lib.hid (NK.out.below hb)
      clear hb KA xn
      go_wp2_with fail
      go_roundw
      case rel => exact ⟨k + 1, _, _, _, _, _, _, by omega, rfl, by go_num, NZ.out⟩
      case measure => simp [intOf]; omega
    have KW := Lib.hid (nttwiceP (i := i) ⟨_, rfl, NK.out.seqN⟩ (by rw [LM.out]; omega) (by rw [LM.out]; exact him) NK.out.byt (l ++ [pk l i]) 0 (.inl ⟨by rw [LM.out]; omega, rfl, rfl⟩))
    have LS : Hid ((l ++ [pk l i]).length = m + 1) := Lib.hid (by simp [LM.out])
    have h64 : (m : Int) < 64 := by omega
    have N1 := Lib.hid NK.out
    have xn := NK.out.box.net
    obtain ⟨y3, -⟩ := box_bare XO.out.blk 3
    simp only [List.getElem?_toArray, List.getElem?_cons_zero, List.getElem?_cons_succ] at y3
    go_wp2_with fail
    refine (KW.out).mono ?_
    rintro e uq37 ⟨v5, rfl, ho, hb⟩
    have HC := Lib.hid hb
    replace NK := Lib.hid (NK.out.below hb)
    replace XO := Lib.hid (XO.out.below hb)
    obtain ⟨a7, c7, rfl, -, -, ho7⟩ := ho.at (m + 1) LS.out
    have SA := Lib.hid (ho7.sq fun b h _ => h)
    clear hb ho ho7 KW xn y3
    have hb := (Below.refl uq37.heap.size uq37).alloc (Nat.le_refl _) (.cells #[.slice a7 (m + 1) c7] 24)
    replace NK := Lib.hid (NK.out.below hb)
    replace XO := Lib.hid (XO.out.below hb)
    replace SA := Lib.hid (SA.out.since hb)
    replace HC := Lib.hid (HC.out.trans (hb.mono HC.out.size))
    have XA := Lib.hid (ntb_new uq37 #[.slice a7 (m + 1) c7] 24)
    clear hb
    go_upto_region 11 with fail
    generalize hgq39 : uq37.heap.size = gq39 at XA ⊢
    clear hgq39
    generalize (uq37.alloc (.cells #[.slice a7 (m + 1) c7] 24)) = uq38 at *
    obtain ⟨y3, -⟩ := box_bare XO.out.blk 3
    simp only [List.getElem?_toArray, List.getElem?_cons_zero, List.getElem?_cons_succ] at y3
    have ST := Lib.hid (N1.out.store HC.out SA.out)
    have xa := XA.out.net
    obtain ⟨z0, f0⟩ := box_bare NK.out.box.blk 0
    simp only [List.getElem?_toArray, List.getElem?_cons_zero] at z0
    replace XO := Lib.hid (XO.out.other (show g6 ≠ g by have := GO.out; omega) (.slice a7 (m + 1) c7))
    go_upto_region 15 with fail
    clear xa z0 f0
    generalize (uq38.setCell ⟨g, 0, none⟩ (.slice a7 (m + 1) c7)) = wS at *
    have SL := Lib.hid ST.out.1
    have SB := Lib.hid ST.out.2.1
    have SN := Lib.hid ST.out.2.2.1
    have SO := Lib.hid ST.out.2.2.2
    clear ST SA NK XA
    skip
    clear y3
    obtain ⟨y3, -⟩ := box_bare XO.out.blk 3
    simp only [List.getElem?_toArray, List.getElem?_cons_zero, List.getElem?_cons_succ] at y3
    obtain ⟨rb2, fa, fn, fc, e4, PA, PB⟩ := SO.out.pktAt him
    obtain rfl : rb = rb2 := by cases e4; rfl
    clear e4
    have HPB := Lib.hid (PB.mono fun b hb => hb.1)
    obtain ⟨p0, p1, p2⟩ := PA
    clear PB
    generalize pk l i = q at *
    have HB3 : Hid (Sq LByte (fun b => b < w.heap.size) wS (.slice fa fn fc) q.bytes) := HPB
    have e9 : (i : Int) < m := i1
    have LP := Lib.hid (lone_pkt (g := 0) (B := g + 1) (x := q) (v := .slice (some ⟨rb, 0, none⟩) m c4) SL.out HB3.out (fun b e => (N1.out.way.lt b e).1) (by have := N1.out.gw; omega))
    have WB := Lib.hid SB.out.lt
    go_wp2_with (at_builtin; refine wpList_append_elR (fun b => b < w.heap.size) _ LPkt rfl (.tmp 63) (.tmp 69) rfl (g + 1) rfl (SO.out.alloc _) rfl LP.out (by rw [LM.out]; simp; omega) (by have := WB.out; simp; omega) ?_)
    intro v2 w2 ho2 hg2 hat
    have HAT := Lib.hid hat
    have HGR := Lib.hid hg2
    obtain ⟨a6, c6, rfl, -, -, ho6⟩ := ho2.at (m + 1) LS.out
    have O6 := Lib.hid ho6
    clear p0 p1 p2 y3 hg2 ho2 ho6 hat
    have NK := Lib.hid (nkeep_grown SL.out N1.out.gw N1.out.box.lt SB.out SN.out (fun b e => N1.out.way.lt b e) ((Below.refl _ _).alloc (Nat.le_refl _) (.cells #[.int .i64 q.frm, .int .i64 q.to, .slice fa fn fc] 27)) HGR.out (HAT.out.imp id fun h => ⟨_, h, Nat.le_succ _⟩) O6.out (by rw [LS.out]; omega) (snoc_short N1.out.byt HQ.out))
    clear SL SB SN SO HAT HGR O6 LP
    skip
    have DM := NK.out.dims
    have xn := NK.out.box.net
    have KA := Lib.hid (rsameN ⟨_, rfl, NK.out.seqN⟩ ⟨_, rfl, NK.out.seqW⟩ (by omega) true (decide_eq_true rfl))
    clear DM
    go_wp2_with fail
    refine KA.out.mono ?_
    rintro e uz ⟨rfl, hb⟩
    have NZ := Lib.hid (NK.out.below hb)
    clear hb KA xn
    go_wp2_with fail
    go_roundw
    case rel => exact ⟨k + 1, _, _, _, _, _, _, by omega, rfl, by go_num, NZ.out⟩
    case measure => simp [intOf]; omega

set_option maxRecDepth 100000 in
theorem lifted (os : Os) (started : os.Started) (H : Type) (enc : TypeId × Value → H) :
    ReturnsInHanded {} Try.checked os 4 .any (Rows.netKeepsSpec.pre6 enc Try.prog Try.f4 Rows.netKeepsRow.domain false) (Rows.netKeepsSpec.post enc Try.prog Try.f4 false true false false) := by
  refine returnsInHanded_of_change (C := Try.checked) own started (by kernel_rfl) Try.func4
    (ChangeSpec.witness6 (enc := enc) (C := Try.checked) false ⟨#[], #[.slice none 0 0], []⟩ 8 (by kernel_rfl) (by kernel_rfl) (by kernel_rfl) (by kernel_rfl)) ?_
  intro W base args ds gs before hval0 hW hcnd _
  have hval : ∀ (j : Nat) t v, Try.f4.params[j]? = some t → args[j]? = some v → Value.okWide Try.prog W .any base t v := hval0
  have hW' := hW
  obtain ⟨p, q, hA0, hV, rfl, hfz, hnd⟩ := hW
  have hA : DataW.TrodAll enc Try.prog W 0 (fun _ => true) true Try.f4.params.toList args.toList ds p := hA0
  rw [Try.params4] at hA hval
  obtain ⟨v0, vs0, d0, ds0, p0, q0, hargs, rfl, rfl, h0, r0⟩ := trodAll_cons hA
  obtain ⟨rfl, rfl, rfl⟩ := trodAll_nil r0
  obtain rfl : args = #[v0] := by cases args; simp_all
  obtain ⟨rfl, rfl⟩ := trodVars_none hV
  have k0 := h0
  have lt0 : ∀ x ∈ p0, x.block < W.heap.size := by obtain ⟨m, hm⟩ := k0; exact DataW.trod_lt m _ _ _ hm
  have w0 := open0 (hval 0 43 v0 rfl rfl) h0
  clear hA0 hval0
  refine (walk v0 W w0).mono fun e W' ⟨he, bel⟩ => ?_
  subst he
  exact ⟨_, rfl, _, _, _, [], _, [], hW', trodAll_mk1 (shut_bool Try.underlying4 _), (trodAll_cons_mk (Below.trod laidOut (by kernel_rfl) (of_decide_eq_true (by kernel_rfl)) k0 bel lt0) trodAll_mk0), rfl, bel.frame _, fun h => by cases h⟩

theorem over : Rows.netKeepsRow.holds Try.pinned (OpenSpec.ofChange Rows.netKeepsSpec) :=
  OpenClaim.holds_of_wide 4 Try.f4 rfl rfl rfl rfl rfl rfl rfl ⟨rfl, rfl, rfl, rfl, rfl⟩ rfl rfl rfl rfl rfl (by kernel_rfl) Try.func4 (by kernel_rfl)
    (of_decide_eq_true (by kernel_rfl)) (by unfold Func.isWrapper; first | (rw [if_pos (by decide +kernel)]; kernel_rfl) | (rw [if_neg (by decide +kernel)]; exact ⟨rfl, rfl⟩))
    (fun os started H enc _ => lifted os started H enc)

/-- the given statement -/
theorem proved : Rows.NetKeepsSaid := over
#print axioms proved
end Go.Proofs.Ytgllaoanpemjlaa.netKeeps
