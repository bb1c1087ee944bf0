/-
  For any network, packet and number the law NetDoubled answers true: what is doubled, and taken from the end, leaves the network as it was; what is sent, too. No condition.
  (The frame was written by the guide's proof-skeleton.mjs, turned for networks and packets; the walk is ours, written by gen-walks.py.)
-/
import Derived.Test.YtgllaoanpemjlaaRows
import Derived.WalkKit
import Derived.ProofKit
import Derived.OpenShut
import Derived.ShutString
import Derived.ChangeOld
import Derived.Below
import Derived.Test.YtgllaoanpemjlaaNtUse
import Derived.Deep.RegionHeld3
import Derived.Deep.Cut
import Derived.Deep.DeepCutAuto
namespace Go.Proofs.Ytgllaoanpemjlaa.netDoubled
open Go.ChangeShapes Go.WideShapes Go.ChangeAt Go.RowKit
open Go.ChangeMaps (open_string shut_string)
set_option linter.unusedVariables false

theorem own : ownKnob Try.prog.godebug = none := by kernel_rfl
theorem laidOut : laidOutB Try.prog = true := by kernel_rfl

open Plain

theorem pk_end (xs : List PPkt) (q : PPkt) (n : Nat) (h : xs.length = n) : pk (xs ++ [q]) n = q := by
  subst h
  unfold pk
  simp [List.getD]
theorem erase_end (xs : List PPkt) (q : PPkt) (n : Nat) (h : xs.length = n) : (xs ++ [q]).eraseIdx n = xs := by
  subst h
  rw [List.eraseIdx_append_of_length_le (Nat.le_refl _), Nat.sub_self]
  simp
theorem short_parts {l : List PPkt} (h : shortN l = true) : l.length ≤ 70 ∧ ∀ x ∈ l, x.bytes.length ≤ 1000000 := by
  unfold shortN shortN1 at h
  rw [Bool.and_eq_true, decide_eq_true_iff, List.all_eq_true] at h
  exact ⟨h.1, fun x hx => by have := of_decide_eq_true (h.2 x hx); omega⟩
theorem snoc_short {l : List PPkt} {q : PPkt} (h : ∀ x ∈ l, x.bytes.length ≤ 1000000) (hq : q.bytes.length ≤ 1000000) : ∀ x ∈ l ++ [q], x.bytes.length ≤ 1000000 := fun x hx => (List.mem_append.1 hx).elim (h x) (fun e => by rw [List.mem_singleton.1 e]; exact hq)
set_option maxRecDepth 100000 in
theorem open0 {H : Type} {enc : TypeId × Value → H} {W : World} {r : Reach} {b : Nat} {v : Value} {d : DataW H} {p : List MemPlace} (hv : Value.okWide Try.prog W r b 24 v) (h : DataW.Trod enc Try.prog W 0 (fun _ => true) true 24 v d p) : IsNetA W v := net_of_trod hv h
set_option maxRecDepth 100000 in
theorem open1 {H : Type} {enc : TypeId × Value → H} {W : World} {r : Reach} {b : Nat} {v : Value} {d : DataW H} {p : List MemPlace} (hv : Value.okWide Try.prog W r b 27 v) (h : DataW.Trod enc Try.prog W 0 (fun _ => true) true 27 v d p) : IsPktA W v := pkt_of_trod hv h

set_option maxRecDepth 100000 in
set_option maxHeartbeats 32000000 in
theorem walk (v0 : Value) (v1 : Value) (i : Int) (w : World) (w0 : IsNetA w v0) (w1 : IsPktA w v1) (w2 : (Lit.int .i64 i).wf = true) :
    Calls Try.prog 5 #[v0, v1, .int .i64 i] w fun e w' => e = .returned (.bool true) ∧ Below w.heap.size w w' := by
  obtain ⟨xs, hx0, -⟩ := w0
  obtain ⟨p, hp0, -⟩ := w1
  obtain ⟨i1, i2⟩ := i64_in w2
  obtain ⟨v, rfl, hn0⟩ := hx0
  obtain ⟨bv, rfl, hp1⟩ := hp0
  obtain ⟨a, cap, rfl, g1, g2, -, hn⟩ := hn0.parts
  obtain ⟨bn, hbn⟩ : ∃ m, p.bytes.length = m := ⟨_, rfl⟩
  obtain ⟨ba, bc, rfl, g3, g4, -, hp⟩ := hp1.parts
  obtain ⟨n, hN⟩ : ∃ n, xs.length = n := ⟨_, rfl⟩
  rw [hN] at g1 hn ⊢
  rw [hbn] at g3 hp ⊢
  have LN := Lib.hid hN
  have LB := Lib.hid hbn
  have hb := ((Below.refl w.heap.size w).alloc (Nat.le_refl _) (.cells #[.slice a n cap] 24)).alloc (by simp) (.cells #[.int .i64 p.frm, .int .i64 p.to, .slice ba bn bc] 27)
  have PC := npair_heap w #[.slice a n cap] #[.int .i64 p.frm, .int .i64 p.to, .slice ba bn bc] 24 27
  have XN := Lib.hid PC.1
  have XP := Lib.hid PC.2
  have G := Lib.hid hb
  have SN := Lib.hid (hn.below hb)
  have SP := Lib.hid (hp.below hb)
  have HSH := Lib.hid (fun h => short_parts (l := xs) h)
  clear hn0 hp1 hn hp hN hbn hb PC w2
  go_enter Try.func5, Try.ntmps5
  go_upto_region 1 with fail
  generalize ((w.alloc (.cells #[.slice a n cap] 24)).alloc (.cells #[.int .i64 p.frm, .int .i64 p.to, .slice ba bn bc] 27)) = wB at *
  go_wp2_with fail
  refine (ntawake_any _).mono ?_
  rintro e uq1 ⟨rfl, hb⟩
  replace G := Lib.hid (G.out.trans (hb.mono G.out.size))
  replace XN := Lib.hid (XN.out.below hb)
  replace XP := Lib.hid (XP.out.below hb)
  replace SN := Lib.hid (SN.out.below hb)
  replace SP := Lib.hid (SP.out.below hb)
  clear hb
  obtain ⟨sb, hsb⟩ : ∃ b, shortN xs = b := ⟨_, rfl⟩
  have HSB := Lib.hid hsb
  have KS := Lib.hid (rshortN ⟨_, rfl, SN.out⟩ sb hsb)
  clear hsb
  have xn := XN.out.net
  go_wp2_with fail
  refine (KS.out).mono ?_
  rintro e uq2 ⟨rfl, hb⟩
  replace G := Lib.hid (G.out.trans (hb.mono G.out.size))
  replace XN := Lib.hid (XN.out.below hb)
  replace XP := Lib.hid (XP.out.below hb)
  replace SN := Lib.hid (SN.out.below hb)
  replace SP := Lib.hid (SP.out.below hb)
  clear hb KS xn
  have xn := XN.out.net
  obtain ⟨xp0, xp1, xp2⟩ := XP.out.pkt
  cases sb
  · go_wp2_with fail
    go_ret
    exact ⟨rfl, G.out⟩
  obtain ⟨h70, hby⟩ := HSH.out HSB.out
  rw [LN.out] at h70
  have HBY := Lib.hid hby
  clear hby HSH HSB
  by_cases hpl : bn ≤ 1000
  rotate_left
  · have hpl2 : (1000 : Int) < bn := by omega
    clear hpl
    go_wp2_with fail
    go_ret
    exact ⟨rfl, G.out⟩
  have hpl2 : ¬ (1000 : Int) < bn := by omega
  have HPL : Hid (p.bytes.length ≤ 1000000) := Lib.hid (by rw [LB.out]; omega)
  by_cases hi : 0 ≤ i ∧ i < n
  rotate_left
  · have KW := Lib.hid (nttwiceNone (i := i) ⟨_, rfl, SN.out⟩ (by rw [LN.out]; exact hi))
    clear hi
    go_wp2_with fail
    refine (KW.out).mono ?_
    rintro e uq3 ⟨v5, rfl, ho, hb⟩
    replace G := Lib.hid (G.out.trans (hb.mono G.out.size))
    replace XN := Lib.hid (XN.out.below hb)
    replace XP := Lib.hid (XP.out.below hb)
    replace SN := Lib.hid (SN.out.below hb)
    replace SP := Lib.hid (SP.out.below hb)
    obtain ⟨a5, c5, rfl, -, -, -⟩ := ho.own.at 0 rfl
    clear hb ho KW xn xp0 xp1 xp2
    have hb := (Below.refl uq3.heap.size uq3).alloc (Nat.le_refl _) (.cells #[.slice a5 0 c5] 24)
    replace G := Lib.hid (G.out.trans (hb.mono G.out.size))
    replace XN := Lib.hid (XN.out.below hb)
    replace XP := Lib.hid (XP.out.below hb)
    replace SN := Lib.hid (SN.out.below hb)
    replace SP := Lib.hid (SP.out.below hb)
    have XT := Lib.hid (ntb_new uq3 #[.slice a5 0 c5] 24)
    clear hb
    go_upto_region 6 with fail
    generalize hgq5 : uq3.heap.size = gq5 at XT ⊢
    clear hgq5
    generalize (uq3.alloc (.cells #[.slice a5 0 c5] 24)) = uq4 at *
    have xn := XN.out.net
    obtain ⟨xp0, xp1, xp2⟩ := XP.out.pkt
    by_cases h63 : n ≤ 63
    rotate_left
    · have KF := Lib.hid (ntsendFull (f := p.frm) (t := p.to) ⟨_, rfl, SN.out⟩ SP.out (by rw [LN.out]; omega))
      go_wp2_with fail
      refine (KF.out).mono ?_
      rintro e uq6 ⟨v5, rfl, ho, hb⟩
      replace G := Lib.hid (G.out.trans (hb.mono G.out.size))
      replace XN := Lib.hid (XN.out.below hb)
      replace XP := Lib.hid (XP.out.below hb)
      replace SN := Lib.hid (SN.out.below hb)
      replace SP := Lib.hid (SP.out.below hb)
      obtain ⟨a5, c5, rfl, -, -, -⟩ := ho.own.at 0 rfl
      clear hb ho KF xn xp0 xp1 xp2
      have hb := (Below.refl uq6.heap.size uq6).alloc (Nat.le_refl _) (.cells #[.slice a5 0 c5] 24)
      replace G := Lib.hid (G.out.trans (hb.mono G.out.size))
      replace XN := Lib.hid (XN.out.below hb)
      replace XP := Lib.hid (XP.out.below hb)
      replace SN := Lib.hid (SN.out.below hb)
      replace SP := Lib.hid (SP.out.below hb)
      have XA := Lib.hid (ntb_new uq6 #[.slice a5 0 c5] 24)
      clear hb
      go_upto_region 11 with fail
      generalize hgq8 : uq6.heap.size = gq8 at XA ⊢
      clear hgq8
      generalize (uq6.alloc (.cells #[.slice a5 0 c5] 24)) = uq7 at *
      have xn := XN.out.net
      have h64 : (64 : Int) ≤ n := by omega
      go_wp2_with fail
      go_ret
      exact ⟨rfl, G.out⟩
    have KF := Lib.hid (ntsendP (f := p.frm) (t := p.to) ⟨_, rfl, SN.out⟩ SP.out (by rw [LN.out]; omega) HBY.out HPL.out)
    go_wp2_with fail
    refine (KF.out).mono ?_
    rintro e uq9 ⟨v5, rfl, ho, hb⟩
    replace G := Lib.hid (G.out.trans (hb.mono G.out.size))
    replace XN := Lib.hid (XN.out.below hb)
    replace XP := Lib.hid (XP.out.below hb)
    replace SN := Lib.hid (SN.out.below hb)
    replace SP := Lib.hid (SP.out.below hb)
    obtain ⟨a5, c5, rfl, -, -, ho5⟩ := ho.own.at (n + 1) (by simp [LN.out])
    have SA := Lib.hid ho5.seq
    clear hb ho ho5 KF xn xp0 xp1 xp2
    have hb := (Below.refl uq9.heap.size uq9).alloc (Nat.le_refl _) (.cells #[.slice a5 (n + 1) c5] 24)
    replace G := Lib.hid (G.out.trans (hb.mono G.out.size))
    replace XN := Lib.hid (XN.out.below hb)
    replace XP := Lib.hid (XP.out.below hb)
    replace SN := Lib.hid (SN.out.below hb)
    replace SP := Lib.hid (SP.out.below hb)
    replace SA := Lib.hid (SA.out.below hb)
    have XA := Lib.hid (ntb_new uq9 #[.slice a5 (n + 1) c5] 24)
    clear hb
    go_upto_region 11 with fail
    generalize hgq11 : uq9.heap.size = gq11 at XA ⊢
    clear hgq11
    generalize (uq9.alloc (.cells #[.slice a5 (n + 1) c5] 24)) = uq10 at *
    have KT : Hid (Calls Try.prog 12 #[.agg #[.slice a5 (n + 1) c5], .int .i64 n] uq10 (GivesTk uq10 p xs 0)) := Lib.hid (by
      have h := nttakeP (i := n) ⟨_, rfl, SA.out⟩ (by simp [LN.out]; omega) (by simp [LN.out]) (snoc_short HBY.out HPL.out)
      rw [show (⟨p.frm, p.to, p.bytes⟩ : PPkt) = p from rfl, pk_end _ _ _ LN.out, erase_end _ _ _ LN.out] at h
      exact h)
    have xn := XN.out.net
    have xa := XA.out.net
    go_wp2_with fail
    refine (KT.out).mono ?_
    rintro e uq12 ⟨bv, sv, rfl, hbv, hsv, hb⟩
    replace G := Lib.hid (G.out.trans (hb.mono G.out.size))
    replace XN := Lib.hid (XN.out.below hb)
    replace XP := Lib.hid (XP.out.below hb)
    replace SN := Lib.hid (SN.out.below hb)
    replace SP := Lib.hid (SP.out.below hb)
    replace SA := Lib.hid (SA.out.below hb)
    replace XA := Lib.hid (XA.out.below hb)
    obtain ⟨a6, c6, rfl, -, -, hsv6⟩ := hsv.own.at n LN.out
    have S6 := Lib.hid hsv6.seq
    obtain ⟨b6, d6, rfl, -, -, -, hbv⟩ := SeqE.parts (L := LByte) (hbv.mono fun b hb => hb.2)
    have S7 := Lib.hid hbv
    rw [LB.out] at S7 ⊢
    clear hb hbv hsv hsv6 KT xn xa
    have hb := ((Below.refl uq12.heap.size uq12).alloc (Nat.le_refl _) (.cells #[.int .i64 p.frm, .int .i64 p.to, .slice b6 bn d6] 27)).alloc (by simp) (.cells #[.slice a6 n c6] 24)
    replace G := Lib.hid (G.out.trans (hb.mono G.out.size))
    replace XN := Lib.hid (XN.out.below hb)
    replace XP := Lib.hid (XP.out.below hb)
    replace SN := Lib.hid (SN.out.below hb)
    replace SP := Lib.hid (SP.out.below hb)
    replace S6 := Lib.hid (S6.out.below hb)
    replace S7 := Lib.hid (S7.out.below hb)
    have PC := npair_heap uq12 #[.int .i64 p.frm, .int .i64 p.to, .slice b6 bn d6] #[.slice a6 n c6] 27 24
    have XQ := Lib.hid PC.1
    have XB := Lib.hid PC.2
    clear hb PC
    go_upto_region 13 with fail
    generalize hgq14 : uq12.heap.size = gq14 at XQ XB ⊢
    clear hgq14
    generalize ((uq12.alloc (.cells #[.int .i64 p.frm, .int .i64 p.to, .slice b6 bn d6] 27)).alloc (.cells #[.slice a6 n c6] 24)) = uq13 at *
    have KA := Lib.hid (rsameN ⟨_, rfl, S6.out⟩ ⟨_, rfl, SN.out⟩ (by rw [LN.out]; omega) true (decide_eq_true rfl))
    have xn := XN.out.net
    have xb := XB.out.net
    go_wp2_with fail
    refine (KA.out).mono ?_
    rintro e uq15 ⟨rfl, hb⟩
    replace G := Lib.hid (G.out.trans (hb.mono G.out.size))
    replace XN := Lib.hid (XN.out.below hb)
    replace XP := Lib.hid (XP.out.below hb)
    replace SN := Lib.hid (SN.out.below hb)
    replace SP := Lib.hid (SP.out.below hb)
    replace S6 := Lib.hid (S6.out.below hb)
    replace S7 := Lib.hid (S7.out.below hb)
    replace XQ := Lib.hid (XQ.out.below hb)
    replace XB := Lib.hid (XB.out.below hb)
    clear hb KA xn xb
    obtain ⟨xp0, xp1, xp2⟩ := XP.out.pkt
    obtain ⟨xq0, xq1, xq2⟩ := XQ.out.pkt
    have KB := Lib.hid (rsamePk (p := p) (q := p) ⟨_, rfl, S7.out⟩ ⟨_, rfl, SP.out⟩ true (decide_eq_true rfl))
    go_wp2_with fail
    refine (KB.out).mono ?_
    rintro e uq16 ⟨rfl, hb⟩
    replace G := Lib.hid (G.out.trans (hb.mono G.out.size))
    replace XN := Lib.hid (XN.out.below hb)
    replace XP := Lib.hid (XP.out.below hb)
    replace SN := Lib.hid (SN.out.below hb)
    replace SP := Lib.hid (SP.out.below hb)
    replace S6 := Lib.hid (S6.out.below hb)
    replace S7 := Lib.hid (S7.out.below hb)
    replace XQ := Lib.hid (XQ.out.below hb)
    replace XB := Lib.hid (XB.out.below hb)
    clear hb KB
    go_wp2_with fail
    go_ret
    exact ⟨rfl, G.out⟩
  obtain ⟨hi0, hi1⟩ := hi
  obtain ⟨k, rfl⟩ := Int.eq_ofNat_of_zero_le hi0
  clear hi0 i1 i2
  have hkn : k < n := by omega
  by_cases h63 : n ≤ 63
  rotate_left
  · have KW := Lib.hid (nttwiceP (i := k) ⟨_, rfl, SN.out⟩ (by rw [LN.out]; omega) (by rw [LN.out]; exact hkn) HBY.out [] 6 (.inr ⟨by rw [LN.out]; omega, rfl, rfl⟩))
    clear hkn
    go_wp2_with fail
    refine (KW.out).mono ?_
    rintro e uq17 ⟨v5, rfl, ho, hb⟩
    replace G := Lib.hid (G.out.trans (hb.mono G.out.size))
    replace XN := Lib.hid (XN.out.below hb)
    replace XP := Lib.hid (XP.out.below hb)
    replace SN := Lib.hid (SN.out.below hb)
    replace SP := Lib.hid (SP.out.below hb)
    obtain ⟨a5, c5, rfl, -, -, -⟩ := ho.own.at 0 rfl
    clear hb ho KW xn xp0 xp1 xp2
    have hb := (Below.refl uq17.heap.size uq17).alloc (Nat.le_refl _) (.cells #[.slice a5 0 c5] 24)
    replace G := Lib.hid (G.out.trans (hb.mono G.out.size))
    replace XN := Lib.hid (XN.out.below hb)
    replace XP := Lib.hid (XP.out.below hb)
    replace SN := Lib.hid (SN.out.below hb)
    replace SP := Lib.hid (SP.out.below hb)
    have XT := Lib.hid (ntb_new uq17 #[.slice a5 0 c5] 24)
    clear hb
    go_upto_region 6 with fail
    generalize hgq19 : uq17.heap.size = gq19 at XT ⊢
    clear hgq19
    generalize (uq17.alloc (.cells #[.slice a5 0 c5] 24)) = uq18 at *
    have xn := XN.out.net
    obtain ⟨xp0, xp1, xp2⟩ := XP.out.pkt
    have KF := Lib.hid (ntsendFull (f := p.frm) (t := p.to) ⟨_, rfl, SN.out⟩ SP.out (by rw [LN.out]; omega))
    go_wp2_with fail
    refine (KF.out).mono ?_
    rintro e uq20 ⟨v5, rfl, ho, hb⟩
    replace G := Lib.hid (G.out.trans (hb.mono G.out.size))
    replace XN := Lib.hid (XN.out.below hb)
    replace XP := Lib.hid (XP.out.below hb)
    replace SN := Lib.hid (SN.out.below hb)
    replace SP := Lib.hid (SP.out.below hb)
    obtain ⟨a5, c5, rfl, -, -, -⟩ := ho.own.at 0 rfl
    clear hb ho KF xn xp0 xp1 xp2
    have hb := (Below.refl uq20.heap.size uq20).alloc (Nat.le_refl _) (.cells #[.slice a5 0 c5] 24)
    replace G := Lib.hid (G.out.trans (hb.mono G.out.size))
    replace XN := Lib.hid (XN.out.below hb)
    replace XP := Lib.hid (XP.out.below hb)
    replace SN := Lib.hid (SN.out.below hb)
    replace SP := Lib.hid (SP.out.below hb)
    have XA := Lib.hid (ntb_new uq20 #[.slice a5 0 c5] 24)
    clear hb
    go_upto_region 11 with fail
    generalize hgq22 : uq20.heap.size = gq22 at XA ⊢
    clear hgq22
    generalize (uq20.alloc (.cells #[.slice a5 0 c5] 24)) = uq21 at *
    have xn := XN.out.net
    have h64 : (64 : Int) ≤ n := by omega
    go_wp2_with fail
    go_ret
    exact ⟨rfl, G.out⟩
  obtain ⟨lb, lo, rfl, hc⟩ := pkts_at SN.out (by omega)
  obtain ⟨da, dn, dc, hW⟩ := hc k hkn
  have HW := Lib.hid hW
  have D := Lib.hid (Below.refl uq2.heap.size uq2)
  clear hc hW
  have HQ := Lib.hid (pk_bytes (show k < xs.length by rw [LN.out]; exact hkn) HBY.out)
  have KW := Lib.hid (nttwiceP (i := k) ⟨_, rfl, SN.out⟩ (by rw [LN.out]; omega) (by rw [LN.out]; exact hkn) HBY.out (xs ++ [pk xs k]) 0 (.inl ⟨by rw [LN.out]; omega, rfl, rfl⟩))
  generalize pk xs k = q at *
  go_wp2_with fail
  refine (KW.out).mono ?_
  rintro e uq23 ⟨v5, rfl, ho, hb⟩
  replace G := Lib.hid (G.out.trans (hb.mono G.out.size))
  replace XN := Lib.hid (XN.out.below hb)
  replace XP := Lib.hid (XP.out.below hb)
  replace SN := Lib.hid (SN.out.below hb)
  replace SP := Lib.hid (SP.out.below hb)
  replace D := Lib.hid (D.out.trans (hb.mono D.out.size))
  obtain ⟨a5, c5, rfl, -, -, ho5⟩ := ho.own.at (n + 1) (by simp [LN.out])
  have SA := Lib.hid ho5.seq
  clear hb ho ho5 KW xn xp0 xp1 xp2
  have hb := (Below.refl uq23.heap.size uq23).alloc (Nat.le_refl _) (.cells #[.slice a5 (n + 1) c5] 24)
  replace G := Lib.hid (G.out.trans (hb.mono G.out.size))
  replace XN := Lib.hid (XN.out.below hb)
  replace XP := Lib.hid (XP.out.below hb)
  replace SN := Lib.hid (SN.out.below hb)
  replace SP := Lib.hid (SP.out.below hb)
  replace D := Lib.hid (D.out.trans (hb.mono D.out.size))
  replace SA := Lib.hid (SA.out.below hb)
  have XA := Lib.hid (ntb_new uq23 #[.slice a5 (n + 1) c5] 24)
  clear hb
  go_upto_region 6 with fail
  generalize hgq25 : uq23.heap.size = gq25 at XA ⊢
  clear hgq25
  generalize (uq23.alloc (.cells #[.slice a5 (n + 1) c5] 24)) = uq24 at *
  have KT : Hid (Calls Try.prog 12 #[.agg #[.slice a5 (n + 1) c5], .int .i64 n] uq24 (GivesTk uq24 q xs 0)) := Lib.hid (by
    have h := nttakeP (i := n) ⟨_, rfl, SA.out⟩ (by simp [LN.out]; omega) (by simp [LN.out]) (snoc_short HBY.out HQ.out)
    rw [pk_end _ _ _ LN.out, erase_end _ _ _ LN.out] at h
    exact h)
  have xn := XN.out.net
  have xa := XA.out.net
  go_wp2_with fail
  refine (KT.out).mono ?_
  rintro e uq26 ⟨bv, sv, rfl, hbv, hsv, hb⟩
  replace G := Lib.hid (G.out.trans (hb.mono G.out.size))
  replace XN := Lib.hid (XN.out.below hb)
  replace XP := Lib.hid (XP.out.below hb)
  replace SN := Lib.hid (SN.out.below hb)
  replace SP := Lib.hid (SP.out.below hb)
  replace D := Lib.hid (D.out.trans (hb.mono D.out.size))
  replace SA := Lib.hid (SA.out.below hb)
  replace XA := Lib.hid (XA.out.below hb)
  obtain ⟨a6, c6, rfl, -, -, hsv6⟩ := hsv.own.at n LN.out
  have S6 := Lib.hid hsv6.seq
  obtain ⟨b6, d6, rfl, -, -, -, hbv⟩ := SeqE.parts (L := LByte) (hbv.mono fun b hb => hb.2)
  have S7 := Lib.hid hbv
  obtain ⟨qn, hqn⟩ : ∃ m, q.bytes.length = m := ⟨_, rfl⟩
  rw [hqn] at S7 ⊢
  clear hb hbv hsv hsv6 KT xn xa hqn
  have hb := ((Below.refl uq26.heap.size uq26).alloc (Nat.le_refl _) (.cells #[.int .i64 q.frm, .int .i64 q.to, .slice b6 qn d6] 27)).alloc (by simp) (.cells #[.slice a6 n c6] 24)
  replace G := Lib.hid (G.out.trans (hb.mono G.out.size))
  replace XN := Lib.hid (XN.out.below hb)
  replace XP := Lib.hid (XP.out.below hb)
  replace SN := Lib.hid (SN.out.below hb)
  replace SP := Lib.hid (SP.out.below hb)
  replace D := Lib.hid (D.out.trans (hb.mono D.out.size))
  replace S6 := Lib.hid (S6.out.below hb)
  replace S7 := Lib.hid (S7.out.below hb)
  have PC := npair_heap uq26 #[.int .i64 q.frm, .int .i64 q.to, .slice b6 qn d6] #[.slice a6 n c6] 27 24
  have XQ := Lib.hid PC.1
  have XB := Lib.hid PC.2
  clear hb PC
  go_upto_region 8 with fail
  generalize hgq28 : uq26.heap.size = gq28 at XQ XB ⊢
  clear hgq28
  generalize ((uq26.alloc (.cells #[.int .i64 q.frm, .int .i64 q.to, .slice b6 qn d6] 27)).alloc (.cells #[.slice a6 n c6] 24)) = uq27 at *
  have KE : Hid (∀ v, Below uq27.heap.size uq27 v → Below uq27.heap.size uq27 v ∧ v.cell? ⟨w.heap.size, 0, none⟩ = some (.slice (some ⟨lb, lo, none⟩) n cap) ∧ v.cell? ⟨gq28 + 1, 0, none⟩ = some (.slice a6 n c6) ∧ (v.cell? ⟨gq28, 0, none⟩ = some (.int .i64 q.frm) ∧ v.cell? ⟨gq28, 1, none⟩ = some (.int .i64 q.to) ∧ v.cell? ⟨gq28, 2, none⟩ = some (.slice b6 qn d6)) ∧ v.cell? ⟨lb, lo + k * 3, none⟩ = some (.int .i64 q.frm) ∧ v.cell? ⟨lb, lo + k * 3 + 1, none⟩ = some (.int .i64 q.to) ∧ v.cell? ⟨lb, lo + k * 3 + 2, none⟩ = some (.slice da dn dc)) := Lib.hid (fun v hb => ⟨hb, (XN.out.below hb).net, (XB.out.below hb).net, (XQ.out.below hb).pkt, (HW.out v (D.out.trans (hb.mono D.out.size))).1⟩)
  have KA := Lib.hid (fun v (hb : Below uq27.heap.size uq27 v) => rsameN ⟨_, rfl, S6.out.below hb⟩ ⟨_, rfl, SN.out.below hb⟩ (by rw [LN.out]; omega) true (decide_eq_true rfl))
  have KB := Lib.hid (fun v (hb : Below uq27.heap.size uq27 v) => rsamePk (p := q) (q := q) ⟨_, rfl, S7.out.below hb⟩ (HW.out v (D.out.trans (hb.mono D.out.size))).2.1 true (decide_eq_true rfl))
  have k1 : (k : Int) < n := by omega
  have k2 : (n : Int) ≤ cap := by omega
  have k3 : (cap : Int) ≤ 9223372036854775807 := by omega
  refine wp_region_held_drew (S := fun u' => Below uq27.heap.size uq27 u' ∧ u'.cell? ⟨w.heap.size, 0, none⟩ = some (.slice (some ⟨lb, lo, none⟩) n cap) ∧ u'.cell? ⟨gq28 + 1, 0, none⟩ = some (.slice a6 n c6) ∧ (u'.cell? ⟨gq28, 0, none⟩ = some (.int .i64 q.frm) ∧ u'.cell? ⟨gq28, 1, none⟩ = some (.int .i64 q.to) ∧ u'.cell? ⟨gq28, 2, none⟩ = some (.slice b6 qn d6)) ∧ u'.cell? ⟨lb, lo + k * 3, none⟩ = some (.int .i64 q.frm) ∧ u'.cell? ⟨lb, lo + k * 3 + 1, none⟩ = some (.int .i64 q.to) ∧ u'.cell? ⟨lb, lo + k * 3 + 2, none⟩ = some (.slice da dn dc)) (by kernel_rfl) ?_ (fun hHeld => ?_)
  · (exact KE.out _ (Below.refl _ _).drew)
  simp only [List.size_toArray, List.length_cons, List.length_nil, Nat.zero_add, Nat.reduceAdd]
  refine wpAnyH_take (i := 0) (v := ?_) rfl (by kernel_rfl) (by kernel_rfl) (by kernel_rfl) (fun _ _ _ h => h) (Or.inl ⟨by rfl, ?_⟩) hHeld ?_
  rotate_left
  · (intro w' hSw; (try dsimp only at hSw); go_simp; try with_reducible rfl)
  simp only [List.getElem_toArray, List.getElem_cons_zero, Act.put, List.setIfInBounds_toArray, List.set_cons_zero, List.set_cons_succ]
  refine wpAnyH_take (i := 1) (v := ?_) rfl (by kernel_rfl) (by kernel_rfl) (by kernel_rfl) (fun _ _ _ h => h) (Or.inl ⟨by rfl, ?_⟩) hHeld ?_
  rotate_left
  · (intro w' hSw; (try dsimp only at hSw); go_simp; try with_reducible rfl)
  simp only [List.getElem_toArray, List.getElem_cons_zero, List.getElem_cons_succ, Act.put, List.setIfInBounds_toArray, List.set_cons_zero, List.set_cons_succ]
  refine wpAnyH_take (i := 2) (v := ?_) rfl (by kernel_rfl) (by kernel_rfl) (by kernel_rfl) (fun _ _ _ h => h) (Or.inl ⟨by rfl, ?_⟩) hHeld ?_
  rotate_left
  · (intro w' hSw; (try dsimp only at hSw); go_simp; try with_reducible rfl)
  simp only [List.getElem_toArray, List.getElem_cons_zero, List.getElem_cons_succ, Act.put, List.setIfInBounds_toArray, List.set_cons_zero, List.set_cons_succ]
  refine wpAnyH_take (i := 3) (v := ?_) rfl (by kernel_rfl) (by kernel_rfl) (by kernel_rfl) (fun _ _ _ h => h) (Or.inl ⟨by rfl, ?_⟩) hHeld ?_
  rotate_left
  · (intro w' hSw; (try dsimp only at hSw); go_simp; try with_reducible rfl)
  simp only [List.getElem_toArray, List.getElem_cons_zero, List.getElem_cons_succ, Act.put, List.setIfInBounds_toArray, List.set_cons_zero, List.set_cons_succ]
  refine wpAnyH_take (i := 4) (v := ?_) rfl (by kernel_rfl) (by kernel_rfl) (by kernel_rfl) (fun _ _ _ h => h) (Or.inl ⟨by rfl, ?_⟩) hHeld ?_
  rotate_left
  · (intro w' hSw; (try dsimp only at hSw); go_simp; try with_reducible rfl)
  simp only [List.getElem_toArray, List.getElem_cons_zero, List.getElem_cons_succ, Act.put, List.setIfInBounds_toArray, List.set_cons_zero, List.set_cons_succ]
  refine wpAnyH_ready (rs := [5]) (by kernel_rfl) (by simp) ?_
  refine AllReadyH.cons rfl (fun K hK => ?_) AllReadyH.nil
  go_simp
  refine (KA.out _ hHeld.1).mono ?_
  rintro e s1 ⟨rfl, hb⟩
  refine hK.out _ _ (KE.out _ (holdC hHeld hb)) (fun hHeld => ?_)
  clear hK K hb
  refine wpAnyH_take (i := 6) (v := ?_) rfl (by kernel_rfl) (by kernel_rfl) (by kernel_rfl) (fun _ _ _ h => h) (Or.inl ⟨by rfl, ?_⟩) hHeld ?_
  rotate_left
  · (intro w' hSw; (try dsimp only at hSw); go_simp; try with_reducible rfl)
  simp only [List.getElem_toArray, List.getElem_cons_zero, List.getElem_cons_succ, Act.put, List.setIfInBounds_toArray, List.set_cons_zero, List.set_cons_succ]
  refine wpAnyH_take (i := 7) (v := ?_) rfl (by kernel_rfl) (by kernel_rfl) (by kernel_rfl) (fun _ _ _ h => h) (Or.inl ⟨by rfl, ?_⟩) hHeld ?_
  rotate_left
  · (intro w' hSw; (try dsimp only at hSw); go_simp; try with_reducible rfl)
  simp only [List.getElem_toArray, List.getElem_cons_zero, List.getElem_cons_succ, Act.put, List.setIfInBounds_toArray, List.set_cons_zero, List.set_cons_succ]
  refine wpAnyH_take (i := 8) (v := ?_) rfl (by kernel_rfl) (by kernel_rfl) (by kernel_rfl) (fun _ _ _ h => h) (Or.inl ⟨by rfl, ?_⟩) hHeld ?_
  rotate_left
  · (intro w' hSw; (try dsimp only at hSw); go_simp; try with_reducible rfl)
  simp only [List.getElem_toArray, List.getElem_cons_zero, List.getElem_cons_succ, Act.put, List.setIfInBounds_toArray, List.set_cons_zero, List.set_cons_succ]
  refine wpAnyH_take (i := 9) (v := ?_) rfl (by kernel_rfl) (by kernel_rfl) (by kernel_rfl) (fun _ _ _ h => h) (Or.inl ⟨by rfl, ?_⟩) hHeld ?_
  rotate_left
  · (intro w' hSw; (try dsimp only at hSw); go_simp; try with_reducible rfl)
  simp only [List.getElem_toArray, List.getElem_cons_zero, List.getElem_cons_succ, Act.put, List.setIfInBounds_toArray, List.set_cons_zero, List.set_cons_succ]
  refine wpAnyH_take (i := 10) (v := ?_) rfl (by kernel_rfl) (by kernel_rfl) (by kernel_rfl) (fun _ _ _ h => h) (Or.inl ⟨by rfl, ?_⟩) hHeld ?_
  rotate_left
  · (intro w' hSw; (try dsimp only at hSw); go_simp; try with_reducible rfl)
  simp only [List.getElem_toArray, List.getElem_cons_zero, List.getElem_cons_succ, Act.put, List.setIfInBounds_toArray, List.set_cons_zero, List.set_cons_succ]
  refine wpAnyH_take (i := 11) (v := ?_) rfl (by kernel_rfl) (by kernel_rfl) (by kernel_rfl) (fun _ _ _ h => h) (Or.inl ⟨by rfl, ?_⟩) hHeld ?_
  rotate_left
  · (intro w' hSw; (try dsimp only at hSw); go_simp; try with_reducible rfl)
  simp only [List.getElem_toArray, List.getElem_cons_zero, List.getElem_cons_succ, Act.put, List.setIfInBounds_toArray, List.set_cons_zero, List.set_cons_succ]
  refine wpAnyH_take (i := 12) (v := ?_) rfl (by kernel_rfl) (by kernel_rfl) (by kernel_rfl) (fun _ _ _ h => h) (Or.inl ⟨by rfl, ?_⟩) hHeld ?_
  rotate_left
  · (intro w' hSw; (try dsimp only at hSw); go_simp; try with_reducible rfl)
  simp only [List.getElem_toArray, List.getElem_cons_zero, List.getElem_cons_succ, Act.put, List.setIfInBounds_toArray, List.set_cons_zero, List.set_cons_succ]
  refine wpAnyH_take (i := 13) (v := ?_) rfl (by kernel_rfl) (by kernel_rfl) (by kernel_rfl) (fun _ _ _ h => h) (Or.inl ⟨by rfl, ?_⟩) hHeld ?_
  rotate_left
  · (intro w' hSw; (try dsimp only at hSw); go_simp; try with_reducible rfl)
  simp only [List.getElem_toArray, List.getElem_cons_zero, List.getElem_cons_succ, Act.put, List.setIfInBounds_toArray, List.set_cons_zero, List.set_cons_succ]
  refine wpAnyH_take (i := 14) (v := ?_) rfl (by kernel_rfl) (by kernel_rfl) (by kernel_rfl) (fun _ _ _ h => h) (Or.inl ⟨by rfl, ?_⟩) hHeld ?_
  rotate_left
  · (intro w' hSw; (try dsimp only at hSw); go_simp; try with_reducible rfl)
  simp only [List.getElem_toArray, List.getElem_cons_zero, List.getElem_cons_succ, Act.put, List.setIfInBounds_toArray, List.set_cons_zero, List.set_cons_succ]
  refine wpAnyH_ready (rs := [15]) (by kernel_rfl) (by simp) ?_
  refine AllReadyH.cons rfl (fun K hK => ?_) AllReadyH.nil
  go_simp
  refine (KB.out _ hHeld.1).mono ?_
  rintro e s2 ⟨rfl, hb⟩
  refine hK.out _ _ (KE.out _ (holdC hHeld hb)) (fun hHeld => ?_)
  clear hK K hb
  refine wpAnyH_take (i := 16) (v := ?_) rfl (by kernel_rfl) (by kernel_rfl) (by kernel_rfl) (fun _ _ _ h => h) (Or.inl ⟨by rfl, ?_⟩) hHeld ?_
  rotate_left
  · (intro w' hSw; (try dsimp only at hSw); go_simp; try with_reducible rfl)
  simp only [List.getElem_toArray, List.getElem_cons_zero, List.getElem_cons_succ, Act.put, List.setIfInBounds_toArray, List.set_cons_zero, List.set_cons_succ]
  refine wpAnyH_take (i := 17) (v := ?_) rfl (by kernel_rfl) (by kernel_rfl) (by kernel_rfl) (fun _ _ _ h => h) (Or.inl ⟨by rfl, ?_⟩) hHeld ?_
  rotate_left
  · (intro w' hSw; (try dsimp only at hSw); go_simp; try with_reducible rfl)
  simp only [List.getElem_toArray, List.getElem_cons_zero, List.getElem_cons_succ, Act.put, List.setIfInBounds_toArray, List.set_cons_zero, List.set_cons_succ]
  refine wpAnyH_done (by kernel_rfl) ?_ _
  have hb : Below uq27.heap.size uq27 s2 := hHeld.1
  clear hHeld
  replace G := Lib.hid (G.out.trans (hb.mono G.out.size))
  replace XN := Lib.hid (XN.out.below hb)
  replace XP := Lib.hid (XP.out.below hb)
  replace SN := Lib.hid (SN.out.below hb)
  replace SP := Lib.hid (SP.out.below hb)
  replace D := Lib.hid (D.out.trans (hb.mono D.out.size))
  replace S6 := Lib.hid (S6.out.below hb)
  replace S7 := Lib.hid (S7.out.below hb)
  replace XQ := Lib.hid (XQ.out.below hb)
  replace XB := Lib.hid (XB.out.below hb)
  clear hb
  generalize hsx : s2 = sx at *
  have xn := XN.out.net
  obtain ⟨xp0, xp1, xp2⟩ := XP.out.pkt
  have KF := Lib.hid (ntsendP (f := p.frm) (t := p.to) ⟨_, rfl, SN.out⟩ SP.out (by rw [LN.out]; omega) HBY.out HPL.out)
  go_wp2_with fail
  refine (KF.out).mono ?_
  rintro e uq29 ⟨v5, rfl, ho, hb⟩
  replace G := Lib.hid (G.out.trans (hb.mono G.out.size))
  replace XN := Lib.hid (XN.out.below hb)
  replace XP := Lib.hid (XP.out.below hb)
  replace SN := Lib.hid (SN.out.below hb)
  replace SP := Lib.hid (SP.out.below hb)
  obtain ⟨a5, c5, rfl, -, -, ho5⟩ := ho.own.at (n + 1) (by simp [LN.out])
  have SA := Lib.hid ho5.seq
  clear hb ho ho5 KF xn xp0 xp1 xp2
  have hb := (Below.refl uq29.heap.size uq29).alloc (Nat.le_refl _) (.cells #[.slice a5 (n + 1) c5] 24)
  replace G := Lib.hid (G.out.trans (hb.mono G.out.size))
  replace XN := Lib.hid (XN.out.below hb)
  replace XP := Lib.hid (XP.out.below hb)
  replace SN := Lib.hid (SN.out.below hb)
  replace SP := Lib.hid (SP.out.below hb)
  replace SA := Lib.hid (SA.out.below hb)
  have XA := Lib.hid (ntb_new uq29 #[.slice a5 (n + 1) c5] 24)
  clear hb
  go_upto_region 11 with fail
  generalize hgq31 : uq29.heap.size = gq31 at XA ⊢
  clear hgq31
  generalize (uq29.alloc (.cells #[.slice a5 (n + 1) c5] 24)) = uq30 at *
  have KT : Hid (Calls Try.prog 12 #[.agg #[.slice a5 (n + 1) c5], .int .i64 n] uq30 (GivesTk uq30 p xs 0)) := Lib.hid (by
    have h := nttakeP (i := n) ⟨_, rfl, SA.out⟩ (by simp [LN.out]; omega) (by simp [LN.out]) (snoc_short HBY.out HPL.out)
    rw [show (⟨p.frm, p.to, p.bytes⟩ : PPkt) = p from rfl, pk_end _ _ _ LN.out, erase_end _ _ _ LN.out] at h
    exact h)
  have xn := XN.out.net
  have xa := XA.out.net
  go_wp2_with fail
  refine (KT.out).mono ?_
  rintro e uq32 ⟨bv, sv, rfl, hbv, hsv, hb⟩
  replace G := Lib.hid (G.out.trans (hb.mono G.out.size))
  replace XN := Lib.hid (XN.out.below hb)
  replace XP := Lib.hid (XP.out.below hb)
  replace SN := Lib.hid (SN.out.below hb)
  replace SP := Lib.hid (SP.out.below hb)
  replace SA := Lib.hid (SA.out.below hb)
  replace XA := Lib.hid (XA.out.below hb)
  obtain ⟨a6, c6, rfl, -, -, hsv6⟩ := hsv.own.at n LN.out
  have S6 := Lib.hid hsv6.seq
  obtain ⟨b6, d6, rfl, -, -, -, hbv⟩ := SeqE.parts (L := LByte) (hbv.mono fun b hb => hb.2)
  have S7 := Lib.hid hbv
  rw [LB.out] at S7 ⊢
  clear hb hbv hsv hsv6 KT xn xa
  have hb := ((Below.refl uq32.heap.size uq32).alloc (Nat.le_refl _) (.cells #[.int .i64 p.frm, .int .i64 p.to, .slice b6 bn d6] 27)).alloc (by simp) (.cells #[.slice a6 n c6] 24)
  replace G := Lib.hid (G.out.trans (hb.mono G.out.size))
  replace XN := Lib.hid (XN.out.below hb)
  replace XP := Lib.hid (XP.out.below hb)
  replace SN := Lib.hid (SN.out.below hb)
  replace SP := Lib.hid (SP.out.below hb)
  replace S6 := Lib.hid (S6.out.below hb)
  replace S7 := Lib.hid (S7.out.below hb)
  have PC := npair_heap uq32 #[.int .i64 p.frm, .int .i64 p.to, .slice b6 bn d6] #[.slice a6 n c6] 27 24
  have XQ := Lib.hid PC.1
  have XB := Lib.hid PC.2
  clear hb PC
  go_upto_region 13 with fail
  generalize hgq34 : uq32.heap.size = gq34 at XQ XB ⊢
  clear hgq34
  generalize ((uq32.alloc (.cells #[.int .i64 p.frm, .int .i64 p.to, .slice b6 bn d6] 27)).alloc (.cells #[.slice a6 n c6] 24)) = uq33 at *
  have KA := Lib.hid (rsameN ⟨_, rfl, S6.out⟩ ⟨_, rfl, SN.out⟩ (by rw [LN.out]; omega) true (decide_eq_true rfl))
  have xn := XN.out.net
  have xb := XB.out.net
  go_wp2_with fail
  refine (KA.out).mono ?_
  rintro e uq35 ⟨rfl, hb⟩
  replace G := Lib.hid (G.out.trans (hb.mono G.out.size))
  replace XN := Lib.hid (XN.out.below hb)
  replace XP := Lib.hid (XP.out.below hb)
  replace SN := Lib.hid (SN.out.below hb)
  replace SP := Lib.hid (SP.out.below hb)
  replace S6 := Lib.hid (S6.out.below hb)
  replace S7 := Lib.hid (S7.out.below hb)
  replace XQ := Lib.hid (XQ.out.below hb)
  replace XB := Lib.hid (XB.out.below hb)
  clear hb KA xn xb
  obtain ⟨xp0, xp1, xp2⟩ := XP.out.pkt
  obtain ⟨xq0, xq1, xq2⟩ := XQ.out.pkt
  have KB := Lib.hid (rsamePk (p := p) (q := p) ⟨_, rfl, S7.out⟩ ⟨_, rfl, SP.out⟩ true (decide_eq_true rfl))
  go_wp2_with fail
  refine (KB.out).mono ?_
  rintro e uq36 ⟨rfl, hb⟩
  replace G := Lib.hid (G.out.trans (hb.mono G.out.size))
  replace XN := Lib.hid (XN.out.below hb)
  replace XP := Lib.hid (XP.out.below hb)
  replace SN := Lib.hid (SN.out.below hb)
  replace SP := Lib.hid (SP.out.below hb)
  replace S6 := Lib.hid (S6.out.below hb)
  replace S7 := Lib.hid (S7.out.below hb)
  replace XQ := Lib.hid (XQ.out.below hb)
  replace XB := Lib.hid (XB.out.below hb)
  clear hb KB
  go_wp2_with fail
  go_ret
  exact ⟨rfl, G.out⟩

set_option maxRecDepth 100000 in
theorem lifted (os : Os) (started : os.Started) (H : Type) (enc : TypeId × Value → H) :
    ReturnsInHanded {} Try.checked os 5 .any (Rows.netDoubledSpec.pre6 enc Try.prog Try.f5 Rows.netDoubledRow.domain false) (Rows.netDoubledSpec.post enc Try.prog Try.f5 false true false false) := by
  refine returnsInHanded_of_change (C := Try.checked) own started (by kernel_rfl) Try.func5
    (ChangeSpec.witness6 (enc := enc) (C := Try.checked) false ⟨#[], #[.agg #[.slice none 0 0], .agg #[.int .i64 0, .int .i64 0, .slice none 0 0], .int .i64 0], []⟩ 8 (by kernel_rfl) (by kernel_rfl) (by kernel_rfl) (by kernel_rfl)) ?_
  intro W base args ds gs before hval0 hW hcnd _
  have hval : ∀ (j : Nat) t v, Try.f5.params[j]? = some t → args[j]? = some v → Value.okWide Try.prog W .any base t v := hval0
  have hW' := hW
  obtain ⟨p, q, hA0, hV, rfl, hfz, hnd⟩ := hW
  have hA : DataW.TrodAll enc Try.prog W 0 (fun _ => true) true Try.f5.params.toList args.toList ds p := hA0
  rw [Try.params5] at hA hval
  obtain ⟨v0, vs0, d0, ds0, p0, q0, hargs, rfl, rfl, h0, r0⟩ := trodAll_cons hA
  obtain ⟨v1, vs1, d1, ds1, p1, q1, rfl, rfl, rfl, h1, r1⟩ := trodAll_cons r0
  obtain ⟨v2, vs2, d2, ds2, p2, q2, rfl, rfl, rfl, h2, r2⟩ := trodAll_cons r1
  obtain ⟨rfl, rfl, rfl⟩ := trodAll_nil r2
  obtain rfl : args = #[v0, v1, v2] := by cases args; simp_all
  obtain ⟨rfl, rfl⟩ := trodVars_none hV
  have k0 := h0
  have lt0 : ∀ x ∈ p0, x.block < W.heap.size := by obtain ⟨m, hm⟩ := k0; exact DataW.trod_lt m _ _ _ hm
  have w0 := open0 (hval 0 24 v0 rfl rfl) h0
  have k1 := h1
  have lt1 : ∀ x ∈ p1, x.block < W.heap.size := by obtain ⟨m, hm⟩ := k1; exact DataW.trod_lt m _ _ _ hm
  have w1 := open1 (hval 1 27 v1 rfl rfl) h1
  obtain ⟨a2, rfl, rfl, rfl, w2⟩ := open_int Try.underlying3 (hval 2 3 v2 rfl rfl) h2
  clear hA0 hval0
  refine (walk v0 v1 a2 W w0 w1 w2).mono fun e W' ⟨he, bel⟩ => ?_
  subst he
  exact ⟨_, rfl, _, _, _, [], _, [], hW', trodAll_mk1 (shut_bool Try.underlying4 _), (trodAll_cons_mk (Below.trod laidOut (by kernel_rfl) (of_decide_eq_true (by kernel_rfl)) k0 bel lt0) (trodAll_cons_mk (Below.trod laidOut (by kernel_rfl) (of_decide_eq_true (by kernel_rfl)) k1 bel lt1) (trodAll_cons_mk (shut_int Try.underlying3 w2) trodAll_mk0))), rfl, bel.frame _, fun h => by cases h⟩

theorem over : Rows.netDoubledRow.holds Try.pinned (OpenSpec.ofChange Rows.netDoubledSpec) :=
  OpenClaim.holds_of_wide 5 Try.f5 rfl rfl rfl rfl rfl rfl rfl ⟨rfl, rfl, rfl, rfl, rfl⟩ rfl rfl rfl rfl rfl (by kernel_rfl) Try.func5 (by kernel_rfl)
    (of_decide_eq_true (by kernel_rfl)) (by unfold Func.isWrapper; first | (rw [if_pos (by decide +kernel)]; kernel_rfl) | (rw [if_neg (by decide +kernel)]; exact ⟨rfl, rfl⟩))
    (fun os started H enc _ => lifted os started H enc)

/-- the given statement -/
theorem proved : Rows.NetDoubledSaid := over
#print axioms proved
end Go.Proofs.Ytgllaoanpemjlaa.netDoubled
