/-
  For any network, packet and number the law NetAll answers true: any network takes, gives and doubles any packet as the document says; it stays as it is. No condition.
  (The frame was written by the guide's proof-skeleton.mjs, turned for networks and packets; the walk is ours, written by gen-walks.py.)
-/
import Derived.Test.YtgllaoanpemjlaaRows
import Derived.WalkKit
import Derived.ProofKit
import Derived.OpenShut
import Derived.ShutString
import Derived.ChangeOld
import Derived.Below
import Derived.Test.YtgllaoanpemjlaaNtUse
import Derived.Deep.RegionHeld3
import Derived.Deep.Cut
import Derived.Deep.DeepCutAuto
namespace Go.Proofs.Ytgllaoanpemjlaa.netAll
open Go.ChangeShapes Go.WideShapes Go.ChangeAt Go.RowKit
open Go.ChangeMaps (open_string shut_string)
set_option linter.unusedVariables false

theorem own : ownKnob Try.prog.godebug = none := by kernel_rfl
theorem laidOut : laidOutB Try.prog = true := by kernel_rfl

open Plain

theorem pk_end (xs : List PPkt) (q : PPkt) (n : Nat) (h : xs.length = n) : pk (xs ++ [q]) n = q := by
  subst h
  unfold pk
  simp [List.getD]
theorem erase_end (xs : List PPkt) (q : PPkt) (n : Nat) (h : xs.length = n) : (xs ++ [q]).eraseIdx n = xs := by
  subst h
  rw [List.eraseIdx_append_of_length_le (Nat.le_refl _), Nat.sub_self]
  simp
theorem short_parts {l : List PPkt} (h : shortN l = true) : l.length ≤ 70 ∧ ∀ x ∈ l, x.bytes.length ≤ 1000000 := by
  unfold shortN shortN1 at h
  rw [Bool.and_eq_true, decide_eq_true_iff, List.all_eq_true] at h
  exact ⟨h.1, fun x hx => by have := of_decide_eq_true (h.2 x hx); omega⟩
theorem snoc_short {l : List PPkt} {q : PPkt} (h : ∀ x ∈ l, x.bytes.length ≤ 1000000) (hq : q.bytes.length ≤ 1000000) : ∀ x ∈ l ++ [q], x.bytes.length ≤ 1000000 := fun x hx => (List.mem_append.1 hx).elim (h x) (fun e => by rw [List.mem_singleton.1 e]; exact hq)
set_option maxRecDepth 100000 in
theorem open0 {H : Type} {enc : TypeId × Value → H} {W : World} {r : Reach} {b : Nat} {v : Value} {d : DataW H} {p : List MemPlace} (hv : Value.okWide Try.prog W r b 24 v) (h : DataW.Trod enc Try.prog W 0 (fun _ => true) true 24 v d p) : IsNetA W v := net_of_trod hv h
set_option maxRecDepth 100000 in
theorem open1 {H : Type} {enc : TypeId × Value → H} {W : World} {r : Reach} {b : Nat} {v : Value} {d : DataW H} {p : List MemPlace} (hv : Value.okWide Try.prog W r b 27 v) (h : DataW.Trod enc Try.prog W 0 (fun _ => true) true 27 v d p) : IsPktA W v := pkt_of_trod hv h

set_option maxRecDepth 100000 in
set_option maxHeartbeats 32000000 in
theorem walk (v0 : Value) (v1 : Value) (i : Int) (w : World) (w0 : IsNetA w v0) (w1 : IsPktA w v1) (w2 : (Lit.int .i64 i).wf = true) :
    Calls Try.prog 3 #[v0, v1, .int .i64 i] w fun e w' => e = .returned (.bool true) ∧ Below w.heap.size w w' := by
  obtain ⟨xs, hx0, -⟩ := w0
  obtain ⟨p, hp0, -⟩ := w1
  obtain ⟨i1, i2⟩ := i64_in w2
  obtain ⟨v, rfl, hn0⟩ := hx0
  obtain ⟨bv, rfl, hp1⟩ := hp0
  obtain ⟨a, cap, rfl, g1, g2, -, hn⟩ := hn0.parts
  obtain ⟨bn, hbn⟩ : ∃ m, p.bytes.length = m := ⟨_, rfl⟩
  obtain ⟨ba, bc, rfl, g3, g4, -, hp⟩ := hp1.parts
  obtain ⟨n, hN⟩ : ∃ n, xs.length = n := ⟨_, rfl⟩
  rw [hN] at g1 hn ⊢
  rw [hbn] at g3 hp ⊢
  have LN := Lib.hid hN
  have LB := Lib.hid hbn
  have hb := ((Below.refl w.heap.size w).alloc (Nat.le_refl _) (.cells #[.slice a n cap] 24)).alloc (by simp) (.cells #[.int .i64 p.frm, .int .i64 p.to, .slice ba bn bc] 27)
  have PC := npair_heap w #[.slice a n cap] #[.int .i64 p.frm, .int .i64 p.to, .slice ba bn bc] 24 27
  have XN := Lib.hid PC.1
  have XP := Lib.hid PC.2
  have G := Lib.hid hb
  have SN := Lib.hid (hn.below hb)
  have SP := Lib.hid (hp.below hb)
  have HSH := Lib.hid (fun h => short_parts (l := xs) h)
  clear hn0 hp1 hn hp hN hbn hb PC w2
  go_enter Try.func3, Try.ntmps3
  go_upto_region 1 with fail
  generalize ((w.alloc (.cells #[.slice a n cap] 24)).alloc (.cells #[.int .i64 p.frm, .int .i64 p.to, .slice ba bn bc] 27)) = wB at *
  go_wp2_with fail
  refine (ntawake_any _).mono ?_
  rintro e uq1 ⟨rfl, hb⟩
  replace G := Lib.hid (G.out.trans (hb.mono G.out.size))
  replace XN := Lib.hid (XN.out.below hb)
  replace XP := Lib.hid (XP.out.below hb)
  replace SN := Lib.hid (SN.out.below hb)
  replace SP := Lib.hid (SP.out.below hb)
  clear hb
  obtain ⟨sb, hsb⟩ : ∃ b, shortN xs = b := ⟨_, rfl⟩
  have HSB := Lib.hid hsb
  have KS := Lib.hid (rshortN ⟨_, rfl, SN.out⟩ sb hsb)
  clear hsb
  have xn := XN.out.net
  go_wp2_with fail
  refine (KS.out).mono ?_
  rintro e uq2 ⟨rfl, hb⟩
  replace G := Lib.hid (G.out.trans (hb.mono G.out.size))
  replace XN := Lib.hid (XN.out.below hb)
  replace XP := Lib.hid (XP.out.below hb)
  replace SN := Lib.hid (SN.out.below hb)
  replace SP := Lib.hid (SP.out.below hb)
  clear hb KS xn
  have xn := XN.out.net
  obtain ⟨xp0, xp1, xp2⟩ := XP.out.pkt
  cases sb
  · go_wp2_with fail
    go_ret
    exact ⟨rfl, G.out⟩
  obtain ⟨h70, hby⟩ := HSH.out HSB.out
  rw [LN.out] at h70
  have HBY := Lib.hid hby
  clear hby HSH HSB
  by_cases hpl : bn ≤ 1000
  rotate_left
  · have hpl2 : (1000 : Int) < bn := by omega
    clear hpl
    go_wp2_with fail
    go_ret
    exact ⟨rfl, G.out⟩
  have hpl2 : ¬ (1000 : Int) < bn := by omega
  have HPL : Hid (p.bytes.length ≤ 1000000) := Lib.hid (by rw [LB.out]; omega)
  have KC := Lib.hid (rcopyN ⟨_, rfl, SN.out⟩ (by rw [LN.out]; omega) HBY.out)
  go_wp2_with fail
  refine (KC.out).mono ?_
  rintro e uq3 ⟨v, rfl, ho, hb⟩
  replace G := Lib.hid (G.out.trans (hb.mono G.out.size))
  replace XN := Lib.hid (XN.out.below hb)
  replace XP := Lib.hid (XP.out.below hb)
  replace SN := Lib.hid (SN.out.below hb)
  replace SP := Lib.hid (SP.out.below hb)
  obtain ⟨am, cm, rfl, -, -, ho⟩ := ho.own.at n LN.out
  have SM := Lib.hid ho.seq
  clear hb ho KC xn xp0 xp1 xp2
  have hb := (Below.refl uq3.heap.size uq3).alloc (Nat.le_refl _) (.cells #[.slice am n cm] 24)
  replace G := Lib.hid (G.out.trans (hb.mono G.out.size))
  replace XN := Lib.hid (XN.out.below hb)
  replace XP := Lib.hid (XP.out.below hb)
  replace SN := Lib.hid (SN.out.below hb)
  replace SP := Lib.hid (SP.out.below hb)
  replace SM := Lib.hid (SM.out.below hb)
  have XM := Lib.hid (ntb_new uq3 #[.slice am n cm] 24)
  clear hb
  go_upto_region 6 with fail
  generalize hgq5 : uq3.heap.size = gq5 at XM ⊢
  clear hgq5
  generalize (uq3.alloc (.cells #[.slice am n cm] 24)) = uq4 at *
  by_cases h63 : n ≤ 63
  rotate_left
  · skip
    have xm := XM.out.net
    obtain ⟨xp0, xp1, xp2⟩ := XP.out.pkt
    have KW := Lib.hid (ntsendFull (f := p.frm) (t := p.to) ⟨_, rfl, SM.out⟩ SP.out (by rw [LN.out]; omega))
    go_wp2_with fail
    refine (KW.out).mono ?_
    rintro e uq6 ⟨v5, rfl, ho, hb⟩
    replace G := Lib.hid (G.out.trans (hb.mono G.out.size))
    replace XN := Lib.hid (XN.out.below hb)
    replace XP := Lib.hid (XP.out.below hb)
    replace SN := Lib.hid (SN.out.below hb)
    replace SP := Lib.hid (SP.out.below hb)
    replace SM := Lib.hid (SM.out.below hb)
    replace XM := Lib.hid (XM.out.below hb)
    obtain ⟨a5, c5, rfl, -, -, ho5⟩ := ho.own.at (0) rfl
    have SA := Lib.hid ho5.seq
    clear hb ho ho5 KW xm xp0 xp1 xp2
    have hb := (Below.refl uq6.heap.size uq6).alloc (Nat.le_refl _) (.cells #[.slice a5 (0) c5] 24)
    replace G := Lib.hid (G.out.trans (hb.mono G.out.size))
    replace XN := Lib.hid (XN.out.below hb)
    replace XP := Lib.hid (XP.out.below hb)
    replace SN := Lib.hid (SN.out.below hb)
    replace SP := Lib.hid (SP.out.below hb)
    replace SM := Lib.hid (SM.out.below hb)
    replace XM := Lib.hid (XM.out.below hb)
    replace SA := Lib.hid (SA.out.below hb)
    have XA := Lib.hid (ntb_new uq6 #[.slice a5 (0) c5] 24)
    clear hb
    go_upto_region 7 with fail
    generalize hgq8 : uq6.heap.size = gq8 at XA ⊢
    clear hgq8
    generalize (uq6.alloc (.cells #[.slice a5 (0) c5] 24)) = uq7 at *
    have xn := XN.out.net
    obtain ⟨xp0, xp1, xp2⟩ := XP.out.pkt
    have KW := Lib.hid (rsendFull (p := p) ⟨_, rfl, SN.out⟩ ⟨_, rfl, SP.out⟩ (by rw [LN.out]; omega))
    go_wp2_with fail
    refine (KW.out).mono ?_
    rintro e uq9 ⟨v6, rfl, ho, hb⟩
    replace G := Lib.hid (G.out.trans (hb.mono G.out.size))
    replace XN := Lib.hid (XN.out.below hb)
    replace XP := Lib.hid (XP.out.below hb)
    replace SN := Lib.hid (SN.out.below hb)
    replace SP := Lib.hid (SP.out.below hb)
    replace SM := Lib.hid (SM.out.below hb)
    replace XM := Lib.hid (XM.out.below hb)
    replace SA := Lib.hid (SA.out.below hb)
    replace XA := Lib.hid (XA.out.below hb)
    obtain ⟨a6, c6, rfl, -, -, ho6⟩ := ho.own.at (0) rfl
    have SB := Lib.hid ho6.seq
    clear hb ho ho6 KW xn xp0 xp1 xp2
    have hb := (Below.refl uq9.heap.size uq9).alloc (Nat.le_refl _) (.cells #[.slice a6 (0) c6] 24)
    replace G := Lib.hid (G.out.trans (hb.mono G.out.size))
    replace XN := Lib.hid (XN.out.below hb)
    replace XP := Lib.hid (XP.out.below hb)
    replace SN := Lib.hid (SN.out.below hb)
    replace SP := Lib.hid (SP.out.below hb)
    replace SM := Lib.hid (SM.out.below hb)
    replace XM := Lib.hid (XM.out.below hb)
    replace SA := Lib.hid (SA.out.below hb)
    replace XA := Lib.hid (XA.out.below hb)
    replace SB := Lib.hid (SB.out.below hb)
    have XB := Lib.hid (ntb_new uq9 #[.slice a6 (0) c6] 24)
    clear hb
    go_upto_region 8 with fail
    generalize hgq11 : uq9.heap.size = gq11 at XB ⊢
    clear hgq11
    generalize (uq9.alloc (.cells #[.slice a6 (0) c6] 24)) = uq10 at *
    have KA := Lib.hid (rsameN (xs := []) (ys := []) ⟨_, rfl, SA.out⟩ ⟨_, rfl, SB.out⟩ (by rw [List.length_nil]; omega) true (decide_eq_true rfl))
    have xa := XA.out.net
    have xb := XB.out.net
    go_wp2_with fail
    refine (KA.out).mono ?_
    rintro e uq12 ⟨rfl, hb⟩
    replace G := Lib.hid (G.out.trans (hb.mono G.out.size))
    replace XN := Lib.hid (XN.out.below hb)
    replace XP := Lib.hid (XP.out.below hb)
    replace SN := Lib.hid (SN.out.below hb)
    replace SP := Lib.hid (SP.out.below hb)
    replace SM := Lib.hid (SM.out.below hb)
    replace XM := Lib.hid (XM.out.below hb)
    replace SA := Lib.hid (SA.out.below hb)
    replace XA := Lib.hid (XA.out.below hb)
    replace SB := Lib.hid (SB.out.below hb)
    replace XB := Lib.hid (XB.out.below hb)
    clear hb KA xa xb
    by_cases hi : 0 ≤ i ∧ i < n
    rotate_left
    · have KT := Lib.hid (nttakeNo (i := i) ⟨_, rfl, SM.out⟩ (by rw [LN.out]; exact hi))
      have KW := Lib.hid (fun (u : World) (h : SeqE LPkt u (.slice am n cm) xs) => nttwiceNone (i := i) ⟨_, rfl, h⟩ (by rw [LN.out]; exact hi))
      have hin : i < 0 ∨ (n : Int) ≤ i := by omega
      clear hi
      have xm := XM.out.net
      go_wp2_with fail
      refine (KT.out).mono ?_
      rintro e uq13 ⟨bv, sv, rfl, hbv, hsv, hb⟩
      replace G := Lib.hid (G.out.trans (hb.mono G.out.size))
      replace XN := Lib.hid (XN.out.below hb)
      replace XP := Lib.hid (XP.out.below hb)
      replace SN := Lib.hid (SN.out.below hb)
      replace SP := Lib.hid (SP.out.below hb)
      replace SM := Lib.hid (SM.out.below hb)
      replace XM := Lib.hid (XM.out.below hb)
      obtain ⟨b7, d7, rfl, -, -, -, hbv⟩ := hbv.parts
      obtain ⟨a7, c7, rfl, -, -, -, hsv⟩ := hsv.parts
      have S7 := Lib.hid hbv
      clear hb hbv hsv KT xm
      have hb := ((Below.refl uq13.heap.size uq13).alloc (Nat.le_refl _) (.cells #[.int .i64 0, .int .i64 0, .slice b7 0 d7] 27)).alloc (by simp) (.cells #[.slice a7 0 c7] 24)
      replace G := Lib.hid (G.out.trans (hb.mono G.out.size))
      replace XN := Lib.hid (XN.out.below hb)
      replace XP := Lib.hid (XP.out.below hb)
      replace SN := Lib.hid (SN.out.below hb)
      replace SP := Lib.hid (SP.out.below hb)
      replace SM := Lib.hid (SM.out.below hb)
      replace XM := Lib.hid (XM.out.below hb)
      replace S7 := Lib.hid (S7.out.below hb)
      have PC := npair_heap uq13 #[.int .i64 0, .int .i64 0, .slice b7 0 d7] #[.slice a7 0 c7] 27 24
      have XQ := Lib.hid PC.1
      have XC := Lib.hid PC.2
      clear hb PC
      go_upto_region 11 with fail
      generalize hgq15 : uq13.heap.size = gq15 at XQ XC ⊢
      clear hgq15
      generalize ((uq13.alloc (.cells #[.int .i64 0, .int .i64 0, .slice b7 0 d7] 27)).alloc (.cells #[.slice a7 0 c7] 24)) = uq14 at *
      have xm := XM.out.net
      go_wp2_with fail
      refine (KW.out _ SM.out).mono ?_
      rintro e uq16 ⟨v8, rfl, ho, hb⟩
      replace G := Lib.hid (G.out.trans (hb.mono G.out.size))
      replace XN := Lib.hid (XN.out.below hb)
      replace XP := Lib.hid (XP.out.below hb)
      replace SN := Lib.hid (SN.out.below hb)
      replace SP := Lib.hid (SP.out.below hb)
      replace SM := Lib.hid (SM.out.below hb)
      replace XM := Lib.hid (XM.out.below hb)
      replace S7 := Lib.hid (S7.out.below hb)
      replace XQ := Lib.hid (XQ.out.below hb)
      replace XC := Lib.hid (XC.out.below hb)
      obtain ⟨a8, c8, rfl, -, -, ho8⟩ := ho.own.at 0 rfl
      clear hb ho ho8 KW xm
      have hb := (Below.refl uq16.heap.size uq16).alloc (Nat.le_refl _) (.cells #[.slice a8 0 c8] 24)
      replace G := Lib.hid (G.out.trans (hb.mono G.out.size))
      replace XN := Lib.hid (XN.out.below hb)
      replace XP := Lib.hid (XP.out.below hb)
      replace SN := Lib.hid (SN.out.below hb)
      replace SP := Lib.hid (SP.out.below hb)
      replace SM := Lib.hid (SM.out.below hb)
      replace XM := Lib.hid (XM.out.below hb)
      replace S7 := Lib.hid (S7.out.below hb)
      replace XQ := Lib.hid (XQ.out.below hb)
      replace XC := Lib.hid (XC.out.below hb)
      have XD := Lib.hid (ntb_new uq16 #[.slice a8 0 c8] 24)
      clear hb
      go_upto_region 12 with fail
      generalize hgq18 : uq16.heap.size = gq18 at XD ⊢
      clear hgq18
      generalize (uq16.alloc (.cells #[.slice a8 0 c8] 24)) = uq17 at *
      have xn := XN.out.net
      obtain ⟨xq0, xq1, xq2⟩ := XQ.out.pkt
      have KB : Hid (Calls Try.prog 14 #[.agg #[.int .i64 0, .int .i64 0, .slice b7 0 d7], .agg #[.int .i64 0, .int .i64 0, .slice none 0 0]] uq17 (GivesB uq17 true)) := Lib.hid (rsamePk (p := ⟨0, 0, []⟩) (q := ⟨0, 0, []⟩) ⟨_, rfl, S7.out⟩ ⟨_, rfl, SeqE.nil _⟩ true (decide_eq_true rfl))
      by_cases hneg : i < 0
      · have hge : i < 0 := hneg
        clear hin
        go_wp2_with fail
        refine (KB.out).mono ?_
        rintro e uq19 ⟨rfl, hb⟩
        replace G := Lib.hid (G.out.trans (hb.mono G.out.size))
        replace XN := Lib.hid (XN.out.below hb)
        replace XP := Lib.hid (XP.out.below hb)
        replace SN := Lib.hid (SN.out.below hb)
        replace SP := Lib.hid (SP.out.below hb)
        replace SM := Lib.hid (SM.out.below hb)
        replace XM := Lib.hid (XM.out.below hb)
        replace S7 := Lib.hid (S7.out.below hb)
        replace XQ := Lib.hid (XQ.out.below hb)
        replace XC := Lib.hid (XC.out.below hb)
        replace XD := Lib.hid (XD.out.below hb)
        clear hb KB xn xq0 xq1 xq2
        have xn := XN.out.net
        have xm := XM.out.net
        have xc := XC.out.net
        have xd := XD.out.net
        have KA := Lib.hid (rsameN ⟨_, rfl, SM.out⟩ ⟨_, rfl, SN.out⟩ (by rw [LN.out]; omega) true (decide_eq_true rfl))
        go_wp2_with fail
        refine (KA.out).mono ?_
        rintro e uq20 ⟨rfl, hb⟩
        replace G := Lib.hid (G.out.trans (hb.mono G.out.size))
        replace XN := Lib.hid (XN.out.below hb)
        replace XP := Lib.hid (XP.out.below hb)
        replace SN := Lib.hid (SN.out.below hb)
        replace SP := Lib.hid (SP.out.below hb)
        replace SM := Lib.hid (SM.out.below hb)
        replace XM := Lib.hid (XM.out.below hb)
        replace S7 := Lib.hid (S7.out.below hb)
        replace XQ := Lib.hid (XQ.out.below hb)
        replace XC := Lib.hid (XC.out.below hb)
        replace XD := Lib.hid (XD.out.below hb)
        clear hb KA
        go_wp2_with fail
        go_ret
        exact ⟨rfl, G.out⟩
      · have hge : (n : Int) ≤ i := by omega
        clear hin
        go_wp2_with fail
        refine (KB.out).mono ?_
        rintro e uq21 ⟨rfl, hb⟩
        replace G := Lib.hid (G.out.trans (hb.mono G.out.size))
        replace XN := Lib.hid (XN.out.below hb)
        replace XP := Lib.hid (XP.out.below hb)
        replace SN := Lib.hid (SN.out.below hb)
        replace SP := Lib.hid (SP.out.below hb)
        replace SM := Lib.hid (SM.out.below hb)
        replace XM := Lib.hid (XM.out.below hb)
        replace S7 := Lib.hid (S7.out.below hb)
        replace XQ := Lib.hid (XQ.out.below hb)
        replace XC := Lib.hid (XC.out.below hb)
        replace XD := Lib.hid (XD.out.below hb)
        clear hb KB xn xq0 xq1 xq2
        have xn := XN.out.net
        have xm := XM.out.net
        have xc := XC.out.net
        have xd := XD.out.net
        have KA := Lib.hid (rsameN ⟨_, rfl, SM.out⟩ ⟨_, rfl, SN.out⟩ (by rw [LN.out]; omega) true (decide_eq_true rfl))
        go_wp2_with fail
        refine (KA.out).mono ?_
        rintro e uq22 ⟨rfl, hb⟩
        replace G := Lib.hid (G.out.trans (hb.mono G.out.size))
        replace XN := Lib.hid (XN.out.below hb)
        replace XP := Lib.hid (XP.out.below hb)
        replace SN := Lib.hid (SN.out.below hb)
        replace SP := Lib.hid (SP.out.below hb)
        replace SM := Lib.hid (SM.out.below hb)
        replace XM := Lib.hid (XM.out.below hb)
        replace S7 := Lib.hid (S7.out.below hb)
        replace XQ := Lib.hid (XQ.out.below hb)
        replace XC := Lib.hid (XC.out.below hb)
        replace XD := Lib.hid (XD.out.below hb)
        clear hb KA
        go_wp2_with fail
        go_ret
        exact ⟨rfl, G.out⟩
    obtain ⟨hi0, hi1⟩ := hi
    obtain ⟨k, rfl⟩ := Int.eq_ofNat_of_zero_le hi0
    clear hi0 i1 i2
    have hkn : k < n := by omega
    obtain ⟨lb, lo, rfl, hc⟩ := pkts_at SN.out (by omega)
    obtain ⟨da, dn, dc, hW⟩ := hc k hkn
    have HW := Lib.hid hW
    have D := Lib.hid (Below.refl uq12.heap.size uq12)
    clear hc hW
    obtain ⟨ys, hys⟩ : ∃ ys, xs.eraseIdx k = ys := ⟨_, rfl⟩
    obtain ⟨m, hm⟩ : ∃ m, ys.length = m := ⟨_, rfl⟩
    have LM := Lib.hid hm
    have LMN : Hid (m ≤ 1000000) := Lib.hid (by rw [← hm, ← hys]; exact Nat.le_trans (List.eraseIdx_sublist _ _).length_le (by rw [LN.out]; omega))
    have HQ := Lib.hid (pk_bytes (show k < xs.length by rw [LN.out]; exact hkn) HBY.out)
    have KT := Lib.hid (nttakeP (i := k) ⟨_, rfl, SM.out⟩ (by rw [LN.out]; omega) (by rw [LN.out]; exact hkn) HBY.out)
    have KO := Lib.hid (fun (u : World) (h : SeqE LPkt u (.slice (some ⟨lb, lo, none⟩) n cap) xs) => rwithoutN (i := k) ⟨_, rfl, h⟩ (by rw [LN.out]; omega) (by rw [LN.out]; exact hkn))
    rw [hys] at KT KO
    have KW := Lib.hid (fun (u : World) (h : SeqE LPkt u (.slice am n cm) xs) => nttwiceP (i := k) ⟨_, rfl, h⟩ (by rw [LN.out]; omega) (by rw [LN.out]; exact hkn) HBY.out [] 6 (.inr ⟨by rw [LN.out]; omega, rfl, rfl⟩))
    have KX := Lib.hid (fun (u : World) (h : SeqE LPkt u (.slice (some ⟨lb, lo, none⟩) n cap) xs) (pv : Value) (hp : IsPkt u pv (pk xs k)) => rsendFull (p := pk xs k) ⟨_, rfl, h⟩ hp (by rw [LN.out]; omega))
    generalize pk xs k = q at *
    clear hys hm
    have xm := XM.out.net
    go_wp2_with fail
    refine (KT.out).mono ?_
    rintro e uq23 ⟨bv, sv, rfl, hbv, hsv, hb⟩
    replace G := Lib.hid (G.out.trans (hb.mono G.out.size))
    replace XN := Lib.hid (XN.out.below hb)
    replace XP := Lib.hid (XP.out.below hb)
    replace SN := Lib.hid (SN.out.below hb)
    replace SP := Lib.hid (SP.out.below hb)
    replace SM := Lib.hid (SM.out.below hb)
    replace XM := Lib.hid (XM.out.below hb)
    replace D := Lib.hid (D.out.trans (hb.mono D.out.size))
    obtain ⟨a7, c7, rfl, -, -, hsv7⟩ := hsv.own.at m LM.out
    have S6 := Lib.hid hsv7.seq
    obtain ⟨b7, d7, rfl, -, -, -, hbv⟩ := SeqE.parts (L := LByte) (hbv.mono fun b hb => hb.2)
    have S7 := Lib.hid hbv
    obtain ⟨qn, hqn⟩ : ∃ m, q.bytes.length = m := ⟨_, rfl⟩
    rw [hqn] at S7 ⊢
    clear hb hbv hsv hsv7 KT xm hqn
    have hb := ((Below.refl uq23.heap.size uq23).alloc (Nat.le_refl _) (.cells #[.int .i64 q.frm, .int .i64 q.to, .slice b7 qn d7] 27)).alloc (by simp) (.cells #[.slice a7 m c7] 24)
    replace G := Lib.hid (G.out.trans (hb.mono G.out.size))
    replace XN := Lib.hid (XN.out.below hb)
    replace XP := Lib.hid (XP.out.below hb)
    replace SN := Lib.hid (SN.out.below hb)
    replace SP := Lib.hid (SP.out.below hb)
    replace SM := Lib.hid (SM.out.below hb)
    replace XM := Lib.hid (XM.out.below hb)
    replace D := Lib.hid (D.out.trans (hb.mono D.out.size))
    replace S6 := Lib.hid (S6.out.below hb)
    replace S7 := Lib.hid (S7.out.below hb)
    have PC := npair_heap uq23 #[.int .i64 q.frm, .int .i64 q.to, .slice b7 qn d7] #[.slice a7 m c7] 27 24
    have XQ := Lib.hid PC.1
    have XC := Lib.hid PC.2
    clear hb PC
    go_upto_region 11 with fail
    generalize hgq25 : uq23.heap.size = gq25 at XQ XC ⊢
    clear hgq25
    generalize ((uq23.alloc (.cells #[.int .i64 q.frm, .int .i64 q.to, .slice b7 qn d7] 27)).alloc (.cells #[.slice a7 m c7] 24)) = uq24 at *
    have xm := XM.out.net
    go_wp2_with fail
    refine (KW.out _ SM.out).mono ?_
    rintro e uq26 ⟨v8, rfl, ho, hb⟩
    replace G := Lib.hid (G.out.trans (hb.mono G.out.size))
    replace XN := Lib.hid (XN.out.below hb)
    replace XP := Lib.hid (XP.out.below hb)
    replace SN := Lib.hid (SN.out.below hb)
    replace SP := Lib.hid (SP.out.below hb)
    replace SM := Lib.hid (SM.out.below hb)
    replace XM := Lib.hid (XM.out.below hb)
    replace D := Lib.hid (D.out.trans (hb.mono D.out.size))
    replace S6 := Lib.hid (S6.out.below hb)
    replace S7 := Lib.hid (S7.out.below hb)
    replace XQ := Lib.hid (XQ.out.below hb)
    replace XC := Lib.hid (XC.out.below hb)
    obtain ⟨a8, c8, rfl, -, -, ho8⟩ := ho.own.at (0) rfl
    have S8 := Lib.hid ho8.seq
    clear hb ho ho8 KW xm
    have hb := (Below.refl uq26.heap.size uq26).alloc (Nat.le_refl _) (.cells #[.slice a8 (0) c8] 24)
    replace G := Lib.hid (G.out.trans (hb.mono G.out.size))
    replace XN := Lib.hid (XN.out.below hb)
    replace XP := Lib.hid (XP.out.below hb)
    replace SN := Lib.hid (SN.out.below hb)
    replace SP := Lib.hid (SP.out.below hb)
    replace SM := Lib.hid (SM.out.below hb)
    replace XM := Lib.hid (XM.out.below hb)
    replace D := Lib.hid (D.out.trans (hb.mono D.out.size))
    replace S6 := Lib.hid (S6.out.below hb)
    replace S7 := Lib.hid (S7.out.below hb)
    replace XQ := Lib.hid (XQ.out.below hb)
    replace XC := Lib.hid (XC.out.below hb)
    replace S8 := Lib.hid (S8.out.below hb)
    have XD := Lib.hid (ntb_new uq26 #[.slice a8 (0) c8] 24)
    clear hb
    go_upto_region 12 with fail
    generalize hgq28 : uq26.heap.size = gq28 at XD ⊢
    clear hgq28
    generalize (uq26.alloc (.cells #[.slice a8 (0) c8] 24)) = uq27 at *
    have xn := XN.out.net
    have k0 : ¬ ((k : Int) < 0) := by omega
    have k1 : (k : Int) < n := by omega
    have k1b : ¬ ((n : Int) ≤ k) := by omega
    have k2 : (n : Int) ≤ cap := by omega
    have k3 : (cap : Int) ≤ 9223372036854775807 := by omega
    go_upto_region 14 with fail
    clear xn
    have KE : Hid (∀ v, Below uq27.heap.size uq27 v → Below uq27.heap.size uq27 v ∧ v.cell? ⟨w.heap.size, 0, none⟩ = some (.slice (some ⟨lb, lo, none⟩) n cap) ∧ (v.cell? ⟨lb, lo + k * 3, none⟩ = some (.int .i64 q.frm) ∧ v.cell? ⟨lb, lo + k * 3 + 1, none⟩ = some (.int .i64 q.to) ∧ v.cell? ⟨lb, lo + k * 3 + 2, none⟩ = some (.slice da dn dc))) := Lib.hid (fun v hb => ⟨hb, (XN.out.below hb).net, (HW.out v (D.out.trans (hb.mono D.out.size))).1⟩)
    have KY := Lib.hid (fun v (hb : Below uq27.heap.size uq27 v) => KX.out v (SN.out.below hb) _ (HW.out v (D.out.trans (hb.mono D.out.size))).2.1)
    clear KX
    refine wp_region_held_drew (S := fun u' => Below uq27.heap.size uq27 u' ∧ u'.cell? ⟨w.heap.size, 0, none⟩ = some (.slice (some ⟨lb, lo, none⟩) n cap) ∧ (u'.cell? ⟨lb, lo + k * 3, none⟩ = some (.int .i64 q.frm) ∧ u'.cell? ⟨lb, lo + k * 3 + 1, none⟩ = some (.int .i64 q.to) ∧ u'.cell? ⟨lb, lo + k * 3 + 2, none⟩ = some (.slice da dn dc))) (by kernel_rfl) ?_ (fun hHeld => ?_)
    · (exact KE.out _ (Below.refl _ _).drew)
    simp only [List.size_toArray, List.length_cons, List.length_nil, Nat.zero_add, Nat.reduceAdd]
    refine wpAnyH_take (i := 0) (v := ?_) rfl (by kernel_rfl) (by kernel_rfl) (by kernel_rfl) (fun _ _ _ h => h) (Or.inl ⟨by rfl, ?_⟩) hHeld ?_
    rotate_left
    · (intro w' hSw; (try dsimp only at hSw); go_simp; try with_reducible rfl)
    simp only [List.getElem_toArray, List.getElem_cons_zero, Act.put, List.setIfInBounds_toArray, List.set_cons_zero, List.set_cons_succ]
    refine wpAnyH_take (i := 1) (v := ?_) rfl (by kernel_rfl) (by kernel_rfl) (by kernel_rfl) (fun _ _ _ h => h) (Or.inl ⟨by rfl, ?_⟩) hHeld ?_
    rotate_left
    · (intro w' hSw; (try dsimp only at hSw); go_simp; try with_reducible rfl)
    simp only [List.getElem_toArray, List.getElem_cons_zero, List.getElem_cons_succ, Act.put, List.setIfInBounds_toArray, List.set_cons_zero, List.set_cons_succ]
    refine wpAnyH_take (i := 2) (v := ?_) rfl (by kernel_rfl) (by kernel_rfl) (by kernel_rfl) (fun _ _ _ h => h) (Or.inl ⟨by rfl, ?_⟩) hHeld ?_
    rotate_left
    · (intro w' hSw; (try dsimp only at hSw); go_simp; try with_reducible rfl)
    simp only [List.getElem_toArray, List.getElem_cons_zero, List.getElem_cons_succ, Act.put, List.setIfInBounds_toArray, List.set_cons_zero, List.set_cons_succ]
    refine wpAnyH_take (i := 3) (v := ?_) rfl (by kernel_rfl) (by kernel_rfl) (by kernel_rfl) (fun _ _ _ h => h) (Or.inl ⟨by rfl, ?_⟩) hHeld ?_
    rotate_left
    · (intro w' hSw; (try dsimp only at hSw); go_simp; try with_reducible rfl)
    simp only [List.getElem_toArray, List.getElem_cons_zero, List.getElem_cons_succ, Act.put, List.setIfInBounds_toArray, List.set_cons_zero, List.set_cons_succ]
    refine wpAnyH_take (i := 4) (v := ?_) rfl (by kernel_rfl) (by kernel_rfl) (by kernel_rfl) (fun _ _ _ h => h) (Or.inl ⟨by rfl, ?_⟩) hHeld ?_
    rotate_left
    · (intro w' hSw; (try dsimp only at hSw); go_simp; try with_reducible rfl)
    simp only [List.getElem_toArray, List.getElem_cons_zero, List.getElem_cons_succ, Act.put, List.setIfInBounds_toArray, List.set_cons_zero, List.set_cons_succ]
    refine wpAnyH_take (i := 5) (v := ?_) rfl (by kernel_rfl) (by kernel_rfl) (by kernel_rfl) (fun _ _ _ h => h) (Or.inl ⟨by rfl, ?_⟩) hHeld ?_
    rotate_left
    · (intro w' hSw; (try dsimp only at hSw); go_simp; try with_reducible rfl)
    simp only [List.getElem_toArray, List.getElem_cons_zero, List.getElem_cons_succ, Act.put, List.setIfInBounds_toArray, List.set_cons_zero, List.set_cons_succ]
    refine wpAnyH_ready (rs := [6, 10]) (by kernel_rfl) (by simp) ?_
    refine AllReadyH.cons rfl (fun K hK => ?_) (AllReadyH.cons rfl (fun K hK => ?_) AllReadyH.nil)
    · skip
      go_simp
      refine (KY.out _ hHeld.1).mono ?_
      rintro e s1 ⟨v9, rfl, ho9, hb⟩
      obtain ⟨a9, c9, rfl, -, -, ho9⟩ := ho9.own.at (0) rfl
      have E1 : Hid (Below uq27.heap.size uq27 s1) := Lib.hid (hHeld.1.trans (hb.mono hHeld.1.size))
      have S9 := Lib.hid ho9.seq
      refine hK.out _ _ (KE.out _ E1.out) (fun hHeld => ?_)
      clear hK K hb ho9 KY
      refine wpAnyH_take (i := 7) (v := ?_) rfl (by kernel_rfl) (by kernel_rfl) (by kernel_rfl) (fun _ _ _ h => h) (Or.inl ⟨by rfl, ?_⟩) hHeld ?_
      rotate_left
      · (intro w' hSw; (try dsimp only at hSw); go_simp; try with_reducible rfl)
      simp only [List.getElem_toArray, List.getElem_cons_zero, List.getElem_cons_succ, Act.put, List.setIfInBounds_toArray, List.set_cons_zero, List.set_cons_succ]
      refine wpAnyH_take (i := 8) (v := ?_) rfl (by kernel_rfl) (by kernel_rfl) (by kernel_rfl) (fun _ _ _ h => h) (Or.inl ⟨by rfl, ?_⟩) hHeld ?_
      rotate_left
      · (intro w' hSw; (try dsimp only at hSw); go_simp; try with_reducible rfl)
      simp only [List.getElem_toArray, List.getElem_cons_zero, List.getElem_cons_succ, Act.put, List.setIfInBounds_toArray, List.set_cons_zero, List.set_cons_succ]
      refine wpAnyH_take (i := 9) (v := ?_) rfl (by kernel_rfl) (by kernel_rfl) (by kernel_rfl) (fun _ _ _ h => h) (Or.inl ⟨by rfl, ?_⟩) hHeld ?_
      rotate_left
      · (intro w' hSw; (try dsimp only at hSw); go_simp; try with_reducible rfl)
      simp only [List.getElem_toArray, List.getElem_cons_zero, List.getElem_cons_succ, Act.put, List.setIfInBounds_toArray, List.set_cons_zero, List.set_cons_succ]
      refine wpAnyH_ready (rs := [10]) (by kernel_rfl) (by simp) ?_
      refine AllReadyH.cons rfl (fun K hK => ?_) AllReadyH.nil
      go_simp
      have hb := (Below.refl s1.heap.size s1).alloc (Nat.le_refl _) (.cells #[.slice none 0 0] 24)
      have NX := Lib.hid (ntb_new s1 #[.slice none 0 0] 24)
      have E2 := Lib.hid (E1.out.trans (hb.mono E1.out.size))
      replace S9 := Lib.hid (S9.out.below hb)
      have NF : Hid (uq27.heap.size ≤ s1.heap.size) := Lib.hid E1.out.size
      refine hK.out _ _ (KE.out _ E2.out) (fun hHeld => ?_)
      clear hK K hb E1
      generalize s1.heap.size = gx at *
      generalize (s1.alloc (.cells #[.slice none 0 0] 24)) = s2 at *
      obtain ⟨z0, z1⟩ := box_bare NX.out.blk 0
      simp only [List.getElem?_toArray, List.getElem?_cons_zero] at z0
      refine wpAnyH_ready (rs := [11]) (by kernel_rfl) (by simp) ?_
      refine AllReadyH.cons rfl (fun K hK => ?_) AllReadyH.nil
      go_simp
      have hb : Below uq27.heap.size uq27 (s2.setCell ⟨gx, 0, none⟩ (.slice a9 (0) c9)) := E2.out.setCell (by show uq27.heap.size ≤ gx; exact NF.out) _
      have NY : Hid (NtB (s2.setCell ⟨gx, 0, none⟩ (.slice a9 (0) c9)) gx #[.slice a9 (0) c9] 24) := Lib.hid ⟨heap_setCell_same s2 (gx) 0 _ _ _ NX.out.blk⟩
      have S10 : Hid (SeqE LPkt (s2.setCell ⟨gx, 0, none⟩ (.slice a9 (0) c9)) (.slice a9 (0) c9) ([])) := Lib.hid (seq_setNet S9.out NX.out)
      refine hK.out _ _ (KE.out _ hb) (fun hHeld => ?_)
      clear hK K z0 z1 NX S9 E2 NF
      generalize (s2.setCell ⟨gx, 0, none⟩ (.slice a9 (0) c9)) = s3 at *
      refine wpAnyH_take (i := 12) (v := ?_) rfl (by kernel_rfl) (by kernel_rfl) (by kernel_rfl) (fun _ _ _ h => h) (Or.inl ⟨by rfl, ?_⟩) hHeld ?_
      rotate_left
      · (intro w' hSw; (try dsimp only at hSw); go_simp; try with_reducible rfl)
      simp only [List.getElem_toArray, List.getElem_cons_zero, List.getElem_cons_succ, Act.put, List.setIfInBounds_toArray, List.set_cons_zero, List.set_cons_succ]
      refine wpAnyH_done (by kernel_rfl) ?_ _
      clear hHeld
      replace G := Lib.hid (G.out.trans (hb.mono G.out.size))
      replace XN := Lib.hid (XN.out.below hb)
      replace XP := Lib.hid (XP.out.below hb)
      replace SN := Lib.hid (SN.out.below hb)
      replace SP := Lib.hid (SP.out.below hb)
      replace SM := Lib.hid (SM.out.below hb)
      replace XM := Lib.hid (XM.out.below hb)
      replace D := Lib.hid (D.out.trans (hb.mono D.out.size))
      replace S6 := Lib.hid (S6.out.below hb)
      replace S7 := Lib.hid (S7.out.below hb)
      replace XQ := Lib.hid (XQ.out.below hb)
      replace XC := Lib.hid (XC.out.below hb)
      replace S8 := Lib.hid (S8.out.below hb)
      replace XD := Lib.hid (XD.out.below hb)
      clear hb KE
      go_upto_region 15 with fail
      have KE : Hid (∀ v, Below s3.heap.size s3 v → Below s3.heap.size s3 v ∧ v.cell? ⟨w.heap.size, 0, none⟩ = some (.slice (some ⟨lb, lo, none⟩) n cap) ∧ v.cell? ⟨gq5, 0, none⟩ = some (.slice am n cm) ∧ (v.cell? ⟨gq25, 0, none⟩ = some (.int .i64 q.frm) ∧ v.cell? ⟨gq25, 1, none⟩ = some (.int .i64 q.to) ∧ v.cell? ⟨gq25, 2, none⟩ = some (.slice b7 qn d7)) ∧ v.cell? ⟨gq25 + 1, 0, none⟩ = some (.slice a7 m c7) ∧ v.cell? ⟨gq28, 0, none⟩ = some (.slice a8 (0) c8) ∧ v.cell? ⟨gx, 0, none⟩ = some (.slice a9 (0) c9) ∧ (v.cell? ⟨lb, lo + k * 3, none⟩ = some (.int .i64 q.frm) ∧ v.cell? ⟨lb, lo + k * 3 + 1, none⟩ = some (.int .i64 q.to) ∧ v.cell? ⟨lb, lo + k * 3 + 2, none⟩ = some (.slice da dn dc))) := Lib.hid (fun v hb => ⟨hb, (XN.out.below hb).net, (XM.out.below hb).net, (XQ.out.below hb).pkt, (XC.out.below hb).net, (XD.out.below hb).net, (NY.out.below hb).net, (HW.out v (D.out.trans (hb.mono D.out.size))).1⟩)
      have KA := Lib.hid (fun v (hb : Below s3.heap.size s3 v) => rsamePk (p := q) (q := q) ⟨_, rfl, S7.out.below hb⟩ (HW.out v (D.out.trans (hb.mono D.out.size))).2.1 true (decide_eq_true rfl))
      have KB := Lib.hid (fun v (hb : Below s3.heap.size s3 v) => KO.out v (SN.out.below hb))
      have KC := Lib.hid (fun v o (hb : Below s3.heap.size s3 v) (h : SeqE LPkt v o ys) => rsameN ⟨_, rfl, S6.out.below hb⟩ ⟨_, rfl, h⟩ (by rw [LM.out]; exact LMN.out) true (decide_eq_true rfl))
      have KD := Lib.hid (fun v (hb : Below s3.heap.size s3 v) => rsameN (xs := []) (ys := []) ⟨_, rfl, S8.out.below hb⟩ ⟨_, rfl, S10.out.below hb⟩ (by rw [List.length_nil]; omega) true (decide_eq_true rfl))
      have KF := Lib.hid (fun v (hb : Below s3.heap.size s3 v) => rsameN ⟨_, rfl, SM.out.below hb⟩ ⟨_, rfl, SN.out.below hb⟩ (by rw [LN.out]; omega) true (decide_eq_true rfl))
      refine wp_region_held_drew (S := fun u' => Below s3.heap.size s3 u' ∧ u'.cell? ⟨w.heap.size, 0, none⟩ = some (.slice (some ⟨lb, lo, none⟩) n cap) ∧ u'.cell? ⟨gq5, 0, none⟩ = some (.slice am n cm) ∧ (u'.cell? ⟨gq25, 0, none⟩ = some (.int .i64 q.frm) ∧ u'.cell? ⟨gq25, 1, none⟩ = some (.int .i64 q.to) ∧ u'.cell? ⟨gq25, 2, none⟩ = some (.slice b7 qn d7)) ∧ u'.cell? ⟨gq25 + 1, 0, none⟩ = some (.slice a7 m c7) ∧ u'.cell? ⟨gq28, 0, none⟩ = some (.slice a8 (0) c8) ∧ u'.cell? ⟨gx, 0, none⟩ = some (.slice a9 (0) c9) ∧ (u'.cell? ⟨lb, lo + k * 3, none⟩ = some (.int .i64 q.frm) ∧ u'.cell? ⟨lb, lo + k * 3 + 1, none⟩ = some (.int .i64 q.to) ∧ u'.cell? ⟨lb, lo + k * 3 + 2, none⟩ = some (.slice da dn dc))) (by kernel_rfl) ?_ (fun hHeld => ?_)
      · (exact KE.out _ (Below.refl _ _).drew)
      simp only [List.size_toArray, List.length_cons, List.length_nil, Nat.zero_add, Nat.reduceAdd]
      refine wpAnyH_take (i := 0) (v := ?_) rfl (by kernel_rfl) (by kernel_rfl) (by kernel_rfl) (fun _ _ _ h => h) (Or.inl ⟨by rfl, ?_⟩) hHeld ?_
      rotate_left
      · (intro w' hSw; (try dsimp only at hSw); go_simp; try with_reducible rfl)
      simp only [List.getElem_toArray, List.getElem_cons_zero, Act.put, List.setIfInBounds_toArray, List.set_cons_zero, List.set_cons_succ]
      refine wpAnyH_take (i := 1) (v := ?_) rfl (by kernel_rfl) (by kernel_rfl) (by kernel_rfl) (fun _ _ _ h => h) (Or.inl ⟨by rfl, ?_⟩) hHeld ?_
      rotate_left
      · (intro w' hSw; (try dsimp only at hSw); go_simp; try with_reducible rfl)
      simp only [List.getElem_toArray, List.getElem_cons_zero, List.getElem_cons_succ, Act.put, List.setIfInBounds_toArray, List.set_cons_zero, List.set_cons_succ]
      refine wpAnyH_take (i := 2) (v := ?_) rfl (by kernel_rfl) (by kernel_rfl) (by kernel_rfl) (fun _ _ _ h => h) (Or.inl ⟨by rfl, ?_⟩) hHeld ?_
      rotate_left
      · (intro w' hSw; (try dsimp only at hSw); go_simp; try with_reducible rfl)
      simp only [List.getElem_toArray, List.getElem_cons_zero, List.getElem_cons_succ, Act.put, List.setIfInBounds_toArray, List.set_cons_zero, List.set_cons_succ]
      refine wpAnyH_take (i := 3) (v := ?_) rfl (by kernel_rfl) (by kernel_rfl) (by kernel_rfl) (fun _ _ _ h => h) (Or.inl ⟨by rfl, ?_⟩) hHeld ?_
      rotate_left
      · (intro w' hSw; (try dsimp only at hSw); go_simp; try with_reducible rfl)
      simp only [List.getElem_toArray, List.getElem_cons_zero, List.getElem_cons_succ, Act.put, List.setIfInBounds_toArray, List.set_cons_zero, List.set_cons_succ]
      refine wpAnyH_take (i := 4) (v := ?_) rfl (by kernel_rfl) (by kernel_rfl) (by kernel_rfl) (fun _ _ _ h => h) (Or.inl ⟨by rfl, ?_⟩) hHeld ?_
      rotate_left
      · (intro w' hSw; (try dsimp only at hSw); go_simp; try with_reducible rfl)
      simp only [List.getElem_toArray, List.getElem_cons_zero, List.getElem_cons_succ, Act.put, List.setIfInBounds_toArray, List.set_cons_zero, List.set_cons_succ]
      refine wpAnyH_take (i := 5) (v := ?_) rfl (by kernel_rfl) (by kernel_rfl) (by kernel_rfl) (fun _ _ _ h => h) (Or.inl ⟨by rfl, ?_⟩) hHeld ?_
      rotate_left
      · (intro w' hSw; (try dsimp only at hSw); go_simp; try with_reducible rfl)
      simp only [List.getElem_toArray, List.getElem_cons_zero, List.getElem_cons_succ, Act.put, List.setIfInBounds_toArray, List.set_cons_zero, List.set_cons_succ]
      refine wpAnyH_take (i := 6) (v := ?_) rfl (by kernel_rfl) (by kernel_rfl) (by kernel_rfl) (fun _ _ _ h => h) (Or.inl ⟨by rfl, ?_⟩) hHeld ?_
      rotate_left
      · (intro w' hSw; (try dsimp only at hSw); go_simp; try with_reducible rfl)
      simp only [List.getElem_toArray, List.getElem_cons_zero, List.getElem_cons_succ, Act.put, List.setIfInBounds_toArray, List.set_cons_zero, List.set_cons_succ]
      refine wpAnyH_take (i := 7) (v := ?_) rfl (by kernel_rfl) (by kernel_rfl) (by kernel_rfl) (fun _ _ _ h => h) (Or.inl ⟨by rfl, ?_⟩) hHeld ?_
      rotate_left
      · (intro w' hSw; (try dsimp only at hSw); go_simp; try with_reducible rfl)
      simp only [List.getElem_toArray, List.getElem_cons_zero, List.getElem_cons_succ, Act.put, List.setIfInBounds_toArray, List.set_cons_zero, List.set_cons_succ]
      refine wpAnyH_take (i := 8) (v := ?_) rfl (by kernel_rfl) (by kernel_rfl) (by kernel_rfl) (fun _ _ _ h => h) (Or.inl ⟨by rfl, ?_⟩) hHeld ?_
      rotate_left
      · (intro w' hSw; (try dsimp only at hSw); go_simp; try with_reducible rfl)
      simp only [List.getElem_toArray, List.getElem_cons_zero, List.getElem_cons_succ, Act.put, List.setIfInBounds_toArray, List.set_cons_zero, List.set_cons_succ]
      refine wpAnyH_ready (rs := [9]) (by kernel_rfl) (by simp) ?_
      refine AllReadyH.cons rfl (fun K hK => ?_) AllReadyH.nil
      go_simp
      refine (KA.out _ hHeld.1).mono ?_
      rintro e t1 ⟨rfl, hb⟩
      refine hK.out _ _ (KE.out _ (holdC hHeld hb)) (fun hHeld => ?_)
      clear hK K hb
      refine wpAnyH_take (i := 10) (v := ?_) rfl (by kernel_rfl) (by kernel_rfl) (by kernel_rfl) (fun _ _ _ h => h) (Or.inl ⟨by rfl, ?_⟩) hHeld ?_
      rotate_left
      · (intro w' hSw; (try dsimp only at hSw); go_simp; try with_reducible rfl)
      simp only [List.getElem_toArray, List.getElem_cons_zero, List.getElem_cons_succ, Act.put, List.setIfInBounds_toArray, List.set_cons_zero, List.set_cons_succ]
      refine wpAnyH_take (i := 11) (v := ?_) rfl (by kernel_rfl) (by kernel_rfl) (by kernel_rfl) (fun _ _ _ h => h) (Or.inl ⟨by rfl, ?_⟩) hHeld ?_
      rotate_left
      · (intro w' hSw; (try dsimp only at hSw); go_simp; try with_reducible rfl)
      simp only [List.getElem_toArray, List.getElem_cons_zero, List.getElem_cons_succ, Act.put, List.setIfInBounds_toArray, List.set_cons_zero, List.set_cons_succ]
      refine wpAnyH_take (i := 12) (v := ?_) rfl (by kernel_rfl) (by kernel_rfl) (by kernel_rfl) (fun _ _ _ h => h) (Or.inl ⟨by rfl, ?_⟩) hHeld ?_
      rotate_left
      · (intro w' hSw; (try dsimp only at hSw); go_simp; try with_reducible rfl)
      simp only [List.getElem_toArray, List.getElem_cons_zero, List.getElem_cons_succ, Act.put, List.setIfInBounds_toArray, List.set_cons_zero, List.set_cons_succ]
      refine wpAnyH_take (i := 13) (v := ?_) rfl (by kernel_rfl) (by kernel_rfl) (by kernel_rfl) (fun _ _ _ h => h) (Or.inl ⟨by rfl, ?_⟩) hHeld ?_
      rotate_left
      · (intro w' hSw; (try dsimp only at hSw); go_simp; try with_reducible rfl)
      simp only [List.getElem_toArray, List.getElem_cons_zero, List.getElem_cons_succ, Act.put, List.setIfInBounds_toArray, List.set_cons_zero, List.set_cons_succ]
      refine wpAnyH_take (i := 14) (v := ?_) rfl (by kernel_rfl) (by kernel_rfl) (by kernel_rfl) (fun _ _ _ h => h) (Or.inl ⟨by rfl, ?_⟩) hHeld ?_
      rotate_left
      · (intro w' hSw; (try dsimp only at hSw); go_simp; try with_reducible rfl)
      simp only [List.getElem_toArray, List.getElem_cons_zero, List.getElem_cons_succ, Act.put, List.setIfInBounds_toArray, List.set_cons_zero, List.set_cons_succ]
      refine wpAnyH_ready (rs := [15]) (by kernel_rfl) (by simp) ?_
      refine AllReadyH.cons rfl (fun K hK => ?_) AllReadyH.nil
      go_simp
      refine (KB.out _ hHeld.1).mono ?_
      rintro e t2 ⟨vo, rfl, hoo, hb⟩
      obtain ⟨ao, co, rfl, -, -, hoo⟩ := hoo.own.at m LM.out
      have SO := Lib.hid hoo.seq
      clear hoo
      refine hK.out _ _ (KE.out _ (holdC hHeld hb)) (fun hHeld => ?_)
      clear hK K hb
      refine wpAnyH_ready (rs := [16]) (by kernel_rfl) (by simp) ?_
      refine AllReadyH.cons rfl (fun K hK => ?_) AllReadyH.nil
      go_simp
      refine (KC.out _ _ hHeld.1 SO.out).mono ?_
      rintro e t3 ⟨rfl, hb⟩
      refine hK.out _ _ (KE.out _ (holdC hHeld hb)) (fun hHeld => ?_)
      clear hK K hb
      refine wpAnyH_take (i := 17) (v := ?_) rfl (by kernel_rfl) (by kernel_rfl) (by kernel_rfl) (fun _ _ _ h => h) (Or.inl ⟨by rfl, ?_⟩) hHeld ?_
      rotate_left
      · (intro w' hSw; (try dsimp only at hSw); go_simp; try with_reducible rfl)
      simp only [List.getElem_toArray, List.getElem_cons_zero, List.getElem_cons_succ, Act.put, List.setIfInBounds_toArray, List.set_cons_zero, List.set_cons_succ]
      refine wpAnyH_take (i := 18) (v := ?_) rfl (by kernel_rfl) (by kernel_rfl) (by kernel_rfl) (fun _ _ _ h => h) (Or.inl ⟨by rfl, ?_⟩) hHeld ?_
      rotate_left
      · (intro w' hSw; (try dsimp only at hSw); go_simp; try with_reducible rfl)
      simp only [List.getElem_toArray, List.getElem_cons_zero, List.getElem_cons_succ, Act.put, List.setIfInBounds_toArray, List.set_cons_zero, List.set_cons_succ]
      refine wpAnyH_take (i := 19) (v := ?_) rfl (by kernel_rfl) (by kernel_rfl) (by kernel_rfl) (fun _ _ _ h => h) (Or.inl ⟨by rfl, ?_⟩) hHeld ?_
      rotate_left
      · (intro w' hSw; (try dsimp only at hSw); go_simp; try with_reducible rfl)
      simp only [List.getElem_toArray, List.getElem_cons_zero, List.getElem_cons_succ, Act.put, List.setIfInBounds_toArray, List.set_cons_zero, List.set_cons_succ]
      refine wpAnyH_take (i := 20) (v := ?_) rfl (by kernel_rfl) (by kernel_rfl) (by kernel_rfl) (fun _ _ _ h => h) (Or.inl ⟨by rfl, ?_⟩) hHeld ?_
      rotate_left
      · (intro w' hSw; (try dsimp only at hSw); go_simp; try with_reducible rfl)
      simp only [List.getElem_toArray, List.getElem_cons_zero, List.getElem_cons_succ, Act.put, List.setIfInBounds_toArray, List.set_cons_zero, List.set_cons_succ]
      refine wpAnyH_take (i := 21) (v := ?_) rfl (by kernel_rfl) (by kernel_rfl) (by kernel_rfl) (fun _ _ _ h => h) (Or.inl ⟨by rfl, ?_⟩) hHeld ?_
      rotate_left
      · (intro w' hSw; (try dsimp only at hSw); go_simp; try with_reducible rfl)
      simp only [List.getElem_toArray, List.getElem_cons_zero, List.getElem_cons_succ, Act.put, List.setIfInBounds_toArray, List.set_cons_zero, List.set_cons_succ]
      refine wpAnyH_take (i := 22) (v := ?_) rfl (by kernel_rfl) (by kernel_rfl) (by kernel_rfl) (fun _ _ _ h => h) (Or.inl ⟨by rfl, ?_⟩) hHeld ?_
      rotate_left
      · (intro w' hSw; (try dsimp only at hSw); go_simp; try with_reducible rfl)
      simp only [List.getElem_toArray, List.getElem_cons_zero, List.getElem_cons_succ, Act.put, List.setIfInBounds_toArray, List.set_cons_zero, List.set_cons_succ]
      refine wpAnyH_take (i := 23) (v := ?_) rfl (by kernel_rfl) (by kernel_rfl) (by kernel_rfl) (fun _ _ _ h => h) (Or.inl ⟨by rfl, ?_⟩) hHeld ?_
      rotate_left
      · (intro w' hSw; (try dsimp only at hSw); go_simp; try with_reducible rfl)
      simp only [List.getElem_toArray, List.getElem_cons_zero, List.getElem_cons_succ, Act.put, List.setIfInBounds_toArray, List.set_cons_zero, List.set_cons_succ]
      refine wpAnyH_take (i := 24) (v := ?_) rfl (by kernel_rfl) (by kernel_rfl) (by kernel_rfl) (fun _ _ _ h => h) (Or.inl ⟨by rfl, ?_⟩) hHeld ?_
      rotate_left
      · (intro w' hSw; (try dsimp only at hSw); go_simp; try with_reducible rfl)
      simp only [List.getElem_toArray, List.getElem_cons_zero, List.getElem_cons_succ, Act.put, List.setIfInBounds_toArray, List.set_cons_zero, List.set_cons_succ]
      refine wpAnyH_take (i := 25) (v := ?_) rfl (by kernel_rfl) (by kernel_rfl) (by kernel_rfl) (fun _ _ _ h => h) (Or.inl ⟨by rfl, ?_⟩) hHeld ?_
      rotate_left
      · (intro w' hSw; (try dsimp only at hSw); go_simp; try with_reducible rfl)
      simp only [List.getElem_toArray, List.getElem_cons_zero, List.getElem_cons_succ, Act.put, List.setIfInBounds_toArray, List.set_cons_zero, List.set_cons_succ]
      refine wpAnyH_ready (rs := [26]) (by kernel_rfl) (by simp) ?_
      refine AllReadyH.cons rfl (fun K hK => ?_) AllReadyH.nil
      go_simp
      refine (KD.out _ hHeld.1).mono ?_
      rintro e t4 ⟨rfl, hb⟩
      refine hK.out _ _ (KE.out _ (holdC hHeld hb)) (fun hHeld => ?_)
      clear hK K hb
      refine wpAnyH_take (i := 27) (v := ?_) rfl (by kernel_rfl) (by kernel_rfl) (by kernel_rfl) (fun _ _ _ h => h) (Or.inl ⟨by rfl, ?_⟩) hHeld ?_
      rotate_left
      · (intro w' hSw; (try dsimp only at hSw); go_simp; try with_reducible rfl)
      simp only [List.getElem_toArray, List.getElem_cons_zero, List.getElem_cons_succ, Act.put, List.setIfInBounds_toArray, List.set_cons_zero, List.set_cons_succ]
      refine wpAnyH_take (i := 28) (v := ?_) rfl (by kernel_rfl) (by kernel_rfl) (by kernel_rfl) (fun _ _ _ h => h) (Or.inl ⟨by rfl, ?_⟩) hHeld ?_
      rotate_left
      · (intro w' hSw; (try dsimp only at hSw); go_simp; try with_reducible rfl)
      simp only [List.getElem_toArray, List.getElem_cons_zero, List.getElem_cons_succ, Act.put, List.setIfInBounds_toArray, List.set_cons_zero, List.set_cons_succ]
      refine wpAnyH_take (i := 29) (v := ?_) rfl (by kernel_rfl) (by kernel_rfl) (by kernel_rfl) (fun _ _ _ h => h) (Or.inl ⟨by rfl, ?_⟩) hHeld ?_
      rotate_left
      · (intro w' hSw; (try dsimp only at hSw); go_simp; try with_reducible rfl)
      simp only [List.getElem_toArray, List.getElem_cons_zero, List.getElem_cons_succ, Act.put, List.setIfInBounds_toArray, List.set_cons_zero, List.set_cons_succ]
      refine wpAnyH_take (i := 30) (v := ?_) rfl (by kernel_rfl) (by kernel_rfl) (by kernel_rfl) (fun _ _ _ h => h) (Or.inl ⟨by rfl, ?_⟩) hHeld ?_
      rotate_left
      · (intro w' hSw; (try dsimp only at hSw); go_simp; try with_reducible rfl)
      simp only [List.getElem_toArray, List.getElem_cons_zero, List.getElem_cons_succ, Act.put, List.setIfInBounds_toArray, List.set_cons_zero, List.set_cons_succ]
      refine wpAnyH_ready (rs := [31]) (by kernel_rfl) (by simp) ?_
      refine AllReadyH.cons rfl (fun K hK => ?_) AllReadyH.nil
      go_simp
      refine (KF.out _ hHeld.1).mono ?_
      rintro e t5 ⟨rfl, hb⟩
      refine hK.out _ _ (KE.out _ (holdC hHeld hb)) (fun hHeld => ?_)
      clear hK K hb
      refine wpAnyH_take (i := 32) (v := ?_) rfl (by kernel_rfl) (by kernel_rfl) (by kernel_rfl) (fun _ _ _ h => h) (Or.inl ⟨by rfl, ?_⟩) hHeld ?_
      rotate_left
      · (intro w' hSw; (try dsimp only at hSw); go_simp; try with_reducible rfl)
      simp only [List.getElem_toArray, List.getElem_cons_zero, List.getElem_cons_succ, Act.put, List.setIfInBounds_toArray, List.set_cons_zero, List.set_cons_succ]
      refine wpAnyH_take (i := 33) (v := ?_) rfl (by kernel_rfl) (by kernel_rfl) (by kernel_rfl) (fun _ _ _ h => h) (Or.inl ⟨by rfl, ?_⟩) hHeld ?_
      rotate_left
      · (intro w' hSw; (try dsimp only at hSw); go_simp; try with_reducible rfl)
      simp only [List.getElem_toArray, List.getElem_cons_zero, List.getElem_cons_succ, Act.put, List.setIfInBounds_toArray, List.set_cons_zero, List.set_cons_succ]
      refine wpAnyH_done (by kernel_rfl) ?_ _
      have hb : Below s3.heap.size s3 t5 := hHeld.1
      have GE := Lib.hid (G.out.trans (hb.mono G.out.size))
      clear hHeld hb
      go_wp2_with fail
      go_ret
      exact ⟨rfl, GE.out⟩
    · skip
      go_simp
      have hb : Below uq27.heap.size uq27 (uq27.alloc (.cells #[.slice none 0 0] 24)).drew := (Below.refl _ _).drew.alloc (Nat.le_refl _) _
      have NX : Hid (NtB (uq27.alloc (.cells #[.slice none 0 0] 24)).drew uq27.heap.size #[.slice none 0 0] 24) := Lib.hid (ntb_new uq27.drew #[.slice none 0 0] 24)
      have E1 := Lib.hid hb
      refine hK.out _ _ (KE.out _ hb) (fun hHeld => ?_)
      clear hK K hb
      have NF : Hid (uq27.heap.size ≤ uq27.heap.size) := Lib.hid (Nat.le_refl _)
      generalize (uq27.alloc (.cells #[.slice none 0 0] 24)).drew = s1 at *
      refine wpAnyH_ready (rs := [6]) (by kernel_rfl) (by simp) ?_
      refine AllReadyH.cons rfl (fun K hK => ?_) AllReadyH.nil
      go_simp
      refine (KY.out _ hHeld.1).mono ?_
      rintro e s2 ⟨v9, rfl, ho9, hb⟩
      obtain ⟨a9, c9, rfl, -, -, ho9⟩ := ho9.own.at (0) rfl
      have E2 := Lib.hid (E1.out.trans (hb.mono E1.out.size))
      have S9 := Lib.hid ho9.seq
      replace NX := Lib.hid (NX.out.below hb)
      refine hK.out _ _ (KE.out _ E2.out) (fun hHeld => ?_)
      clear hK K hb ho9 KY E1
      refine wpAnyH_take (i := 7) (v := ?_) rfl (by kernel_rfl) (by kernel_rfl) (by kernel_rfl) (fun _ _ _ h => h) (Or.inl ⟨by rfl, ?_⟩) hHeld ?_
      rotate_left
      · (intro w' hSw; (try dsimp only at hSw); go_simp; try with_reducible rfl)
      simp only [List.getElem_toArray, List.getElem_cons_zero, List.getElem_cons_succ, Act.put, List.setIfInBounds_toArray, List.set_cons_zero, List.set_cons_succ]
      refine wpAnyH_take (i := 8) (v := ?_) rfl (by kernel_rfl) (by kernel_rfl) (by kernel_rfl) (fun _ _ _ h => h) (Or.inl ⟨by rfl, ?_⟩) hHeld ?_
      rotate_left
      · (intro w' hSw; (try dsimp only at hSw); go_simp; try with_reducible rfl)
      simp only [List.getElem_toArray, List.getElem_cons_zero, List.getElem_cons_succ, Act.put, List.setIfInBounds_toArray, List.set_cons_zero, List.set_cons_succ]
      refine wpAnyH_take (i := 9) (v := ?_) rfl (by kernel_rfl) (by kernel_rfl) (by kernel_rfl) (fun _ _ _ h => h) (Or.inl ⟨by rfl, ?_⟩) hHeld ?_
      rotate_left
      · (intro w' hSw; (try dsimp only at hSw); go_simp; try with_reducible rfl)
      simp only [List.getElem_toArray, List.getElem_cons_zero, List.getElem_cons_succ, Act.put, List.setIfInBounds_toArray, List.set_cons_zero, List.set_cons_succ]
      obtain ⟨z0, z1⟩ := box_bare NX.out.blk 0
      simp only [List.getElem?_toArray, List.getElem?_cons_zero] at z0
      refine wpAnyH_ready (rs := [11]) (by kernel_rfl) (by simp) ?_
      refine AllReadyH.cons rfl (fun K hK => ?_) AllReadyH.nil
      go_simp
      have hb : Below uq27.heap.size uq27 (s2.setCell ⟨uq27.heap.size, 0, none⟩ (.slice a9 (0) c9)) := E2.out.setCell (by show uq27.heap.size ≤ uq27.heap.size; exact NF.out) _
      have NY : Hid (NtB (s2.setCell ⟨uq27.heap.size, 0, none⟩ (.slice a9 (0) c9)) uq27.heap.size #[.slice a9 (0) c9] 24) := Lib.hid ⟨heap_setCell_same s2 (uq27.heap.size) 0 _ _ _ NX.out.blk⟩
      have S10 : Hid (SeqE LPkt (s2.setCell ⟨uq27.heap.size, 0, none⟩ (.slice a9 (0) c9)) (.slice a9 (0) c9) ([])) := Lib.hid (seq_setNet S9.out NX.out)
      refine hK.out _ _ (KE.out _ hb) (fun hHeld => ?_)
      clear hK K z0 z1 NX S9 E2 NF
      generalize (s2.setCell ⟨uq27.heap.size, 0, none⟩ (.slice a9 (0) c9)) = s3 at *
      refine wpAnyH_take (i := 12) (v := ?_) rfl (by kernel_rfl) (by kernel_rfl) (by kernel_rfl) (fun _ _ _ h => h) (Or.inl ⟨by rfl, ?_⟩) hHeld ?_
      rotate_left
      · (intro w' hSw; (try dsimp only at hSw); go_simp; try with_reducible rfl)
      simp only [List.getElem_toArray, List.getElem_cons_zero, List.getElem_cons_succ, Act.put, List.setIfInBounds_toArray, List.set_cons_zero, List.set_cons_succ]
      refine wpAnyH_done (by kernel_rfl) ?_ _
      clear hHeld
      replace G := Lib.hid (G.out.trans (hb.mono G.out.size))
      replace XN := Lib.hid (XN.out.below hb)
      replace XP := Lib.hid (XP.out.below hb)
      replace SN := Lib.hid (SN.out.below hb)
      replace SP := Lib.hid (SP.out.below hb)
      replace SM := Lib.hid (SM.out.below hb)
      replace XM := Lib.hid (XM.out.below hb)
      replace D := Lib.hid (D.out.trans (hb.mono D.out.size))
      replace S6 := Lib.hid (S6.out.below hb)
      replace S7 := Lib.hid (S7.out.below hb)
      replace XQ := Lib.hid (XQ.out.below hb)
      replace XC := Lib.hid (XC.out.below hb)
      replace S8 := Lib.hid (S8.out.below hb)
      replace XD := Lib.hid (XD.out.below hb)
      clear hb KE
      go_upto_region 15 with fail
      have KE : Hid (∀ v, Below s3.heap.size s3 v → Below s3.heap.size s3 v ∧ v.cell? ⟨w.heap.size, 0, none⟩ = some (.slice (some ⟨lb, lo, none⟩) n cap) ∧ v.cell? ⟨gq5, 0, none⟩ = some (.slice am n cm) ∧ (v.cell? ⟨gq25, 0, none⟩ = some (.int .i64 q.frm) ∧ v.cell? ⟨gq25, 1, none⟩ = some (.int .i64 q.to) ∧ v.cell? ⟨gq25, 2, none⟩ = some (.slice b7 qn d7)) ∧ v.cell? ⟨gq25 + 1, 0, none⟩ = some (.slice a7 m c7) ∧ v.cell? ⟨gq28, 0, none⟩ = some (.slice a8 (0) c8) ∧ v.cell? ⟨uq27.heap.size, 0, none⟩ = some (.slice a9 (0) c9) ∧ (v.cell? ⟨lb, lo + k * 3, none⟩ = some (.int .i64 q.frm) ∧ v.cell? ⟨lb, lo + k * 3 + 1, none⟩ = some (.int .i64 q.to) ∧ v.cell? ⟨lb, lo + k * 3 + 2, none⟩ = some (.slice da dn dc))) := Lib.hid (fun v hb => ⟨hb, (XN.out.below hb).net, (XM.out.below hb).net, (XQ.out.below hb).pkt, (XC.out.below hb).net, (XD.out.below hb).net, (NY.out.below hb).net, (HW.out v (D.out.trans (hb.mono D.out.size))).1⟩)
      have KA := Lib.hid (fun v (hb : Below s3.heap.size s3 v) => rsamePk (p := q) (q := q) ⟨_, rfl, S7.out.below hb⟩ (HW.out v (D.out.trans (hb.mono D.out.size))).2.1 true (decide_eq_true rfl))
      have KB := Lib.hid (fun v (hb : Below s3.heap.size s3 v) => KO.out v (SN.out.below hb))
      have KC := Lib.hid (fun v o (hb : Below s3.heap.size s3 v) (h : SeqE LPkt v o ys) => rsameN ⟨_, rfl, S6.out.below hb⟩ ⟨_, rfl, h⟩ (by rw [LM.out]; exact LMN.out) true (decide_eq_true rfl))
      have KD := Lib.hid (fun v (hb : Below s3.heap.size s3 v) => rsameN (xs := []) (ys := []) ⟨_, rfl, S8.out.below hb⟩ ⟨_, rfl, S10.out.below hb⟩ (by rw [List.length_nil]; omega) true (decide_eq_true rfl))
      have KF := Lib.hid (fun v (hb : Below s3.heap.size s3 v) => rsameN ⟨_, rfl, SM.out.below hb⟩ ⟨_, rfl, SN.out.below hb⟩ (by rw [LN.out]; omega) true (decide_eq_true rfl))
      refine wp_region_held_drew (S := fun u' => Below s3.heap.size s3 u' ∧ u'.cell? ⟨w.heap.size, 0, none⟩ = some (.slice (some ⟨lb, lo, none⟩) n cap) ∧ u'.cell? ⟨gq5, 0, none⟩ = some (.slice am n cm) ∧ (u'.cell? ⟨gq25, 0, none⟩ = some (.int .i64 q.frm) ∧ u'.cell? ⟨gq25, 1, none⟩ = some (.int .i64 q.to) ∧ u'.cell? ⟨gq25, 2, none⟩ = some (.slice b7 qn d7)) ∧ u'.cell? ⟨gq25 + 1, 0, none⟩ = some (.slice a7 m c7) ∧ u'.cell? ⟨gq28, 0, none⟩ = some (.slice a8 (0) c8) ∧ u'.cell? ⟨uq27.heap.size, 0, none⟩ = some (.slice a9 (0) c9) ∧ (u'.cell? ⟨lb, lo + k * 3, none⟩ = some (.int .i64 q.frm) ∧ u'.cell? ⟨lb, lo + k * 3 + 1, none⟩ = some (.int .i64 q.to) ∧ u'.cell? ⟨lb, lo + k * 3 + 2, none⟩ = some (.slice da dn dc))) (by kernel_rfl) ?_ (fun hHeld => ?_)
      · (exact KE.out _ (Below.refl _ _).drew)
      simp only [List.size_toArray, List.length_cons, List.length_nil, Nat.zero_add, Nat.reduceAdd]
      refine wpAnyH_take (i := 0) (v := ?_) rfl (by kernel_rfl) (by kernel_rfl) (by kernel_rfl) (fun _ _ _ h => h) (Or.inl ⟨by rfl, ?_⟩) hHeld ?_
      rotate_left
      · (intro w' hSw; (try dsimp only at hSw); go_simp; try with_reducible rfl)
      simp only [List.getElem_toArray, List.getElem_cons_zero, Act.put, List.setIfInBounds_toArray, List.set_cons_zero, List.set_cons_succ]
      refine wpAnyH_take (i := 1) (v := ?_) rfl (by kernel_rfl) (by kernel_rfl) (by kernel_rfl) (fun _ _ _ h => h) (Or.inl ⟨by rfl, ?_⟩) hHeld ?_
      rotate_left
      · (intro w' hSw; (try dsimp only at hSw); go_simp; try with_reducible rfl)
      simp only [List.getElem_toArray, List.getElem_cons_zero, List.getElem_cons_succ, Act.put, List.setIfInBounds_toArray, List.set_cons_zero, List.set_cons_succ]
      refine wpAnyH_take (i := 2) (v := ?_) rfl (by kernel_rfl) (by kernel_rfl) (by kernel_rfl) (fun _ _ _ h => h) (Or.inl ⟨by rfl, ?_⟩) hHeld ?_
      rotate_left
      · (intro w' hSw; (try dsimp only at hSw); go_simp; try with_reducible rfl)
      simp only [List.getElem_toArray, List.getElem_cons_zero, List.getElem_cons_succ, Act.put, List.setIfInBounds_toArray, List.set_cons_zero, List.set_cons_succ]
      refine wpAnyH_take (i := 3) (v := ?_) rfl (by kernel_rfl) (by kernel_rfl) (by kernel_rfl) (fun _ _ _ h => h) (Or.inl ⟨by rfl, ?_⟩) hHeld ?_
      rotate_left
      · (intro w' hSw; (try dsimp only at hSw); go_simp; try with_reducible rfl)
      simp only [List.getElem_toArray, List.getElem_cons_zero, List.getElem_cons_succ, Act.put, List.setIfInBounds_toArray, List.set_cons_zero, List.set_cons_succ]
      refine wpAnyH_take (i := 4) (v := ?_) rfl (by kernel_rfl) (by kernel_rfl) (by kernel_rfl) (fun _ _ _ h => h) (Or.inl ⟨by rfl, ?_⟩) hHeld ?_
      rotate_left
      · (intro w' hSw; (try dsimp only at hSw); go_simp; try with_reducible rfl)
      simp only [List.getElem_toArray, List.getElem_cons_zero, List.getElem_cons_succ, Act.put, List.setIfInBounds_toArray, List.set_cons_zero, List.set_cons_succ]
      refine wpAnyH_take (i := 5) (v := ?_) rfl (by kernel_rfl) (by kernel_rfl) (by kernel_rfl) (fun _ _ _ h => h) (Or.inl ⟨by rfl, ?_⟩) hHeld ?_
      rotate_left
      · (intro w' hSw; (try dsimp only at hSw); go_simp; try with_reducible rfl)
      simp only [List.getElem_toArray, List.getElem_cons_zero, List.getElem_cons_succ, Act.put, List.setIfInBounds_toArray, List.set_cons_zero, List.set_cons_succ]
      refine wpAnyH_take (i := 6) (v := ?_) rfl (by kernel_rfl) (by kernel_rfl) (by kernel_rfl) (fun _ _ _ h => h) (Or.inl ⟨by rfl, ?_⟩) hHeld ?_
      rotate_left
      · (intro w' hSw; (try dsimp only at hSw); go_simp; try with_reducible rfl)
      simp only [List.getElem_toArray, List.getElem_cons_zero, List.getElem_cons_succ, Act.put, List.setIfInBounds_toArray, List.set_cons_zero, List.set_cons_succ]
      refine wpAnyH_take (i := 7) (v := ?_) rfl (by kernel_rfl) (by kernel_rfl) (by kernel_rfl) (fun _ _ _ h => h) (Or.inl ⟨by rfl, ?_⟩) hHeld ?_
      rotate_left
      · (intro w' hSw; (try dsimp only at hSw); go_simp; try with_reducible rfl)
      simp only [List.getElem_toArray, List.getElem_cons_zero, List.getElem_cons_succ, Act.put, List.setIfInBounds_toArray, List.set_cons_zero, List.set_cons_succ]
      refine wpAnyH_take (i := 8) (v := ?_) rfl (by kernel_rfl) (by kernel_rfl) (by kernel_rfl) (fun _ _ _ h => h) (Or.inl ⟨by rfl, ?_⟩) hHeld ?_
      rotate_left
      · (intro w' hSw; (try dsimp only at hSw); go_simp; try with_reducible rfl)
      simp only [List.getElem_toArray, List.getElem_cons_zero, List.getElem_cons_succ, Act.put, List.setIfInBounds_toArray, List.set_cons_zero, List.set_cons_succ]
      refine wpAnyH_ready (rs := [9]) (by kernel_rfl) (by simp) ?_
      refine AllReadyH.cons rfl (fun K hK => ?_) AllReadyH.nil
      go_simp
      refine (KA.out _ hHeld.1).mono ?_
      rintro e t1 ⟨rfl, hb⟩
      refine hK.out _ _ (KE.out _ (holdC hHeld hb)) (fun hHeld => ?_)
      clear hK K hb
      refine wpAnyH_take (i := 10) (v := ?_) rfl (by kernel_rfl) (by kernel_rfl) (by kernel_rfl) (fun _ _ _ h => h) (Or.inl ⟨by rfl, ?_⟩) hHeld ?_
      rotate_left
      · (intro w' hSw; (try dsimp only at hSw); go_simp; try with_reducible rfl)
      simp only [List.getElem_toArray, List.getElem_cons_zero, List.getElem_cons_succ, Act.put, List.setIfInBounds_toArray, List.set_cons_zero, List.set_cons_succ]
      refine wpAnyH_take (i := 11) (v := ?_) rfl (by kernel_rfl) (by kernel_rfl) (by kernel_rfl) (fun _ _ _ h => h) (Or.inl ⟨by rfl, ?_⟩) hHeld ?_
      rotate_left
      · (intro w' hSw; (try dsimp only at hSw); go_simp; try with_reducible rfl)
      simp only [List.getElem_toArray, List.getElem_cons_zero, List.getElem_cons_succ, Act.put, List.setIfInBounds_toArray, List.set_cons_zero, List.set_cons_succ]
      refine wpAnyH_take (i := 12) (v := ?_) rfl (by kernel_rfl) (by kernel_rfl) (by kernel_rfl) (fun _ _ _ h => h) (Or.inl ⟨by rfl, ?_⟩) hHeld ?_
      rotate_left
      · (intro w' hSw; (try dsimp only at hSw); go_simp; try with_reducible rfl)
      simp only [List.getElem_toArray, List.getElem_cons_zero, List.getElem_cons_succ, Act.put, List.setIfInBounds_toArray, List.set_cons_zero, List.set_cons_succ]
      refine wpAnyH_take (i := 13) (v := ?_) rfl (by kernel_rfl) (by kernel_rfl) (by kernel_rfl) (fun _ _ _ h => h) (Or.inl ⟨by rfl, ?_⟩) hHeld ?_
      rotate_left
      · (intro w' hSw; (try dsimp only at hSw); go_simp; try with_reducible rfl)
      simp only [List.getElem_toArray, List.getElem_cons_zero, List.getElem_cons_succ, Act.put, List.setIfInBounds_toArray, List.set_cons_zero, List.set_cons_succ]
      refine wpAnyH_take (i := 14) (v := ?_) rfl (by kernel_rfl) (by kernel_rfl) (by kernel_rfl) (fun _ _ _ h => h) (Or.inl ⟨by rfl, ?_⟩) hHeld ?_
      rotate_left
      · (intro w' hSw; (try dsimp only at hSw); go_simp; try with_reducible rfl)
      simp only [List.getElem_toArray, List.getElem_cons_zero, List.getElem_cons_succ, Act.put, List.setIfInBounds_toArray, List.set_cons_zero, List.set_cons_succ]
      refine wpAnyH_ready (rs := [15]) (by kernel_rfl) (by simp) ?_
      refine AllReadyH.cons rfl (fun K hK => ?_) AllReadyH.nil
      go_simp
      refine (KB.out _ hHeld.1).mono ?_
      rintro e t2 ⟨vo, rfl, hoo, hb⟩
      obtain ⟨ao, co, rfl, -, -, hoo⟩ := hoo.own.at m LM.out
      have SO := Lib.hid hoo.seq
      clear hoo
      refine hK.out _ _ (KE.out _ (holdC hHeld hb)) (fun hHeld => ?_)
      clear hK K hb
      refine wpAnyH_ready (rs := [16]) (by kernel_rfl) (by simp) ?_
      refine AllReadyH.cons rfl (fun K hK => ?_) AllReadyH.nil
      go_simp
      refine (KC.out _ _ hHeld.1 SO.out).mono ?_
      rintro e t3 ⟨rfl, hb⟩
      refine hK.out _ _ (KE.out _ (holdC hHeld hb)) (fun hHeld => ?_)
      clear hK K hb
      refine wpAnyH_take (i := 17) (v := ?_) rfl (by kernel_rfl) (by kernel_rfl) (by kernel_rfl) (fun _ _ _ h => h) (Or.inl ⟨by rfl, ?_⟩) hHeld ?_
      rotate_left
      · (intro w' hSw; (try dsimp only at hSw); go_simp; try with_reducible rfl)
      simp only [List.getElem_toArray, List.getElem_cons_zero, List.getElem_cons_succ, Act.put, List.setIfInBounds_toArray, List.set_cons_zero, List.set_cons_succ]
      refine wpAnyH_take (i := 18) (v := ?_) rfl (by kernel_rfl) (by kernel_rfl) (by kernel_rfl) (fun _ _ _ h => h) (Or.inl ⟨by rfl, ?_⟩) hHeld ?_
      rotate_left
      · (intro w' hSw; (try dsimp only at hSw); go_simp; try with_reducible rfl)
      simp only [List.getElem_toArray, List.getElem_cons_zero, List.getElem_cons_succ, Act.put, List.setIfInBounds_toArray, List.set_cons_zero, List.set_cons_succ]
      refine wpAnyH_take (i := 19) (v := ?_) rfl (by kernel_rfl) (by kernel_rfl) (by kernel_rfl) (fun _ _ _ h => h) (Or.inl ⟨by rfl, ?_⟩) hHeld ?_
      rotate_left
      · (intro w' hSw; (try dsimp only at hSw); go_simp; try with_reducible rfl)
      simp only [List.getElem_toArray, List.getElem_cons_zero, List.getElem_cons_succ, Act.put, List.setIfInBounds_toArray, List.set_cons_zero, List.set_cons_succ]
      refine wpAnyH_take (i := 20) (v := ?_) rfl (by kernel_rfl) (by kernel_rfl) (by kernel_rfl) (fun _ _ _ h => h) (Or.inl ⟨by rfl, ?_⟩) hHeld ?_
      rotate_left
      · (intro w' hSw; (try dsimp only at hSw); go_simp; try with_reducible rfl)
      simp only [List.getElem_toArray, List.getElem_cons_zero, List.getElem_cons_succ, Act.put, List.setIfInBounds_toArray, List.set_cons_zero, List.set_cons_succ]
      refine wpAnyH_take (i := 21) (v := ?_) rfl (by kernel_rfl) (by kernel_rfl) (by kernel_rfl) (fun _ _ _ h => h) (Or.inl ⟨by rfl, ?_⟩) hHeld ?_
      rotate_left
      · (intro w' hSw; (try dsimp only at hSw); go_simp; try with_reducible rfl)
      simp only [List.getElem_toArray, List.getElem_cons_zero, List.getElem_cons_succ, Act.put, List.setIfInBounds_toArray, List.set_cons_zero, List.set_cons_succ]
      refine wpAnyH_take (i := 22) (v := ?_) rfl (by kernel_rfl) (by kernel_rfl) (by kernel_rfl) (fun _ _ _ h => h) (Or.inl ⟨by rfl, ?_⟩) hHeld ?_
      rotate_left
      · (intro w' hSw; (try dsimp only at hSw); go_simp; try with_reducible rfl)
      simp only [List.getElem_toArray, List.getElem_cons_zero, List.getElem_cons_succ, Act.put, List.setIfInBounds_toArray, List.set_cons_zero, List.set_cons_succ]
      refine wpAnyH_take (i := 23) (v := ?_) rfl (by kernel_rfl) (by kernel_rfl) (by kernel_rfl) (fun _ _ _ h => h) (Or.inl ⟨by rfl, ?_⟩) hHeld ?_
      rotate_left
      · (intro w' hSw; (try dsimp only at hSw); go_simp; try with_reducible rfl)
      simp only [List.getElem_toArray, List.getElem_cons_zero, List.getElem_cons_succ, Act.put, List.setIfInBounds_toArray, List.set_cons_zero, List.set_cons_succ]
      refine wpAnyH_take (i := 24) (v := ?_) rfl (by kernel_rfl) (by kernel_rfl) (by kernel_rfl) (fun _ _ _ h => h) (Or.inl ⟨by rfl, ?_⟩) hHeld ?_
      rotate_left
      · (intro w' hSw; (try dsimp only at hSw); go_simp; try with_reducible rfl)
      simp only [List.getElem_toArray, List.getElem_cons_zero, List.getElem_cons_succ, Act.put, List.setIfInBounds_toArray, List.set_cons_zero, List.set_cons_succ]
      refine wpAnyH_take (i := 25) (v := ?_) rfl (by kernel_rfl) (by kernel_rfl) (by kernel_rfl) (fun _ _ _ h => h) (Or.inl ⟨by rfl, ?_⟩) hHeld ?_
      rotate_left
      · (intro w' hSw; (try dsimp only at hSw); go_simp; try with_reducible rfl)
      simp only [List.getElem_toArray, List.getElem_cons_zero, List.getElem_cons_succ, Act.put, List.setIfInBounds_toArray, List.set_cons_zero, List.set_cons_succ]
      refine wpAnyH_ready (rs := [26]) (by kernel_rfl) (by simp) ?_
      refine AllReadyH.cons rfl (fun K hK => ?_) AllReadyH.nil
      go_simp
      refine (KD.out _ hHeld.1).mono ?_
      rintro e t4 ⟨rfl, hb⟩
      refine hK.out _ _ (KE.out _ (holdC hHeld hb)) (fun hHeld => ?_)
      clear hK K hb
      refine wpAnyH_take (i := 27) (v := ?_) rfl (by kernel_rfl) (by kernel_rfl) (by kernel_rfl) (fun _ _ _ h => h) (Or.inl ⟨by rfl, ?_⟩) hHeld ?_
      rotate_left
      · (intro w' hSw; (try dsimp only at hSw); go_simp; try with_reducible rfl)
      simp only [List.getElem_toArray, List.getElem_cons_zero, List.getElem_cons_succ, Act.put, List.setIfInBounds_toArray, List.set_cons_zero, List.set_cons_succ]
      refine wpAnyH_take (i := 28) (v := ?_) rfl (by kernel_rfl) (by kernel_rfl) (by kernel_rfl) (fun _ _ _ h => h) (Or.inl ⟨by rfl, ?_⟩) hHeld ?_
      rotate_left
      · (intro w' hSw; (try dsimp only at hSw); go_simp; try with_reducible rfl)
      simp only [List.getElem_toArray, List.getElem_cons_zero, List.getElem_cons_succ, Act.put, List.setIfInBounds_toArray, List.set_cons_zero, List.set_cons_succ]
      refine wpAnyH_take (i := 29) (v := ?_) rfl (by kernel_rfl) (by kernel_rfl) (by kernel_rfl) (fun _ _ _ h => h) (Or.inl ⟨by rfl, ?_⟩) hHeld ?_
      rotate_left
      · (intro w' hSw; (try dsimp only at hSw); go_simp; try with_reducible rfl)
      simp only [List.getElem_toArray, List.getElem_cons_zero, List.getElem_cons_succ, Act.put, List.setIfInBounds_toArray, List.set_cons_zero, List.set_cons_succ]
      refine wpAnyH_take (i := 30) (v := ?_) rfl (by kernel_rfl) (by kernel_rfl) (by kernel_rfl) (fun _ _ _ h => h) (Or.inl ⟨by rfl, ?_⟩) hHeld ?_
      rotate_left
      · (intro w' hSw; (try dsimp only at hSw); go_simp; try with_reducible rfl)
      simp only [List.getElem_toArray, List.getElem_cons_zero, List.getElem_cons_succ, Act.put, List.setIfInBounds_toArray, List.set_cons_zero, List.set_cons_succ]
      refine wpAnyH_ready (rs := [31]) (by kernel_rfl) (by simp) ?_
      refine AllReadyH.cons rfl (fun K hK => ?_) AllReadyH.nil
      go_simp
      refine (KF.out _ hHeld.1).mono ?_
      rintro e t5 ⟨rfl, hb⟩
      refine hK.out _ _ (KE.out _ (holdC hHeld hb)) (fun hHeld => ?_)
      clear hK K hb
      refine wpAnyH_take (i := 32) (v := ?_) rfl (by kernel_rfl) (by kernel_rfl) (by kernel_rfl) (fun _ _ _ h => h) (Or.inl ⟨by rfl, ?_⟩) hHeld ?_
      rotate_left
      · (intro w' hSw; (try dsimp only at hSw); go_simp; try with_reducible rfl)
      simp only [List.getElem_toArray, List.getElem_cons_zero, List.getElem_cons_succ, Act.put, List.setIfInBounds_toArray, List.set_cons_zero, List.set_cons_succ]
      refine wpAnyH_take (i := 33) (v := ?_) rfl (by kernel_rfl) (by kernel_rfl) (by kernel_rfl) (fun _ _ _ h => h) (Or.inl ⟨by rfl, ?_⟩) hHeld ?_
      rotate_left
      · (intro w' hSw; (try dsimp only at hSw); go_simp; try with_reducible rfl)
      simp only [List.getElem_toArray, List.getElem_cons_zero, List.getElem_cons_succ, Act.put, List.setIfInBounds_toArray, List.set_cons_zero, List.set_cons_succ]
      refine wpAnyH_done (by kernel_rfl) ?_ _
      have hb : Below s3.heap.size s3 t5 := hHeld.1
      have GE := Lib.hid (G.out.trans (hb.mono G.out.size))
      clear hHeld hb
      go_wp2_with fail
      go_ret
      exact ⟨rfl, GE.out⟩
  have xm := XM.out.net
  obtain ⟨xp0, xp1, xp2⟩ := XP.out.pkt
  have KW := Lib.hid (ntsendP (f := p.frm) (t := p.to) ⟨_, rfl, SM.out⟩ SP.out (by rw [LN.out]; omega) HBY.out HPL.out)
  have LS : Hid ((xs ++ [p]).length = n + 1) := Lib.hid (by simp [LN.out])
  go_wp2_with fail
  refine (KW.out).mono ?_
  rintro e uq29 ⟨v5, rfl, ho, hb⟩
  replace G := Lib.hid (G.out.trans (hb.mono G.out.size))
  replace XN := Lib.hid (XN.out.below hb)
  replace XP := Lib.hid (XP.out.below hb)
  replace SN := Lib.hid (SN.out.below hb)
  replace SP := Lib.hid (SP.out.below hb)
  replace SM := Lib.hid (SM.out.below hb)
  replace XM := Lib.hid (XM.out.below hb)
  obtain ⟨a5, c5, rfl, -, -, ho5⟩ := ho.own.at (n + 1) LS.out
  have SA := Lib.hid ho5.seq
  clear hb ho ho5 KW xm xp0 xp1 xp2
  have hb := (Below.refl uq29.heap.size uq29).alloc (Nat.le_refl _) (.cells #[.slice a5 (n + 1) c5] 24)
  replace G := Lib.hid (G.out.trans (hb.mono G.out.size))
  replace XN := Lib.hid (XN.out.below hb)
  replace XP := Lib.hid (XP.out.below hb)
  replace SN := Lib.hid (SN.out.below hb)
  replace SP := Lib.hid (SP.out.below hb)
  replace SM := Lib.hid (SM.out.below hb)
  replace XM := Lib.hid (XM.out.below hb)
  replace SA := Lib.hid (SA.out.below hb)
  have XA := Lib.hid (ntb_new uq29 #[.slice a5 (n + 1) c5] 24)
  clear hb
  go_upto_region 7 with fail
  generalize hgq31 : uq29.heap.size = gq31 at XA ⊢
  clear hgq31
  generalize (uq29.alloc (.cells #[.slice a5 (n + 1) c5] 24)) = uq30 at *
  have xn := XN.out.net
  obtain ⟨xp0, xp1, xp2⟩ := XP.out.pkt
  have KW := Lib.hid (rsendN (p := p) ⟨_, rfl, SN.out⟩ ⟨_, rfl, SP.out⟩ (by rw [LN.out]; omega))
  go_wp2_with fail
  refine (KW.out).mono ?_
  rintro e uq32 ⟨v6, rfl, ho, hb⟩
  replace G := Lib.hid (G.out.trans (hb.mono G.out.size))
  replace XN := Lib.hid (XN.out.below hb)
  replace XP := Lib.hid (XP.out.below hb)
  replace SN := Lib.hid (SN.out.below hb)
  replace SP := Lib.hid (SP.out.below hb)
  replace SM := Lib.hid (SM.out.below hb)
  replace XM := Lib.hid (XM.out.below hb)
  replace SA := Lib.hid (SA.out.below hb)
  replace XA := Lib.hid (XA.out.below hb)
  obtain ⟨a6, c6, rfl, -, -, ho6⟩ := ho.own.at (n + 1) LS.out
  have SB := Lib.hid ho6.seq
  clear hb ho ho6 KW xn xp0 xp1 xp2
  have hb := (Below.refl uq32.heap.size uq32).alloc (Nat.le_refl _) (.cells #[.slice a6 (n + 1) c6] 24)
  replace G := Lib.hid (G.out.trans (hb.mono G.out.size))
  replace XN := Lib.hid (XN.out.below hb)
  replace XP := Lib.hid (XP.out.below hb)
  replace SN := Lib.hid (SN.out.below hb)
  replace SP := Lib.hid (SP.out.below hb)
  replace SM := Lib.hid (SM.out.below hb)
  replace XM := Lib.hid (XM.out.below hb)
  replace SA := Lib.hid (SA.out.below hb)
  replace XA := Lib.hid (XA.out.below hb)
  replace SB := Lib.hid (SB.out.below hb)
  have XB := Lib.hid (ntb_new uq32 #[.slice a6 (n + 1) c6] 24)
  clear hb
  go_upto_region 8 with fail
  generalize hgq34 : uq32.heap.size = gq34 at XB ⊢
  clear hgq34
  generalize (uq32.alloc (.cells #[.slice a6 (n + 1) c6] 24)) = uq33 at *
  have KA := Lib.hid (rsameN (xs := xs ++ [p]) (ys := xs ++ [p]) ⟨_, rfl, SA.out⟩ ⟨_, rfl, SB.out⟩ (by rw [LS.out]; omega) true (decide_eq_true rfl))
  have xa := XA.out.net
  have xb := XB.out.net
  go_wp2_with fail
  refine (KA.out).mono ?_
  rintro e uq35 ⟨rfl, hb⟩
  replace G := Lib.hid (G.out.trans (hb.mono G.out.size))
  replace XN := Lib.hid (XN.out.below hb)
  replace XP := Lib.hid (XP.out.below hb)
  replace SN := Lib.hid (SN.out.below hb)
  replace SP := Lib.hid (SP.out.below hb)
  replace SM := Lib.hid (SM.out.below hb)
  replace XM := Lib.hid (XM.out.below hb)
  replace SA := Lib.hid (SA.out.below hb)
  replace XA := Lib.hid (XA.out.below hb)
  replace SB := Lib.hid (SB.out.below hb)
  replace XB := Lib.hid (XB.out.below hb)
  clear hb KA xa xb
  by_cases hi : 0 ≤ i ∧ i < n
  rotate_left
  · have KT := Lib.hid (nttakeNo (i := i) ⟨_, rfl, SM.out⟩ (by rw [LN.out]; exact hi))
    have KW := Lib.hid (fun (u : World) (h : SeqE LPkt u (.slice am n cm) xs) => nttwiceNone (i := i) ⟨_, rfl, h⟩ (by rw [LN.out]; exact hi))
    have hin : i < 0 ∨ (n : Int) ≤ i := by omega
    clear hi
    have xm := XM.out.net
    go_wp2_with fail
    refine (KT.out).mono ?_
    rintro e uq36 ⟨bv, sv, rfl, hbv, hsv, hb⟩
    replace G := Lib.hid (G.out.trans (hb.mono G.out.size))
    replace XN := Lib.hid (XN.out.below hb)
    replace XP := Lib.hid (XP.out.below hb)
    replace SN := Lib.hid (SN.out.below hb)
    replace SP := Lib.hid (SP.out.below hb)
    replace SM := Lib.hid (SM.out.below hb)
    replace XM := Lib.hid (XM.out.below hb)
    obtain ⟨b7, d7, rfl, -, -, -, hbv⟩ := hbv.parts
    obtain ⟨a7, c7, rfl, -, -, -, hsv⟩ := hsv.parts
    have S7 := Lib.hid hbv
    clear hb hbv hsv KT xm
    have hb := ((Below.refl uq36.heap.size uq36).alloc (Nat.le_refl _) (.cells #[.int .i64 0, .int .i64 0, .slice b7 0 d7] 27)).alloc (by simp) (.cells #[.slice a7 0 c7] 24)
    replace G := Lib.hid (G.out.trans (hb.mono G.out.size))
    replace XN := Lib.hid (XN.out.below hb)
    replace XP := Lib.hid (XP.out.below hb)
    replace SN := Lib.hid (SN.out.below hb)
    replace SP := Lib.hid (SP.out.below hb)
    replace SM := Lib.hid (SM.out.below hb)
    replace XM := Lib.hid (XM.out.below hb)
    replace S7 := Lib.hid (S7.out.below hb)
    have PC := npair_heap uq36 #[.int .i64 0, .int .i64 0, .slice b7 0 d7] #[.slice a7 0 c7] 27 24
    have XQ := Lib.hid PC.1
    have XC := Lib.hid PC.2
    clear hb PC
    go_upto_region 11 with fail
    generalize hgq38 : uq36.heap.size = gq38 at XQ XC ⊢
    clear hgq38
    generalize ((uq36.alloc (.cells #[.int .i64 0, .int .i64 0, .slice b7 0 d7] 27)).alloc (.cells #[.slice a7 0 c7] 24)) = uq37 at *
    have xm := XM.out.net
    go_wp2_with fail
    refine (KW.out _ SM.out).mono ?_
    rintro e uq39 ⟨v8, rfl, ho, hb⟩
    replace G := Lib.hid (G.out.trans (hb.mono G.out.size))
    replace XN := Lib.hid (XN.out.below hb)
    replace XP := Lib.hid (XP.out.below hb)
    replace SN := Lib.hid (SN.out.below hb)
    replace SP := Lib.hid (SP.out.below hb)
    replace SM := Lib.hid (SM.out.below hb)
    replace XM := Lib.hid (XM.out.below hb)
    replace S7 := Lib.hid (S7.out.below hb)
    replace XQ := Lib.hid (XQ.out.below hb)
    replace XC := Lib.hid (XC.out.below hb)
    obtain ⟨a8, c8, rfl, -, -, ho8⟩ := ho.own.at 0 rfl
    clear hb ho ho8 KW xm
    have hb := (Below.refl uq39.heap.size uq39).alloc (Nat.le_refl _) (.cells #[.slice a8 0 c8] 24)
    replace G := Lib.hid (G.out.trans (hb.mono G.out.size))
    replace XN := Lib.hid (XN.out.below hb)
    replace XP := Lib.hid (XP.out.below hb)
    replace SN := Lib.hid (SN.out.below hb)
    replace SP := Lib.hid (SP.out.below hb)
    replace SM := Lib.hid (SM.out.below hb)
    replace XM := Lib.hid (XM.out.below hb)
    replace S7 := Lib.hid (S7.out.below hb)
    replace XQ := Lib.hid (XQ.out.below hb)
    replace XC := Lib.hid (XC.out.below hb)
    have XD := Lib.hid (ntb_new uq39 #[.slice a8 0 c8] 24)
    clear hb
    go_upto_region 12 with fail
    generalize hgq41 : uq39.heap.size = gq41 at XD ⊢
    clear hgq41
    generalize (uq39.alloc (.cells #[.slice a8 0 c8] 24)) = uq40 at *
    have xn := XN.out.net
    obtain ⟨xq0, xq1, xq2⟩ := XQ.out.pkt
    have KB : Hid (Calls Try.prog 14 #[.agg #[.int .i64 0, .int .i64 0, .slice b7 0 d7], .agg #[.int .i64 0, .int .i64 0, .slice none 0 0]] uq40 (GivesB uq40 true)) := Lib.hid (rsamePk (p := ⟨0, 0, []⟩) (q := ⟨0, 0, []⟩) ⟨_, rfl, S7.out⟩ ⟨_, rfl, SeqE.nil _⟩ true (decide_eq_true rfl))
    by_cases hneg : i < 0
    · have hge : i < 0 := hneg
      clear hin
      go_wp2_with fail
      refine (KB.out).mono ?_
      rintro e uq42 ⟨rfl, hb⟩
      replace G := Lib.hid (G.out.trans (hb.mono G.out.size))
      replace XN := Lib.hid (XN.out.below hb)
      replace XP := Lib.hid (XP.out.below hb)
      replace SN := Lib.hid (SN.out.below hb)
      replace SP := Lib.hid (SP.out.below hb)
      replace SM := Lib.hid (SM.out.below hb)
      replace XM := Lib.hid (XM.out.below hb)
      replace S7 := Lib.hid (S7.out.below hb)
      replace XQ := Lib.hid (XQ.out.below hb)
      replace XC := Lib.hid (XC.out.below hb)
      replace XD := Lib.hid (XD.out.below hb)
      clear hb KB xn xq0 xq1 xq2
      have xn := XN.out.net
      have xm := XM.out.net
      have xc := XC.out.net
      have xd := XD.out.net
      have KA := Lib.hid (rsameN ⟨_, rfl, SM.out⟩ ⟨_, rfl, SN.out⟩ (by rw [LN.out]; omega) true (decide_eq_true rfl))
      go_wp2_with fail
      refine (KA.out).mono ?_
      rintro e uq43 ⟨rfl, hb⟩
      replace G := Lib.hid (G.out.trans (hb.mono G.out.size))
      replace XN := Lib.hid (XN.out.below hb)
      replace XP := Lib.hid (XP.out.below hb)
      replace SN := Lib.hid (SN.out.below hb)
      replace SP := Lib.hid (SP.out.below hb)
      replace SM := Lib.hid (SM.out.below hb)
      replace XM := Lib.hid (XM.out.below hb)
      replace S7 := Lib.hid (S7.out.below hb)
      replace XQ := Lib.hid (XQ.out.below hb)
      replace XC := Lib.hid (XC.out.below hb)
      replace XD := Lib.hid (XD.out.below hb)
      clear hb KA
      go_wp2_with fail
      go_ret
      exact ⟨rfl, G.out⟩
    · have hge : (n : Int) ≤ i := by omega
      clear hin
      go_wp2_with fail
      refine (KB.out).mono ?_
      rintro e uq44 ⟨rfl, hb⟩
      replace G := Lib.hid (G.out.trans (hb.mono G.out.size))
      replace XN := Lib.hid (XN.out.below hb)
      replace XP := Lib.hid (XP.out.below hb)
      replace SN := Lib.hid (SN.out.below hb)
      replace SP := Lib.hid (SP.out.below hb)
      replace SM := Lib.hid (SM.out.below hb)
      replace XM := Lib.hid (XM.out.below hb)
      replace S7 := Lib.hid (S7.out.below hb)
      replace XQ := Lib.hid (XQ.out.below hb)
      replace XC := Lib.hid (XC.out.below hb)
      replace XD := Lib.hid (XD.out.below hb)
      clear hb KB xn xq0 xq1 xq2
      have xn := XN.out.net
      have xm := XM.out.net
      have xc := XC.out.net
      have xd := XD.out.net
      have KA := Lib.hid (rsameN ⟨_, rfl, SM.out⟩ ⟨_, rfl, SN.out⟩ (by rw [LN.out]; omega) true (decide_eq_true rfl))
      go_wp2_with fail
      refine (KA.out).mono ?_
      rintro e uq45 ⟨rfl, hb⟩
      replace G := Lib.hid (G.out.trans (hb.mono G.out.size))
      replace XN := Lib.hid (XN.out.below hb)
      replace XP := Lib.hid (XP.out.below hb)
      replace SN := Lib.hid (SN.out.below hb)
      replace SP := Lib.hid (SP.out.below hb)
      replace SM := Lib.hid (SM.out.below hb)
      replace XM := Lib.hid (XM.out.below hb)
      replace S7 := Lib.hid (S7.out.below hb)
      replace XQ := Lib.hid (XQ.out.below hb)
      replace XC := Lib.hid (XC.out.below hb)
      replace XD := Lib.hid (XD.out.below hb)
      clear hb KA
      go_wp2_with fail
      go_ret
      exact ⟨rfl, G.out⟩
  obtain ⟨hi0, hi1⟩ := hi
  obtain ⟨k, rfl⟩ := Int.eq_ofNat_of_zero_le hi0
  clear hi0 i1 i2
  have hkn : k < n := by omega
  obtain ⟨lb, lo, rfl, hc⟩ := pkts_at SN.out (by omega)
  obtain ⟨da, dn, dc, hW⟩ := hc k hkn
  have HW := Lib.hid hW
  have D := Lib.hid (Below.refl uq35.heap.size uq35)
  clear hc hW
  obtain ⟨ys, hys⟩ : ∃ ys, xs.eraseIdx k = ys := ⟨_, rfl⟩
  obtain ⟨m, hm⟩ : ∃ m, ys.length = m := ⟨_, rfl⟩
  have LM := Lib.hid hm
  have LMN : Hid (m ≤ 1000000) := Lib.hid (by rw [← hm, ← hys]; exact Nat.le_trans (List.eraseIdx_sublist _ _).length_le (by rw [LN.out]; omega))
  have HQ := Lib.hid (pk_bytes (show k < xs.length by rw [LN.out]; exact hkn) HBY.out)
  have KT := Lib.hid (nttakeP (i := k) ⟨_, rfl, SM.out⟩ (by rw [LN.out]; omega) (by rw [LN.out]; exact hkn) HBY.out)
  have KO := Lib.hid (fun (u : World) (h : SeqE LPkt u (.slice (some ⟨lb, lo, none⟩) n cap) xs) => rwithoutN (i := k) ⟨_, rfl, h⟩ (by rw [LN.out]; omega) (by rw [LN.out]; exact hkn))
  rw [hys] at KT KO
  have KW := Lib.hid (fun (u : World) (h : SeqE LPkt u (.slice am n cm) xs) => nttwiceP (i := k) ⟨_, rfl, h⟩ (by rw [LN.out]; omega) (by rw [LN.out]; exact hkn) HBY.out (xs ++ [pk xs k]) 0 (.inl ⟨by rw [LN.out]; omega, rfl, rfl⟩))
  have LQ : Hid ((xs ++ [pk xs k]).length = n + 1) := Lib.hid (by simp [LN.out])
  have KX := Lib.hid (fun (u : World) (h : SeqE LPkt u (.slice (some ⟨lb, lo, none⟩) n cap) xs) (pv : Value) (hp : IsPkt u pv (pk xs k)) => rsendN (p := pk xs k) ⟨_, rfl, h⟩ hp (by rw [LN.out]; omega))
  generalize pk xs k = q at *
  clear hys hm
  have xm := XM.out.net
  go_wp2_with fail
  refine (KT.out).mono ?_
  rintro e uq46 ⟨bv, sv, rfl, hbv, hsv, hb⟩
  replace G := Lib.hid (G.out.trans (hb.mono G.out.size))
  replace XN := Lib.hid (XN.out.below hb)
  replace XP := Lib.hid (XP.out.below hb)
  replace SN := Lib.hid (SN.out.below hb)
  replace SP := Lib.hid (SP.out.below hb)
  replace SM := Lib.hid (SM.out.below hb)
  replace XM := Lib.hid (XM.out.below hb)
  replace D := Lib.hid (D.out.trans (hb.mono D.out.size))
  obtain ⟨a7, c7, rfl, -, -, hsv7⟩ := hsv.own.at m LM.out
  have S6 := Lib.hid hsv7.seq
  obtain ⟨b7, d7, rfl, -, -, -, hbv⟩ := SeqE.parts (L := LByte) (hbv.mono fun b hb => hb.2)
  have S7 := Lib.hid hbv
  obtain ⟨qn, hqn⟩ : ∃ m, q.bytes.length = m := ⟨_, rfl⟩
  rw [hqn] at S7 ⊢
  clear hb hbv hsv hsv7 KT xm hqn
  have hb := ((Below.refl uq46.heap.size uq46).alloc (Nat.le_refl _) (.cells #[.int .i64 q.frm, .int .i64 q.to, .slice b7 qn d7] 27)).alloc (by simp) (.cells #[.slice a7 m c7] 24)
  replace G := Lib.hid (G.out.trans (hb.mono G.out.size))
  replace XN := Lib.hid (XN.out.below hb)
  replace XP := Lib.hid (XP.out.below hb)
  replace SN := Lib.hid (SN.out.below hb)
  replace SP := Lib.hid (SP.out.below hb)
  replace SM := Lib.hid (SM.out.below hb)
  replace XM := Lib.hid (XM.out.below hb)
  replace D := Lib.hid (D.out.trans (hb.mono D.out.size))
  replace S6 := Lib.hid (S6.out.below hb)
  replace S7 := Lib.hid (S7.out.below hb)
  have PC := npair_heap uq46 #[.int .i64 q.frm, .int .i64 q.to, .slice b7 qn d7] #[.slice a7 m c7] 27 24
  have XQ := Lib.hid PC.1
  have XC := Lib.hid PC.2
  clear hb PC
  go_upto_region 11 with fail
  generalize hgq48 : uq46.heap.size = gq48 at XQ XC ⊢
  clear hgq48
  generalize ((uq46.alloc (.cells #[.int .i64 q.frm, .int .i64 q.to, .slice b7 qn d7] 27)).alloc (.cells #[.slice a7 m c7] 24)) = uq47 at *
  have xm := XM.out.net
  go_wp2_with fail
  refine (KW.out _ SM.out).mono ?_
  rintro e uq49 ⟨v8, rfl, ho, hb⟩
  replace G := Lib.hid (G.out.trans (hb.mono G.out.size))
  replace XN := Lib.hid (XN.out.below hb)
  replace XP := Lib.hid (XP.out.below hb)
  replace SN := Lib.hid (SN.out.below hb)
  replace SP := Lib.hid (SP.out.below hb)
  replace SM := Lib.hid (SM.out.below hb)
  replace XM := Lib.hid (XM.out.below hb)
  replace D := Lib.hid (D.out.trans (hb.mono D.out.size))
  replace S6 := Lib.hid (S6.out.below hb)
  replace S7 := Lib.hid (S7.out.below hb)
  replace XQ := Lib.hid (XQ.out.below hb)
  replace XC := Lib.hid (XC.out.below hb)
  obtain ⟨a8, c8, rfl, -, -, ho8⟩ := ho.own.at (n + 1) LQ.out
  have S8 := Lib.hid ho8.seq
  clear hb ho ho8 KW xm
  have hb := (Below.refl uq49.heap.size uq49).alloc (Nat.le_refl _) (.cells #[.slice a8 (n + 1) c8] 24)
  replace G := Lib.hid (G.out.trans (hb.mono G.out.size))
  replace XN := Lib.hid (XN.out.below hb)
  replace XP := Lib.hid (XP.out.below hb)
  replace SN := Lib.hid (SN.out.below hb)
  replace SP := Lib.hid (SP.out.below hb)
  replace SM := Lib.hid (SM.out.below hb)
  replace XM := Lib.hid (XM.out.below hb)
  replace D := Lib.hid (D.out.trans (hb.mono D.out.size))
  replace S6 := Lib.hid (S6.out.below hb)
  replace S7 := Lib.hid (S7.out.below hb)
  replace XQ := Lib.hid (XQ.out.below hb)
  replace XC := Lib.hid (XC.out.below hb)
  replace S8 := Lib.hid (S8.out.below hb)
  have XD := Lib.hid (ntb_new uq49 #[.slice a8 (n + 1) c8] 24)
  clear hb
  go_upto_region 12 with fail
  generalize hgq51 : uq49.heap.size = gq51 at XD ⊢
  clear hgq51
  generalize (uq49.alloc (.cells #[.slice a8 (n + 1) c8] 24)) = uq50 at *
  have xn := XN.out.net
  have k0 : ¬ ((k : Int) < 0) := by omega
  have k1 : (k : Int) < n := by omega
  have k1b : ¬ ((n : Int) ≤ k) := by omega
  have k2 : (n : Int) ≤ cap := by omega
  have k3 : (cap : Int) ≤ 9223372036854775807 := by omega
  go_upto_region 14 with fail
  clear xn
  have KE : Hid (∀ v, Below uq50.heap.size uq50 v → Below uq50.heap.size uq50 v ∧ v.cell? ⟨w.heap.size, 0, none⟩ = some (.slice (some ⟨lb, lo, none⟩) n cap) ∧ (v.cell? ⟨lb, lo + k * 3, none⟩ = some (.int .i64 q.frm) ∧ v.cell? ⟨lb, lo + k * 3 + 1, none⟩ = some (.int .i64 q.to) ∧ v.cell? ⟨lb, lo + k * 3 + 2, none⟩ = some (.slice da dn dc))) := Lib.hid (fun v hb => ⟨hb, (XN.out.below hb).net, (HW.out v (D.out.trans (hb.mono D.out.size))).1⟩)
  have KY := Lib.hid (fun v (hb : Below uq50.heap.size uq50 v) => KX.out v (SN.out.below hb) _ (HW.out v (D.out.trans (hb.mono D.out.size))).2.1)
  clear KX
  refine wp_region_held_drew (S := fun u' => Below uq50.heap.size uq50 u' ∧ u'.cell? ⟨w.heap.size, 0, none⟩ = some (.slice (some ⟨lb, lo, none⟩) n cap) ∧ (u'.cell? ⟨lb, lo + k * 3, none⟩ = some (.int .i64 q.frm) ∧ u'.cell? ⟨lb, lo + k * 3 + 1, none⟩ = some (.int .i64 q.to) ∧ u'.cell? ⟨lb, lo + k * 3 + 2, none⟩ = some (.slice da dn dc))) (by kernel_rfl) ?_ (fun hHeld => ?_)
  · (exact KE.out _ (Below.refl _ _).drew)
  simp only [List.size_toArray, List.length_cons, List.length_nil, Nat.zero_add, Nat.reduceAdd]
  refine wpAnyH_take (i := 0) (v := ?_) rfl (by kernel_rfl) (by kernel_rfl) (by kernel_rfl) (fun _ _ _ h => h) (Or.inl ⟨by rfl, ?_⟩) hHeld ?_
  rotate_left
  · (intro w' hSw; (try dsimp only at hSw); go_simp; try with_reducible rfl)
  simp only [List.getElem_toArray, List.getElem_cons_zero, Act.put, List.setIfInBounds_toArray, List.set_cons_zero, List.set_cons_succ]
  refine wpAnyH_take (i := 1) (v := ?_) rfl (by kernel_rfl) (by kernel_rfl) (by kernel_rfl) (fun _ _ _ h => h) (Or.inl ⟨by rfl, ?_⟩) hHeld ?_
  rotate_left
  · (intro w' hSw; (try dsimp only at hSw); go_simp; try with_reducible rfl)
  simp only [List.getElem_toArray, List.getElem_cons_zero, List.getElem_cons_succ, Act.put, List.setIfInBounds_toArray, List.set_cons_zero, List.set_cons_succ]
  refine wpAnyH_take (i := 2) (v := ?_) rfl (by kernel_rfl) (by kernel_rfl) (by kernel_rfl) (fun _ _ _ h => h) (Or.inl ⟨by rfl, ?_⟩) hHeld ?_
  rotate_left
  · (intro w' hSw; (try dsimp only at hSw); go_simp; try with_reducible rfl)
  simp only [List.getElem_toArray, List.getElem_cons_zero, List.getElem_cons_succ, Act.put, List.setIfInBounds_toArray, List.set_cons_zero, List.set_cons_succ]
  refine wpAnyH_take (i := 3) (v := ?_) rfl (by kernel_rfl) (by kernel_rfl) (by kernel_rfl) (fun _ _ _ h => h) (Or.inl ⟨by rfl, ?_⟩) hHeld ?_
  rotate_left
  · (intro w' hSw; (try dsimp only at hSw); go_simp; try with_reducible rfl)
  simp only [List.getElem_toArray, List.getElem_cons_zero, List.getElem_cons_succ, Act.put, List.setIfInBounds_toArray, List.set_cons_zero, List.set_cons_succ]
  refine wpAnyH_take (i := 4) (v := ?_) rfl (by kernel_rfl) (by kernel_rfl) (by kernel_rfl) (fun _ _ _ h => h) (Or.inl ⟨by rfl, ?_⟩) hHeld ?_
  rotate_left
  · (intro w' hSw; (try dsimp only at hSw); go_simp; try with_reducible rfl)
  simp only [List.getElem_toArray, List.getElem_cons_zero, List.getElem_cons_succ, Act.put, List.setIfInBounds_toArray, List.set_cons_zero, List.set_cons_succ]
  refine wpAnyH_take (i := 5) (v := ?_) rfl (by kernel_rfl) (by kernel_rfl) (by kernel_rfl) (fun _ _ _ h => h) (Or.inl ⟨by rfl, ?_⟩) hHeld ?_
  rotate_left
  · (intro w' hSw; (try dsimp only at hSw); go_simp; try with_reducible rfl)
  simp only [List.getElem_toArray, List.getElem_cons_zero, List.getElem_cons_succ, Act.put, List.setIfInBounds_toArray, List.set_cons_zero, List.set_cons_succ]
  refine wpAnyH_ready (rs := [6, 10]) (by kernel_rfl) (by simp) ?_
  refine AllReadyH.cons rfl (fun K hK => ?_) (AllReadyH.cons rfl (fun K hK => ?_) AllReadyH.nil)
  · skip
    go_simp
    refine (KY.out _ hHeld.1).mono ?_
    rintro e s1 ⟨v9, rfl, ho9, hb⟩
    obtain ⟨a9, c9, rfl, -, -, ho9⟩ := ho9.own.at (n + 1) LQ.out
    have E1 : Hid (Below uq50.heap.size uq50 s1) := Lib.hid (hHeld.1.trans (hb.mono hHeld.1.size))
    have S9 := Lib.hid ho9.seq
    refine hK.out _ _ (KE.out _ E1.out) (fun hHeld => ?_)
    clear hK K hb ho9 KY
    refine wpAnyH_take (i := 7) (v := ?_) rfl (by kernel_rfl) (by kernel_rfl) (by kernel_rfl) (fun _ _ _ h => h) (Or.inl ⟨by rfl, ?_⟩) hHeld ?_
    rotate_left
    · (intro w' hSw; (try dsimp only at hSw); go_simp; try with_reducible rfl)
    simp only [List.getElem_toArray, List.getElem_cons_zero, List.getElem_cons_succ, Act.put, List.setIfInBounds_toArray, List.set_cons_zero, List.set_cons_succ]
    refine wpAnyH_take (i := 8) (v := ?_) rfl (by kernel_rfl) (by kernel_rfl) (by kernel_rfl) (fun _ _ _ h => h) (Or.inl ⟨by rfl, ?_⟩) hHeld ?_
    rotate_left
    · (intro w' hSw; (try dsimp only at hSw); go_simp; try with_reducible rfl)
    simp only [List.getElem_toArray, List.getElem_cons_zero, List.getElem_cons_succ, Act.put, List.setIfInBounds_toArray, List.set_cons_zero, List.set_cons_succ]
    refine wpAnyH_take (i := 9) (v := ?_) rfl (by kernel_rfl) (by kernel_rfl) (by kernel_rfl) (fun _ _ _ h => h) (Or.inl ⟨by rfl, ?_⟩) hHeld ?_
    rotate_left
    · (intro w' hSw; (try dsimp only at hSw); go_simp; try with_reducible rfl)
    simp only [List.getElem_toArray, List.getElem_cons_zero, List.getElem_cons_succ, Act.put, List.setIfInBounds_toArray, List.set_cons_zero, List.set_cons_succ]
    refine wpAnyH_ready (rs := [10]) (by kernel_rfl) (by simp) ?_
    refine AllReadyH.cons rfl (fun K hK => ?_) AllReadyH.nil
    go_simp
    have hb := (Below.refl s1.heap.size s1).alloc (Nat.le_refl _) (.cells #[.slice none 0 0] 24)
    have NX := Lib.hid (ntb_new s1 #[.slice none 0 0] 24)
    have E2 := Lib.hid (E1.out.trans (hb.mono E1.out.size))
    replace S9 := Lib.hid (S9.out.below hb)
    have NF : Hid (uq50.heap.size ≤ s1.heap.size) := Lib.hid E1.out.size
    refine hK.out _ _ (KE.out _ E2.out) (fun hHeld => ?_)
    clear hK K hb E1
    generalize s1.heap.size = gx at *
    generalize (s1.alloc (.cells #[.slice none 0 0] 24)) = s2 at *
    obtain ⟨z0, z1⟩ := box_bare NX.out.blk 0
    simp only [List.getElem?_toArray, List.getElem?_cons_zero] at z0
    refine wpAnyH_ready (rs := [11]) (by kernel_rfl) (by simp) ?_
    refine AllReadyH.cons rfl (fun K hK => ?_) AllReadyH.nil
    go_simp
    have hb : Below uq50.heap.size uq50 (s2.setCell ⟨gx, 0, none⟩ (.slice a9 (n + 1) c9)) := E2.out.setCell (by show uq50.heap.size ≤ gx; exact NF.out) _
    have NY : Hid (NtB (s2.setCell ⟨gx, 0, none⟩ (.slice a9 (n + 1) c9)) gx #[.slice a9 (n + 1) c9] 24) := Lib.hid ⟨heap_setCell_same s2 (gx) 0 _ _ _ NX.out.blk⟩
    have S10 : Hid (SeqE LPkt (s2.setCell ⟨gx, 0, none⟩ (.slice a9 (n + 1) c9)) (.slice a9 (n + 1) c9) (xs ++ [q])) := Lib.hid (seq_setNet S9.out NX.out)
    refine hK.out _ _ (KE.out _ hb) (fun hHeld => ?_)
    clear hK K z0 z1 NX S9 E2 NF
    generalize (s2.setCell ⟨gx, 0, none⟩ (.slice a9 (n + 1) c9)) = s3 at *
    refine wpAnyH_take (i := 12) (v := ?_) rfl (by kernel_rfl) (by kernel_rfl) (by kernel_rfl) (fun _ _ _ h => h) (Or.inl ⟨by rfl, ?_⟩) hHeld ?_
    rotate_left
    · (intro w' hSw; (try dsimp only at hSw); go_simp; try with_reducible rfl)
    simp only [List.getElem_toArray, List.getElem_cons_zero, List.getElem_cons_succ, Act.put, List.setIfInBounds_toArray, List.set_cons_zero, List.set_cons_succ]
    refine wpAnyH_done (by kernel_rfl) ?_ _
    clear hHeld
    replace G := Lib.hid (G.out.trans (hb.mono G.out.size))
    replace XN := Lib.hid (XN.out.below hb)
    replace XP := Lib.hid (XP.out.below hb)
    replace SN := Lib.hid (SN.out.below hb)
    replace SP := Lib.hid (SP.out.below hb)
    replace SM := Lib.hid (SM.out.below hb)
    replace XM := Lib.hid (XM.out.below hb)
    replace D := Lib.hid (D.out.trans (hb.mono D.out.size))
    replace S6 := Lib.hid (S6.out.below hb)
    replace S7 := Lib.hid (S7.out.below hb)
    replace XQ := Lib.hid (XQ.out.below hb)
    replace XC := Lib.hid (XC.out.below hb)
    replace S8 := Lib.hid (S8.out.below hb)
    replace XD := Lib.hid (XD.out.below hb)
    clear hb KE
    go_upto_region 15 with fail
    have KE : Hid (∀ v, Below s3.heap.size s3 v → Below s3.heap.size s3 v ∧ v.cell? ⟨w.heap.size, 0, none⟩ = some (.slice (some ⟨lb, lo, none⟩) n cap) ∧ v.cell? ⟨gq5, 0, none⟩ = some (.slice am n cm) ∧ (v.cell? ⟨gq48, 0, none⟩ = some (.int .i64 q.frm) ∧ v.cell? ⟨gq48, 1, none⟩ = some (.int .i64 q.to) ∧ v.cell? ⟨gq48, 2, none⟩ = some (.slice b7 qn d7)) ∧ v.cell? ⟨gq48 + 1, 0, none⟩ = some (.slice a7 m c7) ∧ v.cell? ⟨gq51, 0, none⟩ = some (.slice a8 (n + 1) c8) ∧ v.cell? ⟨gx, 0, none⟩ = some (.slice a9 (n + 1) c9) ∧ (v.cell? ⟨lb, lo + k * 3, none⟩ = some (.int .i64 q.frm) ∧ v.cell? ⟨lb, lo + k * 3 + 1, none⟩ = some (.int .i64 q.to) ∧ v.cell? ⟨lb, lo + k * 3 + 2, none⟩ = some (.slice da dn dc))) := Lib.hid (fun v hb => ⟨hb, (XN.out.below hb).net, (XM.out.below hb).net, (XQ.out.below hb).pkt, (XC.out.below hb).net, (XD.out.below hb).net, (NY.out.below hb).net, (HW.out v (D.out.trans (hb.mono D.out.size))).1⟩)
    have KA := Lib.hid (fun v (hb : Below s3.heap.size s3 v) => rsamePk (p := q) (q := q) ⟨_, rfl, S7.out.below hb⟩ (HW.out v (D.out.trans (hb.mono D.out.size))).2.1 true (decide_eq_true rfl))
    have KB := Lib.hid (fun v (hb : Below s3.heap.size s3 v) => KO.out v (SN.out.below hb))
    have KC := Lib.hid (fun v o (hb : Below s3.heap.size s3 v) (h : SeqE LPkt v o ys) => rsameN ⟨_, rfl, S6.out.below hb⟩ ⟨_, rfl, h⟩ (by rw [LM.out]; exact LMN.out) true (decide_eq_true rfl))
    have KD := Lib.hid (fun v (hb : Below s3.heap.size s3 v) => rsameN (xs := xs ++ [q]) (ys := xs ++ [q]) ⟨_, rfl, S8.out.below hb⟩ ⟨_, rfl, S10.out.below hb⟩ (by rw [LQ.out]; omega) true (decide_eq_true rfl))
    have KF := Lib.hid (fun v (hb : Below s3.heap.size s3 v) => rsameN ⟨_, rfl, SM.out.below hb⟩ ⟨_, rfl, SN.out.below hb⟩ (by rw [LN.out]; omega) true (decide_eq_true rfl))
    refine wp_region_held_drew (S := fun u' => Below s3.heap.size s3 u' ∧ u'.cell? ⟨w.heap.size, 0, none⟩ = some (.slice (some ⟨lb, lo, none⟩) n cap) ∧ u'.cell? ⟨gq5, 0, none⟩ = some (.slice am n cm) ∧ (u'.cell? ⟨gq48, 0, none⟩ = some (.int .i64 q.frm) ∧ u'.cell? ⟨gq48, 1, none⟩ = some (.int .i64 q.to) ∧ u'.cell? ⟨gq48, 2, none⟩ = some (.slice b7 qn d7)) ∧ u'.cell? ⟨gq48 + 1, 0, none⟩ = some (.slice a7 m c7) ∧ u'.cell? ⟨gq51, 0, none⟩ = some (.slice a8 (n + 1) c8) ∧ u'.cell? ⟨gx, 0, none⟩ = some (.slice a9 (n + 1) c9) ∧ (u'.cell? ⟨lb, lo + k * 3, none⟩ = some (.int .i64 q.frm) ∧ u'.cell? ⟨lb, lo + k * 3 + 1, none⟩ = some (.int .i64 q.to) ∧ u'.cell? ⟨lb, lo + k * 3 + 2, none⟩ = some (.slice da dn dc))) (by kernel_rfl) ?_ (fun hHeld => ?_)
    · (exact KE.out _ (Below.refl _ _).drew)
    simp only [List.size_toArray, List.length_cons, List.length_nil, Nat.zero_add, Nat.reduceAdd]
    refine wpAnyH_take (i := 0) (v := ?_) rfl (by kernel_rfl) (by kernel_rfl) (by kernel_rfl) (fun _ _ _ h => h) (Or.inl ⟨by rfl, ?_⟩) hHeld ?_
    rotate_left
    · (intro w' hSw; (try dsimp only at hSw); go_simp; try with_reducible rfl)
    simp only [List.getElem_toArray, List.getElem_cons_zero, Act.put, List.setIfInBounds_toArray, List.set_cons_zero, List.set_cons_succ]
    refine wpAnyH_take (i := 1) (v := ?_) rfl (by kernel_rfl) (by kernel_rfl) (by kernel_rfl) (fun _ _ _ h => h) (Or.inl ⟨by rfl, ?_⟩) hHeld ?_
    rotate_left
    · (intro w' hSw; (try dsimp only at hSw); go_simp; try with_reducible rfl)
    simp only [List.getElem_toArray, List.getElem_cons_zero, List.getElem_cons_succ, Act.put, List.setIfInBounds_toArray, List.set_cons_zero, List.set_cons_succ]
    refine wpAnyH_take (i := 2) (v := ?_) rfl (by kernel_rfl) (by kernel_rfl) (by kernel_rfl) (fun _ _ _ h => h) (Or.inl ⟨by rfl, ?_⟩) hHeld ?_
    rotate_left
    · (intro w' hSw; (try dsimp only at hSw); go_simp; try with_reducible rfl)
    simp only [List.getElem_toArray, List.getElem_cons_zero, List.getElem_cons_succ, Act.put, List.setIfInBounds_toArray, List.set_cons_zero, List.set_cons_succ]
    refine wpAnyH_take (i := 3) (v := ?_) rfl (by kernel_rfl) (by kernel_rfl) (by kernel_rfl) (fun _ _ _ h => h) (Or.inl ⟨by rfl, ?_⟩) hHeld ?_
    rotate_left
    · (intro w' hSw; (try dsimp only at hSw); go_simp; try with_reducible rfl)
    simp only [List.getElem_toArray, List.getElem_cons_zero, List.getElem_cons_succ, Act.put, List.setIfInBounds_toArray, List.set_cons_zero, List.set_cons_succ]
    refine wpAnyH_take (i := 4) (v := ?_) rfl (by kernel_rfl) (by kernel_rfl) (by kernel_rfl) (fun _ _ _ h => h) (Or.inl ⟨by rfl, ?_⟩) hHeld ?_
    rotate_left
    · (intro w' hSw; (try dsimp only at hSw); go_simp; try with_reducible rfl)
    simp only [List.getElem_toArray, List.getElem_cons_zero, List.getElem_cons_succ, Act.put, List.setIfInBounds_toArray, List.set_cons_zero, List.set_cons_succ]
    refine wpAnyH_take (i := 5) (v := ?_) rfl (by kernel_rfl) (by kernel_rfl) (by kernel_rfl) (fun _ _ _ h => h) (Or.inl ⟨by rfl, ?_⟩) hHeld ?_
    rotate_left
    · (intro w' hSw; (try dsimp only at hSw); go_simp; try with_reducible rfl)
    simp only [List.getElem_toArray, List.getElem_cons_zero, List.getElem_cons_succ, Act.put, List.setIfInBounds_toArray, List.set_cons_zero, List.set_cons_succ]
    refine wpAnyH_take (i := 6) (v := ?_) rfl (by kernel_rfl) (by kernel_rfl) (by kernel_rfl) (fun _ _ _ h => h) (Or.inl ⟨by rfl, ?_⟩) hHeld ?_
    rotate_left
    · (intro w' hSw; (try dsimp only at hSw); go_simp; try with_reducible rfl)
    simp only [List.getElem_toArray, List.getElem_cons_zero, List.getElem_cons_succ, Act.put, List.setIfInBounds_toArray, List.set_cons_zero, List.set_cons_succ]
    refine wpAnyH_take (i := 7) (v := ?_) rfl (by kernel_rfl) (by kernel_rfl) (by kernel_rfl) (fun _ _ _ h => h) (Or.inl ⟨by rfl, ?_⟩) hHeld ?_
    rotate_left
    · (intro w' hSw; (try dsimp only at hSw); go_simp; try with_reducible rfl)
    simp only [List.getElem_toArray, List.getElem_cons_zero, List.getElem_cons_succ, Act.put, List.setIfInBounds_toArray, List.set_cons_zero, List.set_cons_succ]
    refine wpAnyH_take (i := 8) (v := ?_) rfl (by kernel_rfl) (by kernel_rfl) (by kernel_rfl) (fun _ _ _ h => h) (Or.inl ⟨by rfl, ?_⟩) hHeld ?_
    rotate_left
    · (intro w' hSw; (try dsimp only at hSw); go_simp; try with_reducible rfl)
    simp only [List.getElem_toArray, List.getElem_cons_zero, List.getElem_cons_succ, Act.put, List.setIfInBounds_toArray, List.set_cons_zero, List.set_cons_succ]
    refine wpAnyH_ready (rs := [9]) (by kernel_rfl) (by simp) ?_
    refine AllReadyH.cons rfl (fun K hK => ?_) AllReadyH.nil
    go_simp
    refine (KA.out _ hHeld.1).mono ?_
    rintro e t1 ⟨rfl, hb⟩
    refine hK.out _ _ (KE.out _ (holdC hHeld hb)) (fun hHeld => ?_)
    clear hK K hb
    refine wpAnyH_take (i := 10) (v := ?_) rfl (by kernel_rfl) (by kernel_rfl) (by kernel_rfl) (fun _ _ _ h => h) (Or.inl ⟨by rfl, ?_⟩) hHeld ?_
    rotate_left
    · (intro w' hSw; (try dsimp only at hSw); go_simp; try with_reducible rfl)
    simp only [List.getElem_toArray, List.getElem_cons_zero, List.getElem_cons_succ, Act.put, List.setIfInBounds_toArray, List.set_cons_zero, List.set_cons_succ]
    refine wpAnyH_take (i := 11) (v := ?_) rfl (by kernel_rfl) (by kernel_rfl) (by kernel_rfl) (fun _ _ _ h => h) (Or.inl ⟨by rfl, ?_⟩) hHeld ?_
    rotate_left
    · (intro w' hSw; (try dsimp only at hSw); go_simp; try with_reducible rfl)
    simp only [List.getElem_toArray, List.getElem_cons_zero, List.getElem_cons_succ, Act.put, List.setIfInBounds_toArray, List.set_cons_zero, List.set_cons_succ]
    refine wpAnyH_take (i := 12) (v := ?_) rfl (by kernel_rfl) (by kernel_rfl) (by kernel_rfl) (fun _ _ _ h => h) (Or.inl ⟨by rfl, ?_⟩) hHeld ?_
    rotate_left
    · (intro w' hSw; (try dsimp only at hSw); go_simp; try with_reducible rfl)
    simp only [List.getElem_toArray, List.getElem_cons_zero, List.getElem_cons_succ, Act.put, List.setIfInBounds_toArray, List.set_cons_zero, List.set_cons_succ]
    refine wpAnyH_take (i := 13) (v := ?_) rfl (by kernel_rfl) (by kernel_rfl) (by kernel_rfl) (fun _ _ _ h => h) (Or.inl ⟨by rfl, ?_⟩) hHeld ?_
    rotate_left
    · (intro w' hSw; (try dsimp only at hSw); go_simp; try with_reducible rfl)
    simp only [List.getElem_toArray, List.getElem_cons_zero, List.getElem_cons_succ, Act.put, List.setIfInBounds_toArray, List.set_cons_zero, List.set_cons_succ]
    refine wpAnyH_take (i := 14) (v := ?_) rfl (by kernel_rfl) (by kernel_rfl) (by kernel_rfl) (fun _ _ _ h => h) (Or.inl ⟨by rfl, ?_⟩) hHeld ?_
    rotate_left
    · (intro w' hSw; (try dsimp only at hSw); go_simp; try with_reducible rfl)
    simp only [List.getElem_toArray, List.getElem_cons_zero, List.getElem_cons_succ, Act.put, List.setIfInBounds_toArray, List.set_cons_zero, List.set_cons_succ]
    refine wpAnyH_ready (rs := [15]) (by kernel_rfl) (by simp) ?_
    refine AllReadyH.cons rfl (fun K hK => ?_) AllReadyH.nil
    go_simp
    refine (KB.out _ hHeld.1).mono ?_
    rintro e t2 ⟨vo, rfl, hoo, hb⟩
    obtain ⟨ao, co, rfl, -, -, hoo⟩ := hoo.own.at m LM.out
    have SO := Lib.hid hoo.seq
    clear hoo
    refine hK.out _ _ (KE.out _ (holdC hHeld hb)) (fun hHeld => ?_)
    clear hK K hb
    refine wpAnyH_ready (rs := [16]) (by kernel_rfl) (by simp) ?_
    refine AllReadyH.cons rfl (fun K hK => ?_) AllReadyH.nil
    go_simp
    refine (KC.out _ _ hHeld.1 SO.out).mono ?_
    rintro e t3 ⟨rfl, hb⟩
    refine hK.out _ _ (KE.out _ (holdC hHeld hb)) (fun hHeld => ?_)
    clear hK K hb
    refine wpAnyH_take (i := 17) (v := ?_) rfl (by kernel_rfl) (by kernel_rfl) (by kernel_rfl) (fun _ _ _ h => h) (Or.inl ⟨by rfl, ?_⟩) hHeld ?_
    rotate_left
    · (intro w' hSw; (try dsimp only at hSw); go_simp; try with_reducible rfl)
    simp only [List.getElem_toArray, List.getElem_cons_zero, List.getElem_cons_succ, Act.put, List.setIfInBounds_toArray, List.set_cons_zero, List.set_cons_succ]
    refine wpAnyH_take (i := 18) (v := ?_) rfl (by kernel_rfl) (by kernel_rfl) (by kernel_rfl) (fun _ _ _ h => h) (Or.inl ⟨by rfl, ?_⟩) hHeld ?_
    rotate_left
    · (intro w' hSw; (try dsimp only at hSw); go_simp; try with_reducible rfl)
    simp only [List.getElem_toArray, List.getElem_cons_zero, List.getElem_cons_succ, Act.put, List.setIfInBounds_toArray, List.set_cons_zero, List.set_cons_succ]
    refine wpAnyH_take (i := 19) (v := ?_) rfl (by kernel_rfl) (by kernel_rfl) (by kernel_rfl) (fun _ _ _ h => h) (Or.inl ⟨by rfl, ?_⟩) hHeld ?_
    rotate_left
    · (intro w' hSw; (try dsimp only at hSw); go_simp; try with_reducible rfl)
    simp only [List.getElem_toArray, List.getElem_cons_zero, List.getElem_cons_succ, Act.put, List.setIfInBounds_toArray, List.set_cons_zero, List.set_cons_succ]
    refine wpAnyH_take (i := 20) (v := ?_) rfl (by kernel_rfl) (by kernel_rfl) (by kernel_rfl) (fun _ _ _ h => h) (Or.inl ⟨by rfl, ?_⟩) hHeld ?_
    rotate_left
    · (intro w' hSw; (try dsimp only at hSw); go_simp; try with_reducible rfl)
    simp only [List.getElem_toArray, List.getElem_cons_zero, List.getElem_cons_succ, Act.put, List.setIfInBounds_toArray, List.set_cons_zero, List.set_cons_succ]
    refine wpAnyH_take (i := 21) (v := ?_) rfl (by kernel_rfl) (by kernel_rfl) (by kernel_rfl) (fun _ _ _ h => h) (Or.inl ⟨by rfl, ?_⟩) hHeld ?_
    rotate_left
    · (intro w' hSw; (try dsimp only at hSw); go_simp; try with_reducible rfl)
    simp only [List.getElem_toArray, List.getElem_cons_zero, List.getElem_cons_succ, Act.put, List.setIfInBounds_toArray, List.set_cons_zero, List.set_cons_succ]
    refine wpAnyH_take (i := 22) (v := ?_) rfl (by kernel_rfl) (by kernel_rfl) (by kernel_rfl) (fun _ _ _ h => h) (Or.inl ⟨by rfl, ?_⟩) hHeld ?_
    rotate_left
    · (intro w' hSw; (try dsimp only at hSw); go_simp; try with_reducible rfl)
    simp only [List.getElem_toArray, List.getElem_cons_zero, List.getElem_cons_succ, Act.put, List.setIfInBounds_toArray, List.set_cons_zero, List.set_cons_succ]
    refine wpAnyH_take (i := 23) (v := ?_) rfl (by kernel_rfl) (by kernel_rfl) (by kernel_rfl) (fun _ _ _ h => h) (Or.inl ⟨by rfl, ?_⟩) hHeld ?_
    rotate_left
    · (intro w' hSw; (try dsimp only at hSw); go_simp; try with_reducible rfl)
    simp only [List.getElem_toArray, List.getElem_cons_zero, List.getElem_cons_succ, Act.put, List.setIfInBounds_toArray, List.set_cons_zero, List.set_cons_succ]
    refine wpAnyH_take (i := 24) (v := ?_) rfl (by kernel_rfl) (by kernel_rfl) (by kernel_rfl) (fun _ _ _ h => h) (Or.inl ⟨by rfl, ?_⟩) hHeld ?_
    rotate_left
    · (intro w' hSw; (try dsimp only at hSw); go_simp; try with_reducible rfl)
    simp only [List.getElem_toArray, List.getElem_cons_zero, List.getElem_cons_succ, Act.put, List.setIfInBounds_toArray, List.set_cons_zero, List.set_cons_succ]
    refine wpAnyH_take (i := 25) (v := ?_) rfl (by kernel_rfl) (by kernel_rfl) (by kernel_rfl) (fun _ _ _ h => h) (Or.inl ⟨by rfl, ?_⟩) hHeld ?_
    rotate_left
    · (intro w' hSw; (try dsimp only at hSw); go_simp; try with_reducible rfl)
    simp only [List.getElem_toArray, List.getElem_cons_zero, List.getElem_cons_succ, Act.put, List.setIfInBounds_toArray, List.set_cons_zero, List.set_cons_succ]
    refine wpAnyH_ready (rs := [26]) (by kernel_rfl) (by simp) ?_
    refine AllReadyH.cons rfl (fun K hK => ?_) AllReadyH.nil
    go_simp
    refine (KD.out _ hHeld.1).mono ?_
    rintro e t4 ⟨rfl, hb⟩
    refine hK.out _ _ (KE.out _ (holdC hHeld hb)) (fun hHeld => ?_)
    clear hK K hb
    refine wpAnyH_take (i := 27) (v := ?_) rfl (by kernel_rfl) (by kernel_rfl) (by kernel_rfl) (fun _ _ _ h => h) (Or.inl ⟨by rfl, ?_⟩) hHeld ?_
    rotate_left
    · (intro w' hSw; (try dsimp only at hSw); go_simp; try with_reducible rfl)
    simp only [List.getElem_toArray, List.getElem_cons_zero, List.getElem_cons_succ, Act.put, List.setIfInBounds_toArray, List.set_cons_zero, List.set_cons_succ]
    refine wpAnyH_take (i := 28) (v := ?_) rfl (by kernel_rfl) (by kernel_rfl) (by kernel_rfl) (fun _ _ _ h => h) (Or.inl ⟨by rfl, ?_⟩) hHeld ?_
    rotate_left
    · (intro w' hSw; (try dsimp only at hSw); go_simp; try with_reducible rfl)
    simp only [List.getElem_toArray, List.getElem_cons_zero, List.getElem_cons_succ, Act.put, List.setIfInBounds_toArray, List.set_cons_zero, List.set_cons_succ]
    refine wpAnyH_take (i := 29) (v := ?_) rfl (by kernel_rfl) (by kernel_rfl) (by kernel_rfl) (fun _ _ _ h => h) (Or.inl ⟨by rfl, ?_⟩) hHeld ?_
    rotate_left
    · (intro w' hSw; (try dsimp only at hSw); go_simp; try with_reducible rfl)
    simp only [List.getElem_toArray, List.getElem_cons_zero, List.getElem_cons_succ, Act.put, List.setIfInBounds_toArray, List.set_cons_zero, List.set_cons_succ]
    refine wpAnyH_take (i := 30) (v := ?_) rfl (by kernel_rfl) (by kernel_rfl) (by kernel_rfl) (fun _ _ _ h => h) (Or.inl ⟨by rfl, ?_⟩) hHeld ?_
    rotate_left
    · (intro w' hSw; (try dsimp only at hSw); go_simp; try with_reducible rfl)
    simp only [List.getElem_toArray, List.getElem_cons_zero, List.getElem_cons_succ, Act.put, List.setIfInBounds_toArray, List.set_cons_zero, List.set_cons_succ]
    refine wpAnyH_ready (rs := [31]) (by kernel_rfl) (by simp) ?_
    refine AllReadyH.cons rfl (fun K hK => ?_) AllReadyH.nil
    go_simp
    refine (KF.out _ hHeld.1).mono ?_
    rintro e t5 ⟨rfl, hb⟩
    refine hK.out _ _ (KE.out _ (holdC hHeld hb)) (fun hHeld => ?_)
    clear hK K hb
    refine wpAnyH_take (i := 32) (v := ?_) rfl (by kernel_rfl) (by kernel_rfl) (by kernel_rfl) (fun _ _ _ h => h) (Or.inl ⟨by rfl, ?_⟩) hHeld ?_
    rotate_left
    · (intro w' hSw; (try dsimp only at hSw); go_simp; try with_reducible rfl)
    simp only [List.getElem_toArray, List.getElem_cons_zero, List.getElem_cons_succ, Act.put, List.setIfInBounds_toArray, List.set_cons_zero, List.set_cons_succ]
    refine wpAnyH_take (i := 33) (v := ?_) rfl (by kernel_rfl) (by kernel_rfl) (by kernel_rfl) (fun _ _ _ h => h) (Or.inl ⟨by rfl, ?_⟩) hHeld ?_
    rotate_left
    · (intro w' hSw; (try dsimp only at hSw); go_simp; try with_reducible rfl)
    simp only [List.getElem_toArray, List.getElem_cons_zero, List.getElem_cons_succ, Act.put, List.setIfInBounds_toArray, List.set_cons_zero, List.set_cons_succ]
    refine wpAnyH_done (by kernel_rfl) ?_ _
    have hb : Below s3.heap.size s3 t5 := hHeld.1
    have GE := Lib.hid (G.out.trans (hb.mono G.out.size))
    clear hHeld hb
    go_wp2_with fail
    go_ret
    exact ⟨rfl, GE.out⟩
  · skip
    go_simp
    have hb : Below uq50.heap.size uq50 (uq50.alloc (.cells #[.slice none 0 0] 24)).drew := (Below.refl _ _).drew.alloc (Nat.le_refl _) _
    have NX : Hid (NtB (uq50.alloc (.cells #[.slice none 0 0] 24)).drew uq50.heap.size #[.slice none 0 0] 24) := Lib.hid (ntb_new uq50.drew #[.slice none 0 0] 24)
    have E1 := Lib.hid hb
    refine hK.out _ _ (KE.out _ hb) (fun hHeld => ?_)
    clear hK K hb
    have NF : Hid (uq50.heap.size ≤ uq50.heap.size) := Lib.hid (Nat.le_refl _)
    generalize (uq50.alloc (.cells #[.slice none 0 0] 24)).drew = s1 at *
    refine wpAnyH_ready (rs := [6]) (by kernel_rfl) (by simp) ?_
    refine AllReadyH.cons rfl (fun K hK => ?_) AllReadyH.nil
    go_simp
    refine (KY.out _ hHeld.1).mono ?_
    rintro e s2 ⟨v9, rfl, ho9, hb⟩
    obtain ⟨a9, c9, rfl, -, -, ho9⟩ := ho9.own.at (n + 1) LQ.out
    have E2 := Lib.hid (E1.out.trans (hb.mono E1.out.size))
    have S9 := Lib.hid ho9.seq
    replace NX := Lib.hid (NX.out.below hb)
    refine hK.out _ _ (KE.out _ E2.out) (fun hHeld => ?_)
    clear hK K hb ho9 KY E1
    refine wpAnyH_take (i := 7) (v := ?_) rfl (by kernel_rfl) (by kernel_rfl) (by kernel_rfl) (fun _ _ _ h => h) (Or.inl ⟨by rfl, ?_⟩) hHeld ?_
    rotate_left
    · (intro w' hSw; (try dsimp only at hSw); go_simp; try with_reducible rfl)
    simp only [List.getElem_toArray, List.getElem_cons_zero, List.getElem_cons_succ, Act.put, List.setIfInBounds_toArray, List.set_cons_zero, List.set_cons_succ]
    refine wpAnyH_take (i := 8) (v := ?_) rfl (by kernel_rfl) (by kernel_rfl) (by kernel_rfl) (fun _ _ _ h => h) (Or.inl ⟨by rfl, ?_⟩) hHeld ?_
    rotate_left
    · (intro w' hSw; (try dsimp only at hSw); go_simp; try with_reducible rfl)
    simp only [List.getElem_toArray, List.getElem_cons_zero, List.getElem_cons_succ, Act.put, List.setIfInBounds_toArray, List.set_cons_zero, List.set_cons_succ]
    refine wpAnyH_take (i := 9) (v := ?_) rfl (by kernel_rfl) (by kernel_rfl) (by kernel_rfl) (fun _ _ _ h => h) (Or.inl ⟨by rfl, ?_⟩) hHeld ?_
    rotate_left
    · (intro w' hSw; (try dsimp only at hSw); go_simp; try with_reducible rfl)
    simp only [List.getElem_toArray, List.getElem_cons_zero, List.getElem_cons_succ, Act.put, List.setIfInBounds_toArray, List.set_cons_zero, List.set_cons_succ]
    obtain ⟨z0, z1⟩ := box_bare NX.out.blk 0
    simp only [List.getElem?_toArray, List.getElem?_cons_zero] at z0
    refine wpAnyH_ready (rs := [11]) (by kernel_rfl) (by simp) ?_
    refine AllReadyH.cons rfl (fun K hK => ?_) AllReadyH.nil
    go_simp
    have hb : Below uq50.heap.size uq50 (s2.setCell ⟨uq50.heap.size, 0, none⟩ (.slice a9 (n + 1) c9)) := E2.out.setCell (by show uq50.heap.size ≤ uq50.heap.size; exact NF.out) _
    have NY : Hid (NtB (s2.setCell ⟨uq50.heap.size, 0, none⟩ (.slice a9 (n + 1) c9)) uq50.heap.size #[.slice a9 (n + 1) c9] 24) := Lib.hid ⟨heap_setCell_same s2 (uq50.heap.size) 0 _ _ _ NX.out.blk⟩
    have S10 : Hid (SeqE LPkt (s2.setCell ⟨uq50.heap.size, 0, none⟩ (.slice a9 (n + 1) c9)) (.slice a9 (n + 1) c9) (xs ++ [q])) := Lib.hid (seq_setNet S9.out NX.out)
    refine hK.out _ _ (KE.out _ hb) (fun hHeld => ?_)
    clear hK K z0 z1 NX S9 E2 NF
    generalize (s2.setCell ⟨uq50.heap.size, 0, none⟩ (.slice a9 (n + 1) c9)) = s3 at *
    refine wpAnyH_take (i := 12) (v := ?_) rfl (by kernel_rfl) (by kernel_rfl) (by kernel_rfl) (fun _ _ _ h => h) (Or.inl ⟨by rfl, ?_⟩) hHeld ?_
    rotate_left
    · (intro w' hSw; (try dsimp only at hSw); go_simp; try with_reducible rfl)
    simp only [List.getElem_toArray, List.getElem_cons_zero, List.getElem_cons_succ, Act.put, List.setIfInBounds_toArray, List.set_cons_zero, List.set_cons_succ]
    refine wpAnyH_done (by kernel_rfl) ?_ _
    clear hHeld
    replace G := Lib.hid (G.out.trans (hb.mono G.out.size))
    replace XN := Lib.hid (XN.out.below hb)
    replace XP := Lib.hid (XP.out.below hb)
    replace SN := Lib.hid (SN.out.below hb)
    replace SP := Lib.hid (SP.out.below hb)
    replace SM := Lib.hid (SM.out.below hb)
    replace XM := Lib.hid (XM.out.below hb)
    replace D := Lib.hid (D.out.trans (hb.mono D.out.size))
    replace S6 := Lib.hid (S6.out.below hb)
    replace S7 := Lib.hid (S7.out.below hb)
    replace XQ := Lib.hid (XQ.out.below hb)
    replace XC := Lib.hid (XC.out.below hb)
    replace S8 := Lib.hid (S8.out.below hb)
    replace XD := Lib.hid (XD.out.below hb)
    clear hb KE
    go_upto_region 15 with fail
    have KE : Hid (∀ v, Below s3.heap.size s3 v → Below s3.heap.size s3 v ∧ v.cell? ⟨w.heap.size, 0, none⟩ = some (.slice (some ⟨lb, lo, none⟩) n cap) ∧ v.cell? ⟨gq5, 0, none⟩ = some (.slice am n cm) ∧ (v.cell? ⟨gq48, 0, none⟩ = some (.int .i64 q.frm) ∧ v.cell? ⟨gq48, 1, none⟩ = some (.int .i64 q.to) ∧ v.cell? ⟨gq48, 2, none⟩ = some (.slice b7 qn d7)) ∧ v.cell? ⟨gq48 + 1, 0, none⟩ = some (.slice a7 m c7) ∧ v.cell? ⟨gq51, 0, none⟩ = some (.slice a8 (n + 1) c8) ∧ v.cell? ⟨uq50.heap.size, 0, none⟩ = some (.slice a9 (n + 1) c9) ∧ (v.cell? ⟨lb, lo + k * 3, none⟩ = some (.int .i64 q.frm) ∧ v.cell? ⟨lb, lo + k * 3 + 1, none⟩ = some (.int .i64 q.to) ∧ v.cell? ⟨lb, lo + k * 3 + 2, none⟩ = some (.slice da dn dc))) := Lib.hid (fun v hb => ⟨hb, (XN.out.below hb).net, (XM.out.below hb).net, (XQ.out.below hb).pkt, (XC.out.below hb).net, (XD.out.below hb).net, (NY.out.below hb).net, (HW.out v (D.out.trans (hb.mono D.out.size))).1⟩)
    have KA := Lib.hid (fun v (hb : Below s3.heap.size s3 v) => rsamePk (p := q) (q := q) ⟨_, rfl, S7.out.below hb⟩ (HW.out v (D.out.trans (hb.mono D.out.size))).2.1 true (decide_eq_true rfl))
    have KB := Lib.hid (fun v (hb : Below s3.heap.size s3 v) => KO.out v (SN.out.below hb))
    have KC := Lib.hid (fun v o (hb : Below s3.heap.size s3 v) (h : SeqE LPkt v o ys) => rsameN ⟨_, rfl, S6.out.below hb⟩ ⟨_, rfl, h⟩ (by rw [LM.out]; exact LMN.out) true (decide_eq_true rfl))
    have KD := Lib.hid (fun v (hb : Below s3.heap.size s3 v) => rsameN (xs := xs ++ [q]) (ys := xs ++ [q]) ⟨_, rfl, S8.out.below hb⟩ ⟨_, rfl, S10.out.below hb⟩ (by rw [LQ.out]; omega) true (decide_eq_true rfl))
    have KF := Lib.hid (fun v (hb : Below s3.heap.size s3 v) => rsameN ⟨_, rfl, SM.out.below hb⟩ ⟨_, rfl, SN.out.below hb⟩ (by rw [LN.out]; omega) true (decide_eq_true rfl))
    refine wp_region_held_drew (S := fun u' => Below s3.heap.size s3 u' ∧ u'.cell? ⟨w.heap.size, 0, none⟩ = some (.slice (some ⟨lb, lo, none⟩) n cap) ∧ u'.cell? ⟨gq5, 0, none⟩ = some (.slice am n cm) ∧ (u'.cell? ⟨gq48, 0, none⟩ = some (.int .i64 q.frm) ∧ u'.cell? ⟨gq48, 1, none⟩ = some (.int .i64 q.to) ∧ u'.cell? ⟨gq48, 2, none⟩ = some (.slice b7 qn d7)) ∧ u'.cell? ⟨gq48 + 1, 0, none⟩ = some (.slice a7 m c7) ∧ u'.cell? ⟨gq51, 0, none⟩ = some (.slice a8 (n + 1) c8) ∧ u'.cell? ⟨uq50.heap.size, 0, none⟩ = some (.slice a9 (n + 1) c9) ∧ (u'.cell? ⟨lb, lo + k * 3, none⟩ = some (.int .i64 q.frm) ∧ u'.cell? ⟨lb, lo + k * 3 + 1, none⟩ = some (.int .i64 q.to) ∧ u'.cell? ⟨lb, lo + k * 3 + 2, none⟩ = some (.slice da dn dc))) (by kernel_rfl) ?_ (fun hHeld => ?_)
    · (exact KE.out _ (Below.refl _ _).drew)
    simp only [List.size_toArray, List.length_cons, List.length_nil, Nat.zero_add, Nat.reduceAdd]
    refine wpAnyH_take (i := 0) (v := ?_) rfl (by kernel_rfl) (by kernel_rfl) (by kernel_rfl) (fun _ _ _ h => h) (Or.inl ⟨by rfl, ?_⟩) hHeld ?_
    rotate_left
    · (intro w' hSw; (try dsimp only at hSw); go_simp; try with_reducible rfl)
    simp only [List.getElem_toArray, List.getElem_cons_zero, Act.put, List.setIfInBounds_toArray, List.set_cons_zero, List.set_cons_succ]
    refine wpAnyH_take (i := 1) (v := ?_) rfl (by kernel_rfl) (by kernel_rfl) (by kernel_rfl) (fun _ _ _ h => h) (Or.inl ⟨by rfl, ?_⟩) hHeld ?_
    rotate_left
    · (intro w' hSw; (try dsimp only at hSw); go_simp; try with_reducible rfl)
    simp only [List.getElem_toArray, List.getElem_cons_zero, List.getElem_cons_succ, Act.put, List.setIfInBounds_toArray, List.set_cons_zero, List.set_cons_succ]
    refine wpAnyH_take (i := 2) (v := ?_) rfl (by kernel_rfl) (by kernel_rfl) (by kernel_rfl) (fun _ _ _ h => h) (Or.inl ⟨by rfl, ?_⟩) hHeld ?_
    rotate_left
    · (intro w' hSw; (try dsimp only at hSw); go_simp; try with_reducible rfl)
    simp only [List.getElem_toArray, List.getElem_cons_zero, List.getElem_cons_succ, Act.put, List.setIfInBounds_toArray, List.set_cons_zero, List.set_cons_succ]
    refine wpAnyH_take (i := 3) (v := ?_) rfl (by kernel_rfl) (by kernel_rfl) (by kernel_rfl) (fun _ _ _ h => h) (Or.inl ⟨by rfl, ?_⟩) hHeld ?_
    rotate_left
    · (intro w' hSw; (try dsimp only at hSw); go_simp; try with_reducible rfl)
    simp only [List.getElem_toArray, List.getElem_cons_zero, List.getElem_cons_succ, Act.put, List.setIfInBounds_toArray, List.set_cons_zero, List.set_cons_succ]
    refine wpAnyH_take (i := 4) (v := ?_) rfl (by kernel_rfl) (by kernel_rfl) (by kernel_rfl) (fun _ _ _ h => h) (Or.inl ⟨by rfl, ?_⟩) hHeld ?_
    rotate_left
    · (intro w' hSw; (try dsimp only at hSw); go_simp; try with_reducible rfl)
    simp only [List.getElem_toArray, List.getElem_cons_zero, List.getElem_cons_succ, Act.put, List.setIfInBounds_toArray, List.set_cons_zero, List.set_cons_succ]
    refine wpAnyH_take (i := 5) (v := ?_) rfl (by kernel_rfl) (by kernel_rfl) (by kernel_rfl) (fun _ _ _ h => h) (Or.inl ⟨by rfl, ?_⟩) hHeld ?_
    rotate_left
    · (intro w' hSw; (try dsimp only at hSw); go_simp; try with_reducible rfl)
    simp only [List.getElem_toArray, List.getElem_cons_zero, List.getElem_cons_succ, Act.put, List.setIfInBounds_toArray, List.set_cons_zero, List.set_cons_succ]
    refine wpAnyH_take (i := 6) (v := ?_) rfl (by kernel_rfl) (by kernel_rfl) (by kernel_rfl) (fun _ _ _ h => h) (Or.inl ⟨by rfl, ?_⟩) hHeld ?_
    rotate_left
    · (intro w' hSw; (try dsimp only at hSw); go_simp; try with_reducible rfl)
    simp only [List.getElem_toArray, List.getElem_cons_zero, List.getElem_cons_succ, Act.put, List.setIfInBounds_toArray, List.set_cons_zero, List.set_cons_succ]
    refine wpAnyH_take (i := 7) (v := ?_) rfl (by kernel_rfl) (by kernel_rfl) (by kernel_rfl) (fun _ _ _ h => h) (Or.inl ⟨by rfl, ?_⟩) hHeld ?_
    rotate_left
    · (intro w' hSw; (try dsimp only at hSw); go_simp; try with_reducible rfl)
    simp only [List.getElem_toArray, List.getElem_cons_zero, List.getElem_cons_succ, Act.put, List.setIfInBounds_toArray, List.set_cons_zero, List.set_cons_succ]
    refine wpAnyH_take (i := 8) (v := ?_) rfl (by kernel_rfl) (by kernel_rfl) (by kernel_rfl) (fun _ _ _ h => h) (Or.inl ⟨by rfl, ?_⟩) hHeld ?_
    rotate_left
    · (intro w' hSw; (try dsimp only at hSw); go_simp; try with_reducible rfl)
    simp only [List.getElem_toArray, List.getElem_cons_zero, List.getElem_cons_succ, Act.put, List.setIfInBounds_toArray, List.set_cons_zero, List.set_cons_succ]
    refine wpAnyH_ready (rs := [9]) (by kernel_rfl) (by simp) ?_
    refine AllReadyH.cons rfl (fun K hK => ?_) AllReadyH.nil
    go_simp
    refine (KA.out _ hHeld.1).mono ?_
    rintro e t1 ⟨rfl, hb⟩
    refine hK.out _ _ (KE.out _ (holdC hHeld hb)) (fun hHeld => ?_)
    clear hK K hb
    refine wpAnyH_take (i := 10) (v := ?_) rfl (by kernel_rfl) (by kernel_rfl) (by kernel_rfl) (fun _ _ _ h => h) (Or.inl ⟨by rfl, ?_⟩) hHeld ?_
    rotate_left
    · (intro w' hSw; (try dsimp only at hSw); go_simp; try with_reducible rfl)
    simp only [List.getElem_toArray, List.getElem_cons_zero, List.getElem_cons_succ, Act.put, List.setIfInBounds_toArray, List.set_cons_zero, List.set_cons_succ]
    refine wpAnyH_take (i := 11) (v := ?_) rfl (by kernel_rfl) (by kernel_rfl) (by kernel_rfl) (fun _ _ _ h => h) (Or.inl ⟨by rfl, ?_⟩) hHeld ?_
    rotate_left
    · (intro w' hSw; (try dsimp only at hSw); go_simp; try with_reducible rfl)
    simp only [List.getElem_toArray, List.getElem_cons_zero, List.getElem_cons_succ, Act.put, List.setIfInBounds_toArray, List.set_cons_zero, List.set_cons_succ]
    refine wpAnyH_take (i := 12) (v := ?_) rfl (by kernel_rfl) (by kernel_rfl) (by kernel_rfl) (fun _ _ _ h => h) (Or.inl ⟨by rfl, ?_⟩) hHeld ?_
    rotate_left
    · (intro w' hSw; (try dsimp only at hSw); go_simp; try with_reducible rfl)
    simp only [List.getElem_toArray, List.getElem_cons_zero, List.getElem_cons_succ, Act.put, List.setIfInBounds_toArray, List.set_cons_zero, List.set_cons_succ]
    refine wpAnyH_take (i := 13) (v := ?_) rfl (by kernel_rfl) (by kernel_rfl) (by kernel_rfl) (fun _ _ _ h => h) (Or.inl ⟨by rfl, ?_⟩) hHeld ?_
    rotate_left
    · (intro w' hSw; (try dsimp only at hSw); go_simp; try with_reducible rfl)
    simp only [List.getElem_toArray, List.getElem_cons_zero, List.getElem_cons_succ, Act.put, List.setIfInBounds_toArray, List.set_cons_zero, List.set_cons_succ]
    refine wpAnyH_take (i := 14) (v := ?_) rfl (by kernel_rfl) (by kernel_rfl) (by kernel_rfl) (fun _ _ _ h => h) (Or.inl ⟨by rfl, ?_⟩) hHeld ?_
    rotate_left
    · (intro w' hSw; (try dsimp only at hSw); go_simp; try with_reducible rfl)
    simp only [List.getElem_toArray, List.getElem_cons_zero, List.getElem_cons_succ, Act.put, List.setIfInBounds_toArray, List.set_cons_zero, List.set_cons_succ]
    refine wpAnyH_ready (rs := [15]) (by kernel_rfl) (by simp) ?_
    refine AllReadyH.cons rfl (fun K hK => ?_) AllReadyH.nil
    go_simp
    refine (KB.out _ hHeld.1).mono ?_
    rintro e t2 ⟨vo, rfl, hoo, hb⟩
    obtain ⟨ao, co, rfl, -, -, hoo⟩ := hoo.own.at m LM.out
    have SO := Lib.hid hoo.seq
    clear hoo
    refine hK.out _ _ (KE.out _ (holdC hHeld hb)) (fun hHeld => ?_)
    clear hK K hb
    refine wpAnyH_ready (rs := [16]) (by kernel_rfl) (by simp) ?_
    refine AllReadyH.cons rfl (fun K hK => ?_) AllReadyH.nil
    go_simp
    refine (KC.out _ _ hHeld.1 SO.out).mono ?_
    rintro e t3 ⟨rfl, hb⟩
    refine hK.out _ _ (KE.out _ (holdC hHeld hb)) (fun hHeld => ?_)
    clear hK K hb
    refine wpAnyH_take (i := 17) (v := ?_) rfl (by kernel_rfl) (by kernel_rfl) (by kernel_rfl) (fun _ _ _ h => h) (Or.inl ⟨by rfl, ?_⟩) hHeld ?_
    rotate_left
    · (intro w' hSw; (try dsimp only at hSw); go_simp; try with_reducible rfl)
    simp only [List.getElem_toArray, List.getElem_cons_zero, List.getElem_cons_succ, Act.put, List.setIfInBounds_toArray, List.set_cons_zero, List.set_cons_succ]
    refine wpAnyH_take (i := 18) (v := ?_) rfl (by kernel_rfl) (by kernel_rfl) (by kernel_rfl) (fun _ _ _ h => h) (Or.inl ⟨by rfl, ?_⟩) hHeld ?_
    rotate_left
    · (intro w' hSw; (try dsimp only at hSw); go_simp; try with_reducible rfl)
    simp only [List.getElem_toArray, List.getElem_cons_zero, List.getElem_cons_succ, Act.put, List.setIfInBounds_toArray, List.set_cons_zero, List.set_cons_succ]
    refine wpAnyH_take (i := 19) (v := ?_) rfl (by kernel_rfl) (by kernel_rfl) (by kernel_rfl) (fun _ _ _ h => h) (Or.inl ⟨by rfl, ?_⟩) hHeld ?_
    rotate_left
    · (intro w' hSw; (try dsimp only at hSw); go_simp; try with_reducible rfl)
    simp only [List.getElem_toArray, List.getElem_cons_zero, List.getElem_cons_succ, Act.put, List.setIfInBounds_toArray, List.set_cons_zero, List.set_cons_succ]
    refine wpAnyH_take (i := 20) (v := ?_) rfl (by kernel_rfl) (by kernel_rfl) (by kernel_rfl) (fun _ _ _ h => h) (Or.inl ⟨by rfl, ?_⟩) hHeld ?_
    rotate_left
    · (intro w' hSw; (try dsimp only at hSw); go_simp; try with_reducible rfl)
    simp only [List.getElem_toArray, List.getElem_cons_zero, List.getElem_cons_succ, Act.put, List.setIfInBounds_toArray, List.set_cons_zero, List.set_cons_succ]
    refine wpAnyH_take (i := 21) (v := ?_) rfl (by kernel_rfl) (by kernel_rfl) (by kernel_rfl) (fun _ _ _ h => h) (Or.inl ⟨by rfl, ?_⟩) hHeld ?_
    rotate_left
    · (intro w' hSw; (try dsimp only at hSw); go_simp; try with_reducible rfl)
    simp only [List.getElem_toArray, List.getElem_cons_zero, List.getElem_cons_succ, Act.put, List.setIfInBounds_toArray, List.set_cons_zero, List.set_cons_succ]
    refine wpAnyH_take (i := 22) (v := ?_) rfl (by kernel_rfl) (by kernel_rfl) (by kernel_rfl) (fun _ _ _ h => h) (Or.inl ⟨by rfl, ?_⟩) hHeld ?_
    rotate_left
    · (intro w' hSw; (try dsimp only at hSw); go_simp; try with_reducible rfl)
    simp only [List.getElem_toArray, List.getElem_cons_zero, List.getElem_cons_succ, Act.put, List.setIfInBounds_toArray, List.set_cons_zero, List.set_cons_succ]
    refine wpAnyH_take (i := 23) (v := ?_) rfl (by kernel_rfl) (by kernel_rfl) (by kernel_rfl) (fun _ _ _ h => h) (Or.inl ⟨by rfl, ?_⟩) hHeld ?_
    rotate_left
    · (intro w' hSw; (try dsimp only at hSw); go_simp; try with_reducible rfl)
    simp only [List.getElem_toArray, List.getElem_cons_zero, List.getElem_cons_succ, Act.put, List.setIfInBounds_toArray, List.set_cons_zero, List.set_cons_succ]
    refine wpAnyH_take (i := 24) (v := ?_) rfl (by kernel_rfl) (by kernel_rfl) (by kernel_rfl) (fun _ _ _ h => h) (Or.inl ⟨by rfl, ?_⟩) hHeld ?_
    rotate_left
    · (intro w' hSw; (try dsimp only at hSw); go_simp; try with_reducible rfl)
    simp only [List.getElem_toArray, List.getElem_cons_zero, List.getElem_cons_succ, Act.put, List.setIfInBounds_toArray, List.set_cons_zero, List.set_cons_succ]
    refine wpAnyH_take (i := 25) (v := ?_) rfl (by kernel_rfl) (by kernel_rfl) (by kernel_rfl) (fun _ _ _ h => h) (Or.inl ⟨by rfl, ?_⟩) hHeld ?_
    rotate_left
    · (intro w' hSw; (try dsimp only at hSw); go_simp; try with_reducible rfl)
    simp only [List.getElem_toArray, List.getElem_cons_zero, List.getElem_cons_succ, Act.put, List.setIfInBounds_toArray, List.set_cons_zero, List.set_cons_succ]
    refine wpAnyH_ready (rs := [26]) (by kernel_rfl) (by simp) ?_
    refine AllReadyH.cons rfl (fun K hK => ?_) AllReadyH.nil
    go_simp
    refine (KD.out _ hHeld.1).mono ?_
    rintro e t4 ⟨rfl, hb⟩
    refine hK.out _ _ (KE.out _ (holdC hHeld hb)) (fun hHeld => ?_)
    clear hK K hb
    refine wpAnyH_take (i := 27) (v := ?_) rfl (by kernel_rfl) (by kernel_rfl) (by kernel_rfl) (fun _ _ _ h => h) (Or.inl ⟨by rfl, ?_⟩) hHeld ?_
    rotate_left
    · (intro w' hSw; (try dsimp only at hSw); go_simp; try with_reducible rfl)
    simp only [List.getElem_toArray, List.getElem_cons_zero, List.getElem_cons_succ, Act.put, List.setIfInBounds_toArray, List.set_cons_zero, List.set_cons_succ]
    refine wpAnyH_take (i := 28) (v := ?_) rfl (by kernel_rfl) (by kernel_rfl) (by kernel_rfl) (fun _ _ _ h => h) (Or.inl ⟨by rfl, ?_⟩) hHeld ?_
    rotate_left
    · (intro w' hSw; (try dsimp only at hSw); go_simp; try with_reducible rfl)
    simp only [List.getElem_toArray, List.getElem_cons_zero, List.getElem_cons_succ, Act.put, List.setIfInBounds_toArray, List.set_cons_zero, List.set_cons_succ]
    refine wpAnyH_take (i := 29) (v := ?_) rfl (by kernel_rfl) (by kernel_rfl) (by kernel_rfl) (fun _ _ _ h => h) (Or.inl ⟨by rfl, ?_⟩) hHeld ?_
    rotate_left
    · (intro w' hSw; (try dsimp only at hSw); go_simp; try with_reducible rfl)
    simp only [List.getElem_toArray, List.getElem_cons_zero, List.getElem_cons_succ, Act.put, List.setIfInBounds_toArray, List.set_cons_zero, List.set_cons_succ]
    refine wpAnyH_take (i := 30) (v := ?_) rfl (by kernel_rfl) (by kernel_rfl) (by kernel_rfl) (fun _ _ _ h => h) (Or.inl ⟨by rfl, ?_⟩) hHeld ?_
    rotate_left
    · (intro w' hSw; (try dsimp only at hSw); go_simp; try with_reducible rfl)
    simp only [List.getElem_toArray, List.getElem_cons_zero, List.getElem_cons_succ, Act.put, List.setIfInBounds_toArray, List.set_cons_zero, List.set_cons_succ]
    refine wpAnyH_ready (rs := [31]) (by kernel_rfl) (by simp) ?_
    refine AllReadyH.cons rfl (fun K hK => ?_) AllReadyH.nil
    go_simp
    refine (KF.out _ hHeld.1).mono ?_
    rintro e t5 ⟨rfl, hb⟩
    refine hK.out _ _ (KE.out _ (holdC hHeld hb)) (fun hHeld => ?_)
    clear hK K hb
    refine wpAnyH_take (i := 32) (v := ?_) rfl (by kernel_rfl) (by kernel_rfl) (by kernel_rfl) (fun _ _ _ h => h) (Or.inl ⟨by rfl, ?_⟩) hHeld ?_
    rotate_left
    · (intro w' hSw; (try dsimp only at hSw); go_simp; try with_reducible rfl)
    simp only [List.getElem_toArray, List.getElem_cons_zero, List.getElem_cons_succ, Act.put, List.setIfInBounds_toArray, List.set_cons_zero, List.set_cons_succ]
    refine wpAnyH_take (i := 33) (v := ?_) rfl (by kernel_rfl) (by kernel_rfl) (by kernel_rfl) (fun _ _ _ h => h) (Or.inl ⟨by rfl, ?_⟩) hHeld ?_
    rotate_left
    · (intro w' hSw; (try dsimp only at hSw); go_simp; try with_reducible rfl)
    simp only [List.getElem_toArray, List.getElem_cons_zero, List.getElem_cons_succ, Act.put, List.setIfInBounds_toArray, List.set_cons_zero, List.set_cons_succ]
    refine wpAnyH_done (by kernel_rfl) ?_ _
    have hb : Below s3.heap.size s3 t5 := hHeld.1
    have GE := Lib.hid (G.out.trans (hb.mono G.out.size))
    clear hHeld hb
    go_wp2_with fail
    go_ret
    exact ⟨rfl, GE.out⟩

set_option maxRecDepth 100000 in
theorem lifted (os : Os) (started : os.Started) (H : Type) (enc : TypeId × Value → H) :
    ReturnsInHanded {} Try.checked os 3 .any (Rows.netAllSpec.pre6 enc Try.prog Try.f3 Rows.netAllRow.domain false) (Rows.netAllSpec.post enc Try.prog Try.f3 false true false false) := by
  refine returnsInHanded_of_change (C := Try.checked) own started (by kernel_rfl) Try.func3
    (ChangeSpec.witness6 (enc := enc) (C := Try.checked) false ⟨#[], #[.agg #[.slice none 0 0], .agg #[.int .i64 0, .int .i64 0, .slice none 0 0], .int .i64 0], []⟩ 8 (by kernel_rfl) (by kernel_rfl) (by kernel_rfl) (by kernel_rfl)) ?_
  intro W base args ds gs before hval0 hW hcnd _
  have hval : ∀ (j : Nat) t v, Try.f3.params[j]? = some t → args[j]? = some v → Value.okWide Try.prog W .any base t v := hval0
  have hW' := hW
  obtain ⟨p, q, hA0, hV, rfl, hfz, hnd⟩ := hW
  have hA : DataW.TrodAll enc Try.prog W 0 (fun _ => true) true Try.f3.params.toList args.toList ds p := hA0
  rw [Try.params3] at hA hval
  obtain ⟨v0, vs0, d0, ds0, p0, q0, hargs, rfl, rfl, h0, r0⟩ := trodAll_cons hA
  obtain ⟨v1, vs1, d1, ds1, p1, q1, rfl, rfl, rfl, h1, r1⟩ := trodAll_cons r0
  obtain ⟨v2, vs2, d2, ds2, p2, q2, rfl, rfl, rfl, h2, r2⟩ := trodAll_cons r1
  obtain ⟨rfl, rfl, rfl⟩ := trodAll_nil r2
  obtain rfl : args = #[v0, v1, v2] := by cases args; simp_all
  obtain ⟨rfl, rfl⟩ := trodVars_none hV
  have k0 := h0
  have lt0 : ∀ x ∈ p0, x.block < W.heap.size := by obtain ⟨m, hm⟩ := k0; exact DataW.trod_lt m _ _ _ hm
  have w0 := open0 (hval 0 24 v0 rfl rfl) h0
  have k1 := h1
  have lt1 : ∀ x ∈ p1, x.block < W.heap.size := by obtain ⟨m, hm⟩ := k1; exact DataW.trod_lt m _ _ _ hm
  have w1 := open1 (hval 1 27 v1 rfl rfl) h1
  obtain ⟨a2, rfl, rfl, rfl, w2⟩ := open_int Try.underlying3 (hval 2 3 v2 rfl rfl) h2
  clear hA0 hval0
  refine (walk v0 v1 a2 W w0 w1 w2).mono fun e W' ⟨he, bel⟩ => ?_
  subst he
  exact ⟨_, rfl, _, _, _, [], _, [], hW', trodAll_mk1 (shut_bool Try.underlying4 _), (trodAll_cons_mk (Below.trod laidOut (by kernel_rfl) (of_decide_eq_true (by kernel_rfl)) k0 bel lt0) (trodAll_cons_mk (Below.trod laidOut (by kernel_rfl) (of_decide_eq_true (by kernel_rfl)) k1 bel lt1) (trodAll_cons_mk (shut_int Try.underlying3 w2) trodAll_mk0))), rfl, bel.frame _, fun h => by cases h⟩

theorem over : Rows.netAllRow.holds Try.pinned (OpenSpec.ofChange Rows.netAllSpec) :=
  OpenClaim.holds_of_wide 3 Try.f3 rfl rfl rfl rfl rfl rfl rfl ⟨rfl, rfl, rfl, rfl, rfl⟩ rfl rfl rfl rfl rfl (by kernel_rfl) Try.func3 (by kernel_rfl)
    (of_decide_eq_true (by kernel_rfl)) (by unfold Func.isWrapper; first | (rw [if_pos (by decide +kernel)]; kernel_rfl) | (rw [if_neg (by decide +kernel)]; exact ⟨rfl, rfl⟩))
    (fun os started H enc _ => lifted os started H enc)

/-- the given statement -/
theorem proved : Rows.NetAllSaid := over
#print axioms proved
end Go.Proofs.Ytgllaoanpemjlaa.netAll
