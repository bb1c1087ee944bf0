/- What the program's own Right of texts leaves. What the program's own Formed of messages leaves. (Written by gen-msfrmp.py.) -/
import Derived.Test.YtfapkepfngddlaaGreatZIs
import Derived.Test.YtfapkepfngddlaaGreatMsPrg
import Derived.Test.YtfapkepfngddlaaGreatMsFmB
namespace Go.Proofs.YtfapkepfngddlaaGreat
open Go.RowKit Plain
set_option linter.unusedVariables false

theorem zoneB_iff {xs : List Txt} : zoneB xs = true ↔ Zone xs := by
 unfold zoneB
 rw [Bool.and_eq_true, decide_eq_true_iff, decide_eq_true_iff, zone_iff]
theorem zright_yes {xs : List Txt} (hl : xs.length ≤ 8) (h : RightTo xs xs.length) : zoneB xs = true := zoneB_iff.2 (right_zone hl h)
theorem zright_form {xs : List Txt} {k : Nat} (hk : k < xs.length) (h : prefixB (xs.getD k []) = false) : zoneB xs = false := by
 cases e : zoneB xs with
 | false => rfl
 | true =>
  have := (zone_right (zoneB_iff.1 e)).2.1 k hk
  rw [h] at this
  exact absurd this (by decide)
theorem zright_near {xs : List Txt} {k : Nat} (hk : k + 1 < xs.length) (h : ¬ xs.getD k [] < xs.getD (k + 1) [] ∨ beg (xs.getD (k + 1) []) (xs.getD k []) = true) : zoneB xs = false := by
 cases e : zoneB xs with
 | false => rfl
 | true =>
  have := (zone_right (zoneB_iff.1 e)).2.2 (k + 1) (by omega) hk
  rw [Nat.add_sub_cancel] at this
  rcases h with h | h
  ·exact absurd this.1 h
  ·rw [h] at this
   exact absurd this.2 (by decide)
theorem zright_long {xs : List Txt} (hl : ¬ xs.length ≤ 8) : zoneB xs = false := by
 cases e : zoneB xs with
 | false => rfl
 | true => exact absurd (zone_right (zoneB_iff.1 e)).1 hl

set_option maxRecDepth 100000 in
set_option maxHeartbeats 4000000 in
theorem zright_any {v : Value} {xs : List Txt} {w : World} (hv : SeqT w v xs) (hn : xs.length ≤ 1000000) :
  Calls Tryz.prog 27 #[v] w fun e w' => e = .returned (.bool (zoneB xs)) ∧ ∃ q, w' = w.drewN q := by
 obtain ⟨a, cap, rfl, g1, g2, g0, h⟩ := hv.parts
 have HS := Lib.hid h
 have HY := Lib.hid (zright_yes (xs := xs))
 have HF := Lib.hid (fun k hk h => zright_form (xs := xs) (k := k) hk h)
 have HN := Lib.hid (fun k hk h => zright_near (xs := xs) (k := k) hk h)
 have HL := Lib.hid (zright_long (xs := xs))
 have hm : maxLen = 9223372036854775807 := rfl
 rw [hm] at g2
 clear hv h g0 hm
 generalize zoneB xs = r at *
 by_cases hl : xs.length ≤ 8
 ·have hd : ((xs.length : Nat) : Int) ≤ 8 := by omega
  go_enter Tryz.func27, Tryz.ntmps27
  go_wp2_with fail
  go_loopw [3, 4, 10] (fun _ _ i wr => ∃ k : Nat, k ≤ xs.length ∧ i = .int .i64 k ∧ Aside (RightTo xs k) ∧ ∃ q, wr = w.drewN q) (fun _ _ i _ => xs.length - (intOf i).toNat)
  case atStart => exact ⟨0, Nat.zero_le _, rfl, rightTo_zero xs, 0, rfl⟩
  case round =>
   obtain ⟨k, hk, rfl, HR, q, rfl⟩ := hrel
   by_cases hlt : k < xs.length
   ·obtain ⟨b, o, c, hv, -, -, -, hc⟩ := HS.out.spot (by omega)
    simp only [Value.slice.injEq] at hv
    obtain ⟨rfl, -, rfl⟩ := hv
    have c1 := hc k hlt
    unfold tv at c1
    have KP := Lib.hid (fun W => zprefix_any (xs.getD k []) W)
    cases hp : prefixB (xs.getD k []) with
    | false =>
     obtain rfl : r = false := HF.out k hlt hp
     rw [hp] at KP
     clear hc hp
     generalize bt (xs.getD k []) = X at *
     go_wp2_with fail
     refine (KP.out _).mono ?_
     rintro e w' ⟨rfl, rfl⟩
     go_wp2_with fail
     go_ret
     exact ⟨rfl, _, rfl⟩
    | true =>
     rw [hp] at KP
     by_cases h0 : 0 < k
     ·obtain ⟨p, rfl⟩ : ∃ p, k = p + 1 := ⟨k - 1, by omega⟩
      have c2 := hc p (by omega)
      unfold tv at c2
      have KH := Lib.hid (fun W => hasPrefixL (xs.getD (p + 1) []) (xs.getD p []) W)
      have t1 := text_lt (xs.getD p []) (xs.getD (p + 1) [])
      have HNX := Lib.hid (fun h => rightTo_next HR.out hp (fun _ => by rw [Nat.add_sub_cancel]; exact h))
      have HNR := Lib.hid (HN.out p hlt)
      have q1 : (0 : Int) < (p : Int) + 1 := by omega
      have q2 : (0 : Int) < ((p + 1 : Nat) : Int) := by omega
      clear hc hp h0
      by_cases hlt2 : xs.getD p [] < xs.getD (p + 1) []
      ·rw [decide_eq_true hlt2] at t1
       cases hb : beg (xs.getD (p + 1) []) (xs.getD p []) with
       | true =>
        obtain rfl : r = false := HNR.out (.inr hb)
        rw [hb] at KH
        clear hlt2 hb HNX HNR
        generalize bt (xs.getD p []) = Y at *
        generalize bt (xs.getD (p + 1) []) = X at *
        go_wp2_with fail
        refine (KP.out _).mono ?_
        rintro e w' ⟨rfl, rfl⟩
        go_wp2_with fail
        refine (KH.out _).mono ?_
        rintro e w2 ⟨rfl, rfl⟩
        go_wp2_with fail
        go_ret
        exact ⟨rfl, _, rfl⟩
       | false =>
        have HR2 : Hid (RightTo xs (p + 1 + 1)) := Lib.hid (HNX.out ⟨hlt2, hb⟩)
        rw [hb] at KH
        clear hlt2 hb HNX HNR
        generalize bt (xs.getD p []) = Y at *
        generalize bt (xs.getD (p + 1) []) = X at *
        go_wp2_with fail
        refine (KP.out _).mono ?_
        rintro e w' ⟨rfl, rfl⟩
        go_wp2_with fail
        refine (KH.out _).mono ?_
        rintro e w2 ⟨rfl, rfl⟩
        go_wp2_with fail
        go_roundw
        case rel => exact ⟨p + 1 + 1, by omega, by go_num, HR2.out, _, rfl⟩
        case measure => simp [intOf]; omega
      ·rw [decide_eq_false hlt2] at t1
       obtain rfl : r = false := HNR.out (.inl hlt2)
       clear hlt2 HNX HNR KH
       generalize bt (xs.getD p []) = Y at *
       generalize bt (xs.getD (p + 1) []) = X at *
       go_wp2_with fail
       refine (KP.out _).mono ?_
       rintro e w' ⟨rfl, rfl⟩
       go_wp2_with fail
       go_ret
       exact ⟨rfl, _, rfl⟩
     ·obtain rfl : k = 0 := by omega
      rw [Nat.add_zero] at c1
      have HR2 : Hid (RightTo xs (0 + 1)) := Lib.hid (rightTo_next HR.out hp (fun h => absurd h h0))
      clear hc hp h0
      generalize bt (xs.getD 0 []) = X at *
      go_wp2_with fail
      refine (KP.out _).mono ?_
      rintro e w' ⟨rfl, rfl⟩
      go_wp2_with fail
      go_roundw
      case rel => exact ⟨0 + 1, by omega, by go_num, HR2.out, _, rfl⟩
      case measure => simp [intOf]; omega
   ·obtain rfl : k = xs.length := by omega
    obtain rfl : r = true := HY.out hl HR.out
    go_wp2_with fail
    go_ret
    exact ⟨rfl, _, rfl⟩
 ·obtain rfl : r = false := HL.out hl
  have hd : ¬ ((xs.length : Nat) : Int) ≤ 8 := by omega
  have hd2 : (8 : Int) < ((xs.length : Nat) : Int) := by omega
  go_enter Tryz.func27, Tryz.ntmps27
  go_wp2_with fail
  go_ret
  exact ⟨rfl, 0, rfl⟩
end Go.Proofs.YtfapkepfngddlaaGreat
namespace Go.Proofs.YtfapkepfngddlaaGreat
open Go.RowKit Plain
set_option linter.unusedVariables false

structure MsFitP (m : PMsg) : Prop where
 v : m.vec.length ≤ 1000000
 f : m.from_.length ≤ 1000000
 z : m.zone.length ≤ 1000000
 n : m.want.length ≤ 1000000
 il : m.items.length ≤ 1000000
 i : ∀ x ∈ m.items, dotOk x.dot
 tl : m.txns.length ≤ 1000000
 t : ∀ t ∈ m.txns, FitTx t
set_option maxRecDepth 100000 in
set_option maxHeartbeats 16000000 in
theorem mformedP {v : Value} {m : PMsg} {w : World} (hv : IsMsg w v m) (hf : MsFitP m) (r : Bool) (hr : mformedM m = r) : Calls Tryz.prog 11 #[v] w (GivesB w r) := by
 obtain ⟨va, vn, vc, fa, fn, fc, za, zn, zc, na, nn, nc, ia, im, ic, la, ln, lc, rfl, H⟩ := hv.slices
 have G0 := Lib.hid ((Below.refl w.heap.size w).alloc (Nat.le_refl _) (.cells #[.int .i64 m.kind, .int .i64 m.ticket, .bool m.whole, .slice va vn vc, .slice fa fn fc, .slice za zn zc, .slice na nn nc, .slice ia im ic, .slice la ln lc] 28))
 have X := Lib.hid (msbox_new H)
 have P := Lib.hid (prgR hr)
 have HF := Lib.hid hf
 clear hv H hf hr
 go_enter Tryz.func11, Tryz.ntmps11
 go_upto_region 1 with fail
 generalize (w.alloc (.cells #[.int .i64 m.kind, .int .i64 m.ticket, .bool m.whole, .slice va vn vc, .slice fa fn fc, .slice za zn zc, .slice na nn nc, .slice ia im ic, .slice la ln lc] 28)) = w0 at *
 have HC := Lib.hid (fun u (hb : Below w0.heap.size w0 u) => (X.out.below hb).c)
 have GB0 := Lib.hid (Below.refl w0.heap.size w0)
 have K1 := Lib.hid (msaysNo X.out.is)
 have K2 := Lib.hid (fun u (hb : Below w0.heap.size w0 u) => misVec (seqI_of (X.out.below hb).a.v) HF.out.v)
 have K3 := Lib.hid (fun u (hb : Below w0.heap.size w0 u) => misVec (seqI_of (X.out.below hb).a.f) HF.out.f)
 have K4 := Lib.hid (fun u (hb : Below w0.heap.size w0 u) => (zright_any (X.out.below hb).a.z HF.out.z).mono (R' := GivesB u (zoneB m.zone)) fun e w' ⟨h, q, hq⟩ => ⟨h, hq ▸ below_drewN (Below.refl _ _) q⟩)
 have K5 := Lib.hid (fun u (hb : Below w0.heap.size w0 u) => (zright_any (X.out.below hb).a.n HF.out.n).mono (R' := GivesB u (zoneB m.want)) fun e w' ⟨h, q, hq⟩ => ⟨h, hq ▸ below_drewN (Below.refl _ _) q⟩)
 have K6 := Lib.hid (fun u (hb : Below w0.heap.size w0 u) => mareItems (X.out.below hb).is HF.out.il HF.out.i HF.out.n)
 have K7 := Lib.hid (fun u (hb : Below w0.heap.size w0 u) => mareTxns (X.out.below hb).a.l HF.out.tl HF.out.t)
 have K8 := Lib.hid (fun u (hb : Below w0.heap.size w0 u) => mleadsOn (X.out.below hb).is HF.out.t HF.out.tl HF.out.v HF.out.f HF.out.n)
 have PL := Lib.hid P.out.last
 have PU := Lib.hid P.out.uses
 have PV := Lib.hid P.out.vec
 have PF := Lib.hid P.out.from_
 have PZ := Lib.hid P.out.zone
 have PN := Lib.hid P.out.want
 have PI := Lib.hid P.out.items
 have PT := Lib.hid P.out.txns
 have P0 := Lib.hid P.out.t0
 have P1 := Lib.hid P.out.t1
 clear P
 generalize usesB m = b1 at *
 generalize mayV m.vec = b2 at *
 generalize mayV m.from_ = b3 at *
 generalize zoneB m.zone = b4 at *
 generalize zoneB m.want = b5 at *
 generalize itemsB m = b6 at *
 generalize txnsB m.txns = b7 at *
 generalize leadB m = b8 at *
 obtain ⟨c0, c1, c2, c3, c4, c5, c6, c7, c8⟩ := HC.out w0 GB0.out
 cases b1 with
 | false =>
  obtain rfl : r = false := PU.out (by trivial)
  go_wp2_with fail
  refine K1.out.mono ?_
  rintro e w1 ⟨rfl, hb⟩
  have GB1 := Lib.hid (GB0.out.trans (hb.mono GB0.out.size))
  clear hb c0 c1 c2 c3 c4 c5 c6 c7 c8
  go_wp2_with fail
  go_ret
  exact ⟨rfl, G0.out.trans (GB1.out.mono G0.out.size)⟩
 | true =>
  go_wp2_with fail
  refine K1.out.mono ?_
  rintro e w1 ⟨rfl, hb⟩
  have GB1 := Lib.hid (GB0.out.trans (hb.mono GB0.out.size))
  clear hb c0 c1 c2 c3 c4 c5 c6 c7 c8
  obtain ⟨c0, c1, c2, c3, c4, c5, c6, c7, c8⟩ := HC.out w1 GB1.out
  by_cases t0 : 0 ≤ m.ticket
  rotate_left
  ·obtain rfl : r = false := P0.out (by omega)
   go_wp2_with fail
   go_ret
   exact ⟨rfl, G0.out.trans (GB1.out.mono G0.out.size)⟩
  by_cases t1 : m.ticket ≤ 1073741824
  rotate_left
  ·obtain rfl : r = false := P1.out (by omega)
   go_wp2_with fail
   go_ret
   exact ⟨rfl, G0.out.trans (GB1.out.mono G0.out.size)⟩
  cases b2 with
  | false =>
   obtain rfl : r = false := PV.out (by trivial)
   go_wp2_with fail
   refine (K2.out _ GB1.out).mono ?_
   rintro e w2 ⟨rfl, hb⟩
   have GB2 := Lib.hid (GB1.out.trans (hb.mono GB1.out.size))
   clear hb c0 c1 c2 c3 c4 c5 c6 c7 c8
   go_wp2_with fail
   go_ret
   exact ⟨rfl, G0.out.trans (GB2.out.mono G0.out.size)⟩
  | true =>
   go_wp2_with fail
   refine (K2.out _ GB1.out).mono ?_
   rintro e w2 ⟨rfl, hb⟩
   have GB2 := Lib.hid (GB1.out.trans (hb.mono GB1.out.size))
   clear hb c0 c1 c2 c3 c4 c5 c6 c7 c8
   obtain ⟨c0, c1, c2, c3, c4, c5, c6, c7, c8⟩ := HC.out w2 GB2.out
   cases b3 with
   | false =>
    obtain rfl : r = false := PF.out (by trivial)
    go_wp2_with fail
    refine (K3.out _ GB2.out).mono ?_
    rintro e w3 ⟨rfl, hb⟩
    have GB3 := Lib.hid (GB2.out.trans (hb.mono GB2.out.size))
    clear hb c0 c1 c2 c3 c4 c5 c6 c7 c8
    go_wp2_with fail
    go_ret
    exact ⟨rfl, G0.out.trans (GB3.out.mono G0.out.size)⟩
   | true =>
    go_wp2_with fail
    refine (K3.out _ GB2.out).mono ?_
    rintro e w3 ⟨rfl, hb⟩
    have GB3 := Lib.hid (GB2.out.trans (hb.mono GB2.out.size))
    clear hb c0 c1 c2 c3 c4 c5 c6 c7 c8
    obtain ⟨c0, c1, c2, c3, c4, c5, c6, c7, c8⟩ := HC.out w3 GB3.out
    cases b4 with
    | false =>
     obtain rfl : r = false := PZ.out (by trivial)
     go_wp2_with fail
     refine (K4.out _ GB3.out).mono ?_
     rintro e w4 ⟨rfl, hb⟩
     have GB4 := Lib.hid (GB3.out.trans (hb.mono GB3.out.size))
     clear hb c0 c1 c2 c3 c4 c5 c6 c7 c8
     go_wp2_with fail
     go_ret
     exact ⟨rfl, G0.out.trans (GB4.out.mono G0.out.size)⟩
    | true =>
     go_wp2_with fail
     refine (K4.out _ GB3.out).mono ?_
     rintro e w4 ⟨rfl, hb⟩
     have GB4 := Lib.hid (GB3.out.trans (hb.mono GB3.out.size))
     clear hb c0 c1 c2 c3 c4 c5 c6 c7 c8
     obtain ⟨c0, c1, c2, c3, c4, c5, c6, c7, c8⟩ := HC.out w4 GB4.out
     cases b5 with
     | false =>
      obtain rfl : r = false := PN.out (by trivial)
      go_wp2_with fail
      refine (K5.out _ GB4.out).mono ?_
      rintro e w5 ⟨rfl, hb⟩
      have GB5 := Lib.hid (GB4.out.trans (hb.mono GB4.out.size))
      clear hb c0 c1 c2 c3 c4 c5 c6 c7 c8
      go_wp2_with fail
      go_ret
      exact ⟨rfl, G0.out.trans (GB5.out.mono G0.out.size)⟩
     | true =>
      go_wp2_with fail
      refine (K5.out _ GB4.out).mono ?_
      rintro e w5 ⟨rfl, hb⟩
      have GB5 := Lib.hid (GB4.out.trans (hb.mono GB4.out.size))
      clear hb c0 c1 c2 c3 c4 c5 c6 c7 c8
      obtain ⟨c0, c1, c2, c3, c4, c5, c6, c7, c8⟩ := HC.out w5 GB5.out
      cases b6 with
      | false =>
       obtain rfl : r = false := PI.out (by trivial)
       go_wp2_with fail
       refine (K6.out _ GB5.out).mono ?_
       rintro e w6 ⟨rfl, hb⟩
       have GB6 := Lib.hid (GB5.out.trans (hb.mono GB5.out.size))
       clear hb c0 c1 c2 c3 c4 c5 c6 c7 c8
       go_wp2_with fail
       go_ret
       exact ⟨rfl, G0.out.trans (GB6.out.mono G0.out.size)⟩
      | true =>
       go_wp2_with fail
       refine (K6.out _ GB5.out).mono ?_
       rintro e w6 ⟨rfl, hb⟩
       have GB6 := Lib.hid (GB5.out.trans (hb.mono GB5.out.size))
       clear hb c0 c1 c2 c3 c4 c5 c6 c7 c8
       obtain ⟨c0, c1, c2, c3, c4, c5, c6, c7, c8⟩ := HC.out w6 GB6.out
       cases b7 with
       | false =>
        obtain rfl : r = false := PT.out (by trivial)
        go_wp2_with fail
        refine (K7.out _ GB6.out).mono ?_
        rintro e w7 ⟨rfl, hb⟩
        have GB7 := Lib.hid (GB6.out.trans (hb.mono GB6.out.size))
        clear hb c0 c1 c2 c3 c4 c5 c6 c7 c8
        go_wp2_with fail
        go_ret
        exact ⟨rfl, G0.out.trans (GB7.out.mono G0.out.size)⟩
       | true =>
        go_wp2_with fail
        refine (K7.out _ GB6.out).mono ?_
        rintro e w7 ⟨rfl, hb⟩
        have GB7 := Lib.hid (GB6.out.trans (hb.mono GB6.out.size))
        clear hb c0 c1 c2 c3 c4 c5 c6 c7 c8
        obtain ⟨c0, c1, c2, c3, c4, c5, c6, c7, c8⟩ := HC.out w7 GB7.out
        have HR := Lib.hid (PL.out (by trivial) (by omega) (by omega) (by trivial) (by trivial) (by trivial) (by trivial) (by trivial) (by trivial))
        by_cases k4 : m.kind = 4
        rotate_left
        ·have e4 : (m.kind != 4) = true := bne_iff_ne.2 k4
         obtain rfl : r = true := by rw [HR.out, decide_eq_false k4]; rfl
         clear k4
         go_wp2_with fail
         go_ret
         exact ⟨rfl, G0.out.trans (GB7.out.mono G0.out.size)⟩
        have e4 : (m.kind != 4) = false := by rw [k4]; rfl
        obtain rfl : r = b8 := by rw [HR.out, decide_eq_true k4]; rfl
        clear k4
        go_wp2_with fail
        refine (K8.out _ GB7.out).mono ?_
        rintro e w8 ⟨rfl, hb⟩
        have GB8 := Lib.hid (GB7.out.trans (hb.mono GB7.out.size))
        clear hb c0 c1 c2 c3 c4 c5 c6 c7 c8
        go_wp2_with fail
        go_ret
        exact ⟨rfl, G0.out.trans (GB8.out.mono G0.out.size)⟩
end Go.Proofs.YtfapkepfngddlaaGreat
