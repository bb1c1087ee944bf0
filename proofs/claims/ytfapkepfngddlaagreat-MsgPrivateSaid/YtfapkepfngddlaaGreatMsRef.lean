/- The document's own Short and Same of messages. -/
import Derived.Test.YtfapkepfngddlaaGreatMsg
import Derived.Test.YtfapkepfngddlaaGreatTxUses
import Derived.Test.YtfapkepfngddlaaGreatRefSs
import Derived.Test.YtfapkepfngddlaaGreatOrChns
namespace Go.Proofs.YtfapkepfngddlaaGreat
open Go.RowKit Plain
set_option linter.unusedVariables false

theorem msg_decB {a b : PMsg} : decide (a = b) = (decide (a.kind = b.kind) && (decide (a.ticket = b.ticket) && (decide (a.whole = b.whole) && (decide (a.vec = b.vec) && (decide (a.from_ = b.from_) && (decide (a.zone = b.zone) && (decide (a.want = b.want) && (decide (a.items = b.items) && decide (a.txns = b.txns))))))))) := by
 rw [Bool.eq_iff_iff]
 simp only [Bool.and_eq_true, decide_eq_true_iff]
 exact pmsg_dec
theorem equalR {u v : Value} {xs ys : List Int} {w : World} {r : Bool} (hu : SeqE LInt w u xs) (hv : SeqE LInt w v ys) (e : decide (xs = ys) = r) : Calls Tryz.prog 43 #[u, v] w (GivesB w r) := by
 rw [← e]
 exact (vc_requal_any (seqI_of hu) (seqI_of hv)).mono fun _ _ ⟨h, hw⟩ => ⟨h, below_of_drawn hw⟩
def mshortB (m : PMsg) : Bool := decide (m.vec.length ≤ 60) && (decide (m.from_.length ≤ 60) && (shortB m.zone && (shortB m.want && (shortI m.items && shortTx m.txns))))
theorem mshort_parts {m : PMsg} (h : mshortB m = true) : m.vec.length ≤ 60 ∧ m.from_.length ≤ 60 ∧ shortB m.zone = true ∧ shortB m.want = true ∧ shortI m.items = true ∧ shortTx m.txns = true := by
 unfold mshortB at h
 simp only [Bool.and_eq_true, decide_eq_true_iff] at h
 exact h
set_option maxRecDepth 100000 in
set_option maxHeartbeats 4000000 in
theorem mshortR {u : Value} {m : PMsg} {w : World} (hu : IsMsg w u m) (r : Bool) (hr : mshortB m = r) : Calls Tryz.prog 9 #[u] w (GivesB w r) := by
 obtain ⟨va, vn, vc, fa, fn, fc, za, zn, zc, na, nn, nc, ia, im, ic, la, ln, lc, rfl, H⟩ := hu.slices
 have G0 := Lib.hid ((Below.refl w.heap.size w).alloc (Nat.le_refl _) (.cells #[.int .i64 m.kind, .int .i64 m.ticket, .bool m.whole, .slice va vn vc, .slice fa fn fc, .slice za zn zc, .slice na nn nc, .slice ia im ic, .slice la ln lc] 28))
 have X := Lib.hid (msbox_new H)
 unfold mshortB at hr
 rw [H.v.dims.1, H.f.dims.1] at hr
 clear hu H
 go_enter Tryz.func9, Tryz.ntmps9
 go_upto_region 1 with fail
 generalize (w.alloc (.cells #[.int .i64 m.kind, .int .i64 m.ticket, .bool m.whole, .slice va vn vc, .slice fa fn fc, .slice za zn zc, .slice na nn nc, .slice ia im ic, .slice la ln lc] 28)) = w0 at *
 have HC := Lib.hid (fun u (hb : Below w0.heap.size w0 u) => (X.out.below hb).c)
 have B0 := Lib.hid (Below.refl w0.heap.size w0)
 have KZ := Lib.hid (fun u (hb : Below w0.heap.size w0 u) => rshortTR (X.out.below hb).a.z rfl)
 have KN := Lib.hid (fun u (hb : Below w0.heap.size w0 u) => rshortTR (X.out.below hb).a.n rfl)
 have KI := Lib.hid (fun u (hb : Below w0.heap.size w0 u) => rshortR (X.out.below hb).a.i rfl)
 have KL := Lib.hid (fun u (hb : Below w0.heap.size w0 u) => rshortTx_any (X.out.below hb).a.l _ rfl)
 generalize shortB m.zone = bz at *
 generalize shortB m.want = bn at *
 generalize shortI m.items = bi at *
 generalize shortTx m.txns = bl at *
 obtain ⟨c0, c1, c2, c3, c4, c5, c6, c7, c8⟩ := HC.out w0 B0.out
 by_cases h1 : vn ≤ 60
 rotate_left
 ·have ih1 : ¬ (vn : Int) ≤ 60 := by omega
  rw [decide_eq_false h1] at hr
  obtain rfl : r = false := by rw [← hr]; rfl
  clear h1
  go_wp2_with fail
  go_ret
  exact ⟨rfl, G0.out.trans (B0.out.mono G0.out.size)⟩
 have ih1 : (vn : Int) ≤ 60 := by omega
 rw [decide_eq_true h1, Bool.true_and] at hr
 clear h1
 by_cases h2 : fn ≤ 60
 rotate_left
 ·have ih2 : ¬ (fn : Int) ≤ 60 := by omega
  rw [decide_eq_false h2] at hr
  obtain rfl : r = false := by rw [← hr]; rfl
  clear h2
  go_wp2_with fail
  go_ret
  exact ⟨rfl, G0.out.trans (B0.out.mono G0.out.size)⟩
 have ih2 : (fn : Int) ≤ 60 := by omega
 rw [decide_eq_true h2, Bool.true_and] at hr
 clear h2
 cases bz with
 | false =>
  obtain rfl : r = false := by rw [← hr]; rfl
  go_wp2_with fail
  refine (KZ.out _ B0.out).mono ?_
  rintro e w1 ⟨rfl, hb⟩
  have B1 := Lib.hid (B0.out.trans (hb.mono B0.out.size))
  clear hb c0 c1 c2 c3 c4 c5 c6 c7 c8 KZ
  obtain ⟨c0, c1, c2, c3, c4, c5, c6, c7, c8⟩ := HC.out _ B1.out
  go_wp2_with fail
  go_ret
  exact ⟨rfl, G0.out.trans (B1.out.mono G0.out.size)⟩
 | true =>
  rw [Bool.true_and] at hr
  go_wp2_with fail
  refine (KZ.out _ B0.out).mono ?_
  rintro e w1 ⟨rfl, hb⟩
  have B1 := Lib.hid (B0.out.trans (hb.mono B0.out.size))
  clear hb c0 c1 c2 c3 c4 c5 c6 c7 c8 KZ
  obtain ⟨c0, c1, c2, c3, c4, c5, c6, c7, c8⟩ := HC.out _ B1.out
  cases bn with
  | false =>
   obtain rfl : r = false := by rw [← hr]; rfl
   go_wp2_with fail
   refine (KN.out _ B1.out).mono ?_
   rintro e w2 ⟨rfl, hb⟩
   have B2 := Lib.hid (B1.out.trans (hb.mono B1.out.size))
   clear hb c0 c1 c2 c3 c4 c5 c6 c7 c8 KN
   obtain ⟨c0, c1, c2, c3, c4, c5, c6, c7, c8⟩ := HC.out _ B2.out
   go_wp2_with fail
   go_ret
   exact ⟨rfl, G0.out.trans (B2.out.mono G0.out.size)⟩
  | true =>
   rw [Bool.true_and] at hr
   go_wp2_with fail
   refine (KN.out _ B1.out).mono ?_
   rintro e w2 ⟨rfl, hb⟩
   have B2 := Lib.hid (B1.out.trans (hb.mono B1.out.size))
   clear hb c0 c1 c2 c3 c4 c5 c6 c7 c8 KN
   obtain ⟨c0, c1, c2, c3, c4, c5, c6, c7, c8⟩ := HC.out _ B2.out
   cases bi with
   | false =>
    obtain rfl : r = false := by rw [← hr]; rfl
    go_wp2_with fail
    refine (KI.out _ B2.out).mono ?_
    rintro e w3 ⟨rfl, hb⟩
    have B3 := Lib.hid (B2.out.trans (hb.mono B2.out.size))
    clear hb c0 c1 c2 c3 c4 c5 c6 c7 c8 KI
    obtain ⟨c0, c1, c2, c3, c4, c5, c6, c7, c8⟩ := HC.out _ B3.out
    go_wp2_with fail
    go_ret
    exact ⟨rfl, G0.out.trans (B3.out.mono G0.out.size)⟩
   | true =>
    rw [Bool.true_and] at hr
    go_wp2_with fail
    refine (KI.out _ B2.out).mono ?_
    rintro e w3 ⟨rfl, hb⟩
    have B3 := Lib.hid (B2.out.trans (hb.mono B2.out.size))
    clear hb c0 c1 c2 c3 c4 c5 c6 c7 c8 KI
    obtain ⟨c0, c1, c2, c3, c4, c5, c6, c7, c8⟩ := HC.out _ B3.out
    subst hr
    go_wp2_with fail
    refine (KL.out _ B3.out).mono ?_
    rintro e w4 ⟨rfl, hb⟩
    have B4 := Lib.hid (B3.out.trans (hb.mono B3.out.size))
    clear hb c0 c1 c2 c3 c4 c5 c6 c7 c8 KL
    obtain ⟨c0, c1, c2, c3, c4, c5, c6, c7, c8⟩ := HC.out _ B4.out
    go_wp2_with fail
    go_ret
    exact ⟨rfl, G0.out.trans (B4.out.mono G0.out.size)⟩
set_option maxRecDepth 100000 in
set_option maxHeartbeats 4000000 in
theorem msameR {u v : Value} {a b : PMsg} {w : World} (hu : IsMsg w u a) (hv : IsMsg w v b) (hal : a.txns.length ≤ 1000000) (r : Bool) (hr : decide (a = b) = r) : Calls Tryz.prog 16 #[u, v] w (GivesB w r) := by
 obtain ⟨va, vn, vc, fa, fn, fc, za, zn, zc, na, nn, nc, ia, im, ic, la, ln, lc, rfl, H⟩ := hu.slices
 obtain ⟨yva, yvn, yvc, yfa, yfn, yfc, yza, yzn, yzc, yna, ynn, ync, yia, yim, yic, yla, yln, ylc, rfl, J⟩ := hv.slices
 rw [msg_decB] at hr
 have b1 := (Below.refl w.heap.size w).alloc (Nat.le_refl _) (.cells #[.int .i64 a.kind, .int .i64 a.ticket, .bool a.whole, .slice va vn vc, .slice fa fn fc, .slice za zn zc, .slice na nn nc, .slice ia im ic, .slice la ln lc] 28)
 have b2 := (Below.refl (w.alloc (.cells #[.int .i64 a.kind, .int .i64 a.ticket, .bool a.whole, .slice va vn vc, .slice fa fn fc, .slice za zn zc, .slice na nn nc, .slice ia im ic, .slice la ln lc] 28)).heap.size (w.alloc (.cells #[.int .i64 a.kind, .int .i64 a.ticket, .bool a.whole, .slice va vn vc, .slice fa fn fc, .slice za zn zc, .slice na nn nc, .slice ia im ic, .slice la ln lc] 28))).alloc (Nat.le_refl _) (.cells #[.int .i64 b.kind, .int .i64 b.ticket, .bool b.whole, .slice yva yvn yvc, .slice yfa yfn yfc, .slice yza yzn yzc, .slice yna ynn ync, .slice yia yim yic, .slice yla yln ylc] 28)
 have G0 := Lib.hid (b1.trans (b2.mono b1.size))
 have X := Lib.hid ((msbox_new H).below b2)
 have Y : Hid (MsBox (w.heap.size + 1) b ⟨yva, yvn, yvc, yfa, yfn, yfc, yza, yzn, yzc, yna, ynn, ync, yia, yim, yic, yla, yln, ylc⟩ ((w.alloc (.cells #[.int .i64 a.kind, .int .i64 a.ticket, .bool a.whole, .slice va vn vc, .slice fa fn fc, .slice za zn zc, .slice na nn nc, .slice ia im ic, .slice la ln lc] 28)).alloc (.cells #[.int .i64 b.kind, .int .i64 b.ticket, .bool b.whole, .slice yva yvn yvc, .slice yfa yfn yfc, .slice yza yzn yzc, .slice yna ynn ync, .slice yia yim yic, .slice yla yln ylc] 28))) := Lib.hid (by have := msbox_new (J.below b1); simpa using this)
 clear hu hv H J b1 b2
 go_enter Tryz.func16, Tryz.ntmps16
 go_upto_region 1 with fail
 generalize ((w.alloc (.cells #[.int .i64 a.kind, .int .i64 a.ticket, .bool a.whole, .slice va vn vc, .slice fa fn fc, .slice za zn zc, .slice na nn nc, .slice ia im ic, .slice la ln lc] 28)).alloc (.cells #[.int .i64 b.kind, .int .i64 b.ticket, .bool b.whole, .slice yva yvn yvc, .slice yfa yfn yfc, .slice yza yzn yzc, .slice yna ynn ync, .slice yia yim yic, .slice yla yln ylc] 28)) = w0 at *
 have HC := Lib.hid (fun u (hb : Below w0.heap.size w0 u) => (X.out.below hb).c)
 have HD := Lib.hid (fun u (hb : Below w0.heap.size w0 u) => (Y.out.below hb).c)
 have B0 := Lib.hid (Below.refl w0.heap.size w0)
 have KV := Lib.hid (fun u (hb : Below w0.heap.size w0 u) => equalR (X.out.below hb).a.v (Y.out.below hb).a.v rfl)
 have KF := Lib.hid (fun u (hb : Below w0.heap.size w0 u) => equalR (X.out.below hb).a.f (Y.out.below hb).a.f rfl)
 have KZ := Lib.hid (fun u (hb : Below w0.heap.size w0 u) => rsameTR (X.out.below hb).a.z (Y.out.below hb).a.z rfl)
 have KN := Lib.hid (fun u (hb : Below w0.heap.size w0 u) => rsameTR (X.out.below hb).a.n (Y.out.below hb).a.n rfl)
 have KI := Lib.hid (fun u (hb : Below w0.heap.size w0 u) => rsameR (X.out.below hb).a.i (Y.out.below hb).a.i rfl)
 have KL := Lib.hid (fun u (hb : Below w0.heap.size w0 u) => sameAll_any (X.out.below hb).a.l (Y.out.below hb).a.l hal)
 generalize decide (a.vec = b.vec) = bv at *
 generalize decide (a.from_ = b.from_) = bf at *
 generalize decide (a.zone = b.zone) = bz at *
 generalize decide (a.want = b.want) = bn at *
 generalize decide (a.items = b.items) = bi at *
 generalize decide (a.txns = b.txns) = bl at *
 clear hal
 obtain ⟨c0, c1, c2, c3, c4, c5, c6, c7, c8⟩ := HC.out w0 B0.out
 obtain ⟨d0, d1, d2, d3, d4, d5, d6, d7, d8⟩ := HD.out w0 B0.out
 generalize a.kind = xkind at *
 generalize b.kind = ykind at *
 generalize a.ticket = xticket at *
 generalize b.ticket = yticket at *
 generalize a.whole = xwhole at *
 generalize b.whole = ywhole at *
 by_cases h : xkind = ykind
 rotate_left
 ·have e : (xkind == ykind) = false := beq_false_of_ne h
  rw [decide_eq_false h] at hr
  obtain rfl : r = false := by rw [← hr]; rfl
  clear h
  go_wp2_with fail
  go_ret
  exact ⟨rfl, G0.out.trans (B0.out.mono G0.out.size)⟩
 have ekind : (xkind == ykind) = true := beq_iff_eq.2 h
 rw [decide_eq_true h, Bool.true_and] at hr
 clear h
 by_cases h : xticket = yticket
 rotate_left
 ·have e : (xticket == yticket) = false := beq_false_of_ne h
  rw [decide_eq_false h] at hr
  obtain rfl : r = false := by rw [← hr]; rfl
  clear h
  go_wp2_with fail
  go_ret
  exact ⟨rfl, G0.out.trans (B0.out.mono G0.out.size)⟩
 have eticket : (xticket == yticket) = true := beq_iff_eq.2 h
 rw [decide_eq_true h, Bool.true_and] at hr
 clear h
 by_cases h : xwhole = ywhole
 rotate_left
 ·have e : (xwhole == ywhole) = false := beq_false_of_ne h
  rw [decide_eq_false h] at hr
  obtain rfl : r = false := by rw [← hr]; rfl
  clear h
  go_wp2_with fail
  go_ret
  exact ⟨rfl, G0.out.trans (B0.out.mono G0.out.size)⟩
 have ewhole : (xwhole == ywhole) = true := beq_iff_eq.2 h
 rw [decide_eq_true h, Bool.true_and] at hr
 clear h
 cases bv with
 | false =>
  obtain rfl : r = false := by rw [← hr]; rfl
  go_wp2_with fail
  refine (KV.out _ B0.out).mono ?_
  rintro e w1 ⟨rfl, hb⟩
  have B1 := Lib.hid (B0.out.trans (hb.mono B0.out.size))
  clear hb c0 c1 c2 c3 c4 c5 c6 c7 c8 d0 d1 d2 d3 d4 d5 d6 d7 d8 KV
  obtain ⟨c0, c1, c2, c3, c4, c5, c6, c7, c8⟩ := HC.out _ B1.out
  obtain ⟨d0, d1, d2, d3, d4, d5, d6, d7, d8⟩ := HD.out _ B1.out
  go_wp2_with fail
  go_ret
  exact ⟨rfl, G0.out.trans (B1.out.mono G0.out.size)⟩
 | true =>
  rw [Bool.true_and] at hr
  go_wp2_with fail
  refine (KV.out _ B0.out).mono ?_
  rintro e w1 ⟨rfl, hb⟩
  have B1 := Lib.hid (B0.out.trans (hb.mono B0.out.size))
  clear hb c0 c1 c2 c3 c4 c5 c6 c7 c8 d0 d1 d2 d3 d4 d5 d6 d7 d8 KV
  obtain ⟨c0, c1, c2, c3, c4, c5, c6, c7, c8⟩ := HC.out _ B1.out
  obtain ⟨d0, d1, d2, d3, d4, d5, d6, d7, d8⟩ := HD.out _ B1.out
  cases bf with
  | false =>
   obtain rfl : r = false := by rw [← hr]; rfl
   go_wp2_with fail
   refine (KF.out _ B1.out).mono ?_
   rintro e w2 ⟨rfl, hb⟩
   have B2 := Lib.hid (B1.out.trans (hb.mono B1.out.size))
   clear hb c0 c1 c2 c3 c4 c5 c6 c7 c8 d0 d1 d2 d3 d4 d5 d6 d7 d8 KF
   obtain ⟨c0, c1, c2, c3, c4, c5, c6, c7, c8⟩ := HC.out _ B2.out
   obtain ⟨d0, d1, d2, d3, d4, d5, d6, d7, d8⟩ := HD.out _ B2.out
   go_wp2_with fail
   go_ret
   exact ⟨rfl, G0.out.trans (B2.out.mono G0.out.size)⟩
  | true =>
   rw [Bool.true_and] at hr
   go_wp2_with fail
   refine (KF.out _ B1.out).mono ?_
   rintro e w2 ⟨rfl, hb⟩
   have B2 := Lib.hid (B1.out.trans (hb.mono B1.out.size))
   clear hb c0 c1 c2 c3 c4 c5 c6 c7 c8 d0 d1 d2 d3 d4 d5 d6 d7 d8 KF
   obtain ⟨c0, c1, c2, c3, c4, c5, c6, c7, c8⟩ := HC.out _ B2.out
   obtain ⟨d0, d1, d2, d3, d4, d5, d6, d7, d8⟩ := HD.out _ B2.out
   cases bz with
   | false =>
    obtain rfl : r = false := by rw [← hr]; rfl
    go_wp2_with fail
    refine (KZ.out _ B2.out).mono ?_
    rintro e w3 ⟨rfl, hb⟩
    have B3 := Lib.hid (B2.out.trans (hb.mono B2.out.size))
    clear hb c0 c1 c2 c3 c4 c5 c6 c7 c8 d0 d1 d2 d3 d4 d5 d6 d7 d8 KZ
    obtain ⟨c0, c1, c2, c3, c4, c5, c6, c7, c8⟩ := HC.out _ B3.out
    obtain ⟨d0, d1, d2, d3, d4, d5, d6, d7, d8⟩ := HD.out _ B3.out
    go_wp2_with fail
    go_ret
    exact ⟨rfl, G0.out.trans (B3.out.mono G0.out.size)⟩
   | true =>
    rw [Bool.true_and] at hr
    go_wp2_with fail
    refine (KZ.out _ B2.out).mono ?_
    rintro e w3 ⟨rfl, hb⟩
    have B3 := Lib.hid (B2.out.trans (hb.mono B2.out.size))
    clear hb c0 c1 c2 c3 c4 c5 c6 c7 c8 d0 d1 d2 d3 d4 d5 d6 d7 d8 KZ
    obtain ⟨c0, c1, c2, c3, c4, c5, c6, c7, c8⟩ := HC.out _ B3.out
    obtain ⟨d0, d1, d2, d3, d4, d5, d6, d7, d8⟩ := HD.out _ B3.out
    cases bn with
    | false =>
     obtain rfl : r = false := by rw [← hr]; rfl
     go_wp2_with fail
     refine (KN.out _ B3.out).mono ?_
     rintro e w4 ⟨rfl, hb⟩
     have B4 := Lib.hid (B3.out.trans (hb.mono B3.out.size))
     clear hb c0 c1 c2 c3 c4 c5 c6 c7 c8 d0 d1 d2 d3 d4 d5 d6 d7 d8 KN
     obtain ⟨c0, c1, c2, c3, c4, c5, c6, c7, c8⟩ := HC.out _ B4.out
     obtain ⟨d0, d1, d2, d3, d4, d5, d6, d7, d8⟩ := HD.out _ B4.out
     go_wp2_with fail
     go_ret
     exact ⟨rfl, G0.out.trans (B4.out.mono G0.out.size)⟩
    | true =>
     rw [Bool.true_and] at hr
     go_wp2_with fail
     refine (KN.out _ B3.out).mono ?_
     rintro e w4 ⟨rfl, hb⟩
     have B4 := Lib.hid (B3.out.trans (hb.mono B3.out.size))
     clear hb c0 c1 c2 c3 c4 c5 c6 c7 c8 d0 d1 d2 d3 d4 d5 d6 d7 d8 KN
     obtain ⟨c0, c1, c2, c3, c4, c5, c6, c7, c8⟩ := HC.out _ B4.out
     obtain ⟨d0, d1, d2, d3, d4, d5, d6, d7, d8⟩ := HD.out _ B4.out
     cases bi with
     | false =>
      obtain rfl : r = false := by rw [← hr]; rfl
      go_wp2_with fail
      refine (KI.out _ B4.out).mono ?_
      rintro e w5 ⟨rfl, hb⟩
      have B5 := Lib.hid (B4.out.trans (hb.mono B4.out.size))
      clear hb c0 c1 c2 c3 c4 c5 c6 c7 c8 d0 d1 d2 d3 d4 d5 d6 d7 d8 KI
      obtain ⟨c0, c1, c2, c3, c4, c5, c6, c7, c8⟩ := HC.out _ B5.out
      obtain ⟨d0, d1, d2, d3, d4, d5, d6, d7, d8⟩ := HD.out _ B5.out
      go_wp2_with fail
      go_ret
      exact ⟨rfl, G0.out.trans (B5.out.mono G0.out.size)⟩
     | true =>
      rw [Bool.true_and] at hr
      go_wp2_with fail
      refine (KI.out _ B4.out).mono ?_
      rintro e w5 ⟨rfl, hb⟩
      have B5 := Lib.hid (B4.out.trans (hb.mono B4.out.size))
      clear hb c0 c1 c2 c3 c4 c5 c6 c7 c8 d0 d1 d2 d3 d4 d5 d6 d7 d8 KI
      obtain ⟨c0, c1, c2, c3, c4, c5, c6, c7, c8⟩ := HC.out _ B5.out
      obtain ⟨d0, d1, d2, d3, d4, d5, d6, d7, d8⟩ := HD.out _ B5.out
      subst hr
      go_wp2_with fail
      refine (KL.out _ B5.out).mono ?_
      rintro e w6 ⟨rfl, hb⟩
      have B6 := Lib.hid (B5.out.trans (hb.mono B5.out.size))
      clear hb c0 c1 c2 c3 c4 c5 c6 c7 c8 d0 d1 d2 d3 d4 d5 d6 d7 d8 KL
      obtain ⟨c0, c1, c2, c3, c4, c5, c6, c7, c8⟩ := HC.out _ B6.out
      obtain ⟨d0, d1, d2, d3, d4, d5, d6, d7, d8⟩ := HD.out _ B6.out
      go_wp2_with fail
      go_ret
      exact ⟨rfl, G0.out.trans (B6.out.mono G0.out.size)⟩
end Go.Proofs.YtfapkepfngddlaaGreat
