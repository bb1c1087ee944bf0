/- The document's own Formed of messages. (Written by gen-msfrm.py.) -/
import Derived.Test.YtfapkepfngddlaaGreatMsMsg
import Derived.Test.YtfapkepfngddlaaGreatMsPutR
import Derived.Test.YtfapkepfngddlaaGreatMsFm
import Derived.Test.YtfapkepfngddlaaGreatRefTxF2
import Derived.Test.YtfapkepfngddlaaGreatRefTxOC
import Derived.Test.YtfapkepfngddlaaGreatRefNm
import Derived.Test.YtfapkepfngddlaaGreatOrCon
import Derived.Deep.RegionHeld3
import Derived.Deep.CutBlock
set_option maxRecDepth 100000
set_option maxHeartbeats 64000000
namespace Go.Proofs.YtfapkepfngddlaaGreat
open Go.RowKit Plain
set_option linter.unusedVariables false
structure FitX (t : PTxn) : Prop where
 deps : t.deps.length ≤ 1000000
 effs : t.effs.length ≤ 1000000
 seq : t.seq ≤ 9223372036854775807
 drops : ∀ e ∈ t.effs, e.drops.length ≤ 1000000
 key : ∀ e ∈ t.effs, e.key.length ≤ 1000000
 field : ∀ e ∈ t.effs, e.field.length ≤ 9223372036854775807
structure MsFit (m : PMsg) : Prop where
 v : m.vec.length ≤ 1000000
 f : m.from_.length ≤ 1000000
 z : FitT m.zone
 zl : m.zone.length ≤ 1000000
 n : FitT m.want
 nl : m.want.length ≤ 1000000
 il : m.items.length ≤ 1000000
 i : ∀ x ∈ m.items, x.key.length ≤ 1000000 ∧ x.field.length ≤ 9223372036854775807
 tl : m.txns.length ≤ 1000000
 t : ∀ t ∈ m.txns, FitX t
theorem has_len {α : Type} {l : List α} {n : Nat} (h : l.length = n) : (!l.isEmpty) = decide (0 < n) := by
 subst h
 cases l <;> simp
theorem has_num (a : Int) : (!decide (a = 0)) = (a != 0) := by
 by_cases h : a = 0 <;> simp [h]
theorem neb {a b : Int} (h : ¬ a = b) : (a == b) = false := beq_false_of_ne h
theorem eqb {a b : Int} (h : a = b) : (a == b) = true := beq_iff_eq.2 h
theorem mformedR {v : Value} {m : PMsg} {w : World} (hv : IsMsg w v m) (hf : MsFit m) (r : Bool) (hr : mformedM m = r) : Calls Tryz.prog 12 #[v] w (GivesB w r) := by
 obtain ⟨va, vn, vc, fa, fn, fc, za, zn, zc, na, nn, nc, ia, im, ic, la, ln, lc, rfl, H⟩ := hv.slices;have G0 := zH (zB w (.cells #[.int .i64 m.kind, .int .i64 m.ticket, .bool m.whole, .slice va vn vc, .slice fa fn fc, .slice za zn zc, .slice na nn nc, .slice ia im ic, .slice la ln lc] 28));have X := zH (msbox_new H);have F := zH (frmR hr);have HF := zH hf;have D1 : Hid (m.vec.length = vn) := zH H.v.dims.1;have D2 : Hid (m.from_.length = fn) := zH H.f.dims.1;have D3 : Hid (m.zone.length = zn) := zH H.z.dims.1;have D4 : Hid (m.want.length = nn) := zH H.n.dims.1;have D5 : Hid (m.items.length = im) := zH H.i.dims.1;have D6 : Hid (m.txns.length = ln) := zH H.l.dims.1;clear hv H hf hr;go_enter Tryz.func12, Tryz.ntmps12
 go_upto_region 2 with fail
 generalize (w.alloc (.cells #[.int .i64 m.kind, .int .i64 m.ticket, .bool m.whole, .slice va vn vc, .slice fa fn fc, .slice za zn zc, .slice na nn nc, .slice ia im ic, .slice la ln lc] 28)) = w0 at *;have HC := zH (fun u (hb : Below w0.heap.size w0 u) => (X.out.below hb).c);have B0 := zH (Below.refl w0.heap.size w0);obtain ⟨c0, c1, c2, c3, c4, c5, c6, c7, c8⟩ := HC.out w0 B0.out
 by_cases hk : 1 ≤ m.kind ∧ m.kind ≤ 6
 rotate_left
 ·obtain rfl : r = false := F.out.kind hk
  have k1 : (m.kind == 1) = false := neb (by omega);have k2 : (m.kind == 2) = false := neb (by omega);have k3 : (m.kind == 3) = false := neb (by omega);have k4 : (m.kind == 4) = false := neb (by omega);have k5 : (m.kind == 5) = false := neb (by omega);have k6 : (m.kind == 6) = false := neb (by omega);clear hk;go_wp2_with fail
  go_ret
  exact ⟨rfl, G0.out⟩
 have HK := zH hk
 go_upto_block 0 with fail
 go_cut [3] (fun s3 wx => s3 = .string (bt (usesT m.kind)) ∧ w0 = wx)
 case first =>
  have hq : m.kind = 1 ∨ m.kind = 6 ∨ m.kind = 2 ∨ m.kind = 3 ∨ m.kind = 4 ∨ m.kind = 5 := by omega
  clear hk
  rcases hq with e | e | e | e | e | e
  ·have U := zH (congrArg usesT e)
   have k1 : (m.kind == 1) = true := eqb e;clear e;go_wp2_with fail
   go_meet
   exact ⟨by rw [U.out]; rfl, rfl⟩
  ·have U := zH (congrArg usesT e)
   have k1 : (m.kind == 1) = false := neb (by omega);have k6 : (m.kind == 6) = true := eqb e;clear e;go_wp2_with fail
   go_meet
   exact ⟨by rw [U.out]; rfl, rfl⟩
  ·have U := zH (congrArg usesT e)
   have k1 : (m.kind == 1) = false := neb (by omega);have k6 : (m.kind == 6) = false := neb (by omega);have k2 : (m.kind == 2) = true := eqb e;clear e;go_wp2_with fail
   go_meet
   exact ⟨by rw [U.out]; rfl, rfl⟩
  ·have U := zH (congrArg usesT e)
   have k1 : (m.kind == 1) = false := neb (by omega);have k6 : (m.kind == 6) = false := neb (by omega);have k2 : (m.kind == 2) = false := neb (by omega);have k3 : (m.kind == 3) = true := eqb e;clear e;go_wp2_with fail
   go_meet
   exact ⟨by rw [U.out]; rfl, rfl⟩
  ·have U := zH (congrArg usesT e)
   have k1 : (m.kind == 1) = false := neb (by omega);have k6 : (m.kind == 6) = false := neb (by omega);have k2 : (m.kind == 2) = false := neb (by omega);have k3 : (m.kind == 3) = false := neb (by omega);have k4 : (m.kind == 4) = true := eqb e;clear e;go_wp2_with fail
   go_meet
   exact ⟨by rw [U.out]; rfl, rfl⟩
  ·have U := zH (congrArg usesT e)
   have k1 : (m.kind == 1) = false := neb (by omega);have k6 : (m.kind == 6) = false := neb (by omega);have k2 : (m.kind == 2) = false := neb (by omega);have k3 : (m.kind == 3) = false := neb (by omega);have k4 : (m.kind == 4) = false := neb (by omega);have k5 : (m.kind == 5) = true := eqb e;clear e;go_wp2_with fail
   go_meet
   exact ⟨by rw [U.out]; rfl, rfl⟩
 case rest =>
  obtain ⟨rfl, rfl⟩ := hcut;clear hk;have UL := zH (usesT_len HK.out);go_upto_region 16 with fail
  have HH : Hid (mhasB m = [m.ticket != 0, m.whole, decide (0 < vn), decide (0 < fn), decide (0 < zn), decide (0 < nn), decide (0 < im), decide (0 < ln)]) := zH (by
   unfold mhasB;rw [has_num, has_len D1.out, has_len D2.out, has_len D3.out, has_len D4.out, has_len D5.out, has_len D6.out])
  have CB : Hid (∀ k, k < 8 → (w0.alloc (.cells #[.bool (m.ticket != 0), .bool m.whole, .bool (decide (0 < vn)), .bool (decide (0 < fn)), .bool (decide (0 < zn)), .bool (decide (0 < nn)), .bool (decide (0 < im)), .bool (decide (0 < ln))] 4)).cell? ⟨w0.heap.size, k, none⟩ = some (.bool ((mhasB m).getD k false))) := zH (fun k hk => by
   rw [HH.out];have hq : k = 0 ∨ k = 1 ∨ k = 2 ∨ k = 3 ∨ k = 4 ∨ k = 5 ∨ k = 6 ∨ k = 7 := by omega
   rcases hq with rfl | rfl | rfl | rfl | rfl | rfl | rfl | rfl <;> simp)
  have B1 := zH (B0.out.alloc (Nat.le_refl _) (.cells #[.bool (m.ticket != 0), .bool m.whole, .bool (decide (0 < vn)), .bool (decide (0 < fn)), .bool (decide (0 < zn)), .bool (decide (0 < nn)), .bool (decide (0 < im)), .bool (decide (0 < ln))] 4));have I1 := zH (index_run (usesT m.kind));clear c0 c1 c2 c3 c4 c5 c6 c7 c8 HH;generalize (w0.alloc (.cells #[.bool (m.ticket != 0), .bool m.whole, .bool (decide (0 < vn)), .bool (decide (0 < fn)), .bool (decide (0 < zn)), .bool (decide (0 < nn)), .bool (decide (0 < im)), .bool (decide (0 < ln))] 4)) = w1 at *;generalize w0.heap.size = hb0 at CB ⊢;generalize bt (usesT m.kind) = S at *;go_wp2_with fail
  go_loopw [5] (fun i wr => ∃ k : Nat, k ≤ 8 ∧ i = .int .i64 k ∧ Aside (∀ j, j < k → (mhasB m).getD j false = true → (usesT m.kind).getD j 0 = 45 → False) ∧ w1 = wr) (fun i _ => 8 - (intOf i).toNat)
  case atStart => exact ⟨0, by omega, rfl, fun j hj => absurd hj (by omega), rfl⟩
  case round =>
   obtain ⟨k, hk, rfl, HA, rfl⟩ := hrel
   by_cases hlt : k < 8
   ·have c1 := CB.out k hlt
    cases hh : (mhasB m).getD k false with
    | false =>
     rw [hh] at c1;have HA2 : Hid (∀ j, j < k + 1 → (mhasB m).getD j false = true → (usesT m.kind).getD j 0 = 45 → False) := zH (fun j hj h1 h2 => by
      by_cases h : j < k
      ·exact HA.out j h h1 h2
      ·obtain rfl : j = k := by omega
       rw [hh] at h1; cases h1)
     clear hh;go_wp2_with fail
     go_roundw
     case rel => exact ⟨k + 1, by omega, by go_num, HA2.out, trivial⟩
     case measure => simp [intOf]; omega
    | true =>
     rw [hh] at c1;have i1 := I1.out k (by rw [UL.out]; exact hlt)
     by_cases hx : (usesT m.kind).getD k 0 = 45
     ·obtain rfl : r = false := F.out.uses k hlt hh hx
      have e1 : (((((usesT m.kind).getD k 0).toNat : Nat) : Int) == 45) = true := by rw [hx]; rfl
      clear hx hh;generalize ((usesT m.kind).getD k 0).toNat = x at *;go_wp2_with fail
      go_ret
      exact ⟨rfl, G0.out.trans (B1.out.mono G0.out.size)⟩
     ·have e0 : ¬ ((usesT m.kind).getD k 0).toNat = 45 := fun e => hx (UInt8.toNat_inj.1 e)
      have e1 : (((((usesT m.kind).getD k 0).toNat : Nat) : Int) == 45) = false := neb (by omega);have HA2 : Hid (∀ j, j < k + 1 → (mhasB m).getD j false = true → (usesT m.kind).getD j 0 = 45 → False) := zH (fun j hj h1 h2 => by
       by_cases h : j < k
       ·exact HA.out j h h1 h2
       ·obtain rfl : j = k := by omega
        exact hx h2)
      clear hx hh e0;generalize ((usesT m.kind).getD k 0).toNat = x at *;go_wp2_with fail
      go_roundw
      case rel => exact ⟨k + 1, by omega, by go_num, HA2.out, trivial⟩
      case measure => simp [intOf]; omega
   ·obtain rfl : k = 8 := by omega
    have EU := zH HA.out;clear hlt hk HA CB I1;go_upto_region 21 with fail
    clear UL;obtain ⟨c0, c1, c2, c3, c4, c5, c6, c7, c8⟩ := HC.out w1 B1.out;have QV := zH F.out.vec;have QF := zH F.out.from_;have QZ := zH F.out.zone;have QN := zH F.out.want;have QY := zH (F.out.yes HK.out EU.out);have KV := zH (fun u (hb : Below w0.heap.size w0 u) => mmayR (seqI_of (X.out.below hb).a.v) HF.out.v _ rfl);have KF := zH (fun u (hb : Below w0.heap.size w0 u) => mmayR (seqI_of (X.out.below hb).a.f) HF.out.f _ rfl);have KZ := zH (fun u (hb : Below w0.heap.size w0 u) => mrightR (X.out.below hb).a.z HF.out.z HF.out.zl _ rfl);have KN := zH (fun u (hb : Below w0.heap.size w0 u) => mrightR (X.out.below hb).a.n HF.out.n HF.out.nl _ rfl);clear EU;generalize mayV m.vec = bv at *;generalize mayV m.from_ = bf at *;generalize zoneB m.zone = bz at *;generalize zoneB m.want = bn at *
    by_cases t0 : m.ticket < 0
    ·obtain rfl : r = false := F.out.t0 t0
     go_wp2_with fail
     go_ret
     exact ⟨rfl, G0.out.trans (B1.out.mono G0.out.size)⟩
    by_cases t1 : 1073741824 < m.ticket
    ·obtain rfl : r = false := F.out.t1 t1
     go_wp2_with fail
     go_ret
     exact ⟨rfl, G0.out.trans (B1.out.mono G0.out.size)⟩
    have T0 := zH t0;have T1 := zH t1
    cases bv with
    | false =>
     obtain rfl : r = false := QV.out rfl;go_wp2_with fail
     refine (KV.out _ B1.out).mono ?_;rintro e w2 ⟨rfl, hb⟩;have B2 := zH (B1.out.trans (hb.mono B1.out.size));clear hb c0 c1 c2 c3 c4 c5 c6 c7 c8;obtain ⟨c0, c1, c2, c3, c4, c5, c6, c7, c8⟩ := HC.out _ B2.out;go_wp2_with fail
     go_ret
     exact ⟨rfl, G0.out.trans (B2.out.mono G0.out.size)⟩
    | true =>
     go_wp2_with fail
     refine (KV.out _ B1.out).mono ?_;rintro e w2 ⟨rfl, hb⟩;have B2 := zH (B1.out.trans (hb.mono B1.out.size));clear hb c0 c1 c2 c3 c4 c5 c6 c7 c8;obtain ⟨c0, c1, c2, c3, c4, c5, c6, c7, c8⟩ := HC.out _ B2.out
     cases bf with
     | false =>
      obtain rfl : r = false := QF.out rfl;go_wp2_with fail
      refine (KF.out _ B2.out).mono ?_;rintro e w3 ⟨rfl, hb⟩;have B3 := zH (B2.out.trans (hb.mono B2.out.size));clear hb c0 c1 c2 c3 c4 c5 c6 c7 c8;obtain ⟨c0, c1, c2, c3, c4, c5, c6, c7, c8⟩ := HC.out _ B3.out;go_wp2_with fail
      go_ret
      exact ⟨rfl, G0.out.trans (B3.out.mono G0.out.size)⟩
     | true =>
      go_wp2_with fail
      refine (KF.out _ B2.out).mono ?_;rintro e w3 ⟨rfl, hb⟩;have B3 := zH (B2.out.trans (hb.mono B2.out.size));clear hb c0 c1 c2 c3 c4 c5 c6 c7 c8;obtain ⟨c0, c1, c2, c3, c4, c5, c6, c7, c8⟩ := HC.out _ B3.out
      cases bz with
      | false =>
       obtain rfl : r = false := QZ.out rfl;go_wp2_with fail
       refine (KZ.out _ B3.out).mono ?_;rintro e w4 ⟨rfl, hb⟩;have B4 := zH (B3.out.trans (hb.mono B3.out.size));clear hb c0 c1 c2 c3 c4 c5 c6 c7 c8;obtain ⟨c0, c1, c2, c3, c4, c5, c6, c7, c8⟩ := HC.out _ B4.out;go_wp2_with fail
       go_ret
       exact ⟨rfl, G0.out.trans (B4.out.mono G0.out.size)⟩
      | true =>
       go_wp2_with fail
       refine (KZ.out _ B3.out).mono ?_;rintro e w4 ⟨rfl, hb⟩;have B4 := zH (B3.out.trans (hb.mono B3.out.size));clear hb c0 c1 c2 c3 c4 c5 c6 c7 c8;obtain ⟨c0, c1, c2, c3, c4, c5, c6, c7, c8⟩ := HC.out _ B4.out
       cases bn with
       | false =>
        obtain rfl : r = false := QN.out rfl;go_wp2_with fail
        refine (KN.out _ B4.out).mono ?_;rintro e w5 ⟨rfl, hb⟩;have B5 := zH (B4.out.trans (hb.mono B4.out.size));clear hb c0 c1 c2 c3 c4 c5 c6 c7 c8;obtain ⟨c0, c1, c2, c3, c4, c5, c6, c7, c8⟩ := HC.out _ B5.out;go_wp2_with fail
        go_ret
        exact ⟨rfl, G0.out.trans (B5.out.mono G0.out.size)⟩
       | true =>
        go_wp2_with fail
        refine (KN.out _ B4.out).mono ?_;rintro e w5 ⟨rfl, hb⟩;have B5 := zH (B4.out.trans (hb.mono B4.out.size));clear hb c0 c1 c2 c3 c4 c5 c6 c7 c8;obtain ⟨c0, c1, c2, c3, c4, c5, c6, c7, c8⟩ := HC.out _ B5.out;clear KV KF KZ KN QV QF QZ QN
        by_cases him : 32768 < im
        ·obtain rfl : r = false := F.out.ilen (by rw [D5.out]; exact him)
         have iim : (32768 : Int) < (im : Int) := by omega
         go_wp2_with fail
         go_ret
         exact ⟨rfl, G0.out.trans (B5.out.mono G0.out.size)⟩
        have iim : ¬ (32768 : Int) < (im : Int) := by omega
        by_cases hln : 4096 < ln
        ·obtain rfl : r = false := F.out.tlen (by rw [D6.out]; exact hln)
         have iln : (4096 : Int) < (ln : Int) := by omega
         go_wp2_with fail
         go_ret
         exact ⟨rfl, G0.out.trans (B5.out.mono G0.out.size)⟩
        have iln : ¬ (4096 : Int) < (ln : Int) := by omega
        go_upto_region 23 with fail
        have QI := zH (QY.out T0.out T1.out (by trivial) (by trivial) (by trivial) (by trivial) (by rw [D5.out]; exact him) (by rw [D6.out]; exact hln));clear c0 c1 c2 c3 c4 c5 c6 c7 c8 T0 T1 t0 t1 iim iln him hln QY;have BL := zH B5.out;go_wp2_with fail
        go_loopw [6] (fun i wr => ∃ j : Nat, j ≤ im ∧ i = .int .i64 j ∧ Aside (∀ q, q < j → mayI m (m.items.getD q default) = true) ∧ Below w0.heap.size w0 wr) (fun i _ => im - (intOf i).toNat)
        case atStart => exact ⟨0, Nat.zero_le _, rfl, fun q hq => absurd hq (Nat.not_lt_zero _), BL.out⟩
        case round =>
         obtain ⟨j, hj, rfl, HB, hd⟩ := hrel;have DJ := zH hd;clear hd;obtain ⟨c0, c1, c2, c3, c4, c5, c6, c7, c8⟩ := HC.out wr DJ.out
         by_cases hlt2 : j < im
         ·obtain ⟨b, o, c, hv, -, -, -, hc'⟩ := items_spot (X.out.below DJ.out).a.i (by rw [D5.out]; omega)
          rw [D5.out] at hv;simp only [Value.slice.injEq] at hv
          obtain ⟨rfl, -, rfl⟩ := hv;obtain ⟨i0, i1, i2, i3, i4, i5, i6, i7⟩ := hc' j (by rw [D5.out]; exact hlt2);have E4J := zH (F.out.item j (by rw [D5.out]; exact hlt2));have HXJ := zH (HF.out.i _ (mem_def (xs := m.items) (j := j) (by rw [D5.out]; exact hlt2)));have HBJ : Hid (mayI m (m.items.getD j default) = true → ∀ q, q < j + 1 → mayI m (m.items.getD q default) = true) := zH (fun h q hq => by
           by_cases e : q = j
           ·rw [e]; exact h
           ·exact HB.out q (by omega))
          clear hc';generalize m.items.getD j default = x at *;have IBX : Hid (∀ u, Below (wr.alloc (.cells #[.string (bt x.key), .string (bt x.field), .int .i64 x.kind, .string (bt x.elem), .int .i64 x.n, .int .i64 x.dot.node, .int .i64 x.dot.seq, .int .i64 x.dot.pos] 47)).heap.size (wr.alloc (.cells #[.string (bt x.key), .string (bt x.field), .int .i64 x.kind, .string (bt x.elem), .int .i64 x.n, .int .i64 x.dot.node, .int .i64 x.dot.seq, .int .i64 x.dot.pos] 47)) u → ItemAt u wr.heap.size 0 x) := zH (fun u hb => ItemAt.below ⟨by simp, by simp, by simp, by simp, by simp, by simp, by simp, by simp⟩ hb (by simp));have DX := zH (DJ.out.trans ((zB wr (.cells #[.string (bt x.key), .string (bt x.field), .int .i64 x.kind, .string (bt x.elem), .int .i64 x.n, .int .i64 x.dot.node, .int .i64 x.dot.seq, .int .i64 x.dot.pos] 47)).mono DJ.out.size));go_upto_region 27 with fail
          clear i0 i1 i2 i3 i4 i5 i6 i7 c0 c1 c2 c3 c4 c5 c6 c7 c8;generalize (wr.alloc (.cells #[.string (bt x.key), .string (bt x.field), .int .i64 x.kind, .string (bt x.elem), .int .i64 x.n, .int .i64 x.dot.node, .int .i64 x.dot.seq, .int .i64 x.dot.pos] 47)) = wx at *;generalize wr.heap.size = bx at *;have KX : Hid (∀ u, Below wx.heap.size wx u → Below wx.heap.size wx u ∧ u.cell? ⟨w.heap.size, 3, none⟩ = some (.slice va vn vc) ∧ u.cell? ⟨w.heap.size, 6, none⟩ = some (.slice na nn nc) ∧ u.cell? ⟨bx, 0, none⟩ = some (.string (bt x.key)) ∧ u.cell? ⟨bx, 1, none⟩ = some (.string (bt x.field)) ∧ u.cell? ⟨bx, 2, none⟩ = some (.int .i64 x.kind) ∧ u.cell? ⟨bx, 3, none⟩ = some (.string (bt x.elem)) ∧ u.cell? ⟨bx, 4, none⟩ = some (.int .i64 x.n) ∧ u.cell? ⟨bx, 5, none⟩ = some (.int .i64 x.dot.node) ∧ u.cell? ⟨bx, 6, none⟩ = some (.int .i64 x.dot.seq) ∧ u.cell? ⟨bx, 7, none⟩ = some (.int .i64 x.dot.pos)) := zH (fun u hb => by
           obtain ⟨-, -, -, h3, -, -, h6, -, -⟩ := HC.out u (DX.out.trans (hb.mono DX.out.size));exact ⟨hb, h3, h6, (IBX.out u hb).zero⟩)
          have KF := zH (fun u => rformed_any x u (by have := HXJ.out.1; omega) HXJ.out.2);have KC := zH (fun u (hb : Below wx.heap.size wx u) => rcoversB (X.out.below (DX.out.trans (hb.mono DX.out.size))).a.n HF.out.n HF.out.nl x.key HXJ.out.1);have KA := zH (fun u (hb : Below wx.heap.size wx u) => vc_rat_any (seqI_of (X.out.below (DX.out.trans (hb.mono DX.out.size))).a.v) x.dot.node);have SI : Hid (mayI m x = (formedB x && (covers m.want x.key && decide (x.dot.seq ≤ saysI m.vec x.dot.node)))) := zH rfl;rw [itv_eq4] at KF;generalize mayI m x = si at *;generalize covers m.want x.key = cv at *;generalize saysI m.vec x.dot.node = sy at *;generalize formedB x = fx at *
          cases fx with
          | false =>
           rw [Bool.false_and] at SI;obtain rfl : r = false := E4J.out SI.out;refine wp_region_held_drew (S := fun u' => Below wx.heap.size wx u' ∧ u'.cell? ⟨w.heap.size, 3, none⟩ = some (.slice va vn vc) ∧ u'.cell? ⟨w.heap.size, 6, none⟩ = some (.slice na nn nc) ∧ u'.cell? ⟨bx, 0, none⟩ = some (.string (bt x.key)) ∧ u'.cell? ⟨bx, 1, none⟩ = some (.string (bt x.field)) ∧ u'.cell? ⟨bx, 2, none⟩ = some (.int .i64 x.kind) ∧ u'.cell? ⟨bx, 3, none⟩ = some (.string (bt x.elem)) ∧ u'.cell? ⟨bx, 4, none⟩ = some (.int .i64 x.n) ∧ u'.cell? ⟨bx, 5, none⟩ = some (.int .i64 x.dot.node) ∧ u'.cell? ⟨bx, 6, none⟩ = some (.int .i64 x.dot.seq) ∧ u'.cell? ⟨bx, 7, none⟩ = some (.int .i64 x.dot.pos)) (by kernel_rfl) ?_ (fun hHeld => ?_)
           ·(exact KX.out _ (Below.refl _ _).drew)
           simp only [zS, Nat.zero_add, Nat.reduceAdd]
           refine tkB 0 hHeld ?_;refine rd 1 fun K hK => ?_
           go_simp
           refine (KF.out _).mono ?_;rintro e s1 ⟨rfl, hb⟩;refine hK.out _ _ (KX.out _ (holdC hHeld hb)) (fun hHeld => ?_);clear hK K hb;refine tkB 2 hHeld ?_;refine tkB 3 hHeld ?_;refine tkS 4 hHeld ?_;refine tkS 5 hHeld ?_;refine tkS 6 hHeld ?_;refine tkS 7 hHeld ?_;refine tkS 8 hHeld ?_;refine tkS 9 hHeld ?_;refine tkB 10 hHeld ?_;refine tkB 11 hHeld ?_;refine tkS 12 hHeld ?_;refine tkS 13 hHeld ?_;refine tkS 14 hHeld ?_;refine tkS 15 hHeld ?_;refine tkS 16 hHeld ?_;refine tkS 17 hHeld ?_;refine tkS 18 hHeld ?_;refine tkS 19 hHeld ?_;refine tkS 20 hHeld ?_;refine tkS 21 hHeld ?_;refine tkB 22 hHeld ?_;refine wpAnyH_done (by kernel_rfl) ?_ _;have GZ := zH (DX.out.trans (hHeld.1.mono DX.out.size));clear hHeld;go_wp2_with fail
           go_ret
           exact ⟨rfl, G0.out.trans (GZ.out.mono G0.out.size)⟩
          | true =>
           rw [Bool.true_and] at SI
           cases cv with
           | false =>
            rw [Bool.false_and] at SI;obtain rfl : r = false := E4J.out SI.out;refine wp_region_held_drew (S := fun u' => Below wx.heap.size wx u' ∧ u'.cell? ⟨w.heap.size, 3, none⟩ = some (.slice va vn vc) ∧ u'.cell? ⟨w.heap.size, 6, none⟩ = some (.slice na nn nc) ∧ u'.cell? ⟨bx, 0, none⟩ = some (.string (bt x.key)) ∧ u'.cell? ⟨bx, 1, none⟩ = some (.string (bt x.field)) ∧ u'.cell? ⟨bx, 2, none⟩ = some (.int .i64 x.kind) ∧ u'.cell? ⟨bx, 3, none⟩ = some (.string (bt x.elem)) ∧ u'.cell? ⟨bx, 4, none⟩ = some (.int .i64 x.n) ∧ u'.cell? ⟨bx, 5, none⟩ = some (.int .i64 x.dot.node) ∧ u'.cell? ⟨bx, 6, none⟩ = some (.int .i64 x.dot.seq) ∧ u'.cell? ⟨bx, 7, none⟩ = some (.int .i64 x.dot.pos)) (by kernel_rfl) ?_ (fun hHeld => ?_)
            ·(exact KX.out _ (Below.refl _ _).drew)
            simp only [zS, Nat.zero_add, Nat.reduceAdd]
            refine tkB 0 hHeld ?_;refine rd 1 fun K hK => ?_
            go_simp
            refine (KF.out _).mono ?_;rintro e s1 ⟨rfl, hb⟩;refine hK.out _ _ (KX.out _ (holdC hHeld hb)) (fun hHeld => ?_);clear hK K hb;refine tkB 2 hHeld ?_;refine tkB 3 hHeld ?_;refine tkB 4 hHeld ?_;refine tkB 5 hHeld ?_;refine tkB 6 hHeld ?_;refine tkB 7 hHeld ?_;refine rd 8 fun K hK => ?_
            go_simp
            refine (KC.out _ hHeld.1).mono ?_;rintro e s2 ⟨rfl, hb⟩;refine hK.out _ _ (KX.out _ (holdC hHeld hb)) (fun hHeld => ?_);clear hK K hb;refine tkB 9 hHeld ?_;refine tkB 10 hHeld ?_;refine tkB 11 hHeld ?_;refine tkS 12 hHeld ?_;refine tkS 13 hHeld ?_;refine tkS 14 hHeld ?_;refine tkS 15 hHeld ?_;refine tkS 16 hHeld ?_;refine tkS 17 hHeld ?_;refine tkS 18 hHeld ?_;refine tkS 19 hHeld ?_;refine tkS 20 hHeld ?_;refine tkS 21 hHeld ?_;refine tkB 22 hHeld ?_;refine wpAnyH_done (by kernel_rfl) ?_ _;have GZ := zH (DX.out.trans (hHeld.1.mono DX.out.size));clear hHeld;go_wp2_with fail
            go_ret
            exact ⟨rfl, G0.out.trans (GZ.out.mono G0.out.size)⟩
           | true =>
            rw [Bool.true_and] at SI;refine wp_region_held_drew (S := fun u' => Below wx.heap.size wx u' ∧ u'.cell? ⟨w.heap.size, 3, none⟩ = some (.slice va vn vc) ∧ u'.cell? ⟨w.heap.size, 6, none⟩ = some (.slice na nn nc) ∧ u'.cell? ⟨bx, 0, none⟩ = some (.string (bt x.key)) ∧ u'.cell? ⟨bx, 1, none⟩ = some (.string (bt x.field)) ∧ u'.cell? ⟨bx, 2, none⟩ = some (.int .i64 x.kind) ∧ u'.cell? ⟨bx, 3, none⟩ = some (.string (bt x.elem)) ∧ u'.cell? ⟨bx, 4, none⟩ = some (.int .i64 x.n) ∧ u'.cell? ⟨bx, 5, none⟩ = some (.int .i64 x.dot.node) ∧ u'.cell? ⟨bx, 6, none⟩ = some (.int .i64 x.dot.seq) ∧ u'.cell? ⟨bx, 7, none⟩ = some (.int .i64 x.dot.pos)) (by kernel_rfl) ?_ (fun hHeld => ?_)
            ·(exact KX.out _ (Below.refl _ _).drew)
            simp only [zS, Nat.zero_add, Nat.reduceAdd]
            refine tkB 0 hHeld ?_;refine rd 1 fun K hK => ?_
            go_simp
            refine (KF.out _).mono ?_;rintro e s1 ⟨rfl, hb⟩;refine hK.out _ _ (KX.out _ (holdC hHeld hb)) (fun hHeld => ?_);clear hK K hb;refine tkB 2 hHeld ?_;refine tkB 3 hHeld ?_;refine tkB 4 hHeld ?_;refine tkB 5 hHeld ?_;refine tkB 6 hHeld ?_;refine tkB 7 hHeld ?_;refine rd 8 fun K hK => ?_
            go_simp
            refine (KC.out _ hHeld.1).mono ?_;rintro e s2 ⟨rfl, hb⟩;refine hK.out _ _ (KX.out _ (holdC hHeld hb)) (fun hHeld => ?_);clear hK K hb;refine tkB 9 hHeld ?_;refine tkB 10 hHeld ?_;refine tkB 11 hHeld ?_;refine tkB 12 hHeld ?_;refine tkB 13 hHeld ?_;refine tkB 14 hHeld ?_;refine tkB 15 hHeld ?_;refine tkB 16 hHeld ?_;refine tkB 17 hHeld ?_;refine tkB 18 hHeld ?_;refine tkB 19 hHeld ?_;refine rd 20 fun K hK => ?_
            go_simp
            refine (KA.out _ hHeld.1).mono ?_;rintro e s3 ⟨rfl, hz⟩;have hb := below_of_same hz;clear hz;refine hK.out _ _ (KX.out _ (holdC hHeld hb)) (fun hHeld => ?_);clear hK K hb;refine tkB 21 hHeld ?_;refine tkB 22 hHeld ?_;refine wpAnyH_done (by kernel_rfl) ?_ _;have DY := zH (DX.out.trans (hHeld.1.mono DX.out.size));clear hHeld
            by_cases hq : x.dot.seq ≤ sy
            ·have iq : ¬ sy < x.dot.seq := by omega
             have HN := zH (HBJ.out (by rw [SI.out]; exact decide_eq_true hq));clear hq;go_wp2_with fail
             go_roundw
             case rel => exact ⟨j + 1, by omega, by go_num, HN.out, DY.out⟩
             case measure => simp [intOf]; omega
            ·have iq : sy < x.dot.seq := by omega
             obtain rfl : r = false := E4J.out (by rw [SI.out]; exact decide_eq_false hq);clear hq;go_wp2_with fail
             go_ret
             exact ⟨rfl, G0.out.trans (DY.out.mono G0.out.size)⟩
         ·obtain rfl : j = im := by omega
          have QJ := zH (QI.out (by rw [D5.out]; exact HB.out));clear QI HB hlt2 hj;go_upto_region 29 with fail
          clear c0 c1 c2 c3 c4 c5 c6 c7 c8;have KE : Hid (∀ u, Below wr.heap.size wr u → Below wr.heap.size wr u ∧ u.cell? ⟨w.heap.size, 7, none⟩ = some (.slice ia j ic)) := zH (fun u hb => by
           obtain ⟨-, -, -, -, -, -, -, h7, -⟩ := HC.out u (DJ.out.trans (hb.mono DJ.out.size));exact ⟨hb, h7⟩)
          have KN := zH (fun u (hb : Below wr.heap.size wr u) => rnormI_any (X.out.below (DJ.out.trans (hb.mono DJ.out.size))).a.i HF.out.il);have KM := zH (fun u nv (hb : Below wr.heap.size wr u) (hs : SeqE LItem u nv (inorm m.items)) => rsameIR (X.out.below (DJ.out.trans (hb.mono DJ.out.size))).a.i hs (rfl : decide (m.items = inorm m.items) = _));have QN := zH F.out.norm;generalize decide (m.items = inorm m.items) = bn at *;generalize inorm m.items = nl at *;refine wp_region_held_drew (S := fun u' => Below wr.heap.size wr u' ∧ u'.cell? ⟨w.heap.size, 7, none⟩ = some (.slice ia j ic)) (by kernel_rfl) ?_ (fun hHeld => ?_)
          ·(exact KE.out _ (Below.refl _ _).drew)
          simp only [zS, Nat.zero_add, Nat.reduceAdd]
          refine tkB 0 hHeld ?_;refine tkB 1 hHeld ?_;refine tkB 2 hHeld ?_;refine tkB 3 hHeld ?_;refine rd 4 fun K hK => ?_
          go_simp
          refine (KN.out _ hHeld.1).mono ?_;rintro e s1 ⟨nv, rfl, ho, hb⟩;have SN := zH ho.seq;clear ho;refine hK.out _ _ (KE.out _ (holdC hHeld hb)) (fun hHeld => ?_);clear hK K hb;refine rd 5 fun K hK => ?_
          go_simp
          refine (KM.out _ _ hHeld.1 SN.out).mono ?_;rintro e s2 ⟨rfl, hb⟩;refine hK.out _ _ (KE.out _ (holdC hHeld hb)) (fun hHeld => ?_);clear hK K hb;refine tkB 6 hHeld ?_;refine wpAnyH_done (by kernel_rfl) ?_ _;have DZ := zH (DJ.out.trans (hHeld.1.mono DJ.out.size));clear hHeld SN KN KM KE
          cases bn with
          | false =>
           obtain rfl : r = false := QN.out rfl;go_wp2_with fail
           go_ret
           exact ⟨rfl, G0.out.trans (DZ.out.mono G0.out.size)⟩
          | true =>
           have QK := zH (QJ.out (by trivial));clear QJ QN DJ
           rename World => wy
           go_upto_region 31 with fail
           obtain ⟨c0, c1, c2, c3, c4, c5, c6, c7, c8⟩ := HC.out wy DZ.out;have SF := zH (seqI_of (X.out.below DZ.out).a.f);go_wp2_with fail
           go_loopw [8, 9] (fun s8 i wr => ∃ (k : Nat) (u : Ints), k ≤ ln ∧ i = .int .i64 k ∧ SeqI wr s8 u ∧ Aside ((∀ q, q < k → tformedB (otx m.txns q) = true) ∧ (m.kind = 4 → (∀ q, q < k → decide (otx m.txns q = tonly (otx m.txns q) m.want) = true) ∧ oChain m.from_ (m.txns.take k) = true ∧ u = oEnd m.from_ (m.txns.take k)) ∧ u.length ≤ 1000000 ∧ Below w0.heap.size w0 wr)) (fun _ i _ => ln - (intOf i).toNat)
           case atStart => exact ⟨0, m.from_, Nat.zero_le _, rfl, SF.out, fun q hq => absurd hq (Nat.not_lt_zero _), fun _ => ⟨fun q hq => absurd hq (Nat.not_lt_zero _), rfl, rfl⟩, HF.out.f, DZ.out⟩
           case round =>
            clear c0 c1 c2 c3 c4 c5 c6 c7 c8 SF;obtain ⟨k, u, hk, rfl, hs, hrel⟩ := hrel;obtain ⟨h1, h2, h3, h4⟩ := Aside.out hrel;have C1 := zH h1;have C2 := zH h2;have C3 := zH h3;have DT := zH h4;have SU := zH hs;obtain ⟨ua, uc, rfl, -, -, -, -⟩ := hs.parts;clear hrel h1 h2 h3 h4 hs DZ;obtain ⟨c0, c1, c2, c3, c4, c5, c6, c7, c8⟩ := HC.out wr DT.out
            by_cases hlt : k < ln
            ·have hkl : k < m.txns.length := by rw [D6.out]; exact hlt
             obtain ⟨lb, lo, rfl, hc⟩ := txns_at (show SeqE LTxn wr (.slice la ln lc) m.txns from (X.out.below DT.out).a.l) (by omega);obtain ⟨da, dn, dc, ea, en, ec, hW⟩ := hc k hlt;have FX := zH (HF.out.t _ (otx_mem hkl));have E11 := zH (F.out.txn k hkl);have E12 := zH (fun k4 => F.out.only k4 k hkl);have GO := zH (fun k4 => chain_go hkl (C2.out k4).2.1 (C2.out k4).2.2);have NO := zH (fun k4 h => F.out.chain k4 (chain_no hkl (C2.out k4).2.1 (C2.out k4).2.2 h));have HT2 : Hid (tformedB (otx m.txns k) = true → ∀ q, q < k + 1 → tformedB (otx m.txns q) = true) := zH (fun h q hq => by
              by_cases e : q = k
              ·rw [e]; exact h
              ·exact C1.out q (by omega))
             have HO2 : Hid (m.kind = 4 → decide (otx m.txns k = tonly (otx m.txns k) m.want) = true → ∀ q, q < k + 1 → decide (otx m.txns q = tonly (otx m.txns q) m.want) = true) := zH (fun k4 h q hq => by
              by_cases e : q = k
              ·rw [e]; exact h
              ·exact (C2.out k4).1 q (by omega))
             have C2N := zH (fun h4 : ¬ m.kind = 4 => C3.out);have NL : Hid ((oNext u (otx m.txns k)).length ≤ 1000000) := zH (by have := oNext_len u (otx m.txns k); have := C3.out; omega);have HW := zH hW;clear hc hkl hW;generalize otx m.txns k = t at *;obtain ⟨q0, q1, q2, q3⟩ := (HW.out wr (Below.refl _ _)).1;have BXT : Hid (∀ u, Below (wr.alloc (.cells #[.int .i64 t.node, .int .i64 t.seq, .slice da dn dc, .slice ea en ec] 51)).heap.size (wr.alloc (.cells #[.int .i64 t.node, .int .i64 t.seq, .slice da dn dc, .slice ea en ec] 51)) u → u.cell? ⟨wr.heap.size, 0, none⟩ = some (.int .i64 t.node) ∧ u.cell? ⟨wr.heap.size, 1, none⟩ = some (.int .i64 t.seq) ∧ u.cell? ⟨wr.heap.size, 2, none⟩ = some (.slice da dn dc) ∧ u.cell? ⟨wr.heap.size, 3, none⟩ = some (.slice ea en ec)) := zH (fun u hb => (st4_cells ((hb.block _ (by simp)).trans (heap_alloc_new wr _))).1);have BW := zH (zB wr (.cells #[.int .i64 t.node, .int .i64 t.seq, .slice da dn dc, .slice ea en ec] 51));have KFm := zH (fun W (hb : Below wr.heap.size wr W) => rtformedP (HW.out W hb).2 FX.out.drops (fun e he => ⟨by have := FX.out.key e he; omega, FX.out.field e he⟩) FX.out.deps _ rfl);have KR := zH (fun W (hb : Below wr.heap.size wr W) => oreadyR_any (SU.out.below hb) (HW.out W hb).2 C3.out FX.out.deps FX.out.seq);have KO := zH (fun W (hb : Below wr.heap.size wr W) => rtxonlyP (HW.out W hb).2 (X.out.below (DT.out.trans (hb.mono DT.out.size))).a.n HF.out.n HF.out.nl FX.out.key FX.out.effs);have KS := zH (fun W uv (hb : Below wr.heap.size wr W) (h : IsTxn W uv (tonly t m.want)) => rsameTx (HW.out W hb).2 h _ rfl);have KX2 := zH (fun W (hb : Below wr.heap.size wr W) => onextR_any (SU.out.below hb) (HW.out W hb).2 C3.out);generalize tformedB t = tf at *;generalize decide (t = tonly t m.want) = os at *;generalize oReady u t = rd at *;go_upto_region 36 with fail
             clear q0 q1 q2 q3 c0 c1 c2 c3 c4 c5 c6 c7 c8;generalize (wr.alloc (.cells #[.int .i64 t.node, .int .i64 t.seq, .slice da dn dc, .slice ea en ec] 51)) = wb at *;generalize hbx : wr.heap.size = bx at BXT ⊢;obtain ⟨q0, q1, q2, q3⟩ := BXT.out wb (Below.refl _ _);have KF1 := KFm.out wb BW.out;clear hbx KFm
             cases tf with
             | false =>
              obtain rfl : r = false := E11.out (by trivial);go_wp2_with fail
              refine KF1.mono ?_;rintro e w2 ⟨rfl, hb⟩;have GZ := zH (DT.out.trans ((BW.out.trans (hb.mono BW.out.size)).mono DT.out.size));clear hb KF1 q0 q1 q2 q3;go_wp2_with fail
              go_ret
              exact ⟨rfl, G0.out.trans (GZ.out.mono G0.out.size)⟩
             | true =>
              have HT3 := zH (HT2.out (by trivial));clear HT2 E11
              by_cases k4 : m.kind = 4
              rotate_left
              ·have b4 : (m.kind != 4) = true := by simp [k4]
               have K4 := zH k4;clear k4;go_wp2_with fail
               refine KF1.mono ?_;rintro e w2 ⟨rfl, hb⟩;have B2 := zH (BW.out.trans (hb.mono BW.out.size));have GZ := zH (DT.out.trans (B2.out.mono DT.out.size));clear hb KF1 q0 q1 q2 q3;obtain ⟨c0, c1, c2, c3, c4, c5, c6, c7, c8⟩ := HC.out _ GZ.out;go_wp2_with fail
               go_roundw
               case rel => exact ⟨k + 1, u, by omega, by go_num, SU.out.below B2.out, HT3.out, fun h => absurd h K4.out, C3.out, GZ.out⟩
               case measure => simp [intOf]; omega
              have b4 : (m.kind != 4) = false := by simp [k4]
              have K4 := zH k4;clear k4;go_wp2_with fail
              refine KF1.mono ?_;rintro e w2 ⟨rfl, hb⟩;have B2 := zH (BW.out.trans (hb.mono BW.out.size));have GZ := zH (DT.out.trans (B2.out.mono DT.out.size));have KE : Hid (∀ u, Below w2.heap.size w2 u → Below w2.heap.size w2 u ∧ u.cell? ⟨w.heap.size, 6, none⟩ = some (.slice na nn nc) ∧ u.cell? ⟨bx, 0, none⟩ = some (.int .i64 t.node) ∧ u.cell? ⟨bx, 1, none⟩ = some (.int .i64 t.seq) ∧ u.cell? ⟨bx, 2, none⟩ = some (.slice da dn dc) ∧ u.cell? ⟨bx, 3, none⟩ = some (.slice ea en ec)) := zH (fun u h => by
               obtain ⟨-, -, -, -, -, -, h6, -, -⟩ := HC.out u (GZ.out.trans (h.mono GZ.out.size));exact ⟨h, h6, BXT.out u (hb.trans (h.mono hb.size))⟩)
              clear hb KF1 q0 q1 q2 q3;obtain ⟨c0, c1, c2, c3, c4, c5, c6, c7, c8⟩ := HC.out _ GZ.out;go_upto_region 39 with fail
              clear c0 c1 c2 c3 c4 c5 c6 c7 c8 b4;have KR2 := zH (fun W (hb : Below w2.heap.size w2 W) => KR.out W (B2.out.trans (hb.mono B2.out.size)));have KO2 := zH (fun W (hb : Below w2.heap.size w2 W) => KO.out W (B2.out.trans (hb.mono B2.out.size)));have KS2 := zH (fun W uv (hb : Below w2.heap.size w2 W) h => KS.out W uv (B2.out.trans (hb.mono B2.out.size)) h)
              cases rd with
              | false =>
               obtain rfl : r = false := NO.out K4.out (by simp);refine wp_region_held_drew (S := fun u' => Below w2.heap.size w2 u' ∧ u'.cell? ⟨w.heap.size, 6, none⟩ = some (.slice na nn nc) ∧ u'.cell? ⟨bx, 0, none⟩ = some (.int .i64 t.node) ∧ u'.cell? ⟨bx, 1, none⟩ = some (.int .i64 t.seq) ∧ u'.cell? ⟨bx, 2, none⟩ = some (.slice da dn dc) ∧ u'.cell? ⟨bx, 3, none⟩ = some (.slice ea en ec)) (by kernel_rfl) ?_ (fun hHeld => ?_)
               ·(exact KE.out _ (Below.refl _ _).drew)
               simp only [zS, Nat.zero_add, Nat.reduceAdd]
               refine tkB 0 hHeld ?_;refine tkB 1 hHeld ?_;refine rd 2 fun K hK => ?_
               go_simp
               refine (KR2.out _ hHeld.1).mono ?_;rintro e s1 ⟨rfl, hb⟩;refine hK.out _ _ (KE.out _ (holdC hHeld hb)) (fun hHeld => ?_);clear hK K hb;refine tkB 3 hHeld ?_;refine tkB 4 hHeld ?_;refine tkS 5 hHeld ?_;refine tkS 6 hHeld ?_;refine tkS 7 hHeld ?_;refine tkS 8 hHeld ?_;refine tkS 9 hHeld ?_;refine tkS 10 hHeld ?_;refine tkS 11 hHeld ?_;refine tkB 12 hHeld ?_;refine wpAnyH_done (by kernel_rfl) ?_ _;have GY := zH (GZ.out.trans (hHeld.1.mono GZ.out.size));clear hHeld;go_wp2_with fail
               go_ret
               exact ⟨rfl, G0.out.trans (GY.out.mono G0.out.size)⟩
              | true =>
               have GO2 := zH (GO.out K4.out (by trivial));clear GO NO;refine wp_region_held_drew (S := fun u' => Below w2.heap.size w2 u' ∧ u'.cell? ⟨w.heap.size, 6, none⟩ = some (.slice na nn nc) ∧ u'.cell? ⟨bx, 0, none⟩ = some (.int .i64 t.node) ∧ u'.cell? ⟨bx, 1, none⟩ = some (.int .i64 t.seq) ∧ u'.cell? ⟨bx, 2, none⟩ = some (.slice da dn dc) ∧ u'.cell? ⟨bx, 3, none⟩ = some (.slice ea en ec)) (by kernel_rfl) ?_ (fun hHeld => ?_)
               ·(exact KE.out _ (Below.refl _ _).drew)
               simp only [zS, Nat.zero_add, Nat.reduceAdd]
               refine tkB 0 hHeld ?_;refine tkB 1 hHeld ?_;refine rd 2 fun K hK => ?_
               go_simp
               refine (KR2.out _ hHeld.1).mono ?_;rintro e s1 ⟨rfl, hb⟩;refine hK.out _ _ (KE.out _ (holdC hHeld hb)) (fun hHeld => ?_);clear hK K hb;refine tkB 3 hHeld ?_;refine tkB 4 hHeld ?_;refine tkB 5 hHeld ?_;refine tkB 6 hHeld ?_;refine tkB 7 hHeld ?_;refine tkB 8 hHeld ?_;refine rd 9 fun K hK => ?_
               go_simp
               refine (KO2.out _ hHeld.1).mono ?_;rintro e s2 ⟨uv, rfl, hu, hb⟩;have HU := zH hu;clear hu;refine hK.out _ _ (KE.out _ (holdC hHeld hb)) (fun hHeld => ?_);clear hK K hb;refine rd 10 fun K hK => ?_
               go_simp
               refine (KS2.out _ _ hHeld.1 HU.out).mono ?_;rintro e s3 ⟨rfl, hb⟩;refine hK.out _ _ (KE.out _ (holdC hHeld hb)) (fun hHeld => ?_);clear hK K hb;refine tkB 11 hHeld ?_;refine tkB 12 hHeld ?_;refine wpAnyH_done (by kernel_rfl) ?_ _
               cases os with
               | false =>
                obtain rfl : r = false := E12.out K4.out (by trivial);have GY := zH (GZ.out.trans (hHeld.1.mono GZ.out.size));clear hHeld;go_wp2_with fail
                go_ret
                exact ⟨rfl, G0.out.trans (GY.out.mono G0.out.size)⟩
               | true =>
                have HO3 := zH (HO2.out K4.out (by trivial));obtain ⟨b2, q6, q0, q1, q2, q3⟩ := KE.out _ hHeld.1;have GY := zH (GZ.out.trans (b2.mono GZ.out.size));have KN1 := KX2.out _ (B2.out.trans (b2.mono B2.out.size));clear hHeld HO2 E12 q6 b2 HU
                rename World => wz
                go_wp2_with fail
                refine KN1.mono ?_;rintro e w4 ⟨v4, rfl, ho, hb⟩;have S4 := zH ho.seq;have GX := zH (GY.out.trans (hb.mono GY.out.size));clear ho hb KN1 q0 q1 q2 q3;go_wp2_with fail
                go_roundw
                case rel => exact ⟨k + 1, _, by omega, by go_num, S4.out, HT3.out, fun _ => ⟨HO3.out, GO2.out.1, GO2.out.2⟩, NL.out, GX.out⟩
                case measure => simp [intOf]; omega
            ·obtain rfl : k = ln := by omega
             by_cases k4 : m.kind = 4
             rotate_left
             ·have b4 : (m.kind != 4) = true := by simp [k4]
              obtain rfl : r = true := QK.out (by rw [D6.out]; exact C1.out) (fun h => absurd h k4);clear k4;go_wp2_with fail
              go_ret
              exact ⟨rfl, G0.out.trans (DT.out.mono G0.out.size)⟩
             have b4 : (m.kind != 4) = false := by simp [k4]
             have K4 := zH k4;have CT := zH (C2.out k4);have EC : Hid (oChain m.from_ m.txns = true ∧ u = oEnd m.from_ m.txns) := zH (by
              have := CT.out.2;rw [← D6.out, List.take_length] at this;exact this)
             clear k4;have KQ := vc_requal_any SU.out (seqI_of (X.out.below DT.out).a.v);have ES : Hid (decide (u = m.vec) = false → r = false) := zH (by rw [EC.out.2]; exact F.out.stop K4.out);have EY : Hid (decide (u = m.vec) = true → r = true) := zH (fun h => QK.out (by rw [D6.out]; exact C1.out) (fun _ => ⟨by rw [D6.out]; exact CT.out.1, EC.out.1, by rw [← EC.out.2]; exact h⟩));generalize decide (u = m.vec) = ev at *;obtain rfl : r = ev := by
              cases ev with
              | false => exact ES.out rfl
              | true => exact EY.out rfl
             clear ES EY EC CT;go_wp2_with fail
             refine KQ.mono ?_;rintro e w5 ⟨rfl, q, rfl⟩;go_wp2_with fail
             go_ret
             exact ⟨rfl, G0.out.trans ((below_drewN DT.out q).mono G0.out.size)⟩
end Go.Proofs.YtfapkepfngddlaaGreat
