/- What the program's own areItems of messages leaves. (Written by gen-msfrmp.py.) What the program's own Right of texts leaves. What the program's own Formed of messages leaves. (Written by gen-msfrmp.py.) -/
import Derived.Test.YtfapkepfngddlaaGreatMsFmA
import Derived.Test.YtfapkepfngddlaaGreatIKeyF
import Derived.Test.YtfapkepfngddlaaGreatINorms
import Derived.Test.YtfapkepfngddlaaGreatStItems
import Derived.Test.YtfapkepfngddlaaGreatVcAll
import Derived.Deep.RegionHeld3
import Derived.RegionTactic
import Derived.Test.YtfapkepfngddlaaGreatMsPutR
set_option maxRecDepth 100000
set_option maxHeartbeats 64000000
namespace Go.Proofs.YtfapkepfngddlaaGreat
open Go.RowKit Plain
set_option linter.unusedVariables false
theorem mgivesWrong {W : World} {m : PMsg} {s : MsSl} {B : Nat} (X : MsBox B m s W) (hl : m.want.length ≤ 1000000) (x : PItem) :
  Calls Tryz.prog 69 (#[itv x] ++ #[.pointer (some ⟨B, 0, none⟩)]) W (GivesB W (wrongI m x)) := by
 have hb := zB W (.cells #[.string (bt x.key), .string (bt x.field), .int .i64 x.kind, .string (bt x.elem), .int .i64 x.n, .int .i64 x.dot.node, .int .i64 x.dot.seq, .int .i64 x.dot.pos] 47);have G := zH hb;have XB := zH (X.below hb);have IB := zH (itemAt_box W x);have HI := zH (fun u (h : Below (W.alloc (.cells #[.string (bt x.key), .string (bt x.field), .int .i64 x.kind, .string (bt x.elem), .int .i64 x.n, .int .i64 x.dot.node, .int .i64 x.dot.seq, .int .i64 x.dot.pos] 47)).heap.size (W.alloc (.cells #[.string (bt x.key), .string (bt x.field), .int .i64 x.kind, .string (bt x.elem), .int .i64 x.n, .int .i64 x.dot.node, .int .i64 x.dot.seq, .int .i64 x.dot.pos] 47)) u) => ((IB.out.below h (by simp)).zero));have HR : Hid (wrongI m x = (!formedB x || (!covers m.want x.key || !(decide (1 ≤ x.dot.seq) && decide (x.dot.seq ≤ saysI m.vec x.dot.node))))) := zH rfl;clear hb X;obtain ⟨va, vn, vc, fa, fn, fc, za, zn, zc, na, nn, nc, ia, im, ic, la, ln, lc⟩ := s
 show Calls Tryz.prog 69 #[.agg #[.string (bt x.key), .string (bt x.field), .int .i64 x.kind, .string (bt x.elem), .int .i64 x.n, .int .i64 x.dot.node, .int .i64 x.dot.seq, .int .i64 x.dot.pos], .pointer (some ⟨B, 0, none⟩)] W _
 go_enter Tryz.func69, Tryz.ntmps69
 go_upto_region 1 with fail
 generalize wrongI m x = r at *;generalize (W.alloc (.cells #[.string (bt x.key), .string (bt x.field), .int .i64 x.kind, .string (bt x.elem), .int .i64 x.n, .int .i64 x.dot.node, .int .i64 x.dot.seq, .int .i64 x.dot.pos] 47)) = w1 at *;have KF := zH (iformed_any x w1);have KC := zH (fun u (h : Below w1.heap.size w1 u) => zcovers_any ((XB.out.below h).a.n) hl x.key);have KH := zH (fun u (h : Below w1.heap.size w1 u) => vc_has_any (seqI_of (XB.out.below h).a.v) x.dot.node x.dot.seq x.dot.pos);have HC := zH (fun u (h : Below w1.heap.size w1 u) => (XB.out.below h).c);obtain ⟨i0, i1, i2, i3, i4, i5, i6, i7⟩ := HI.out w1 (Below.refl _ _);change Hid (Calls Tryz.prog 70 #[.agg #[.string (bt x.key), .string (bt x.field), .int .i64 x.kind, .string (bt x.elem), .int .i64 x.n, .int .i64 x.dot.node, .int .i64 x.dot.seq, .int .i64 x.dot.pos]] w1 (GivesB w1 (formedB x))) at KF;generalize formedB x = r1 at *;generalize covers m.want x.key = r2 at *;generalize (decide (1 ≤ x.dot.seq) && decide (x.dot.seq ≤ saysI m.vec x.dot.node)) = r3 at *
 cases r1 with
 | false =>
  obtain rfl : r = true := HR.out;go_wp2_with fail
  refine KF.out.mono ?_;rintro e w2 ⟨rfl, hb⟩;have G2 := zH (G.out.trans (hb.mono G.out.size));clear hb KF i0 i1 i2 i3 i4 i5 i6 i7;go_wp2_with fail
  go_ret
  exact ⟨rfl, G2.out⟩
 | true =>
  have HR2 : Hid (r = (!r2 || !r3)) := zH HR.out;clear HR;go_wp2_with fail
  refine KF.out.mono ?_;rintro e w2 ⟨rfl, hb⟩;have B2 := zH hb;have KC2 := KC.out w2 hb;clear hb KF i0 i1 i2 i3 i4 i5 i6 i7;obtain ⟨i0, i1, i2, i3, i4, i5, i6, i7⟩ := HI.out w2 B2.out;obtain ⟨c0, c1, c2, c3, c4, c5, c6, c7, c8⟩ := HC.out w2 B2.out
  cases r2 with
  | false =>
   obtain rfl : r = true := HR2.out;go_wp2_with fail
   refine KC2.mono ?_;rintro e w3 ⟨rfl, hb⟩;have G3 := zH (G.out.trans ((B2.out.trans (hb.mono B2.out.size)).mono G.out.size));clear hb KC2 i0 i1 i2 i3 i4 i5 i6 i7 c0 c1 c2 c3 c4 c5 c6 c7 c8;go_wp2_with fail
   go_ret
   exact ⟨rfl, G3.out⟩
  | true =>
   obtain rfl : r = !r3 := HR2.out;go_wp2_with fail
   refine KC2.mono ?_;rintro e w3 ⟨rfl, hb⟩;have B3 := zH (B2.out.trans (hb.mono B2.out.size));have KH3 := KH.out w3 B3.out;clear hb KC2 i0 i1 i2 i3 i4 i5 i6 i7 c0 c1 c2 c3 c4 c5 c6 c7 c8;obtain ⟨i0, i1, i2, i3, i4, i5, i6, i7⟩ := HI.out w3 B3.out;obtain ⟨c0, c1, c2, c3, c4, c5, c6, c7, c8⟩ := HC.out w3 B3.out;go_wp2_with fail
   refine KH3.mono ?_;rintro e w4 ⟨rfl, hb⟩;have G4 := zH (G.out.trans ((B3.out.trans (hb.mono B3.out.size)).mono G.out.size));clear hb KH3 i0 i1 i2 i3 i4 i5 i6 i7 c0 c1 c2 c3 c4 c5 c6 c7 c8;go_wp2_with fail
   go_ret
   exact ⟨rfl, G4.out⟩
theorem mareItems_way0 {kind ticket : Int} {whole r : Bool} {xs : List PItem} {va fa za na ia la : Option Addr} {vn vc fn fc zn zc nn nc im ic ln lc : Nat} {w : World} (h1 : ¬ (im : Int) ≤ 32768) (g1 : im ≤ ic) (g2 : ic ≤ 9223372036854775807) :
  Calls Tryz.prog 28 #[.agg #[.int .i64 kind, .int .i64 ticket, .bool whole, .slice va vn vc, .slice fa fn fc, .slice za zn zc, .slice na nn nc, .slice ia im ic, .slice la ln lc]] w (GivesB w false) := by
 have G0 := zH (zB w (.cells #[.int .i64 kind, .int .i64 ticket, .bool whole, .slice va vn vc, .slice fa fn fc, .slice za zn zc, .slice na nn nc, .slice ia im ic, .slice la ln lc] 28));have C7 := zH (nine_cells (heap_alloc_new w (.cells #[.int .i64 kind, .int .i64 ticket, .bool whole, .slice va vn vc, .slice fa fn fc, .slice za zn zc, .slice na nn nc, .slice ia im ic, .slice la ln lc] 28))).2.2.2.2.2.2.2.1;have Z0 : Hid (w.heap.size < (w.alloc (.cells #[.int .i64 kind, .int .i64 ticket, .bool whole, .slice va vn vc, .slice fa fn fc, .slice za zn zc, .slice na nn nc, .slice ia im ic, .slice la ln lc] 28)).heap.size) := zH (by simp);go_enter Tryz.func28, Tryz.ntmps28
 go_upto_region 2 with fail
 generalize (w.alloc (.cells #[.int .i64 kind, .int .i64 ticket, .bool whole, .slice va vn vc, .slice fa fn fc, .slice za zn zc, .slice na nn nc, .slice ia im ic, .slice la ln lc] 28)) = w0 at *;have KE : Hid (∀ u, Below w0.heap.size w0 u → Below w0.heap.size w0 u ∧ u.cell? ⟨w.heap.size, 7, none⟩ = some (.slice ia im ic)) := zH (fun u hu => ⟨hu, (hu.cell (p := ⟨w.heap.size, 7, none⟩) Z0.out).trans C7.out⟩);refine wp_region_held_drew (S := fun u' => Below w0.heap.size w0 u' ∧ u'.cell? ⟨w.heap.size, 7, none⟩ = some (.slice ia im ic)) (by kernel_rfl) ?_ (fun hHeld => ?_)
 ·(exact KE.out _ (Below.refl _ _).drew)
 simp only [zS, Nat.zero_add, Nat.reduceAdd]
 refine tkB 0 hHeld ?_;refine tkB 1 hHeld ?_;refine tkB 2 hHeld ?_;refine tkB 3 hHeld ?_;refine tkB 4 hHeld ?_;refine tkS 5 hHeld ?_;refine tkS 6 hHeld ?_;refine tkS 7 hHeld ?_;refine tkS 8 hHeld ?_;refine tkS 9 hHeld ?_;refine tkB 10 hHeld ?_;refine tkB 11 hHeld ?_;refine tkS 12 hHeld ?_;refine tkS 13 hHeld ?_;refine tkS 14 hHeld ?_;refine tkS 15 hHeld ?_;refine tkS 16 hHeld ?_;refine tkS 17 hHeld ?_;refine tkB 18 hHeld ?_;refine tkB 19 hHeld ?_;refine wpAnyH_done (by kernel_rfl) ?_ _;go_wp2_with fail
 go_ret
 exact ⟨rfl, G0.out.trans (hHeld.1.mono G0.out.size)⟩
theorem mareItems_way1 {kind ticket : Int} {whole r : Bool} {xs : List PItem} {va fa za na ia la : Option Addr} {vn vc fn fc zn zc nn nc im ic ln lc : Nat} {w : World} (h1 : (im : Int) ≤ 32768) (KC : ∀ W, Below (w.alloc (.cells #[.int .i64 kind, .int .i64 ticket, .bool whole, .slice va vn vc, .slice fa fn fc, .slice za zn zc, .slice na nn nc, .slice ia im ic, .slice la ln lc] 28)).heap.size (w.alloc (.cells #[.int .i64 kind, .int .i64 ticket, .bool whole, .slice va vn vc, .slice fa fn fc, .slice za zn zc, .slice na nn nc, .slice ia im ic, .slice la ln lc] 28)) W → Calls Tryz.prog 71 #[.slice ia im ic, .func (.func 69) #[] #[.pointer (some ⟨w.heap.size, 0, none⟩)]] W (GivesB W true)) (g1 : im ≤ ic) (g2 : ic ≤ 9223372036854775807) :
  Calls Tryz.prog 28 #[.agg #[.int .i64 kind, .int .i64 ticket, .bool whole, .slice va vn vc, .slice fa fn fc, .slice za zn zc, .slice na nn nc, .slice ia im ic, .slice la ln lc]] w (GivesB w false) := by
 have G0 := zH (zB w (.cells #[.int .i64 kind, .int .i64 ticket, .bool whole, .slice va vn vc, .slice fa fn fc, .slice za zn zc, .slice na nn nc, .slice ia im ic, .slice la ln lc] 28));have C7 := zH (nine_cells (heap_alloc_new w (.cells #[.int .i64 kind, .int .i64 ticket, .bool whole, .slice va vn vc, .slice fa fn fc, .slice za zn zc, .slice na nn nc, .slice ia im ic, .slice la ln lc] 28))).2.2.2.2.2.2.2.1;have Z0 : Hid (w.heap.size < (w.alloc (.cells #[.int .i64 kind, .int .i64 ticket, .bool whole, .slice va vn vc, .slice fa fn fc, .slice za zn zc, .slice na nn nc, .slice ia im ic, .slice la ln lc] 28)).heap.size) := zH (by simp);replace KC := zH KC;go_enter Tryz.func28, Tryz.ntmps28
 go_upto_region 2 with fail
 generalize (w.alloc (.cells #[.int .i64 kind, .int .i64 ticket, .bool whole, .slice va vn vc, .slice fa fn fc, .slice za zn zc, .slice na nn nc, .slice ia im ic, .slice la ln lc] 28)) = w0 at *;have KE : Hid (∀ u, Below w0.heap.size w0 u → Below w0.heap.size w0 u ∧ u.cell? ⟨w.heap.size, 7, none⟩ = some (.slice ia im ic)) := zH (fun u hu => ⟨hu, (hu.cell (p := ⟨w.heap.size, 7, none⟩) Z0.out).trans C7.out⟩);refine wp_region_held_drew (S := fun u' => Below w0.heap.size w0 u' ∧ u'.cell? ⟨w.heap.size, 7, none⟩ = some (.slice ia im ic)) (by kernel_rfl) ?_ (fun hHeld => ?_)
 ·(exact KE.out _ (Below.refl _ _).drew)
 simp only [zS, Nat.zero_add, Nat.reduceAdd]
 refine tkB 0 hHeld ?_;refine tkB 1 hHeld ?_;refine tkB 2 hHeld ?_;refine tkB 3 hHeld ?_;refine tkB 4 hHeld ?_;refine tkB 5 hHeld ?_;refine tkB 6 hHeld ?_;refine tkB 7 hHeld ?_;refine rd 8 fun K hK => ?_
 go_simp
 refine (KC.out _ hHeld.1).mono ?_;rintro e s1 ⟨rfl, hb⟩;refine hK.out _ _ (KE.out _ (holdC hHeld hb)) (fun hHeld => ?_);clear hK K hb;refine tkB 9 hHeld ?_;refine tkB 10 hHeld ?_;refine tkB 11 hHeld ?_;refine tkS 12 hHeld ?_;refine tkS 13 hHeld ?_;refine tkS 14 hHeld ?_;refine tkS 15 hHeld ?_;refine tkS 16 hHeld ?_;refine tkS 17 hHeld ?_;refine tkB 18 hHeld ?_;refine tkB 19 hHeld ?_;refine wpAnyH_done (by kernel_rfl) ?_ _;go_wp2_with fail
 go_ret
 exact ⟨rfl, G0.out.trans (hHeld.1.mono G0.out.size)⟩
theorem mareItems_way2 {kind ticket : Int} {whole r : Bool} {xs : List PItem} {va fa za na ia la : Option Addr} {vn vc fn fc zn zc nn nc im ic ln lc : Nat} {w : World} (h1 : (im : Int) ≤ 32768) (KC : ∀ W, Below (w.alloc (.cells #[.int .i64 kind, .int .i64 ticket, .bool whole, .slice va vn vc, .slice fa fn fc, .slice za zn zc, .slice na nn nc, .slice ia im ic, .slice la ln lc] 28)).heap.size (w.alloc (.cells #[.int .i64 kind, .int .i64 ticket, .bool whole, .slice va vn vc, .slice fa fn fc, .slice za zn zc, .slice na nn nc, .slice ia im ic, .slice la ln lc] 28)) W → Calls Tryz.prog 71 #[.slice ia im ic, .func (.func 69) #[] #[.pointer (some ⟨w.heap.size, 0, none⟩)]] W (GivesB W false)) (KN : ∀ W, Below (w.alloc (.cells #[.int .i64 kind, .int .i64 ticket, .bool whole, .slice va vn vc, .slice fa fn fc, .slice za zn zc, .slice na nn nc, .slice ia im ic, .slice la ln lc] 28)).heap.size (w.alloc (.cells #[.int .i64 kind, .int .i64 ticket, .bool whole, .slice va vn vc, .slice fa fn fc, .slice za zn zc, .slice na nn nc, .slice ia im ic, .slice la ln lc] 28)) W → Calls Tryz.prog 73 #[.slice ia im ic] W (MadeE LItem W xs)) (KQ : ∀ W nv, Below (w.alloc (.cells #[.int .i64 kind, .int .i64 ticket, .bool whole, .slice va vn vc, .slice fa fn fc, .slice za zn zc, .slice na nn nc, .slice ia im ic, .slice la ln lc] 28)).heap.size (w.alloc (.cells #[.int .i64 kind, .int .i64 ticket, .bool whole, .slice va vn vc, .slice fa fn fc, .slice za zn zc, .slice na nn nc, .slice ia im ic, .slice la ln lc] 28)) W → SeqE LItem W nv xs → Calls Tryz.prog 72 #[.slice ia im ic, nv] W (GivesB W r)) (g1 : im ≤ ic) (g2 : ic ≤ 9223372036854775807) :
  Calls Tryz.prog 28 #[.agg #[.int .i64 kind, .int .i64 ticket, .bool whole, .slice va vn vc, .slice fa fn fc, .slice za zn zc, .slice na nn nc, .slice ia im ic, .slice la ln lc]] w (GivesB w r) := by
 have G0 := zH (zB w (.cells #[.int .i64 kind, .int .i64 ticket, .bool whole, .slice va vn vc, .slice fa fn fc, .slice za zn zc, .slice na nn nc, .slice ia im ic, .slice la ln lc] 28));have C7 := zH (nine_cells (heap_alloc_new w (.cells #[.int .i64 kind, .int .i64 ticket, .bool whole, .slice va vn vc, .slice fa fn fc, .slice za zn zc, .slice na nn nc, .slice ia im ic, .slice la ln lc] 28))).2.2.2.2.2.2.2.1;have Z0 : Hid (w.heap.size < (w.alloc (.cells #[.int .i64 kind, .int .i64 ticket, .bool whole, .slice va vn vc, .slice fa fn fc, .slice za zn zc, .slice na nn nc, .slice ia im ic, .slice la ln lc] 28)).heap.size) := zH (by simp);replace KC := zH KC;replace KN := zH KN;replace KQ := zH KQ;go_enter Tryz.func28, Tryz.ntmps28
 go_upto_region 2 with fail
 generalize (w.alloc (.cells #[.int .i64 kind, .int .i64 ticket, .bool whole, .slice va vn vc, .slice fa fn fc, .slice za zn zc, .slice na nn nc, .slice ia im ic, .slice la ln lc] 28)) = w0 at *;have KE : Hid (∀ u, Below w0.heap.size w0 u → Below w0.heap.size w0 u ∧ u.cell? ⟨w.heap.size, 7, none⟩ = some (.slice ia im ic)) := zH (fun u hu => ⟨hu, (hu.cell (p := ⟨w.heap.size, 7, none⟩) Z0.out).trans C7.out⟩);refine wp_region_held_drew (S := fun u' => Below w0.heap.size w0 u' ∧ u'.cell? ⟨w.heap.size, 7, none⟩ = some (.slice ia im ic)) (by kernel_rfl) ?_ (fun hHeld => ?_)
 ·(exact KE.out _ (Below.refl _ _).drew)
 simp only [zS, Nat.zero_add, Nat.reduceAdd]
 refine tkB 0 hHeld ?_;refine tkB 1 hHeld ?_;refine tkB 2 hHeld ?_;refine tkB 3 hHeld ?_;refine tkB 4 hHeld ?_;refine tkB 5 hHeld ?_;refine tkB 6 hHeld ?_;refine tkB 7 hHeld ?_;refine rd 8 fun K hK => ?_
 go_simp
 refine (KC.out _ hHeld.1).mono ?_;rintro e s1 ⟨rfl, hb⟩;refine hK.out _ _ (KE.out _ (holdC hHeld hb)) (fun hHeld => ?_);clear hK K hb;refine tkB 9 hHeld ?_;refine tkB 10 hHeld ?_;refine tkB 11 hHeld ?_;refine tkB 12 hHeld ?_;refine tkB 13 hHeld ?_;refine tkB 14 hHeld ?_;refine tkB 15 hHeld ?_;refine rd 16 fun K hK => ?_
 go_simp
 refine (KN.out _ hHeld.1).mono ?_;rintro e s2 ⟨nv, rfl, ho, hb⟩;refine hK.out _ _ (KE.out _ (holdC hHeld hb)) (fun hHeld => ?_);clear hK K hb;refine rd 17 fun K hK => ?_
 go_simp
 refine (KQ.out _ _ hHeld.1 ho.seq).mono ?_;rintro e s3 ⟨rfl, hb⟩;refine hK.out _ _ (KE.out _ (holdC hHeld hb)) (fun hHeld => ?_);clear hK K hb;refine tkB 18 hHeld ?_;refine tkB 19 hHeld ?_;refine wpAnyH_done (by kernel_rfl) ?_ _;go_wp2_with fail
 go_ret
 exact ⟨rfl, G0.out.trans (hHeld.1.mono G0.out.size)⟩
theorem mareItems {v : Value} {m : PMsg} {w : World} (hv : IsMsg w v m) (hil : m.items.length ≤ 1000000) (hok : ∀ x ∈ m.items, dotOk x.dot) (hnl : m.want.length ≤ 1000000) : Calls Tryz.prog 28 #[v] w (GivesB w (itemsB m)) := by
 obtain ⟨va, vn, vc, fa, fn, fc, za, zn, zc, na, nn, nc, ia, im, ic, la, ln, lc, rfl, H⟩ := hv.slices;obtain ⟨d1, d2, d3⟩ : m.items.length = im ∧ im ≤ ic ∧ ic ≤ 9223372036854775807 := H.i.dims;have X := msbox_new H;have eg : ∀ args w, (callFunc 69 args).run Tryz.prog w = .ok (.enter 69 args) w := enters_of Tryz.func69 (by kernel_rfl) rfl;have KC := fun W (hb : Below (w.alloc (.cells #[.int .i64 m.kind, .int .i64 m.ticket, .bool m.whole, .slice va vn vc, .slice fa fn fc, .slice za zn zc, .slice na nn nc, .slice ia im ic, .slice la ln lc] 28)).heap.size (w.alloc (.cells #[.int .i64 m.kind, .int .i64 m.ticket, .bool m.whole, .slice va vn vc, .slice fa fn fc, .slice za zn zc, .slice na nn nc, .slice ia im ic, .slice la ln lc] 28)) W) => stcontains_any (X.below hb).a.i hil (wrongI m) 69 #[.pointer (some ⟨w.heap.size, 0, none⟩)] eg (fun W' d hb' => mgivesWrong ((X.below hb).below hb') hnl d)
 have HR : itemsB m = (decide (m.items.length ≤ 32768) && (!m.items.any (wrongI m) && decide (m.items = inorm m.items))) := rfl;rw [HR]
 by_cases h1 : (im : Int) ≤ 32768
 rotate_left
 ·rw [decide_eq_false (show ¬ m.items.length ≤ 32768 by omega), Bool.false_and]
  exact mareItems_way0 (xs := []) (r := true) h1 d2 d3
 rw [decide_eq_true (show m.items.length ≤ 32768 by omega), Bool.true_and]
 cases h2 : m.items.any (wrongI m) with
 | true => exact mareItems_way1 (xs := []) (r := true) h1 (fun W hb => h2 ▸ KC W hb) d2 d3
 | false =>
  refine mareItems_way2 (xs := inorm m.items) h1 (fun W hb => h2 ▸ KC W hb) (fun W hb => inorm_any (X.below hb).a.i hil hok) (fun W nv hb hs => (stequal_any (X.below hb).a.i hs).mono fun e w' ⟨h, q, hq⟩ => ⟨h, hq ▸ below_drewN (Below.refl _ _) q⟩) d2 d3
theorem zoneB_iff {xs : List Txt} : zoneB xs = true ↔ Zone xs := by
 unfold zoneB;rw [Bool.and_eq_true, decide_eq_true_iff, decide_eq_true_iff, zone_iff]
theorem zright_yes {xs : List Txt} (hl : xs.length ≤ 8) (h : RightTo xs xs.length) : zoneB xs = true := zoneB_iff.2 (right_zone hl h)
theorem zright_form {xs : List Txt} {k : Nat} (hk : k < xs.length) (h : prefixB (xs.getD k []) = false) : zoneB xs = false := by
 cases e : zoneB xs with
 | false => rfl
 | true =>
  have := (zone_right (zoneB_iff.1 e)).2.1 k hk;rw [h] at this;exact absurd this (by decide)
theorem zright_near {xs : List Txt} {k : Nat} (hk : k + 1 < xs.length) (h : ¬ xs.getD k [] < xs.getD (k + 1) [] ∨ beg (xs.getD (k + 1) []) (xs.getD k []) = true) : zoneB xs = false := by
 cases e : zoneB xs with
 | false => rfl
 | true =>
  have := (zone_right (zoneB_iff.1 e)).2.2 (k + 1) (by omega) hk;rw [Nat.add_sub_cancel] at this
  rcases h with h | h
  ·exact absurd this.1 h
  ·rw [h] at this
   exact absurd this.2 (by decide)
theorem zright_long {xs : List Txt} (hl : ¬ xs.length ≤ 8) : zoneB xs = false := by
 cases e : zoneB xs with
 | false => rfl
 | true => exact absurd (zone_right (zoneB_iff.1 e)).1 hl
theorem zright_any {v : Value} {xs : List Txt} {w : World} (hv : SeqT w v xs) (hn : xs.length ≤ 1000000) :
  Calls Tryz.prog 27 #[v] w fun e w' => e = .returned (.bool (zoneB xs)) ∧ ∃ q, w' = w.drewN q := by
 obtain ⟨a, cap, rfl, g1, g2, g0, h⟩ := hv.parts;have HS := zH h;have HY := zH (zright_yes (xs := xs));have HF := zH (fun k hk h => zright_form (xs := xs) (k := k) hk h);have HN := zH (fun k hk h => zright_near (xs := xs) (k := k) hk h);have HL := zH (zright_long (xs := xs));have hm : maxLen = 9223372036854775807 := rfl;rw [hm] at g2;clear hv h g0 hm;generalize zoneB xs = r at *
 by_cases hl : xs.length ≤ 8
 ·have hd : ((xs.length : Nat) : Int) ≤ 8 := by omega
  go_enter Tryz.func27, Tryz.ntmps27
  go_wp2_with fail
  go_loopw [3, 4, 10] (fun _ _ i wr => ∃ k : Nat, k ≤ xs.length ∧ i = .int .i64 k ∧ Aside (RightTo xs k) ∧ ∃ q, wr = w.drewN q) (fun _ _ i _ => xs.length - (intOf i).toNat)
  case atStart => exact ⟨0, Nat.zero_le _, rfl, rightTo_zero xs, 0, rfl⟩
  case round =>
   obtain ⟨k, hk, rfl, HR, q, rfl⟩ := hrel
   by_cases hlt : k < xs.length
   ·obtain ⟨b, o, c, hv, -, -, -, hc⟩ := HS.out.spot (by omega)
    simp only [Value.slice.injEq] at hv
    obtain ⟨rfl, -, rfl⟩ := hv;have c1 := hc k hlt;unfold tv at c1;have KP := zH (fun W => zprefix_any (xs.getD k []) W)
    cases hp : prefixB (xs.getD k []) with
    | false =>
     obtain rfl : r = false := HF.out k hlt hp;rw [hp] at KP;clear hc hp;generalize bt (xs.getD k []) = X at *;go_wp2_with fail
     refine (KP.out _).mono ?_;rintro e w' ⟨rfl, rfl⟩;go_wp2_with fail
     go_ret
     exact ⟨rfl, _, rfl⟩
    | true =>
     rw [hp] at KP
     by_cases h0 : 0 < k
     ·obtain ⟨p, rfl⟩ : ∃ p, k = p + 1 := ⟨k - 1, by omega⟩
      have c2 := hc p (by omega);unfold tv at c2;have KH := zH (fun W => hasPrefixL (xs.getD (p + 1) []) (xs.getD p []) W);have t1 := text_lt (xs.getD p []) (xs.getD (p + 1) []);have HNX := zH (fun h => rightTo_next HR.out hp (fun _ => by rw [Nat.add_sub_cancel]; exact h));have HNR := zH (HN.out p hlt);have q1 : (0 : Int) < (p : Int) + 1 := by omega
      have q2 : (0 : Int) < ((p + 1 : Nat) : Int) := by omega
      clear hc hp h0
      by_cases hlt2 : xs.getD p [] < xs.getD (p + 1) []
      ·rw [decide_eq_true hlt2] at t1
       cases hb : beg (xs.getD (p + 1) []) (xs.getD p []) with
       | true =>
        obtain rfl : r = false := HNR.out (.inr hb);rw [hb] at KH;clear hlt2 hb HNX HNR;generalize bt (xs.getD p []) = Y at *;generalize bt (xs.getD (p + 1) []) = X at *;go_wp2_with fail
        refine (KP.out _).mono ?_;rintro e w' ⟨rfl, rfl⟩;go_wp2_with fail
        refine (KH.out _).mono ?_;rintro e w2 ⟨rfl, rfl⟩;go_wp2_with fail
        go_ret
        exact ⟨rfl, _, rfl⟩
       | false =>
        have HR2 : Hid (RightTo xs (p + 1 + 1)) := zH (HNX.out ⟨hlt2, hb⟩);rw [hb] at KH;clear hlt2 hb HNX HNR;generalize bt (xs.getD p []) = Y at *;generalize bt (xs.getD (p + 1) []) = X at *;go_wp2_with fail
        refine (KP.out _).mono ?_;rintro e w' ⟨rfl, rfl⟩;go_wp2_with fail
        refine (KH.out _).mono ?_;rintro e w2 ⟨rfl, rfl⟩;go_wp2_with fail
        go_roundw
        case rel => exact ⟨p + 1 + 1, by omega, by go_num, HR2.out, _, rfl⟩
        case measure => simp [intOf]; omega
      ·rw [decide_eq_false hlt2] at t1
       obtain rfl : r = false := HNR.out (.inl hlt2);clear hlt2 HNX HNR KH;generalize bt (xs.getD p []) = Y at *;generalize bt (xs.getD (p + 1) []) = X at *;go_wp2_with fail
       refine (KP.out _).mono ?_;rintro e w' ⟨rfl, rfl⟩;go_wp2_with fail
       go_ret
       exact ⟨rfl, _, rfl⟩
     ·obtain rfl : k = 0 := by omega
      rw [Nat.add_zero] at c1;have HR2 : Hid (RightTo xs (0 + 1)) := zH (rightTo_next HR.out hp (fun h => absurd h h0));clear hc hp h0;generalize bt (xs.getD 0 []) = X at *;go_wp2_with fail
      refine (KP.out _).mono ?_;rintro e w' ⟨rfl, rfl⟩;go_wp2_with fail
      go_roundw
      case rel => exact ⟨0 + 1, by omega, by go_num, HR2.out, _, rfl⟩
      case measure => simp [intOf]; omega
   ·obtain rfl : k = xs.length := by omega
    obtain rfl : r = true := HY.out hl HR.out;go_wp2_with fail
    go_ret
    exact ⟨rfl, _, rfl⟩
 ·obtain rfl : r = false := HL.out hl
  have hd : ¬ ((xs.length : Nat) : Int) ≤ 8 := by omega
  have hd2 : (8 : Int) < ((xs.length : Nat) : Int) := by omega
  go_enter Tryz.func27, Tryz.ntmps27
  go_wp2_with fail
  go_ret
  exact ⟨rfl, 0, rfl⟩
structure MsFitP (m : PMsg) : Prop where
 v : m.vec.length ≤ 1000000
 f : m.from_.length ≤ 1000000
 z : m.zone.length ≤ 1000000
 n : m.want.length ≤ 1000000
 il : m.items.length ≤ 1000000
 i : ∀ x ∈ m.items, dotOk x.dot
 tl : m.txns.length ≤ 1000000
 t : ∀ t ∈ m.txns, FitTx t
theorem mformedP {v : Value} {m : PMsg} {w : World} (hv : IsMsg w v m) (hf : MsFitP m) (r : Bool) (hr : mformedM m = r) : Calls Tryz.prog 11 #[v] w (GivesB w r) := by
 obtain ⟨va, vn, vc, fa, fn, fc, za, zn, zc, na, nn, nc, ia, im, ic, la, ln, lc, rfl, H⟩ := hv.slices;have G0 := zH (zB w (.cells #[.int .i64 m.kind, .int .i64 m.ticket, .bool m.whole, .slice va vn vc, .slice fa fn fc, .slice za zn zc, .slice na nn nc, .slice ia im ic, .slice la ln lc] 28));have X := zH (msbox_new H);have P := zH (prgR hr);have HF := zH hf;clear hv H hf hr;go_enter Tryz.func11, Tryz.ntmps11
 go_upto_region 1 with fail
 generalize (w.alloc (.cells #[.int .i64 m.kind, .int .i64 m.ticket, .bool m.whole, .slice va vn vc, .slice fa fn fc, .slice za zn zc, .slice na nn nc, .slice ia im ic, .slice la ln lc] 28)) = w0 at *;have HC := zH (fun u (hb : Below w0.heap.size w0 u) => (X.out.below hb).c);have GB0 := zH (Below.refl w0.heap.size w0);have K1 := zH (msaysNo X.out.is);have K2 := zH (fun u (hb : Below w0.heap.size w0 u) => misVec (seqI_of (X.out.below hb).a.v) HF.out.v);have K3 := zH (fun u (hb : Below w0.heap.size w0 u) => misVec (seqI_of (X.out.below hb).a.f) HF.out.f);have K4 := zH (fun u (hb : Below w0.heap.size w0 u) => (zright_any (X.out.below hb).a.z HF.out.z).mono (R' := GivesB u (zoneB m.zone)) fun e w' ⟨h, q, hq⟩ => ⟨h, hq ▸ below_drewN (Below.refl _ _) q⟩);have K5 := zH (fun u (hb : Below w0.heap.size w0 u) => (zright_any (X.out.below hb).a.n HF.out.n).mono (R' := GivesB u (zoneB m.want)) fun e w' ⟨h, q, hq⟩ => ⟨h, hq ▸ below_drewN (Below.refl _ _) q⟩);have K6 := zH (fun u (hb : Below w0.heap.size w0 u) => mareItems (X.out.below hb).is HF.out.il HF.out.i HF.out.n);have K7 := zH (fun u (hb : Below w0.heap.size w0 u) => mareTxns (X.out.below hb).a.l HF.out.tl HF.out.t);have K8 := zH (fun u (hb : Below w0.heap.size w0 u) => mleadsOn (X.out.below hb).is HF.out.t HF.out.tl HF.out.v HF.out.f HF.out.n);have PL := zH P.out.last;have PU := zH P.out.uses;have PV := zH P.out.vec;have PF := zH P.out.from_;have PZ := zH P.out.zone;have PN := zH P.out.want;have PI := zH P.out.items;have PT := zH P.out.txns;have P0 := zH P.out.t0;have P1 := zH P.out.t1;clear P;generalize usesB m = b1 at *;generalize mayV m.vec = b2 at *;generalize mayV m.from_ = b3 at *;generalize zoneB m.zone = b4 at *;generalize zoneB m.want = b5 at *;generalize itemsB m = b6 at *;generalize txnsB m.txns = b7 at *;generalize leadB m = b8 at *;obtain ⟨c0, c1, c2, c3, c4, c5, c6, c7, c8⟩ := HC.out w0 GB0.out
 cases b1 with
 | false =>
  obtain rfl : r = false := PU.out (by trivial);go_wp2_with fail
  refine K1.out.mono ?_;rintro e w1 ⟨rfl, hb⟩;have GB1 := zH (GB0.out.trans (hb.mono GB0.out.size));clear hb c0 c1 c2 c3 c4 c5 c6 c7 c8;go_wp2_with fail
  go_ret
  exact ⟨rfl, G0.out.trans (GB1.out.mono G0.out.size)⟩
 | true =>
  go_wp2_with fail
  refine K1.out.mono ?_;rintro e w1 ⟨rfl, hb⟩;have GB1 := zH (GB0.out.trans (hb.mono GB0.out.size));clear hb c0 c1 c2 c3 c4 c5 c6 c7 c8;obtain ⟨c0, c1, c2, c3, c4, c5, c6, c7, c8⟩ := HC.out w1 GB1.out
  by_cases t0 : 0 ≤ m.ticket
  rotate_left
  ·obtain rfl : r = false := P0.out (by omega)
   go_wp2_with fail
   go_ret
   exact ⟨rfl, G0.out.trans (GB1.out.mono G0.out.size)⟩
  by_cases t1 : m.ticket ≤ 1073741824
  rotate_left
  ·obtain rfl : r = false := P1.out (by omega)
   go_wp2_with fail
   go_ret
   exact ⟨rfl, G0.out.trans (GB1.out.mono G0.out.size)⟩
  cases b2 with
  | false =>
   obtain rfl : r = false := PV.out (by trivial);go_wp2_with fail
   refine (K2.out _ GB1.out).mono ?_;rintro e w2 ⟨rfl, hb⟩;have GB2 := zH (GB1.out.trans (hb.mono GB1.out.size));clear hb c0 c1 c2 c3 c4 c5 c6 c7 c8;go_wp2_with fail
   go_ret
   exact ⟨rfl, G0.out.trans (GB2.out.mono G0.out.size)⟩
  | true =>
   go_wp2_with fail
   refine (K2.out _ GB1.out).mono ?_;rintro e w2 ⟨rfl, hb⟩;have GB2 := zH (GB1.out.trans (hb.mono GB1.out.size));clear hb c0 c1 c2 c3 c4 c5 c6 c7 c8;obtain ⟨c0, c1, c2, c3, c4, c5, c6, c7, c8⟩ := HC.out w2 GB2.out
   cases b3 with
   | false =>
    obtain rfl : r = false := PF.out (by trivial);go_wp2_with fail
    refine (K3.out _ GB2.out).mono ?_;rintro e w3 ⟨rfl, hb⟩;have GB3 := zH (GB2.out.trans (hb.mono GB2.out.size));clear hb c0 c1 c2 c3 c4 c5 c6 c7 c8;go_wp2_with fail
    go_ret
    exact ⟨rfl, G0.out.trans (GB3.out.mono G0.out.size)⟩
   | true =>
    go_wp2_with fail
    refine (K3.out _ GB2.out).mono ?_;rintro e w3 ⟨rfl, hb⟩;have GB3 := zH (GB2.out.trans (hb.mono GB2.out.size));clear hb c0 c1 c2 c3 c4 c5 c6 c7 c8;obtain ⟨c0, c1, c2, c3, c4, c5, c6, c7, c8⟩ := HC.out w3 GB3.out
    cases b4 with
    | false =>
     obtain rfl : r = false := PZ.out (by trivial);go_wp2_with fail
     refine (K4.out _ GB3.out).mono ?_;rintro e w4 ⟨rfl, hb⟩;have GB4 := zH (GB3.out.trans (hb.mono GB3.out.size));clear hb c0 c1 c2 c3 c4 c5 c6 c7 c8;go_wp2_with fail
     go_ret
     exact ⟨rfl, G0.out.trans (GB4.out.mono G0.out.size)⟩
    | true =>
     go_wp2_with fail
     refine (K4.out _ GB3.out).mono ?_;rintro e w4 ⟨rfl, hb⟩;have GB4 := zH (GB3.out.trans (hb.mono GB3.out.size));clear hb c0 c1 c2 c3 c4 c5 c6 c7 c8;obtain ⟨c0, c1, c2, c3, c4, c5, c6, c7, c8⟩ := HC.out w4 GB4.out
     cases b5 with
     | false =>
      obtain rfl : r = false := PN.out (by trivial);go_wp2_with fail
      refine (K5.out _ GB4.out).mono ?_;rintro e w5 ⟨rfl, hb⟩;have GB5 := zH (GB4.out.trans (hb.mono GB4.out.size));clear hb c0 c1 c2 c3 c4 c5 c6 c7 c8;go_wp2_with fail
      go_ret
      exact ⟨rfl, G0.out.trans (GB5.out.mono G0.out.size)⟩
     | true =>
      go_wp2_with fail
      refine (K5.out _ GB4.out).mono ?_;rintro e w5 ⟨rfl, hb⟩;have GB5 := zH (GB4.out.trans (hb.mono GB4.out.size));clear hb c0 c1 c2 c3 c4 c5 c6 c7 c8;obtain ⟨c0, c1, c2, c3, c4, c5, c6, c7, c8⟩ := HC.out w5 GB5.out
      cases b6 with
      | false =>
       obtain rfl : r = false := PI.out (by trivial);go_wp2_with fail
       refine (K6.out _ GB5.out).mono ?_;rintro e w6 ⟨rfl, hb⟩;have GB6 := zH (GB5.out.trans (hb.mono GB5.out.size));clear hb c0 c1 c2 c3 c4 c5 c6 c7 c8;go_wp2_with fail
       go_ret
       exact ⟨rfl, G0.out.trans (GB6.out.mono G0.out.size)⟩
      | true =>
       go_wp2_with fail
       refine (K6.out _ GB5.out).mono ?_;rintro e w6 ⟨rfl, hb⟩;have GB6 := zH (GB5.out.trans (hb.mono GB5.out.size));clear hb c0 c1 c2 c3 c4 c5 c6 c7 c8;obtain ⟨c0, c1, c2, c3, c4, c5, c6, c7, c8⟩ := HC.out w6 GB6.out
       cases b7 with
       | false =>
        obtain rfl : r = false := PT.out (by trivial);go_wp2_with fail
        refine (K7.out _ GB6.out).mono ?_;rintro e w7 ⟨rfl, hb⟩;have GB7 := zH (GB6.out.trans (hb.mono GB6.out.size));clear hb c0 c1 c2 c3 c4 c5 c6 c7 c8;go_wp2_with fail
        go_ret
        exact ⟨rfl, G0.out.trans (GB7.out.mono G0.out.size)⟩
       | true =>
        go_wp2_with fail
        refine (K7.out _ GB6.out).mono ?_;rintro e w7 ⟨rfl, hb⟩;have GB7 := zH (GB6.out.trans (hb.mono GB6.out.size));clear hb c0 c1 c2 c3 c4 c5 c6 c7 c8;obtain ⟨c0, c1, c2, c3, c4, c5, c6, c7, c8⟩ := HC.out w7 GB7.out;have HR := zH (PL.out (by trivial) (by omega) (by omega) (by trivial) (by trivial) (by trivial) (by trivial) (by trivial) (by trivial))
        by_cases k4 : m.kind = 4
        rotate_left
        ·have e4 : (m.kind != 4) = true := bne_iff_ne.2 k4
         obtain rfl : r = true := by rw [HR.out, decide_eq_false k4]; rfl
         clear k4;go_wp2_with fail
         go_ret
         exact ⟨rfl, G0.out.trans (GB7.out.mono G0.out.size)⟩
        have e4 : (m.kind != 4) = false := by rw [k4]; rfl
        obtain rfl : r = b8 := by rw [HR.out, decide_eq_true k4]; rfl
        clear k4;go_wp2_with fail
        refine (K8.out _ GB7.out).mono ?_;rintro e w8 ⟨rfl, hb⟩;have GB8 := zH (GB7.out.trans (hb.mono GB7.out.size));clear hb c0 c1 c2 c3 c4 c5 c6 c7 c8;go_wp2_with fail
        go_ret
        exact ⟨rfl, G0.out.trans (GB8.out.mono G0.out.size)⟩
end Go.Proofs.YtfapkepfngddlaaGreat
