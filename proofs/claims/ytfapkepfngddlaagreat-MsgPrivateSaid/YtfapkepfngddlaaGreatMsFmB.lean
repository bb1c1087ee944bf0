/- What the program's own areItems of messages leaves. (Written by gen-msfrmp.py.) -/
import Derived.Test.YtfapkepfngddlaaGreatMsFmA
import Derived.Test.YtfapkepfngddlaaGreatIKeyF
import Derived.Test.YtfapkepfngddlaaGreatINorms
import Derived.Test.YtfapkepfngddlaaGreatStItems
import Derived.Test.YtfapkepfngddlaaGreatVcAll
import Derived.Deep.RegionHeld3
import Derived.RegionTactic
namespace Go.Proofs.YtfapkepfngddlaaGreat
open Go.RowKit Plain
set_option linter.unusedVariables false

set_option maxRecDepth 100000 in
set_option maxHeartbeats 4000000 in
theorem mgivesWrong {W : World} {m : PMsg} {s : MsSl} {B : Nat} (X : MsBox B m s W) (hl : m.want.length ≤ 1000000) (x : PItem) :
  Calls Tryz.prog 69 (#[itv x] ++ #[.pointer (some ⟨B, 0, none⟩)]) W (GivesB W (wrongI m x)) := by
 have hb := (Below.refl W.heap.size W).alloc (Nat.le_refl _) (.cells #[.string (bt x.key), .string (bt x.field), .int .i64 x.kind, .string (bt x.elem), .int .i64 x.n, .int .i64 x.dot.node, .int .i64 x.dot.seq, .int .i64 x.dot.pos] 47)
 have G := Lib.hid hb
 have XB := Lib.hid (X.below hb)
 have IB := Lib.hid (itemAt_box W x)
 have HI := Lib.hid (fun u (h : Below (W.alloc (.cells #[.string (bt x.key), .string (bt x.field), .int .i64 x.kind, .string (bt x.elem), .int .i64 x.n, .int .i64 x.dot.node, .int .i64 x.dot.seq, .int .i64 x.dot.pos] 47)).heap.size (W.alloc (.cells #[.string (bt x.key), .string (bt x.field), .int .i64 x.kind, .string (bt x.elem), .int .i64 x.n, .int .i64 x.dot.node, .int .i64 x.dot.seq, .int .i64 x.dot.pos] 47)) u) => ((IB.out.below h (by simp)).zero))
 have HR : Hid (wrongI m x = (!formedB x || (!covers m.want x.key || !(decide (1 ≤ x.dot.seq) && decide (x.dot.seq ≤ saysI m.vec x.dot.node))))) := Lib.hid rfl
 clear hb X
 obtain ⟨va, vn, vc, fa, fn, fc, za, zn, zc, na, nn, nc, ia, im, ic, la, ln, lc⟩ := s
 show Calls Tryz.prog 69 #[.agg #[.string (bt x.key), .string (bt x.field), .int .i64 x.kind, .string (bt x.elem), .int .i64 x.n, .int .i64 x.dot.node, .int .i64 x.dot.seq, .int .i64 x.dot.pos], .pointer (some ⟨B, 0, none⟩)] W _
 go_enter Tryz.func69, Tryz.ntmps69
 go_upto_region 1 with fail
 generalize wrongI m x = r at *
 generalize (W.alloc (.cells #[.string (bt x.key), .string (bt x.field), .int .i64 x.kind, .string (bt x.elem), .int .i64 x.n, .int .i64 x.dot.node, .int .i64 x.dot.seq, .int .i64 x.dot.pos] 47)) = w1 at *
 have KF := Lib.hid (iformed_any x w1)
 have KC := Lib.hid (fun u (h : Below w1.heap.size w1 u) => zcovers_any ((XB.out.below h).a.n) hl x.key)
 have KH := Lib.hid (fun u (h : Below w1.heap.size w1 u) => vc_has_any (seqI_of (XB.out.below h).a.v) x.dot.node x.dot.seq x.dot.pos)
 have HC := Lib.hid (fun u (h : Below w1.heap.size w1 u) => (XB.out.below h).c)
 obtain ⟨i0, i1, i2, i3, i4, i5, i6, i7⟩ := HI.out w1 (Below.refl _ _)
 change Hid (Calls Tryz.prog 70 #[.agg #[.string (bt x.key), .string (bt x.field), .int .i64 x.kind, .string (bt x.elem), .int .i64 x.n, .int .i64 x.dot.node, .int .i64 x.dot.seq, .int .i64 x.dot.pos]] w1 (GivesB w1 (formedB x))) at KF
 generalize formedB x = r1 at *
 generalize covers m.want x.key = r2 at *
 generalize (decide (1 ≤ x.dot.seq) && decide (x.dot.seq ≤ saysI m.vec x.dot.node)) = r3 at *
 cases r1 with
 | false =>
  obtain rfl : r = true := HR.out
  go_wp2_with fail
  refine KF.out.mono ?_
  rintro e w2 ⟨rfl, hb⟩
  have G2 := Lib.hid (G.out.trans (hb.mono G.out.size))
  clear hb KF i0 i1 i2 i3 i4 i5 i6 i7
  go_wp2_with fail
  go_ret
  exact ⟨rfl, G2.out⟩
 | true =>
  have HR2 : Hid (r = (!r2 || !r3)) := Lib.hid HR.out
  clear HR
  go_wp2_with fail
  refine KF.out.mono ?_
  rintro e w2 ⟨rfl, hb⟩
  have B2 := Lib.hid hb
  have KC2 := KC.out w2 hb
  clear hb KF i0 i1 i2 i3 i4 i5 i6 i7
  obtain ⟨i0, i1, i2, i3, i4, i5, i6, i7⟩ := HI.out w2 B2.out
  obtain ⟨c0, c1, c2, c3, c4, c5, c6, c7, c8⟩ := HC.out w2 B2.out
  cases r2 with
  | false =>
   obtain rfl : r = true := HR2.out
   go_wp2_with fail
   refine KC2.mono ?_
   rintro e w3 ⟨rfl, hb⟩
   have G3 := Lib.hid (G.out.trans ((B2.out.trans (hb.mono B2.out.size)).mono G.out.size))
   clear hb KC2 i0 i1 i2 i3 i4 i5 i6 i7 c0 c1 c2 c3 c4 c5 c6 c7 c8
   go_wp2_with fail
   go_ret
   exact ⟨rfl, G3.out⟩
  | true =>
   obtain rfl : r = !r3 := HR2.out
   go_wp2_with fail
   refine KC2.mono ?_
   rintro e w3 ⟨rfl, hb⟩
   have B3 := Lib.hid (B2.out.trans (hb.mono B2.out.size))
   have KH3 := KH.out w3 B3.out
   clear hb KC2 i0 i1 i2 i3 i4 i5 i6 i7 c0 c1 c2 c3 c4 c5 c6 c7 c8
   obtain ⟨i0, i1, i2, i3, i4, i5, i6, i7⟩ := HI.out w3 B3.out
   obtain ⟨c0, c1, c2, c3, c4, c5, c6, c7, c8⟩ := HC.out w3 B3.out
   go_wp2_with fail
   refine KH3.mono ?_
   rintro e w4 ⟨rfl, hb⟩
   have G4 := Lib.hid (G.out.trans ((B3.out.trans (hb.mono B3.out.size)).mono G.out.size))
   clear hb KH3 i0 i1 i2 i3 i4 i5 i6 i7 c0 c1 c2 c3 c4 c5 c6 c7 c8
   go_wp2_with fail
   go_ret
   exact ⟨rfl, G4.out⟩

set_option maxRecDepth 100000 in
set_option maxHeartbeats 16000000 in
theorem mareItems_way0 {kind ticket : Int} {whole r : Bool} {xs : List PItem} {va fa za na ia la : Option Addr} {vn vc fn fc zn zc nn nc im ic ln lc : Nat} {w : World} (h1 : ¬ (im : Int) ≤ 32768) (g1 : im ≤ ic) (g2 : ic ≤ 9223372036854775807) :
  Calls Tryz.prog 28 #[.agg #[.int .i64 kind, .int .i64 ticket, .bool whole, .slice va vn vc, .slice fa fn fc, .slice za zn zc, .slice na nn nc, .slice ia im ic, .slice la ln lc]] w (GivesB w false) := by
 have G0 := Lib.hid ((Below.refl w.heap.size w).alloc (Nat.le_refl _) (.cells #[.int .i64 kind, .int .i64 ticket, .bool whole, .slice va vn vc, .slice fa fn fc, .slice za zn zc, .slice na nn nc, .slice ia im ic, .slice la ln lc] 28))
 have C7 := Lib.hid (nine_cells (heap_alloc_new w (.cells #[.int .i64 kind, .int .i64 ticket, .bool whole, .slice va vn vc, .slice fa fn fc, .slice za zn zc, .slice na nn nc, .slice ia im ic, .slice la ln lc] 28))).2.2.2.2.2.2.2.1
 have Z0 : Hid (w.heap.size < (w.alloc (.cells #[.int .i64 kind, .int .i64 ticket, .bool whole, .slice va vn vc, .slice fa fn fc, .slice za zn zc, .slice na nn nc, .slice ia im ic, .slice la ln lc] 28)).heap.size) := Lib.hid (by simp)
 go_enter Tryz.func28, Tryz.ntmps28
 go_upto_region 2 with fail
 generalize (w.alloc (.cells #[.int .i64 kind, .int .i64 ticket, .bool whole, .slice va vn vc, .slice fa fn fc, .slice za zn zc, .slice na nn nc, .slice ia im ic, .slice la ln lc] 28)) = w0 at *
 have KE : Hid (∀ u, Below w0.heap.size w0 u → Below w0.heap.size w0 u ∧ u.cell? ⟨w.heap.size, 7, none⟩ = some (.slice ia im ic)) := Lib.hid (fun u hu => ⟨hu, (hu.cell (p := ⟨w.heap.size, 7, none⟩) Z0.out).trans C7.out⟩)
 refine wp_region_held_drew (S := fun u' => Below w0.heap.size w0 u' ∧ u'.cell? ⟨w.heap.size, 7, none⟩ = some (.slice ia im ic)) (by kernel_rfl) ?_ (fun hHeld => ?_)
 ·(exact KE.out _ (Below.refl _ _).drew)
 simp only [List.size_toArray, List.length_cons, List.length_nil, Nat.zero_add, Nat.reduceAdd]
 refine tkB (i := 0) hHeld ?_
 refine tkB (i := 1) hHeld ?_
 refine tkB (i := 2) hHeld ?_
 refine tkB (i := 3) hHeld ?_
 refine tkB (i := 4) hHeld ?_
 refine tkS (i := 5) hHeld ?_
 refine tkS (i := 6) hHeld ?_
 refine tkS (i := 7) hHeld ?_
 refine tkS (i := 8) hHeld ?_
 refine tkS (i := 9) hHeld ?_
 refine tkB (i := 10) hHeld ?_
 refine tkB (i := 11) hHeld ?_
 refine tkS (i := 12) hHeld ?_
 refine tkS (i := 13) hHeld ?_
 refine tkS (i := 14) hHeld ?_
 refine tkS (i := 15) hHeld ?_
 refine tkS (i := 16) hHeld ?_
 refine tkS (i := 17) hHeld ?_
 refine tkB (i := 18) hHeld ?_
 refine tkB (i := 19) hHeld ?_
 refine wpAnyH_done (by kernel_rfl) ?_ _
 go_wp2_with fail
 go_ret
 exact ⟨rfl, G0.out.trans (hHeld.1.mono G0.out.size)⟩

set_option maxRecDepth 100000 in
set_option maxHeartbeats 16000000 in
theorem mareItems_way1 {kind ticket : Int} {whole r : Bool} {xs : List PItem} {va fa za na ia la : Option Addr} {vn vc fn fc zn zc nn nc im ic ln lc : Nat} {w : World} (h1 : (im : Int) ≤ 32768) (KC : ∀ W, Below (w.alloc (.cells #[.int .i64 kind, .int .i64 ticket, .bool whole, .slice va vn vc, .slice fa fn fc, .slice za zn zc, .slice na nn nc, .slice ia im ic, .slice la ln lc] 28)).heap.size (w.alloc (.cells #[.int .i64 kind, .int .i64 ticket, .bool whole, .slice va vn vc, .slice fa fn fc, .slice za zn zc, .slice na nn nc, .slice ia im ic, .slice la ln lc] 28)) W → Calls Tryz.prog 71 #[.slice ia im ic, .func (.func 69) #[] #[.pointer (some ⟨w.heap.size, 0, none⟩)]] W (GivesB W true)) (g1 : im ≤ ic) (g2 : ic ≤ 9223372036854775807) :
  Calls Tryz.prog 28 #[.agg #[.int .i64 kind, .int .i64 ticket, .bool whole, .slice va vn vc, .slice fa fn fc, .slice za zn zc, .slice na nn nc, .slice ia im ic, .slice la ln lc]] w (GivesB w false) := by
 have G0 := Lib.hid ((Below.refl w.heap.size w).alloc (Nat.le_refl _) (.cells #[.int .i64 kind, .int .i64 ticket, .bool whole, .slice va vn vc, .slice fa fn fc, .slice za zn zc, .slice na nn nc, .slice ia im ic, .slice la ln lc] 28))
 have C7 := Lib.hid (nine_cells (heap_alloc_new w (.cells #[.int .i64 kind, .int .i64 ticket, .bool whole, .slice va vn vc, .slice fa fn fc, .slice za zn zc, .slice na nn nc, .slice ia im ic, .slice la ln lc] 28))).2.2.2.2.2.2.2.1
 have Z0 : Hid (w.heap.size < (w.alloc (.cells #[.int .i64 kind, .int .i64 ticket, .bool whole, .slice va vn vc, .slice fa fn fc, .slice za zn zc, .slice na nn nc, .slice ia im ic, .slice la ln lc] 28)).heap.size) := Lib.hid (by simp)
 replace KC := Lib.hid KC
 go_enter Tryz.func28, Tryz.ntmps28
 go_upto_region 2 with fail
 generalize (w.alloc (.cells #[.int .i64 kind, .int .i64 ticket, .bool whole, .slice va vn vc, .slice fa fn fc, .slice za zn zc, .slice na nn nc, .slice ia im ic, .slice la ln lc] 28)) = w0 at *
 have KE : Hid (∀ u, Below w0.heap.size w0 u → Below w0.heap.size w0 u ∧ u.cell? ⟨w.heap.size, 7, none⟩ = some (.slice ia im ic)) := Lib.hid (fun u hu => ⟨hu, (hu.cell (p := ⟨w.heap.size, 7, none⟩) Z0.out).trans C7.out⟩)
 refine wp_region_held_drew (S := fun u' => Below w0.heap.size w0 u' ∧ u'.cell? ⟨w.heap.size, 7, none⟩ = some (.slice ia im ic)) (by kernel_rfl) ?_ (fun hHeld => ?_)
 ·(exact KE.out _ (Below.refl _ _).drew)
 simp only [List.size_toArray, List.length_cons, List.length_nil, Nat.zero_add, Nat.reduceAdd]
 refine tkB (i := 0) hHeld ?_
 refine tkB (i := 1) hHeld ?_
 refine tkB (i := 2) hHeld ?_
 refine tkB (i := 3) hHeld ?_
 refine tkB (i := 4) hHeld ?_
 refine tkB (i := 5) hHeld ?_
 refine tkB (i := 6) hHeld ?_
 refine tkB (i := 7) hHeld ?_
 refine wpAnyH_ready (rs := [8]) (by kernel_rfl) (by simp) ?_
 refine AllReadyH.cons rfl (fun K hK => ?_) AllReadyH.nil
 go_simp
 refine (KC.out _ hHeld.1).mono ?_
 rintro e s1 ⟨rfl, hb⟩
 refine hK.out _ _ (KE.out _ (holdC hHeld hb)) (fun hHeld => ?_)
 clear hK K hb
 refine tkB (i := 9) hHeld ?_
 refine tkB (i := 10) hHeld ?_
 refine tkB (i := 11) hHeld ?_
 refine tkS (i := 12) hHeld ?_
 refine tkS (i := 13) hHeld ?_
 refine tkS (i := 14) hHeld ?_
 refine tkS (i := 15) hHeld ?_
 refine tkS (i := 16) hHeld ?_
 refine tkS (i := 17) hHeld ?_
 refine tkB (i := 18) hHeld ?_
 refine tkB (i := 19) hHeld ?_
 refine wpAnyH_done (by kernel_rfl) ?_ _
 go_wp2_with fail
 go_ret
 exact ⟨rfl, G0.out.trans (hHeld.1.mono G0.out.size)⟩

set_option maxRecDepth 100000 in
set_option maxHeartbeats 16000000 in
theorem mareItems_way2 {kind ticket : Int} {whole r : Bool} {xs : List PItem} {va fa za na ia la : Option Addr} {vn vc fn fc zn zc nn nc im ic ln lc : Nat} {w : World} (h1 : (im : Int) ≤ 32768) (KC : ∀ W, Below (w.alloc (.cells #[.int .i64 kind, .int .i64 ticket, .bool whole, .slice va vn vc, .slice fa fn fc, .slice za zn zc, .slice na nn nc, .slice ia im ic, .slice la ln lc] 28)).heap.size (w.alloc (.cells #[.int .i64 kind, .int .i64 ticket, .bool whole, .slice va vn vc, .slice fa fn fc, .slice za zn zc, .slice na nn nc, .slice ia im ic, .slice la ln lc] 28)) W → Calls Tryz.prog 71 #[.slice ia im ic, .func (.func 69) #[] #[.pointer (some ⟨w.heap.size, 0, none⟩)]] W (GivesB W false)) (KN : ∀ W, Below (w.alloc (.cells #[.int .i64 kind, .int .i64 ticket, .bool whole, .slice va vn vc, .slice fa fn fc, .slice za zn zc, .slice na nn nc, .slice ia im ic, .slice la ln lc] 28)).heap.size (w.alloc (.cells #[.int .i64 kind, .int .i64 ticket, .bool whole, .slice va vn vc, .slice fa fn fc, .slice za zn zc, .slice na nn nc, .slice ia im ic, .slice la ln lc] 28)) W → Calls Tryz.prog 73 #[.slice ia im ic] W (MadeE LItem W xs)) (KQ : ∀ W nv, Below (w.alloc (.cells #[.int .i64 kind, .int .i64 ticket, .bool whole, .slice va vn vc, .slice fa fn fc, .slice za zn zc, .slice na nn nc, .slice ia im ic, .slice la ln lc] 28)).heap.size (w.alloc (.cells #[.int .i64 kind, .int .i64 ticket, .bool whole, .slice va vn vc, .slice fa fn fc, .slice za zn zc, .slice na nn nc, .slice ia im ic, .slice la ln lc] 28)) W → SeqE LItem W nv xs → Calls Tryz.prog 72 #[.slice ia im ic, nv] W (GivesB W r)) (g1 : im ≤ ic) (g2 : ic ≤ 9223372036854775807) :
  Calls Tryz.prog 28 #[.agg #[.int .i64 kind, .int .i64 ticket, .bool whole, .slice va vn vc, .slice fa fn fc, .slice za zn zc, .slice na nn nc, .slice ia im ic, .slice la ln lc]] w (GivesB w r) := by
 have G0 := Lib.hid ((Below.refl w.heap.size w).alloc (Nat.le_refl _) (.cells #[.int .i64 kind, .int .i64 ticket, .bool whole, .slice va vn vc, .slice fa fn fc, .slice za zn zc, .slice na nn nc, .slice ia im ic, .slice la ln lc] 28))
 have C7 := Lib.hid (nine_cells (heap_alloc_new w (.cells #[.int .i64 kind, .int .i64 ticket, .bool whole, .slice va vn vc, .slice fa fn fc, .slice za zn zc, .slice na nn nc, .slice ia im ic, .slice la ln lc] 28))).2.2.2.2.2.2.2.1
 have Z0 : Hid (w.heap.size < (w.alloc (.cells #[.int .i64 kind, .int .i64 ticket, .bool whole, .slice va vn vc, .slice fa fn fc, .slice za zn zc, .slice na nn nc, .slice ia im ic, .slice la ln lc] 28)).heap.size) := Lib.hid (by simp)
 replace KC := Lib.hid KC
 replace KN := Lib.hid KN
 replace KQ := Lib.hid KQ
 go_enter Tryz.func28, Tryz.ntmps28
 go_upto_region 2 with fail
 generalize (w.alloc (.cells #[.int .i64 kind, .int .i64 ticket, .bool whole, .slice va vn vc, .slice fa fn fc, .slice za zn zc, .slice na nn nc, .slice ia im ic, .slice la ln lc] 28)) = w0 at *
 have KE : Hid (∀ u, Below w0.heap.size w0 u → Below w0.heap.size w0 u ∧ u.cell? ⟨w.heap.size, 7, none⟩ = some (.slice ia im ic)) := Lib.hid (fun u hu => ⟨hu, (hu.cell (p := ⟨w.heap.size, 7, none⟩) Z0.out).trans C7.out⟩)
 refine wp_region_held_drew (S := fun u' => Below w0.heap.size w0 u' ∧ u'.cell? ⟨w.heap.size, 7, none⟩ = some (.slice ia im ic)) (by kernel_rfl) ?_ (fun hHeld => ?_)
 ·(exact KE.out _ (Below.refl _ _).drew)
 simp only [List.size_toArray, List.length_cons, List.length_nil, Nat.zero_add, Nat.reduceAdd]
 refine tkB (i := 0) hHeld ?_
 refine tkB (i := 1) hHeld ?_
 refine tkB (i := 2) hHeld ?_
 refine tkB (i := 3) hHeld ?_
 refine tkB (i := 4) hHeld ?_
 refine tkB (i := 5) hHeld ?_
 refine tkB (i := 6) hHeld ?_
 refine tkB (i := 7) hHeld ?_
 refine wpAnyH_ready (rs := [8]) (by kernel_rfl) (by simp) ?_
 refine AllReadyH.cons rfl (fun K hK => ?_) AllReadyH.nil
 go_simp
 refine (KC.out _ hHeld.1).mono ?_
 rintro e s1 ⟨rfl, hb⟩
 refine hK.out _ _ (KE.out _ (holdC hHeld hb)) (fun hHeld => ?_)
 clear hK K hb
 refine tkB (i := 9) hHeld ?_
 refine tkB (i := 10) hHeld ?_
 refine tkB (i := 11) hHeld ?_
 refine tkB (i := 12) hHeld ?_
 refine tkB (i := 13) hHeld ?_
 refine tkB (i := 14) hHeld ?_
 refine tkB (i := 15) hHeld ?_
 refine wpAnyH_ready (rs := [16]) (by kernel_rfl) (by simp) ?_
 refine AllReadyH.cons rfl (fun K hK => ?_) AllReadyH.nil
 go_simp
 refine (KN.out _ hHeld.1).mono ?_
 rintro e s2 ⟨nv, rfl, ho, hb⟩
 refine hK.out _ _ (KE.out _ (holdC hHeld hb)) (fun hHeld => ?_)
 clear hK K hb
 refine wpAnyH_ready (rs := [17]) (by kernel_rfl) (by simp) ?_
 refine AllReadyH.cons rfl (fun K hK => ?_) AllReadyH.nil
 go_simp
 refine (KQ.out _ _ hHeld.1 ho.seq).mono ?_
 rintro e s3 ⟨rfl, hb⟩
 refine hK.out _ _ (KE.out _ (holdC hHeld hb)) (fun hHeld => ?_)
 clear hK K hb
 refine tkB (i := 18) hHeld ?_
 refine tkB (i := 19) hHeld ?_
 refine wpAnyH_done (by kernel_rfl) ?_ _
 go_wp2_with fail
 go_ret
 exact ⟨rfl, G0.out.trans (hHeld.1.mono G0.out.size)⟩

set_option maxRecDepth 100000 in
set_option maxHeartbeats 4000000 in
theorem mareItems {v : Value} {m : PMsg} {w : World} (hv : IsMsg w v m) (hil : m.items.length ≤ 1000000) (hok : ∀ x ∈ m.items, dotOk x.dot) (hnl : m.want.length ≤ 1000000) : Calls Tryz.prog 28 #[v] w (GivesB w (itemsB m)) := by
 obtain ⟨va, vn, vc, fa, fn, fc, za, zn, zc, na, nn, nc, ia, im, ic, la, ln, lc, rfl, H⟩ := hv.slices
 obtain ⟨d1, d2, d3⟩ : m.items.length = im ∧ im ≤ ic ∧ ic ≤ 9223372036854775807 := H.i.dims
 have X := msbox_new H
 have eg : ∀ args w, (callFunc 69 args).run Tryz.prog w = .ok (.enter 69 args) w := enters_of Tryz.func69 (by kernel_rfl) rfl
 have KC := fun W (hb : Below (w.alloc (.cells #[.int .i64 m.kind, .int .i64 m.ticket, .bool m.whole, .slice va vn vc, .slice fa fn fc, .slice za zn zc, .slice na nn nc, .slice ia im ic, .slice la ln lc] 28)).heap.size (w.alloc (.cells #[.int .i64 m.kind, .int .i64 m.ticket, .bool m.whole, .slice va vn vc, .slice fa fn fc, .slice za zn zc, .slice na nn nc, .slice ia im ic, .slice la ln lc] 28)) W) => stcontains_any (X.below hb).a.i hil (wrongI m) 69 #[.pointer (some ⟨w.heap.size, 0, none⟩)] eg (fun W' d hb' => mgivesWrong ((X.below hb).below hb') hnl d)
 have HR : itemsB m = (decide (m.items.length ≤ 32768) && (!m.items.any (wrongI m) && decide (m.items = inorm m.items))) := rfl
 rw [HR]
 by_cases h1 : (im : Int) ≤ 32768
 rotate_left
 ·rw [decide_eq_false (show ¬ m.items.length ≤ 32768 by omega), Bool.false_and]
  exact mareItems_way0 (xs := []) (r := true) h1 d2 d3
 rw [decide_eq_true (show m.items.length ≤ 32768 by omega), Bool.true_and]
 cases h2 : m.items.any (wrongI m) with
 | true => exact mareItems_way1 (xs := []) (r := true) h1 (fun W hb => h2 ▸ KC W hb) d2 d3
 | false =>
  refine mareItems_way2 (xs := inorm m.items) h1 (fun W hb => h2 ▸ KC W hb) (fun W hb => inorm_any (X.below hb).a.i hil hok) (fun W nv hb hs => (stequal_any (X.below hb).a.i hs).mono fun e w' ⟨h, q, hq⟩ => ⟨h, hq ▸ below_drewN (Below.refl _ _) q⟩) d2 d3
end Go.Proofs.YtfapkepfngddlaaGreat
