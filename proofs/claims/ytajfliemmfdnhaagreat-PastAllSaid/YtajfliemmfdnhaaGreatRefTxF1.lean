/- The document's own Formed of transactions, where its first test fails. (Written by gen-reff13.py.) -/
import Derived.Test.YtajfliemmfdnhaaGreatTxDeps
import Derived.Test.YtajfliemmfdnhaaGreatVcAll
import Derived.Test.YtajfliemmfdnhaaGreatRefE69
import Derived.Deep.RegionHeld3
import Derived.Deep.Cut
namespace Go.Proofs.YtajfliemmfdnhaaGreat
open Go.RowKit Plain
set_option linter.unusedVariables false

set_option maxRecDepth 100000 in
set_option maxHeartbeats 32000000 in
theorem rtformed_way1 {w : World} {node seq : Int} {da ea : Option Addr} {dn dc en ec : Nat} (h1 : node < 0) (g1 : en ≤ 9223372036854775807) (g2 : dn ≤ 9223372036854775807) :
  Calls Tryz.prog 32 #[.agg #[.int .i64 node, .int .i64 seq, .slice da dn dc, .slice ea en ec]] w (GivesB w false) := by
 have C1 : Hid ((w.alloc (.cells #[.int .i64 node, .int .i64 seq, .slice da dn dc, .slice ea en ec] 29)).cell? ⟨w.heap.size, 0, none⟩ = some (.int .i64 node) ∧ (w.alloc (.cells #[.int .i64 node, .int .i64 seq, .slice da dn dc, .slice ea en ec] 29)).cell? ⟨w.heap.size, 1, none⟩ = some (.int .i64 seq) ∧ (w.alloc (.cells #[.int .i64 node, .int .i64 seq, .slice da dn dc, .slice ea en ec] 29)).cell? ⟨w.heap.size, 2, none⟩ = some (.slice da dn dc) ∧ (w.alloc (.cells #[.int .i64 node, .int .i64 seq, .slice da dn dc, .slice ea en ec] 29)).cell? ⟨w.heap.size, 3, none⟩ = some (.slice ea en ec)) := Lib.hid ⟨by simp, by simp, by simp, by simp⟩
 have Z1 : Hid (w.heap.size < (w.alloc (.cells #[.int .i64 node, .int .i64 seq, .slice da dn dc, .slice ea en ec] 29)).heap.size) := Lib.hid (by simp)
 have G1 := Lib.hid ((Below.refl w.heap.size w).alloc (Nat.le_refl _) (.cells #[.int .i64 node, .int .i64 seq, .slice da dn dc, .slice ea en ec] 29))
 go_enter Tryz.func32, Tryz.ntmps32
 go_upto_region 1 with fail
 generalize (w.alloc (.cells #[.int .i64 node, .int .i64 seq, .slice da dn dc, .slice ea en ec] 29)) = w1 at *
 have KE : Hid (∀ u, Below w1.heap.size w1 u → Below w1.heap.size w1 u ∧ u.cell? ⟨w.heap.size, 0, none⟩ = some (.int .i64 node) ∧ u.cell? ⟨w.heap.size, 1, none⟩ = some (.int .i64 seq) ∧ u.cell? ⟨w.heap.size, 2, none⟩ = some (.slice da dn dc) ∧ u.cell? ⟨w.heap.size, 3, none⟩ = some (.slice ea en ec)) := Lib.hid (fun u hu => ⟨hu, (hu.cell (p := ⟨w.heap.size, 0, none⟩) Z1.out).trans C1.out.1, (hu.cell (p := ⟨w.heap.size, 1, none⟩) Z1.out).trans C1.out.2.1, (hu.cell (p := ⟨w.heap.size, 2, none⟩) Z1.out).trans C1.out.2.2.1, (hu.cell (p := ⟨w.heap.size, 3, none⟩) Z1.out).trans C1.out.2.2.2⟩)
 refine wp_region_held_drew (S := fun u' => Below w1.heap.size w1 u' ∧ u'.cell? ⟨w.heap.size, 0, none⟩ = some (.int .i64 node) ∧ u'.cell? ⟨w.heap.size, 1, none⟩ = some (.int .i64 seq) ∧ u'.cell? ⟨w.heap.size, 2, none⟩ = some (.slice da dn dc) ∧ u'.cell? ⟨w.heap.size, 3, none⟩ = some (.slice ea en ec)) (by kernel_rfl) ?_ (fun hHeld => ?_)
 ·(exact KE.out _ (Below.refl _ _).drew)
 simp only [List.size_toArray, List.length_cons, List.length_nil, Nat.zero_add, Nat.reduceAdd]
 refine tkB (i := 0) hHeld ?_
 refine tkB (i := 1) hHeld ?_
 refine tkB (i := 2) hHeld ?_
 refine tkB (i := 3) hHeld ?_
 refine tkS (i := 4) hHeld ?_
 refine tkS (i := 5) hHeld ?_
 refine tkS (i := 6) hHeld ?_
 refine tkB (i := 7) hHeld ?_
 refine tkB (i := 8) hHeld ?_
 refine tkS (i := 9) hHeld ?_
 refine tkS (i := 10) hHeld ?_
 refine tkS (i := 11) hHeld ?_
 refine tkB (i := 12) hHeld ?_
 refine tkB (i := 13) hHeld ?_
 refine tkS (i := 14) hHeld ?_
 refine tkS (i := 15) hHeld ?_
 refine tkS (i := 16) hHeld ?_
 refine tkB (i := 17) hHeld ?_
 refine tkB (i := 18) hHeld ?_
 refine tkS (i := 19) hHeld ?_
 refine tkS (i := 20) hHeld ?_
 refine tkS (i := 21) hHeld ?_
 refine tkS (i := 22) hHeld ?_
 refine tkB (i := 23) hHeld ?_
 refine tkB (i := 24) hHeld ?_
 refine tkS (i := 25) hHeld ?_
 refine tkS (i := 26) hHeld ?_
 refine tkS (i := 27) hHeld ?_
 refine tkS (i := 28) hHeld ?_
 refine tkB (i := 29) hHeld ?_
 refine tkB (i := 30) hHeld ?_
 refine tkS (i := 31) hHeld ?_
 refine tkS (i := 32) hHeld ?_
 refine tkS (i := 33) hHeld ?_
 refine tkS (i := 34) hHeld ?_
 refine tkS (i := 35) hHeld ?_
 refine tkS (i := 36) hHeld ?_
 refine tkS (i := 37) hHeld ?_
 refine tkB (i := 38) hHeld ?_
 refine wpAnyH_done (by kernel_rfl) ?_ _
 have GJ : Hid (Below w1.heap.size w1 _) := Lib.hid hHeld.1
 clear hHeld
 go_wp2_with fail
 go_ret
 exact ⟨rfl, G1.out.trans (GJ.out.mono G1.out.size)⟩

set_option maxRecDepth 100000 in
set_option maxHeartbeats 32000000 in
theorem rtformed_way2 {w : World} {node seq : Int} {da ea : Option Addr} {dn dc en ec : Nat} (h1 : ¬ node < 0) (h2 : 7 < node) (g1 : en ≤ 9223372036854775807) (g2 : dn ≤ 9223372036854775807) :
  Calls Tryz.prog 32 #[.agg #[.int .i64 node, .int .i64 seq, .slice da dn dc, .slice ea en ec]] w (GivesB w false) := by
 have C1 : Hid ((w.alloc (.cells #[.int .i64 node, .int .i64 seq, .slice da dn dc, .slice ea en ec] 29)).cell? ⟨w.heap.size, 0, none⟩ = some (.int .i64 node) ∧ (w.alloc (.cells #[.int .i64 node, .int .i64 seq, .slice da dn dc, .slice ea en ec] 29)).cell? ⟨w.heap.size, 1, none⟩ = some (.int .i64 seq) ∧ (w.alloc (.cells #[.int .i64 node, .int .i64 seq, .slice da dn dc, .slice ea en ec] 29)).cell? ⟨w.heap.size, 2, none⟩ = some (.slice da dn dc) ∧ (w.alloc (.cells #[.int .i64 node, .int .i64 seq, .slice da dn dc, .slice ea en ec] 29)).cell? ⟨w.heap.size, 3, none⟩ = some (.slice ea en ec)) := Lib.hid ⟨by simp, by simp, by simp, by simp⟩
 have Z1 : Hid (w.heap.size < (w.alloc (.cells #[.int .i64 node, .int .i64 seq, .slice da dn dc, .slice ea en ec] 29)).heap.size) := Lib.hid (by simp)
 have G1 := Lib.hid ((Below.refl w.heap.size w).alloc (Nat.le_refl _) (.cells #[.int .i64 node, .int .i64 seq, .slice da dn dc, .slice ea en ec] 29))
 go_enter Tryz.func32, Tryz.ntmps32
 go_upto_region 1 with fail
 generalize (w.alloc (.cells #[.int .i64 node, .int .i64 seq, .slice da dn dc, .slice ea en ec] 29)) = w1 at *
 have KE : Hid (∀ u, Below w1.heap.size w1 u → Below w1.heap.size w1 u ∧ u.cell? ⟨w.heap.size, 0, none⟩ = some (.int .i64 node) ∧ u.cell? ⟨w.heap.size, 1, none⟩ = some (.int .i64 seq) ∧ u.cell? ⟨w.heap.size, 2, none⟩ = some (.slice da dn dc) ∧ u.cell? ⟨w.heap.size, 3, none⟩ = some (.slice ea en ec)) := Lib.hid (fun u hu => ⟨hu, (hu.cell (p := ⟨w.heap.size, 0, none⟩) Z1.out).trans C1.out.1, (hu.cell (p := ⟨w.heap.size, 1, none⟩) Z1.out).trans C1.out.2.1, (hu.cell (p := ⟨w.heap.size, 2, none⟩) Z1.out).trans C1.out.2.2.1, (hu.cell (p := ⟨w.heap.size, 3, none⟩) Z1.out).trans C1.out.2.2.2⟩)
 refine wp_region_held_drew (S := fun u' => Below w1.heap.size w1 u' ∧ u'.cell? ⟨w.heap.size, 0, none⟩ = some (.int .i64 node) ∧ u'.cell? ⟨w.heap.size, 1, none⟩ = some (.int .i64 seq) ∧ u'.cell? ⟨w.heap.size, 2, none⟩ = some (.slice da dn dc) ∧ u'.cell? ⟨w.heap.size, 3, none⟩ = some (.slice ea en ec)) (by kernel_rfl) ?_ (fun hHeld => ?_)
 ·(exact KE.out _ (Below.refl _ _).drew)
 simp only [List.size_toArray, List.length_cons, List.length_nil, Nat.zero_add, Nat.reduceAdd]
 refine tkB (i := 0) hHeld ?_
 refine tkB (i := 1) hHeld ?_
 refine tkB (i := 2) hHeld ?_
 refine tkB (i := 3) hHeld ?_
 refine tkB (i := 4) hHeld ?_
 refine tkB (i := 5) hHeld ?_
 refine tkB (i := 6) hHeld ?_
 refine tkB (i := 7) hHeld ?_
 refine tkB (i := 8) hHeld ?_
 refine tkS (i := 9) hHeld ?_
 refine tkS (i := 10) hHeld ?_
 refine tkS (i := 11) hHeld ?_
 refine tkB (i := 12) hHeld ?_
 refine tkB (i := 13) hHeld ?_
 refine tkS (i := 14) hHeld ?_
 refine tkS (i := 15) hHeld ?_
 refine tkS (i := 16) hHeld ?_
 refine tkB (i := 17) hHeld ?_
 refine tkB (i := 18) hHeld ?_
 refine tkS (i := 19) hHeld ?_
 refine tkS (i := 20) hHeld ?_
 refine tkS (i := 21) hHeld ?_
 refine tkS (i := 22) hHeld ?_
 refine tkB (i := 23) hHeld ?_
 refine tkB (i := 24) hHeld ?_
 refine tkS (i := 25) hHeld ?_
 refine tkS (i := 26) hHeld ?_
 refine tkS (i := 27) hHeld ?_
 refine tkS (i := 28) hHeld ?_
 refine tkB (i := 29) hHeld ?_
 refine tkB (i := 30) hHeld ?_
 refine tkS (i := 31) hHeld ?_
 refine tkS (i := 32) hHeld ?_
 refine tkS (i := 33) hHeld ?_
 refine tkS (i := 34) hHeld ?_
 refine tkS (i := 35) hHeld ?_
 refine tkS (i := 36) hHeld ?_
 refine tkS (i := 37) hHeld ?_
 refine tkB (i := 38) hHeld ?_
 refine wpAnyH_done (by kernel_rfl) ?_ _
 have GJ : Hid (Below w1.heap.size w1 _) := Lib.hid hHeld.1
 clear hHeld
 go_wp2_with fail
 go_ret
 exact ⟨rfl, G1.out.trans (GJ.out.mono G1.out.size)⟩

set_option maxRecDepth 100000 in
set_option maxHeartbeats 32000000 in
theorem rtformed_way3 {w : World} {node seq : Int} {da ea : Option Addr} {dn dc en ec : Nat} (h1 : ¬ node < 0) (h2 : ¬ 7 < node) (h3 : seq < 1) (g1 : en ≤ 9223372036854775807) (g2 : dn ≤ 9223372036854775807) :
  Calls Tryz.prog 32 #[.agg #[.int .i64 node, .int .i64 seq, .slice da dn dc, .slice ea en ec]] w (GivesB w false) := by
 have C1 : Hid ((w.alloc (.cells #[.int .i64 node, .int .i64 seq, .slice da dn dc, .slice ea en ec] 29)).cell? ⟨w.heap.size, 0, none⟩ = some (.int .i64 node) ∧ (w.alloc (.cells #[.int .i64 node, .int .i64 seq, .slice da dn dc, .slice ea en ec] 29)).cell? ⟨w.heap.size, 1, none⟩ = some (.int .i64 seq) ∧ (w.alloc (.cells #[.int .i64 node, .int .i64 seq, .slice da dn dc, .slice ea en ec] 29)).cell? ⟨w.heap.size, 2, none⟩ = some (.slice da dn dc) ∧ (w.alloc (.cells #[.int .i64 node, .int .i64 seq, .slice da dn dc, .slice ea en ec] 29)).cell? ⟨w.heap.size, 3, none⟩ = some (.slice ea en ec)) := Lib.hid ⟨by simp, by simp, by simp, by simp⟩
 have Z1 : Hid (w.heap.size < (w.alloc (.cells #[.int .i64 node, .int .i64 seq, .slice da dn dc, .slice ea en ec] 29)).heap.size) := Lib.hid (by simp)
 have G1 := Lib.hid ((Below.refl w.heap.size w).alloc (Nat.le_refl _) (.cells #[.int .i64 node, .int .i64 seq, .slice da dn dc, .slice ea en ec] 29))
 go_enter Tryz.func32, Tryz.ntmps32
 go_upto_region 1 with fail
 generalize (w.alloc (.cells #[.int .i64 node, .int .i64 seq, .slice da dn dc, .slice ea en ec] 29)) = w1 at *
 have KE : Hid (∀ u, Below w1.heap.size w1 u → Below w1.heap.size w1 u ∧ u.cell? ⟨w.heap.size, 0, none⟩ = some (.int .i64 node) ∧ u.cell? ⟨w.heap.size, 1, none⟩ = some (.int .i64 seq) ∧ u.cell? ⟨w.heap.size, 2, none⟩ = some (.slice da dn dc) ∧ u.cell? ⟨w.heap.size, 3, none⟩ = some (.slice ea en ec)) := Lib.hid (fun u hu => ⟨hu, (hu.cell (p := ⟨w.heap.size, 0, none⟩) Z1.out).trans C1.out.1, (hu.cell (p := ⟨w.heap.size, 1, none⟩) Z1.out).trans C1.out.2.1, (hu.cell (p := ⟨w.heap.size, 2, none⟩) Z1.out).trans C1.out.2.2.1, (hu.cell (p := ⟨w.heap.size, 3, none⟩) Z1.out).trans C1.out.2.2.2⟩)
 refine wp_region_held_drew (S := fun u' => Below w1.heap.size w1 u' ∧ u'.cell? ⟨w.heap.size, 0, none⟩ = some (.int .i64 node) ∧ u'.cell? ⟨w.heap.size, 1, none⟩ = some (.int .i64 seq) ∧ u'.cell? ⟨w.heap.size, 2, none⟩ = some (.slice da dn dc) ∧ u'.cell? ⟨w.heap.size, 3, none⟩ = some (.slice ea en ec)) (by kernel_rfl) ?_ (fun hHeld => ?_)
 ·(exact KE.out _ (Below.refl _ _).drew)
 simp only [List.size_toArray, List.length_cons, List.length_nil, Nat.zero_add, Nat.reduceAdd]
 refine tkB (i := 0) hHeld ?_
 refine tkB (i := 1) hHeld ?_
 refine tkB (i := 2) hHeld ?_
 refine tkB (i := 3) hHeld ?_
 refine tkB (i := 4) hHeld ?_
 refine tkB (i := 5) hHeld ?_
 refine tkB (i := 6) hHeld ?_
 refine tkB (i := 7) hHeld ?_
 refine tkB (i := 8) hHeld ?_
 refine tkB (i := 9) hHeld ?_
 refine tkB (i := 10) hHeld ?_
 refine tkB (i := 11) hHeld ?_
 refine tkB (i := 12) hHeld ?_
 refine tkB (i := 13) hHeld ?_
 refine tkS (i := 14) hHeld ?_
 refine tkS (i := 15) hHeld ?_
 refine tkS (i := 16) hHeld ?_
 refine tkB (i := 17) hHeld ?_
 refine tkB (i := 18) hHeld ?_
 refine tkS (i := 19) hHeld ?_
 refine tkS (i := 20) hHeld ?_
 refine tkS (i := 21) hHeld ?_
 refine tkS (i := 22) hHeld ?_
 refine tkB (i := 23) hHeld ?_
 refine tkB (i := 24) hHeld ?_
 refine tkS (i := 25) hHeld ?_
 refine tkS (i := 26) hHeld ?_
 refine tkS (i := 27) hHeld ?_
 refine tkS (i := 28) hHeld ?_
 refine tkB (i := 29) hHeld ?_
 refine tkB (i := 30) hHeld ?_
 refine tkS (i := 31) hHeld ?_
 refine tkS (i := 32) hHeld ?_
 refine tkS (i := 33) hHeld ?_
 refine tkS (i := 34) hHeld ?_
 refine tkS (i := 35) hHeld ?_
 refine tkS (i := 36) hHeld ?_
 refine tkS (i := 37) hHeld ?_
 refine tkB (i := 38) hHeld ?_
 refine wpAnyH_done (by kernel_rfl) ?_ _
 have GJ : Hid (Below w1.heap.size w1 _) := Lib.hid hHeld.1
 clear hHeld
 go_wp2_with fail
 go_ret
 exact ⟨rfl, G1.out.trans (GJ.out.mono G1.out.size)⟩

set_option maxRecDepth 100000 in
set_option maxHeartbeats 32000000 in
theorem rtformed_way4 {w : World} {node seq : Int} {da ea : Option Addr} {dn dc en ec : Nat} (h1 : ¬ node < 0) (h2 : ¬ 7 < node) (h3 : ¬ seq < 1) (h4 : 1073741824 < seq) (g1 : en ≤ 9223372036854775807) (g2 : dn ≤ 9223372036854775807) :
  Calls Tryz.prog 32 #[.agg #[.int .i64 node, .int .i64 seq, .slice da dn dc, .slice ea en ec]] w (GivesB w false) := by
 have C1 : Hid ((w.alloc (.cells #[.int .i64 node, .int .i64 seq, .slice da dn dc, .slice ea en ec] 29)).cell? ⟨w.heap.size, 0, none⟩ = some (.int .i64 node) ∧ (w.alloc (.cells #[.int .i64 node, .int .i64 seq, .slice da dn dc, .slice ea en ec] 29)).cell? ⟨w.heap.size, 1, none⟩ = some (.int .i64 seq) ∧ (w.alloc (.cells #[.int .i64 node, .int .i64 seq, .slice da dn dc, .slice ea en ec] 29)).cell? ⟨w.heap.size, 2, none⟩ = some (.slice da dn dc) ∧ (w.alloc (.cells #[.int .i64 node, .int .i64 seq, .slice da dn dc, .slice ea en ec] 29)).cell? ⟨w.heap.size, 3, none⟩ = some (.slice ea en ec)) := Lib.hid ⟨by simp, by simp, by simp, by simp⟩
 have Z1 : Hid (w.heap.size < (w.alloc (.cells #[.int .i64 node, .int .i64 seq, .slice da dn dc, .slice ea en ec] 29)).heap.size) := Lib.hid (by simp)
 have G1 := Lib.hid ((Below.refl w.heap.size w).alloc (Nat.le_refl _) (.cells #[.int .i64 node, .int .i64 seq, .slice da dn dc, .slice ea en ec] 29))
 go_enter Tryz.func32, Tryz.ntmps32
 go_upto_region 1 with fail
 generalize (w.alloc (.cells #[.int .i64 node, .int .i64 seq, .slice da dn dc, .slice ea en ec] 29)) = w1 at *
 have KE : Hid (∀ u, Below w1.heap.size w1 u → Below w1.heap.size w1 u ∧ u.cell? ⟨w.heap.size, 0, none⟩ = some (.int .i64 node) ∧ u.cell? ⟨w.heap.size, 1, none⟩ = some (.int .i64 seq) ∧ u.cell? ⟨w.heap.size, 2, none⟩ = some (.slice da dn dc) ∧ u.cell? ⟨w.heap.size, 3, none⟩ = some (.slice ea en ec)) := Lib.hid (fun u hu => ⟨hu, (hu.cell (p := ⟨w.heap.size, 0, none⟩) Z1.out).trans C1.out.1, (hu.cell (p := ⟨w.heap.size, 1, none⟩) Z1.out).trans C1.out.2.1, (hu.cell (p := ⟨w.heap.size, 2, none⟩) Z1.out).trans C1.out.2.2.1, (hu.cell (p := ⟨w.heap.size, 3, none⟩) Z1.out).trans C1.out.2.2.2⟩)
 refine wp_region_held_drew (S := fun u' => Below w1.heap.size w1 u' ∧ u'.cell? ⟨w.heap.size, 0, none⟩ = some (.int .i64 node) ∧ u'.cell? ⟨w.heap.size, 1, none⟩ = some (.int .i64 seq) ∧ u'.cell? ⟨w.heap.size, 2, none⟩ = some (.slice da dn dc) ∧ u'.cell? ⟨w.heap.size, 3, none⟩ = some (.slice ea en ec)) (by kernel_rfl) ?_ (fun hHeld => ?_)
 ·(exact KE.out _ (Below.refl _ _).drew)
 simp only [List.size_toArray, List.length_cons, List.length_nil, Nat.zero_add, Nat.reduceAdd]
 refine tkB (i := 0) hHeld ?_
 refine tkB (i := 1) hHeld ?_
 refine tkB (i := 2) hHeld ?_
 refine tkB (i := 3) hHeld ?_
 refine tkB (i := 4) hHeld ?_
 refine tkB (i := 5) hHeld ?_
 refine tkB (i := 6) hHeld ?_
 refine tkB (i := 7) hHeld ?_
 refine tkB (i := 8) hHeld ?_
 refine tkB (i := 9) hHeld ?_
 refine tkB (i := 10) hHeld ?_
 refine tkB (i := 11) hHeld ?_
 refine tkB (i := 12) hHeld ?_
 refine tkB (i := 13) hHeld ?_
 refine tkB (i := 14) hHeld ?_
 refine tkB (i := 15) hHeld ?_
 refine tkB (i := 16) hHeld ?_
 refine tkB (i := 17) hHeld ?_
 refine tkB (i := 18) hHeld ?_
 refine tkS (i := 19) hHeld ?_
 refine tkS (i := 20) hHeld ?_
 refine tkS (i := 21) hHeld ?_
 refine tkS (i := 22) hHeld ?_
 refine tkB (i := 23) hHeld ?_
 refine tkB (i := 24) hHeld ?_
 refine tkS (i := 25) hHeld ?_
 refine tkS (i := 26) hHeld ?_
 refine tkS (i := 27) hHeld ?_
 refine tkS (i := 28) hHeld ?_
 refine tkB (i := 29) hHeld ?_
 refine tkB (i := 30) hHeld ?_
 refine tkS (i := 31) hHeld ?_
 refine tkS (i := 32) hHeld ?_
 refine tkS (i := 33) hHeld ?_
 refine tkS (i := 34) hHeld ?_
 refine tkS (i := 35) hHeld ?_
 refine tkS (i := 36) hHeld ?_
 refine tkS (i := 37) hHeld ?_
 refine tkB (i := 38) hHeld ?_
 refine wpAnyH_done (by kernel_rfl) ?_ _
 have GJ : Hid (Below w1.heap.size w1 _) := Lib.hid hHeld.1
 clear hHeld
 go_wp2_with fail
 go_ret
 exact ⟨rfl, G1.out.trans (GJ.out.mono G1.out.size)⟩

set_option maxRecDepth 100000 in
set_option maxHeartbeats 32000000 in
theorem rtformed_way5 {w : World} {node seq : Int} {da ea : Option Addr} {dn dc en ec : Nat} (h1 : ¬ node < 0) (h2 : ¬ 7 < node) (h3 : ¬ seq < 1) (h4 : ¬ 1073741824 < seq) (h5 : (8 : Int) < (dn : Int)) (g1 : en ≤ 9223372036854775807) (g2 : dn ≤ 9223372036854775807) :
  Calls Tryz.prog 32 #[.agg #[.int .i64 node, .int .i64 seq, .slice da dn dc, .slice ea en ec]] w (GivesB w false) := by
 have C1 : Hid ((w.alloc (.cells #[.int .i64 node, .int .i64 seq, .slice da dn dc, .slice ea en ec] 29)).cell? ⟨w.heap.size, 0, none⟩ = some (.int .i64 node) ∧ (w.alloc (.cells #[.int .i64 node, .int .i64 seq, .slice da dn dc, .slice ea en ec] 29)).cell? ⟨w.heap.size, 1, none⟩ = some (.int .i64 seq) ∧ (w.alloc (.cells #[.int .i64 node, .int .i64 seq, .slice da dn dc, .slice ea en ec] 29)).cell? ⟨w.heap.size, 2, none⟩ = some (.slice da dn dc) ∧ (w.alloc (.cells #[.int .i64 node, .int .i64 seq, .slice da dn dc, .slice ea en ec] 29)).cell? ⟨w.heap.size, 3, none⟩ = some (.slice ea en ec)) := Lib.hid ⟨by simp, by simp, by simp, by simp⟩
 have Z1 : Hid (w.heap.size < (w.alloc (.cells #[.int .i64 node, .int .i64 seq, .slice da dn dc, .slice ea en ec] 29)).heap.size) := Lib.hid (by simp)
 have G1 := Lib.hid ((Below.refl w.heap.size w).alloc (Nat.le_refl _) (.cells #[.int .i64 node, .int .i64 seq, .slice da dn dc, .slice ea en ec] 29))
 go_enter Tryz.func32, Tryz.ntmps32
 go_upto_region 1 with fail
 generalize (w.alloc (.cells #[.int .i64 node, .int .i64 seq, .slice da dn dc, .slice ea en ec] 29)) = w1 at *
 have KE : Hid (∀ u, Below w1.heap.size w1 u → Below w1.heap.size w1 u ∧ u.cell? ⟨w.heap.size, 0, none⟩ = some (.int .i64 node) ∧ u.cell? ⟨w.heap.size, 1, none⟩ = some (.int .i64 seq) ∧ u.cell? ⟨w.heap.size, 2, none⟩ = some (.slice da dn dc) ∧ u.cell? ⟨w.heap.size, 3, none⟩ = some (.slice ea en ec)) := Lib.hid (fun u hu => ⟨hu, (hu.cell (p := ⟨w.heap.size, 0, none⟩) Z1.out).trans C1.out.1, (hu.cell (p := ⟨w.heap.size, 1, none⟩) Z1.out).trans C1.out.2.1, (hu.cell (p := ⟨w.heap.size, 2, none⟩) Z1.out).trans C1.out.2.2.1, (hu.cell (p := ⟨w.heap.size, 3, none⟩) Z1.out).trans C1.out.2.2.2⟩)
 refine wp_region_held_drew (S := fun u' => Below w1.heap.size w1 u' ∧ u'.cell? ⟨w.heap.size, 0, none⟩ = some (.int .i64 node) ∧ u'.cell? ⟨w.heap.size, 1, none⟩ = some (.int .i64 seq) ∧ u'.cell? ⟨w.heap.size, 2, none⟩ = some (.slice da dn dc) ∧ u'.cell? ⟨w.heap.size, 3, none⟩ = some (.slice ea en ec)) (by kernel_rfl) ?_ (fun hHeld => ?_)
 ·(exact KE.out _ (Below.refl _ _).drew)
 simp only [List.size_toArray, List.length_cons, List.length_nil, Nat.zero_add, Nat.reduceAdd]
 refine tkB (i := 0) hHeld ?_
 refine tkB (i := 1) hHeld ?_
 refine tkB (i := 2) hHeld ?_
 refine tkB (i := 3) hHeld ?_
 refine tkB (i := 4) hHeld ?_
 refine tkB (i := 5) hHeld ?_
 refine tkB (i := 6) hHeld ?_
 refine tkB (i := 7) hHeld ?_
 refine tkB (i := 8) hHeld ?_
 refine tkB (i := 9) hHeld ?_
 refine tkB (i := 10) hHeld ?_
 refine tkB (i := 11) hHeld ?_
 refine tkB (i := 12) hHeld ?_
 refine tkB (i := 13) hHeld ?_
 refine tkB (i := 14) hHeld ?_
 refine tkB (i := 15) hHeld ?_
 refine tkB (i := 16) hHeld ?_
 refine tkB (i := 17) hHeld ?_
 refine tkB (i := 18) hHeld ?_
 refine tkB (i := 19) hHeld ?_
 refine tkB (i := 20) hHeld ?_
 refine tkB (i := 21) hHeld ?_
 refine tkB (i := 22) hHeld ?_
 refine tkB (i := 23) hHeld ?_
 refine tkB (i := 24) hHeld ?_
 refine tkS (i := 25) hHeld ?_
 refine tkS (i := 26) hHeld ?_
 refine tkS (i := 27) hHeld ?_
 refine tkS (i := 28) hHeld ?_
 refine tkB (i := 29) hHeld ?_
 refine tkB (i := 30) hHeld ?_
 refine tkS (i := 31) hHeld ?_
 refine tkS (i := 32) hHeld ?_
 refine tkS (i := 33) hHeld ?_
 refine tkS (i := 34) hHeld ?_
 refine tkS (i := 35) hHeld ?_
 refine tkS (i := 36) hHeld ?_
 refine tkS (i := 37) hHeld ?_
 refine tkB (i := 38) hHeld ?_
 refine wpAnyH_done (by kernel_rfl) ?_ _
 have GJ : Hid (Below w1.heap.size w1 _) := Lib.hid hHeld.1
 clear hHeld
 go_wp2_with fail
 go_ret
 exact ⟨rfl, G1.out.trans (GJ.out.mono G1.out.size)⟩

set_option maxRecDepth 100000 in
set_option maxHeartbeats 32000000 in
theorem rtformed_way6 {w : World} {node seq : Int} {da ea : Option Addr} {dn dc en ec : Nat} (h1 : ¬ node < 0) (h2 : ¬ 7 < node) (h3 : ¬ seq < 1) (h4 : ¬ 1073741824 < seq) (h5 : ¬ (8 : Int) < (dn : Int)) (h6 : (8 : Int) < (en : Int)) (g1 : en ≤ 9223372036854775807) (g2 : dn ≤ 9223372036854775807) :
  Calls Tryz.prog 32 #[.agg #[.int .i64 node, .int .i64 seq, .slice da dn dc, .slice ea en ec]] w (GivesB w false) := by
 have C1 : Hid ((w.alloc (.cells #[.int .i64 node, .int .i64 seq, .slice da dn dc, .slice ea en ec] 29)).cell? ⟨w.heap.size, 0, none⟩ = some (.int .i64 node) ∧ (w.alloc (.cells #[.int .i64 node, .int .i64 seq, .slice da dn dc, .slice ea en ec] 29)).cell? ⟨w.heap.size, 1, none⟩ = some (.int .i64 seq) ∧ (w.alloc (.cells #[.int .i64 node, .int .i64 seq, .slice da dn dc, .slice ea en ec] 29)).cell? ⟨w.heap.size, 2, none⟩ = some (.slice da dn dc) ∧ (w.alloc (.cells #[.int .i64 node, .int .i64 seq, .slice da dn dc, .slice ea en ec] 29)).cell? ⟨w.heap.size, 3, none⟩ = some (.slice ea en ec)) := Lib.hid ⟨by simp, by simp, by simp, by simp⟩
 have Z1 : Hid (w.heap.size < (w.alloc (.cells #[.int .i64 node, .int .i64 seq, .slice da dn dc, .slice ea en ec] 29)).heap.size) := Lib.hid (by simp)
 have G1 := Lib.hid ((Below.refl w.heap.size w).alloc (Nat.le_refl _) (.cells #[.int .i64 node, .int .i64 seq, .slice da dn dc, .slice ea en ec] 29))
 go_enter Tryz.func32, Tryz.ntmps32
 go_upto_region 1 with fail
 generalize (w.alloc (.cells #[.int .i64 node, .int .i64 seq, .slice da dn dc, .slice ea en ec] 29)) = w1 at *
 have KE : Hid (∀ u, Below w1.heap.size w1 u → Below w1.heap.size w1 u ∧ u.cell? ⟨w.heap.size, 0, none⟩ = some (.int .i64 node) ∧ u.cell? ⟨w.heap.size, 1, none⟩ = some (.int .i64 seq) ∧ u.cell? ⟨w.heap.size, 2, none⟩ = some (.slice da dn dc) ∧ u.cell? ⟨w.heap.size, 3, none⟩ = some (.slice ea en ec)) := Lib.hid (fun u hu => ⟨hu, (hu.cell (p := ⟨w.heap.size, 0, none⟩) Z1.out).trans C1.out.1, (hu.cell (p := ⟨w.heap.size, 1, none⟩) Z1.out).trans C1.out.2.1, (hu.cell (p := ⟨w.heap.size, 2, none⟩) Z1.out).trans C1.out.2.2.1, (hu.cell (p := ⟨w.heap.size, 3, none⟩) Z1.out).trans C1.out.2.2.2⟩)
 refine wp_region_held_drew (S := fun u' => Below w1.heap.size w1 u' ∧ u'.cell? ⟨w.heap.size, 0, none⟩ = some (.int .i64 node) ∧ u'.cell? ⟨w.heap.size, 1, none⟩ = some (.int .i64 seq) ∧ u'.cell? ⟨w.heap.size, 2, none⟩ = some (.slice da dn dc) ∧ u'.cell? ⟨w.heap.size, 3, none⟩ = some (.slice ea en ec)) (by kernel_rfl) ?_ (fun hHeld => ?_)
 ·(exact KE.out _ (Below.refl _ _).drew)
 simp only [List.size_toArray, List.length_cons, List.length_nil, Nat.zero_add, Nat.reduceAdd]
 refine tkB (i := 0) hHeld ?_
 refine tkB (i := 1) hHeld ?_
 refine tkB (i := 2) hHeld ?_
 refine tkB (i := 3) hHeld ?_
 refine tkB (i := 4) hHeld ?_
 refine tkB (i := 5) hHeld ?_
 refine tkB (i := 6) hHeld ?_
 refine tkB (i := 7) hHeld ?_
 refine tkB (i := 8) hHeld ?_
 refine tkB (i := 9) hHeld ?_
 refine tkB (i := 10) hHeld ?_
 refine tkB (i := 11) hHeld ?_
 refine tkB (i := 12) hHeld ?_
 refine tkB (i := 13) hHeld ?_
 refine tkB (i := 14) hHeld ?_
 refine tkB (i := 15) hHeld ?_
 refine tkB (i := 16) hHeld ?_
 refine tkB (i := 17) hHeld ?_
 refine tkB (i := 18) hHeld ?_
 refine tkB (i := 19) hHeld ?_
 refine tkB (i := 20) hHeld ?_
 refine tkB (i := 21) hHeld ?_
 refine tkB (i := 22) hHeld ?_
 refine tkB (i := 23) hHeld ?_
 refine tkB (i := 24) hHeld ?_
 refine tkB (i := 25) hHeld ?_
 refine tkB (i := 26) hHeld ?_
 refine tkB (i := 27) hHeld ?_
 refine tkB (i := 28) hHeld ?_
 refine tkB (i := 29) hHeld ?_
 refine tkB (i := 30) hHeld ?_
 refine tkS (i := 31) hHeld ?_
 refine tkS (i := 32) hHeld ?_
 refine tkS (i := 33) hHeld ?_
 refine tkS (i := 34) hHeld ?_
 refine tkS (i := 35) hHeld ?_
 refine tkS (i := 36) hHeld ?_
 refine tkS (i := 37) hHeld ?_
 refine tkB (i := 38) hHeld ?_
 refine wpAnyH_done (by kernel_rfl) ?_ _
 have GJ : Hid (Below w1.heap.size w1 _) := Lib.hid hHeld.1
 clear hHeld
 go_wp2_with fail
 go_ret
 exact ⟨rfl, G1.out.trans (GJ.out.mono G1.out.size)⟩

set_option maxRecDepth 100000 in
set_option maxHeartbeats 32000000 in
theorem rtformed_way7 {w : World} {node seq : Int} {da ea : Option Addr} {dn dc en ec : Nat} (h1 : ¬ node < 0) (h2 : ¬ 7 < node) (h3 : ¬ seq < 1) (h4 : ¬ 1073741824 < seq) (h5 : ¬ (8 : Int) < (dn : Int)) (h6 : ¬ (8 : Int) < (en : Int))
  {ts : List Int} (KT : ∀ W, Below (w.alloc (.cells #[.int .i64 node, .int .i64 seq, .slice da dn dc, .slice ea en ec] 29)).heap.size (w.alloc (.cells #[.int .i64 node, .int .i64 seq, .slice da dn dc, .slice ea en ec] 29)) W → Calls Tryz.prog 41 #[.slice da dn dc] W (MadeI W ts))
  (KQ : ∀ W u, Below (w.alloc (.cells #[.int .i64 node, .int .i64 seq, .slice da dn dc, .slice ea en ec] 29)).heap.size (w.alloc (.cells #[.int .i64 node, .int .i64 seq, .slice da dn dc, .slice ea en ec] 29)) W → SeqI W u ts → Calls Tryz.prog 14 #[.slice da dn dc, u] W fun e w' => e = .returned (.bool false) ∧ Below W.heap.size W w') (g1 : en ≤ 9223372036854775807) (g2 : dn ≤ 9223372036854775807) :
  Calls Tryz.prog 32 #[.agg #[.int .i64 node, .int .i64 seq, .slice da dn dc, .slice ea en ec]] w (GivesB w false) := by
 have C1 : Hid ((w.alloc (.cells #[.int .i64 node, .int .i64 seq, .slice da dn dc, .slice ea en ec] 29)).cell? ⟨w.heap.size, 0, none⟩ = some (.int .i64 node) ∧ (w.alloc (.cells #[.int .i64 node, .int .i64 seq, .slice da dn dc, .slice ea en ec] 29)).cell? ⟨w.heap.size, 1, none⟩ = some (.int .i64 seq) ∧ (w.alloc (.cells #[.int .i64 node, .int .i64 seq, .slice da dn dc, .slice ea en ec] 29)).cell? ⟨w.heap.size, 2, none⟩ = some (.slice da dn dc) ∧ (w.alloc (.cells #[.int .i64 node, .int .i64 seq, .slice da dn dc, .slice ea en ec] 29)).cell? ⟨w.heap.size, 3, none⟩ = some (.slice ea en ec)) := Lib.hid ⟨by simp, by simp, by simp, by simp⟩
 have Z1 : Hid (w.heap.size < (w.alloc (.cells #[.int .i64 node, .int .i64 seq, .slice da dn dc, .slice ea en ec] 29)).heap.size) := Lib.hid (by simp)
 have G1 := Lib.hid ((Below.refl w.heap.size w).alloc (Nat.le_refl _) (.cells #[.int .i64 node, .int .i64 seq, .slice da dn dc, .slice ea en ec] 29))
 replace KT := Lib.hid KT
 replace KQ := Lib.hid KQ
 go_enter Tryz.func32, Tryz.ntmps32
 go_upto_region 1 with fail
 generalize (w.alloc (.cells #[.int .i64 node, .int .i64 seq, .slice da dn dc, .slice ea en ec] 29)) = w1 at *
 have KE : Hid (∀ u, Below w1.heap.size w1 u → Below w1.heap.size w1 u ∧ u.cell? ⟨w.heap.size, 0, none⟩ = some (.int .i64 node) ∧ u.cell? ⟨w.heap.size, 1, none⟩ = some (.int .i64 seq) ∧ u.cell? ⟨w.heap.size, 2, none⟩ = some (.slice da dn dc) ∧ u.cell? ⟨w.heap.size, 3, none⟩ = some (.slice ea en ec)) := Lib.hid (fun u hu => ⟨hu, (hu.cell (p := ⟨w.heap.size, 0, none⟩) Z1.out).trans C1.out.1, (hu.cell (p := ⟨w.heap.size, 1, none⟩) Z1.out).trans C1.out.2.1, (hu.cell (p := ⟨w.heap.size, 2, none⟩) Z1.out).trans C1.out.2.2.1, (hu.cell (p := ⟨w.heap.size, 3, none⟩) Z1.out).trans C1.out.2.2.2⟩)
 refine wp_region_held_drew (S := fun u' => Below w1.heap.size w1 u' ∧ u'.cell? ⟨w.heap.size, 0, none⟩ = some (.int .i64 node) ∧ u'.cell? ⟨w.heap.size, 1, none⟩ = some (.int .i64 seq) ∧ u'.cell? ⟨w.heap.size, 2, none⟩ = some (.slice da dn dc) ∧ u'.cell? ⟨w.heap.size, 3, none⟩ = some (.slice ea en ec)) (by kernel_rfl) ?_ (fun hHeld => ?_)
 ·(exact KE.out _ (Below.refl _ _).drew)
 simp only [List.size_toArray, List.length_cons, List.length_nil, Nat.zero_add, Nat.reduceAdd]
 refine tkB (i := 0) hHeld ?_
 refine tkB (i := 1) hHeld ?_
 refine tkB (i := 2) hHeld ?_
 refine tkB (i := 3) hHeld ?_
 refine tkB (i := 4) hHeld ?_
 refine tkB (i := 5) hHeld ?_
 refine tkB (i := 6) hHeld ?_
 refine tkB (i := 7) hHeld ?_
 refine tkB (i := 8) hHeld ?_
 refine tkB (i := 9) hHeld ?_
 refine tkB (i := 10) hHeld ?_
 refine tkB (i := 11) hHeld ?_
 refine tkB (i := 12) hHeld ?_
 refine tkB (i := 13) hHeld ?_
 refine tkB (i := 14) hHeld ?_
 refine tkB (i := 15) hHeld ?_
 refine tkB (i := 16) hHeld ?_
 refine tkB (i := 17) hHeld ?_
 refine tkB (i := 18) hHeld ?_
 refine tkB (i := 19) hHeld ?_
 refine tkB (i := 20) hHeld ?_
 refine tkB (i := 21) hHeld ?_
 refine tkB (i := 22) hHeld ?_
 refine tkB (i := 23) hHeld ?_
 refine tkB (i := 24) hHeld ?_
 refine tkB (i := 25) hHeld ?_
 refine tkB (i := 26) hHeld ?_
 refine tkB (i := 27) hHeld ?_
 refine tkB (i := 28) hHeld ?_
 refine tkB (i := 29) hHeld ?_
 refine tkB (i := 30) hHeld ?_
 refine tkB (i := 31) hHeld ?_
 refine tkB (i := 32) hHeld ?_
 refine tkB (i := 33) hHeld ?_
 refine tkB (i := 34) hHeld ?_
 refine wpAnyH_ready (rs := [35]) (by kernel_rfl) (by simp) ?_
 refine AllReadyH.cons rfl (fun K hK => ?_) AllReadyH.nil
 go_simp
 refine (KT.out _ hHeld.1).mono ?_
 rintro e s1 ⟨v1, rfl, hti, hb⟩
 refine hK.out _ _ (KE.out _ (holdC hHeld hb)) (fun hHeld => ?_)
 clear hK K hb
 refine wpAnyH_ready (rs := [36]) (by kernel_rfl) (by simp) ?_
 refine AllReadyH.cons rfl (fun K hK => ?_) AllReadyH.nil
 go_simp
 refine (KQ.out _ _ hHeld.1 hti.seq).mono ?_
 rintro e s2 ⟨rfl, hb⟩
 refine hK.out _ _ (KE.out _ (holdC hHeld hb)) (fun hHeld => ?_)
 clear hK K hb
 refine tkB (i := 37) hHeld ?_
 refine tkB (i := 38) hHeld ?_
 refine wpAnyH_done (by kernel_rfl) ?_ _
 have GJ : Hid (Below w1.heap.size w1 _) := Lib.hid hHeld.1
 clear hHeld
 go_wp2_with fail
 go_ret
 exact ⟨rfl, G1.out.trans (GJ.out.mono G1.out.size)⟩
end Go.Proofs.YtajfliemmfdnhaaGreat
