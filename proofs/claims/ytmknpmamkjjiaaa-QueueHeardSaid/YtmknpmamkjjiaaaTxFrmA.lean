/- The program's own Formed of transactions, where one of the tests ahead of the effects' number fails. (Written by gen-form.py.) -/
import Derived.Test.YtmknpmamkjjiaaaTxDeps
import Derived.Test.YtmknpmamkjjiaaaEForms
import Derived.Test.YtmknpmamkjjiaaaEHeard
import Derived.Deep.RegionHeld3
import Derived.Deep.Cut
namespace Go.Proofs.Ytmknpmamkjjiaaa
open Go.RowKit Plain
set_option linter.unusedVariables false

set_option maxRecDepth 100000 in
set_option maxHeartbeats 32000000 in
theorem tformed_way1 {w : World} {node seq : Int} {da ea : Option Addr} {dn dc en ec : Nat} (h1 : ¬ 0 ≤ node) (g1 : en ≤ 9223372036854775807) :
  Calls Try.prog 16 #[.agg #[.int .i64 node, .int .i64 seq, .slice da dn dc, .slice ea en ec]] w (GivesB w false) := by
 have C1 : Hid ((w.alloc (.cells #[.int .i64 node, .int .i64 seq, .slice da dn dc, .slice ea en ec] 34)).cell? ⟨w.heap.size, 0, none⟩ = some (.int .i64 node) ∧ (w.alloc (.cells #[.int .i64 node, .int .i64 seq, .slice da dn dc, .slice ea en ec] 34)).cell? ⟨w.heap.size, 1, none⟩ = some (.int .i64 seq) ∧ (w.alloc (.cells #[.int .i64 node, .int .i64 seq, .slice da dn dc, .slice ea en ec] 34)).cell? ⟨w.heap.size, 2, none⟩ = some (.slice da dn dc) ∧ (w.alloc (.cells #[.int .i64 node, .int .i64 seq, .slice da dn dc, .slice ea en ec] 34)).cell? ⟨w.heap.size, 3, none⟩ = some (.slice ea en ec)) := Lib.hid ⟨by simp, by simp, by simp, by simp⟩
 have Z1 : Hid (w.heap.size < (w.alloc (.cells #[.int .i64 node, .int .i64 seq, .slice da dn dc, .slice ea en ec] 34)).heap.size) := Lib.hid (by simp)
 have G1 := Lib.hid ((Below.refl w.heap.size w).alloc (Nat.le_refl _) (.cells #[.int .i64 node, .int .i64 seq, .slice da dn dc, .slice ea en ec] 34))
 go_enter Try.func16, Try.ntmps16
 go_upto_region 1 with fail
 generalize (w.alloc (.cells #[.int .i64 node, .int .i64 seq, .slice da dn dc, .slice ea en ec] 34)) = w1 at *
 have KE : Hid (∀ u, Below w1.heap.size w1 u → Below w1.heap.size w1 u ∧ u.cell? ⟨w.heap.size, 0, none⟩ = some (.int .i64 node) ∧ u.cell? ⟨w.heap.size, 1, none⟩ = some (.int .i64 seq) ∧ u.cell? ⟨w.heap.size, 2, none⟩ = some (.slice da dn dc) ∧ u.cell? ⟨w.heap.size, 3, none⟩ = some (.slice ea en ec)) := Lib.hid (fun u hu => ⟨hu, (hu.cell (p := ⟨w.heap.size, 0, none⟩) Z1.out).trans C1.out.1, (hu.cell (p := ⟨w.heap.size, 1, none⟩) Z1.out).trans C1.out.2.1, (hu.cell (p := ⟨w.heap.size, 2, none⟩) Z1.out).trans C1.out.2.2.1, (hu.cell (p := ⟨w.heap.size, 3, none⟩) Z1.out).trans C1.out.2.2.2⟩)
 refine wp_region_held_drew (S := fun u' => Below w1.heap.size w1 u' ∧ u'.cell? ⟨w.heap.size, 0, none⟩ = some (.int .i64 node) ∧ u'.cell? ⟨w.heap.size, 1, none⟩ = some (.int .i64 seq) ∧ u'.cell? ⟨w.heap.size, 2, none⟩ = some (.slice da dn dc) ∧ u'.cell? ⟨w.heap.size, 3, none⟩ = some (.slice ea en ec)) (by kernel_rfl) ?_ (fun hHeld => ?_)
 ·(exact KE.out _ (Below.refl _ _).drew)
 simp only [List.size_toArray, List.length_cons, List.length_nil, Nat.zero_add, Nat.reduceAdd]
 refine tkB (i := 0) hHeld ?_
 refine tkB (i := 1) hHeld ?_
 refine tkB (i := 2) hHeld ?_
 refine tkB (i := 3) hHeld ?_
 refine tkS (i := 4) hHeld ?_
 refine tkS (i := 5) hHeld ?_
 refine tkS (i := 6) hHeld ?_
 refine tkB (i := 7) hHeld ?_
 refine tkB (i := 8) hHeld ?_
 refine tkS (i := 9) hHeld ?_
 refine tkS (i := 10) hHeld ?_
 refine tkS (i := 11) hHeld ?_
 refine tkB (i := 12) hHeld ?_
 refine tkB (i := 13) hHeld ?_
 refine tkS (i := 14) hHeld ?_
 refine tkS (i := 15) hHeld ?_
 refine tkS (i := 16) hHeld ?_
 refine tkB (i := 17) hHeld ?_
 refine tkB (i := 18) hHeld ?_
 refine tkS (i := 19) hHeld ?_
 refine tkS (i := 20) hHeld ?_
 refine tkS (i := 21) hHeld ?_
 refine tkB (i := 22) hHeld ?_
 refine tkB (i := 23) hHeld ?_
 refine tkS (i := 24) hHeld ?_
 refine tkS (i := 25) hHeld ?_
 refine tkS (i := 26) hHeld ?_
 refine tkS (i := 27) hHeld ?_
 refine tkS (i := 29) hHeld ?_
 refine tkS (i := 30) hHeld ?_
 refine tkS (i := 31) hHeld ?_
 refine tkS (i := 28) hHeld ?_
 refine tkS (i := 32) hHeld ?_
 refine tkB (i := 33) hHeld ?_
 refine tkB (i := 34) hHeld ?_
 refine tkS (i := 35) hHeld ?_
 refine tkS (i := 36) hHeld ?_
 refine tkS (i := 37) hHeld ?_
 refine tkS (i := 38) hHeld ?_
 refine tkB (i := 39) hHeld ?_
 refine tkB (i := 40) hHeld ?_
 refine tkS (i := 41) hHeld ?_
 refine tkS (i := 42) hHeld ?_
 refine tkS (i := 43) hHeld ?_
 refine tkS (i := 44) hHeld ?_
 refine tkS (i := 45) hHeld ?_
 refine tkS (i := 46) hHeld ?_
 refine tkS (i := 47) hHeld ?_
 refine tkB (i := 48) hHeld ?_
 refine tkB (i := 49) hHeld ?_
 refine tkS (i := 50) hHeld ?_
 refine tkS (i := 51) hHeld ?_
 refine tkS (i := 52) hHeld ?_
 refine tkS (i := 53) hHeld ?_
 refine tkS (i := 54) hHeld ?_
 refine tkS (i := 55) hHeld ?_
 refine tkS (i := 56) hHeld ?_
 refine tkS (i := 57) hHeld ?_
 refine tkS (i := 58) hHeld ?_
 refine tkB (i := 59) hHeld ?_
 refine tkB (i := 60) hHeld ?_
 refine wpAnyH_done (by kernel_rfl) ?_ _
 have GJ : Hid (Below w1.heap.size w1 _) := Lib.hid hHeld.1
 clear hHeld
 go_wp2_with fail
 go_ret
 exact ⟨rfl, G1.out.trans (GJ.out.mono G1.out.size)⟩

set_option maxRecDepth 100000 in
set_option maxHeartbeats 32000000 in
theorem tformed_way2 {w : World} {node seq : Int} {da ea : Option Addr} {dn dc en ec : Nat} (h1 : 0 ≤ node) (h2 : ¬ node < 8) (g1 : en ≤ 9223372036854775807) :
  Calls Try.prog 16 #[.agg #[.int .i64 node, .int .i64 seq, .slice da dn dc, .slice ea en ec]] w (GivesB w false) := by
 have C1 : Hid ((w.alloc (.cells #[.int .i64 node, .int .i64 seq, .slice da dn dc, .slice ea en ec] 34)).cell? ⟨w.heap.size, 0, none⟩ = some (.int .i64 node) ∧ (w.alloc (.cells #[.int .i64 node, .int .i64 seq, .slice da dn dc, .slice ea en ec] 34)).cell? ⟨w.heap.size, 1, none⟩ = some (.int .i64 seq) ∧ (w.alloc (.cells #[.int .i64 node, .int .i64 seq, .slice da dn dc, .slice ea en ec] 34)).cell? ⟨w.heap.size, 2, none⟩ = some (.slice da dn dc) ∧ (w.alloc (.cells #[.int .i64 node, .int .i64 seq, .slice da dn dc, .slice ea en ec] 34)).cell? ⟨w.heap.size, 3, none⟩ = some (.slice ea en ec)) := Lib.hid ⟨by simp, by simp, by simp, by simp⟩
 have Z1 : Hid (w.heap.size < (w.alloc (.cells #[.int .i64 node, .int .i64 seq, .slice da dn dc, .slice ea en ec] 34)).heap.size) := Lib.hid (by simp)
 have G1 := Lib.hid ((Below.refl w.heap.size w).alloc (Nat.le_refl _) (.cells #[.int .i64 node, .int .i64 seq, .slice da dn dc, .slice ea en ec] 34))
 go_enter Try.func16, Try.ntmps16
 go_upto_region 1 with fail
 generalize (w.alloc (.cells #[.int .i64 node, .int .i64 seq, .slice da dn dc, .slice ea en ec] 34)) = w1 at *
 have KE : Hid (∀ u, Below w1.heap.size w1 u → Below w1.heap.size w1 u ∧ u.cell? ⟨w.heap.size, 0, none⟩ = some (.int .i64 node) ∧ u.cell? ⟨w.heap.size, 1, none⟩ = some (.int .i64 seq) ∧ u.cell? ⟨w.heap.size, 2, none⟩ = some (.slice da dn dc) ∧ u.cell? ⟨w.heap.size, 3, none⟩ = some (.slice ea en ec)) := Lib.hid (fun u hu => ⟨hu, (hu.cell (p := ⟨w.heap.size, 0, none⟩) Z1.out).trans C1.out.1, (hu.cell (p := ⟨w.heap.size, 1, none⟩) Z1.out).trans C1.out.2.1, (hu.cell (p := ⟨w.heap.size, 2, none⟩) Z1.out).trans C1.out.2.2.1, (hu.cell (p := ⟨w.heap.size, 3, none⟩) Z1.out).trans C1.out.2.2.2⟩)
 refine wp_region_held_drew (S := fun u' => Below w1.heap.size w1 u' ∧ u'.cell? ⟨w.heap.size, 0, none⟩ = some (.int .i64 node) ∧ u'.cell? ⟨w.heap.size, 1, none⟩ = some (.int .i64 seq) ∧ u'.cell? ⟨w.heap.size, 2, none⟩ = some (.slice da dn dc) ∧ u'.cell? ⟨w.heap.size, 3, none⟩ = some (.slice ea en ec)) (by kernel_rfl) ?_ (fun hHeld => ?_)
 ·(exact KE.out _ (Below.refl _ _).drew)
 simp only [List.size_toArray, List.length_cons, List.length_nil, Nat.zero_add, Nat.reduceAdd]
 refine tkB (i := 0) hHeld ?_
 refine tkB (i := 1) hHeld ?_
 refine tkB (i := 2) hHeld ?_
 refine tkB (i := 3) hHeld ?_
 refine tkB (i := 4) hHeld ?_
 refine tkB (i := 5) hHeld ?_
 refine tkB (i := 6) hHeld ?_
 refine tkB (i := 7) hHeld ?_
 refine tkB (i := 8) hHeld ?_
 refine tkS (i := 9) hHeld ?_
 refine tkS (i := 10) hHeld ?_
 refine tkS (i := 11) hHeld ?_
 refine tkB (i := 12) hHeld ?_
 refine tkB (i := 13) hHeld ?_
 refine tkS (i := 14) hHeld ?_
 refine tkS (i := 15) hHeld ?_
 refine tkS (i := 16) hHeld ?_
 refine tkB (i := 17) hHeld ?_
 refine tkB (i := 18) hHeld ?_
 refine tkS (i := 19) hHeld ?_
 refine tkS (i := 20) hHeld ?_
 refine tkS (i := 21) hHeld ?_
 refine tkB (i := 22) hHeld ?_
 refine tkB (i := 23) hHeld ?_
 refine tkS (i := 24) hHeld ?_
 refine tkS (i := 25) hHeld ?_
 refine tkS (i := 26) hHeld ?_
 refine tkS (i := 27) hHeld ?_
 refine tkS (i := 29) hHeld ?_
 refine tkS (i := 30) hHeld ?_
 refine tkS (i := 31) hHeld ?_
 refine tkS (i := 28) hHeld ?_
 refine tkS (i := 32) hHeld ?_
 refine tkB (i := 33) hHeld ?_
 refine tkB (i := 34) hHeld ?_
 refine tkS (i := 35) hHeld ?_
 refine tkS (i := 36) hHeld ?_
 refine tkS (i := 37) hHeld ?_
 refine tkS (i := 38) hHeld ?_
 refine tkB (i := 39) hHeld ?_
 refine tkB (i := 40) hHeld ?_
 refine tkS (i := 41) hHeld ?_
 refine tkS (i := 42) hHeld ?_
 refine tkS (i := 43) hHeld ?_
 refine tkS (i := 44) hHeld ?_
 refine tkS (i := 45) hHeld ?_
 refine tkS (i := 46) hHeld ?_
 refine tkS (i := 47) hHeld ?_
 refine tkB (i := 48) hHeld ?_
 refine tkB (i := 49) hHeld ?_
 refine tkS (i := 50) hHeld ?_
 refine tkS (i := 51) hHeld ?_
 refine tkS (i := 52) hHeld ?_
 refine tkS (i := 53) hHeld ?_
 refine tkS (i := 54) hHeld ?_
 refine tkS (i := 55) hHeld ?_
 refine tkS (i := 56) hHeld ?_
 refine tkS (i := 57) hHeld ?_
 refine tkS (i := 58) hHeld ?_
 refine tkB (i := 59) hHeld ?_
 refine tkB (i := 60) hHeld ?_
 refine wpAnyH_done (by kernel_rfl) ?_ _
 have GJ : Hid (Below w1.heap.size w1 _) := Lib.hid hHeld.1
 clear hHeld
 go_wp2_with fail
 go_ret
 exact ⟨rfl, G1.out.trans (GJ.out.mono G1.out.size)⟩

set_option maxRecDepth 100000 in
set_option maxHeartbeats 32000000 in
theorem tformed_way3 {w : World} {node seq : Int} {da ea : Option Addr} {dn dc en ec : Nat} (h1 : 0 ≤ node) (h2 : node < 8) (h3 : ¬ 1 ≤ seq) (g1 : en ≤ 9223372036854775807) :
  Calls Try.prog 16 #[.agg #[.int .i64 node, .int .i64 seq, .slice da dn dc, .slice ea en ec]] w (GivesB w false) := by
 have C1 : Hid ((w.alloc (.cells #[.int .i64 node, .int .i64 seq, .slice da dn dc, .slice ea en ec] 34)).cell? ⟨w.heap.size, 0, none⟩ = some (.int .i64 node) ∧ (w.alloc (.cells #[.int .i64 node, .int .i64 seq, .slice da dn dc, .slice ea en ec] 34)).cell? ⟨w.heap.size, 1, none⟩ = some (.int .i64 seq) ∧ (w.alloc (.cells #[.int .i64 node, .int .i64 seq, .slice da dn dc, .slice ea en ec] 34)).cell? ⟨w.heap.size, 2, none⟩ = some (.slice da dn dc) ∧ (w.alloc (.cells #[.int .i64 node, .int .i64 seq, .slice da dn dc, .slice ea en ec] 34)).cell? ⟨w.heap.size, 3, none⟩ = some (.slice ea en ec)) := Lib.hid ⟨by simp, by simp, by simp, by simp⟩
 have Z1 : Hid (w.heap.size < (w.alloc (.cells #[.int .i64 node, .int .i64 seq, .slice da dn dc, .slice ea en ec] 34)).heap.size) := Lib.hid (by simp)
 have G1 := Lib.hid ((Below.refl w.heap.size w).alloc (Nat.le_refl _) (.cells #[.int .i64 node, .int .i64 seq, .slice da dn dc, .slice ea en ec] 34))
 go_enter Try.func16, Try.ntmps16
 go_upto_region 1 with fail
 generalize (w.alloc (.cells #[.int .i64 node, .int .i64 seq, .slice da dn dc, .slice ea en ec] 34)) = w1 at *
 have KE : Hid (∀ u, Below w1.heap.size w1 u → Below w1.heap.size w1 u ∧ u.cell? ⟨w.heap.size, 0, none⟩ = some (.int .i64 node) ∧ u.cell? ⟨w.heap.size, 1, none⟩ = some (.int .i64 seq) ∧ u.cell? ⟨w.heap.size, 2, none⟩ = some (.slice da dn dc) ∧ u.cell? ⟨w.heap.size, 3, none⟩ = some (.slice ea en ec)) := Lib.hid (fun u hu => ⟨hu, (hu.cell (p := ⟨w.heap.size, 0, none⟩) Z1.out).trans C1.out.1, (hu.cell (p := ⟨w.heap.size, 1, none⟩) Z1.out).trans C1.out.2.1, (hu.cell (p := ⟨w.heap.size, 2, none⟩) Z1.out).trans C1.out.2.2.1, (hu.cell (p := ⟨w.heap.size, 3, none⟩) Z1.out).trans C1.out.2.2.2⟩)
 refine wp_region_held_drew (S := fun u' => Below w1.heap.size w1 u' ∧ u'.cell? ⟨w.heap.size, 0, none⟩ = some (.int .i64 node) ∧ u'.cell? ⟨w.heap.size, 1, none⟩ = some (.int .i64 seq) ∧ u'.cell? ⟨w.heap.size, 2, none⟩ = some (.slice da dn dc) ∧ u'.cell? ⟨w.heap.size, 3, none⟩ = some (.slice ea en ec)) (by kernel_rfl) ?_ (fun hHeld => ?_)
 ·(exact KE.out _ (Below.refl _ _).drew)
 simp only [List.size_toArray, List.length_cons, List.length_nil, Nat.zero_add, Nat.reduceAdd]
 refine tkB (i := 0) hHeld ?_
 refine tkB (i := 1) hHeld ?_
 refine tkB (i := 2) hHeld ?_
 refine tkB (i := 3) hHeld ?_
 refine tkB (i := 4) hHeld ?_
 refine tkB (i := 5) hHeld ?_
 refine tkB (i := 6) hHeld ?_
 refine tkB (i := 7) hHeld ?_
 refine tkB (i := 8) hHeld ?_
 refine tkB (i := 9) hHeld ?_
 refine tkB (i := 10) hHeld ?_
 refine tkB (i := 11) hHeld ?_
 refine tkB (i := 12) hHeld ?_
 refine tkB (i := 13) hHeld ?_
 refine tkS (i := 14) hHeld ?_
 refine tkS (i := 15) hHeld ?_
 refine tkS (i := 16) hHeld ?_
 refine tkB (i := 17) hHeld ?_
 refine tkB (i := 18) hHeld ?_
 refine tkS (i := 19) hHeld ?_
 refine tkS (i := 20) hHeld ?_
 refine tkS (i := 21) hHeld ?_
 refine tkB (i := 22) hHeld ?_
 refine tkB (i := 23) hHeld ?_
 refine tkS (i := 24) hHeld ?_
 refine tkS (i := 25) hHeld ?_
 refine tkS (i := 26) hHeld ?_
 refine tkS (i := 27) hHeld ?_
 refine tkS (i := 29) hHeld ?_
 refine tkS (i := 30) hHeld ?_
 refine tkS (i := 31) hHeld ?_
 refine tkS (i := 28) hHeld ?_
 refine tkS (i := 32) hHeld ?_
 refine tkB (i := 33) hHeld ?_
 refine tkB (i := 34) hHeld ?_
 refine tkS (i := 35) hHeld ?_
 refine tkS (i := 36) hHeld ?_
 refine tkS (i := 37) hHeld ?_
 refine tkS (i := 38) hHeld ?_
 refine tkB (i := 39) hHeld ?_
 refine tkB (i := 40) hHeld ?_
 refine tkS (i := 41) hHeld ?_
 refine tkS (i := 42) hHeld ?_
 refine tkS (i := 43) hHeld ?_
 refine tkS (i := 44) hHeld ?_
 refine tkS (i := 45) hHeld ?_
 refine tkS (i := 46) hHeld ?_
 refine tkS (i := 47) hHeld ?_
 refine tkB (i := 48) hHeld ?_
 refine tkB (i := 49) hHeld ?_
 refine tkS (i := 50) hHeld ?_
 refine tkS (i := 51) hHeld ?_
 refine tkS (i := 52) hHeld ?_
 refine tkS (i := 53) hHeld ?_
 refine tkS (i := 54) hHeld ?_
 refine tkS (i := 55) hHeld ?_
 refine tkS (i := 56) hHeld ?_
 refine tkS (i := 57) hHeld ?_
 refine tkS (i := 58) hHeld ?_
 refine tkB (i := 59) hHeld ?_
 refine tkB (i := 60) hHeld ?_
 refine wpAnyH_done (by kernel_rfl) ?_ _
 have GJ : Hid (Below w1.heap.size w1 _) := Lib.hid hHeld.1
 clear hHeld
 go_wp2_with fail
 go_ret
 exact ⟨rfl, G1.out.trans (GJ.out.mono G1.out.size)⟩

set_option maxRecDepth 100000 in
set_option maxHeartbeats 32000000 in
theorem tformed_way4 {w : World} {node seq : Int} {da ea : Option Addr} {dn dc en ec : Nat} (h1 : 0 ≤ node) (h2 : node < 8) (h3 : 1 ≤ seq) (h4 : ¬ seq ≤ 1073741824) (g1 : en ≤ 9223372036854775807) :
  Calls Try.prog 16 #[.agg #[.int .i64 node, .int .i64 seq, .slice da dn dc, .slice ea en ec]] w (GivesB w false) := by
 have C1 : Hid ((w.alloc (.cells #[.int .i64 node, .int .i64 seq, .slice da dn dc, .slice ea en ec] 34)).cell? ⟨w.heap.size, 0, none⟩ = some (.int .i64 node) ∧ (w.alloc (.cells #[.int .i64 node, .int .i64 seq, .slice da dn dc, .slice ea en ec] 34)).cell? ⟨w.heap.size, 1, none⟩ = some (.int .i64 seq) ∧ (w.alloc (.cells #[.int .i64 node, .int .i64 seq, .slice da dn dc, .slice ea en ec] 34)).cell? ⟨w.heap.size, 2, none⟩ = some (.slice da dn dc) ∧ (w.alloc (.cells #[.int .i64 node, .int .i64 seq, .slice da dn dc, .slice ea en ec] 34)).cell? ⟨w.heap.size, 3, none⟩ = some (.slice ea en ec)) := Lib.hid ⟨by simp, by simp, by simp, by simp⟩
 have Z1 : Hid (w.heap.size < (w.alloc (.cells #[.int .i64 node, .int .i64 seq, .slice da dn dc, .slice ea en ec] 34)).heap.size) := Lib.hid (by simp)
 have G1 := Lib.hid ((Below.refl w.heap.size w).alloc (Nat.le_refl _) (.cells #[.int .i64 node, .int .i64 seq, .slice da dn dc, .slice ea en ec] 34))
 go_enter Try.func16, Try.ntmps16
 go_upto_region 1 with fail
 generalize (w.alloc (.cells #[.int .i64 node, .int .i64 seq, .slice da dn dc, .slice ea en ec] 34)) = w1 at *
 have KE : Hid (∀ u, Below w1.heap.size w1 u → Below w1.heap.size w1 u ∧ u.cell? ⟨w.heap.size, 0, none⟩ = some (.int .i64 node) ∧ u.cell? ⟨w.heap.size, 1, none⟩ = some (.int .i64 seq) ∧ u.cell? ⟨w.heap.size, 2, none⟩ = some (.slice da dn dc) ∧ u.cell? ⟨w.heap.size, 3, none⟩ = some (.slice ea en ec)) := Lib.hid (fun u hu => ⟨hu, (hu.cell (p := ⟨w.heap.size, 0, none⟩) Z1.out).trans C1.out.1, (hu.cell (p := ⟨w.heap.size, 1, none⟩) Z1.out).trans C1.out.2.1, (hu.cell (p := ⟨w.heap.size, 2, none⟩) Z1.out).trans C1.out.2.2.1, (hu.cell (p := ⟨w.heap.size, 3, none⟩) Z1.out).trans C1.out.2.2.2⟩)
 refine wp_region_held_drew (S := fun u' => Below w1.heap.size w1 u' ∧ u'.cell? ⟨w.heap.size, 0, none⟩ = some (.int .i64 node) ∧ u'.cell? ⟨w.heap.size, 1, none⟩ = some (.int .i64 seq) ∧ u'.cell? ⟨w.heap.size, 2, none⟩ = some (.slice da dn dc) ∧ u'.cell? ⟨w.heap.size, 3, none⟩ = some (.slice ea en ec)) (by kernel_rfl) ?_ (fun hHeld => ?_)
 ·(exact KE.out _ (Below.refl _ _).drew)
 simp only [List.size_toArray, List.length_cons, List.length_nil, Nat.zero_add, Nat.reduceAdd]
 refine tkB (i := 0) hHeld ?_
 refine tkB (i := 1) hHeld ?_
 refine tkB (i := 2) hHeld ?_
 refine tkB (i := 3) hHeld ?_
 refine tkB (i := 4) hHeld ?_
 refine tkB (i := 5) hHeld ?_
 refine tkB (i := 6) hHeld ?_
 refine tkB (i := 7) hHeld ?_
 refine tkB (i := 8) hHeld ?_
 refine tkB (i := 9) hHeld ?_
 refine tkB (i := 10) hHeld ?_
 refine tkB (i := 11) hHeld ?_
 refine tkB (i := 12) hHeld ?_
 refine tkB (i := 13) hHeld ?_
 refine tkB (i := 14) hHeld ?_
 refine tkB (i := 15) hHeld ?_
 refine tkB (i := 16) hHeld ?_
 refine tkB (i := 17) hHeld ?_
 refine tkB (i := 18) hHeld ?_
 refine tkS (i := 19) hHeld ?_
 refine tkS (i := 20) hHeld ?_
 refine tkS (i := 21) hHeld ?_
 refine tkB (i := 22) hHeld ?_
 refine tkB (i := 23) hHeld ?_
 refine tkS (i := 24) hHeld ?_
 refine tkS (i := 25) hHeld ?_
 refine tkS (i := 26) hHeld ?_
 refine tkS (i := 27) hHeld ?_
 refine tkS (i := 29) hHeld ?_
 refine tkS (i := 30) hHeld ?_
 refine tkS (i := 31) hHeld ?_
 refine tkS (i := 28) hHeld ?_
 refine tkS (i := 32) hHeld ?_
 refine tkB (i := 33) hHeld ?_
 refine tkB (i := 34) hHeld ?_
 refine tkS (i := 35) hHeld ?_
 refine tkS (i := 36) hHeld ?_
 refine tkS (i := 37) hHeld ?_
 refine tkS (i := 38) hHeld ?_
 refine tkB (i := 39) hHeld ?_
 refine tkB (i := 40) hHeld ?_
 refine tkS (i := 41) hHeld ?_
 refine tkS (i := 42) hHeld ?_
 refine tkS (i := 43) hHeld ?_
 refine tkS (i := 44) hHeld ?_
 refine tkS (i := 45) hHeld ?_
 refine tkS (i := 46) hHeld ?_
 refine tkS (i := 47) hHeld ?_
 refine tkB (i := 48) hHeld ?_
 refine tkB (i := 49) hHeld ?_
 refine tkS (i := 50) hHeld ?_
 refine tkS (i := 51) hHeld ?_
 refine tkS (i := 52) hHeld ?_
 refine tkS (i := 53) hHeld ?_
 refine tkS (i := 54) hHeld ?_
 refine tkS (i := 55) hHeld ?_
 refine tkS (i := 56) hHeld ?_
 refine tkS (i := 57) hHeld ?_
 refine tkS (i := 58) hHeld ?_
 refine tkB (i := 59) hHeld ?_
 refine tkB (i := 60) hHeld ?_
 refine wpAnyH_done (by kernel_rfl) ?_ _
 have GJ : Hid (Below w1.heap.size w1 _) := Lib.hid hHeld.1
 clear hHeld
 go_wp2_with fail
 go_ret
 exact ⟨rfl, G1.out.trans (GJ.out.mono G1.out.size)⟩

set_option maxRecDepth 100000 in
set_option maxHeartbeats 32000000 in
theorem tformed_way5 {w : World} {node seq : Int} {da ea : Option Addr} {dn dc en ec : Nat} (h1 : 0 ≤ node) (h2 : node < 8) (h3 : 1 ≤ seq) (h4 : seq ≤ 1073741824)
  (KD : ∀ W, Below (w.alloc (.cells #[.int .i64 node, .int .i64 seq, .slice da dn dc, .slice ea en ec] 34)).heap.size (w.alloc (.cells #[.int .i64 node, .int .i64 seq, .slice da dn dc, .slice ea en ec] 34)) W → Calls Try.prog 23 #[.slice da dn dc] W (GivesB W false)) (g1 : en ≤ 9223372036854775807) :
  Calls Try.prog 16 #[.agg #[.int .i64 node, .int .i64 seq, .slice da dn dc, .slice ea en ec]] w (GivesB w false) := by
 have C1 : Hid ((w.alloc (.cells #[.int .i64 node, .int .i64 seq, .slice da dn dc, .slice ea en ec] 34)).cell? ⟨w.heap.size, 0, none⟩ = some (.int .i64 node) ∧ (w.alloc (.cells #[.int .i64 node, .int .i64 seq, .slice da dn dc, .slice ea en ec] 34)).cell? ⟨w.heap.size, 1, none⟩ = some (.int .i64 seq) ∧ (w.alloc (.cells #[.int .i64 node, .int .i64 seq, .slice da dn dc, .slice ea en ec] 34)).cell? ⟨w.heap.size, 2, none⟩ = some (.slice da dn dc) ∧ (w.alloc (.cells #[.int .i64 node, .int .i64 seq, .slice da dn dc, .slice ea en ec] 34)).cell? ⟨w.heap.size, 3, none⟩ = some (.slice ea en ec)) := Lib.hid ⟨by simp, by simp, by simp, by simp⟩
 have Z1 : Hid (w.heap.size < (w.alloc (.cells #[.int .i64 node, .int .i64 seq, .slice da dn dc, .slice ea en ec] 34)).heap.size) := Lib.hid (by simp)
 have G1 := Lib.hid ((Below.refl w.heap.size w).alloc (Nat.le_refl _) (.cells #[.int .i64 node, .int .i64 seq, .slice da dn dc, .slice ea en ec] 34))
 replace KD := Lib.hid KD
 go_enter Try.func16, Try.ntmps16
 go_upto_region 1 with fail
 generalize (w.alloc (.cells #[.int .i64 node, .int .i64 seq, .slice da dn dc, .slice ea en ec] 34)) = w1 at *
 have KE : Hid (∀ u, Below w1.heap.size w1 u → Below w1.heap.size w1 u ∧ u.cell? ⟨w.heap.size, 0, none⟩ = some (.int .i64 node) ∧ u.cell? ⟨w.heap.size, 1, none⟩ = some (.int .i64 seq) ∧ u.cell? ⟨w.heap.size, 2, none⟩ = some (.slice da dn dc) ∧ u.cell? ⟨w.heap.size, 3, none⟩ = some (.slice ea en ec)) := Lib.hid (fun u hu => ⟨hu, (hu.cell (p := ⟨w.heap.size, 0, none⟩) Z1.out).trans C1.out.1, (hu.cell (p := ⟨w.heap.size, 1, none⟩) Z1.out).trans C1.out.2.1, (hu.cell (p := ⟨w.heap.size, 2, none⟩) Z1.out).trans C1.out.2.2.1, (hu.cell (p := ⟨w.heap.size, 3, none⟩) Z1.out).trans C1.out.2.2.2⟩)
 refine wp_region_held_drew (S := fun u' => Below w1.heap.size w1 u' ∧ u'.cell? ⟨w.heap.size, 0, none⟩ = some (.int .i64 node) ∧ u'.cell? ⟨w.heap.size, 1, none⟩ = some (.int .i64 seq) ∧ u'.cell? ⟨w.heap.size, 2, none⟩ = some (.slice da dn dc) ∧ u'.cell? ⟨w.heap.size, 3, none⟩ = some (.slice ea en ec)) (by kernel_rfl) ?_ (fun hHeld => ?_)
 ·(exact KE.out _ (Below.refl _ _).drew)
 simp only [List.size_toArray, List.length_cons, List.length_nil, Nat.zero_add, Nat.reduceAdd]
 refine tkB (i := 0) hHeld ?_
 refine tkB (i := 1) hHeld ?_
 refine tkB (i := 2) hHeld ?_
 refine tkB (i := 3) hHeld ?_
 refine tkB (i := 4) hHeld ?_
 refine tkB (i := 5) hHeld ?_
 refine tkB (i := 6) hHeld ?_
 refine tkB (i := 7) hHeld ?_
 refine tkB (i := 8) hHeld ?_
 refine tkB (i := 9) hHeld ?_
 refine tkB (i := 10) hHeld ?_
 refine tkB (i := 11) hHeld ?_
 refine tkB (i := 12) hHeld ?_
 refine tkB (i := 13) hHeld ?_
 refine tkB (i := 14) hHeld ?_
 refine tkB (i := 15) hHeld ?_
 refine tkB (i := 16) hHeld ?_
 refine tkB (i := 17) hHeld ?_
 refine tkB (i := 18) hHeld ?_
 refine tkB (i := 19) hHeld ?_
 refine tkB (i := 20) hHeld ?_
 refine wpAnyH_ready (rs := [21]) (by kernel_rfl) (by simp) ?_
 refine AllReadyH.cons rfl (fun K hK => ?_) AllReadyH.nil
 go_simp
 refine (KD.out _ hHeld.1).mono ?_
 rintro e s1 ⟨rfl, hb⟩
 refine hK.out _ _ (KE.out _ (holdC hHeld hb)) (fun hHeld => ?_)
 clear hK K hb
 refine tkB (i := 22) hHeld ?_
 refine tkB (i := 23) hHeld ?_
 refine tkS (i := 24) hHeld ?_
 refine tkS (i := 25) hHeld ?_
 refine tkS (i := 26) hHeld ?_
 refine tkS (i := 27) hHeld ?_
 refine tkS (i := 29) hHeld ?_
 refine tkS (i := 30) hHeld ?_
 refine tkS (i := 31) hHeld ?_
 refine tkS (i := 28) hHeld ?_
 refine tkS (i := 32) hHeld ?_
 refine tkB (i := 33) hHeld ?_
 refine tkB (i := 34) hHeld ?_
 refine tkS (i := 35) hHeld ?_
 refine tkS (i := 36) hHeld ?_
 refine tkS (i := 37) hHeld ?_
 refine tkS (i := 38) hHeld ?_
 refine tkB (i := 39) hHeld ?_
 refine tkB (i := 40) hHeld ?_
 refine tkS (i := 41) hHeld ?_
 refine tkS (i := 42) hHeld ?_
 refine tkS (i := 43) hHeld ?_
 refine tkS (i := 44) hHeld ?_
 refine tkS (i := 45) hHeld ?_
 refine tkS (i := 46) hHeld ?_
 refine tkS (i := 47) hHeld ?_
 refine tkB (i := 48) hHeld ?_
 refine tkB (i := 49) hHeld ?_
 refine tkS (i := 50) hHeld ?_
 refine tkS (i := 51) hHeld ?_
 refine tkS (i := 52) hHeld ?_
 refine tkS (i := 53) hHeld ?_
 refine tkS (i := 54) hHeld ?_
 refine tkS (i := 55) hHeld ?_
 refine tkS (i := 56) hHeld ?_
 refine tkS (i := 57) hHeld ?_
 refine tkS (i := 58) hHeld ?_
 refine tkB (i := 59) hHeld ?_
 refine tkB (i := 60) hHeld ?_
 refine wpAnyH_done (by kernel_rfl) ?_ _
 have GJ : Hid (Below w1.heap.size w1 _) := Lib.hid hHeld.1
 clear hHeld
 go_wp2_with fail
 go_ret
 exact ⟨rfl, G1.out.trans (GJ.out.mono G1.out.size)⟩

set_option maxRecDepth 100000 in
set_option maxHeartbeats 32000000 in
theorem tformed_way6 {w : World} {node seq : Int} {da ea : Option Addr} {dn dc en ec : Nat} (h1 : 0 ≤ node) (h2 : node < 8) (h3 : 1 ≤ seq) (h4 : seq ≤ 1073741824)
  (KD : ∀ W, Below (w.alloc (.cells #[.int .i64 node, .int .i64 seq, .slice da dn dc, .slice ea en ec] 34)).heap.size (w.alloc (.cells #[.int .i64 node, .int .i64 seq, .slice da dn dc, .slice ea en ec] 34)) W → Calls Try.prog 23 #[.slice da dn dc] W (GivesB W true))
  (sy m : Int) (h6 : IntKind.i64.wrap (seq - 1) = m) (h6b : (sy == m) = false) (KA : ∀ W, Below (w.alloc (.cells #[.int .i64 node, .int .i64 seq, .slice da dn dc, .slice ea en ec] 34)).heap.size (w.alloc (.cells #[.int .i64 node, .int .i64 seq, .slice da dn dc, .slice ea en ec] 34)) W → Calls Try.prog 21 #[.slice da dn dc, .int .i64 node] W fun e w' => e = .returned (.int .i64 sy) ∧ Below W.heap.size W w') (g1 : en ≤ 9223372036854775807) :
  Calls Try.prog 16 #[.agg #[.int .i64 node, .int .i64 seq, .slice da dn dc, .slice ea en ec]] w (GivesB w false) := by
 have C1 : Hid ((w.alloc (.cells #[.int .i64 node, .int .i64 seq, .slice da dn dc, .slice ea en ec] 34)).cell? ⟨w.heap.size, 0, none⟩ = some (.int .i64 node) ∧ (w.alloc (.cells #[.int .i64 node, .int .i64 seq, .slice da dn dc, .slice ea en ec] 34)).cell? ⟨w.heap.size, 1, none⟩ = some (.int .i64 seq) ∧ (w.alloc (.cells #[.int .i64 node, .int .i64 seq, .slice da dn dc, .slice ea en ec] 34)).cell? ⟨w.heap.size, 2, none⟩ = some (.slice da dn dc) ∧ (w.alloc (.cells #[.int .i64 node, .int .i64 seq, .slice da dn dc, .slice ea en ec] 34)).cell? ⟨w.heap.size, 3, none⟩ = some (.slice ea en ec)) := Lib.hid ⟨by simp, by simp, by simp, by simp⟩
 have Z1 : Hid (w.heap.size < (w.alloc (.cells #[.int .i64 node, .int .i64 seq, .slice da dn dc, .slice ea en ec] 34)).heap.size) := Lib.hid (by simp)
 have G1 := Lib.hid ((Below.refl w.heap.size w).alloc (Nat.le_refl _) (.cells #[.int .i64 node, .int .i64 seq, .slice da dn dc, .slice ea en ec] 34))
 replace KD := Lib.hid KD
 replace KA := Lib.hid KA
 go_enter Try.func16, Try.ntmps16
 go_upto_region 1 with fail
 generalize (w.alloc (.cells #[.int .i64 node, .int .i64 seq, .slice da dn dc, .slice ea en ec] 34)) = w1 at *
 have KE : Hid (∀ u, Below w1.heap.size w1 u → Below w1.heap.size w1 u ∧ u.cell? ⟨w.heap.size, 0, none⟩ = some (.int .i64 node) ∧ u.cell? ⟨w.heap.size, 1, none⟩ = some (.int .i64 seq) ∧ u.cell? ⟨w.heap.size, 2, none⟩ = some (.slice da dn dc) ∧ u.cell? ⟨w.heap.size, 3, none⟩ = some (.slice ea en ec)) := Lib.hid (fun u hu => ⟨hu, (hu.cell (p := ⟨w.heap.size, 0, none⟩) Z1.out).trans C1.out.1, (hu.cell (p := ⟨w.heap.size, 1, none⟩) Z1.out).trans C1.out.2.1, (hu.cell (p := ⟨w.heap.size, 2, none⟩) Z1.out).trans C1.out.2.2.1, (hu.cell (p := ⟨w.heap.size, 3, none⟩) Z1.out).trans C1.out.2.2.2⟩)
 refine wp_region_held_drew (S := fun u' => Below w1.heap.size w1 u' ∧ u'.cell? ⟨w.heap.size, 0, none⟩ = some (.int .i64 node) ∧ u'.cell? ⟨w.heap.size, 1, none⟩ = some (.int .i64 seq) ∧ u'.cell? ⟨w.heap.size, 2, none⟩ = some (.slice da dn dc) ∧ u'.cell? ⟨w.heap.size, 3, none⟩ = some (.slice ea en ec)) (by kernel_rfl) ?_ (fun hHeld => ?_)
 ·(exact KE.out _ (Below.refl _ _).drew)
 simp only [List.size_toArray, List.length_cons, List.length_nil, Nat.zero_add, Nat.reduceAdd]
 refine tkB (i := 0) hHeld ?_
 refine tkB (i := 1) hHeld ?_
 refine tkB (i := 2) hHeld ?_
 refine tkB (i := 3) hHeld ?_
 refine tkB (i := 4) hHeld ?_
 refine tkB (i := 5) hHeld ?_
 refine tkB (i := 6) hHeld ?_
 refine tkB (i := 7) hHeld ?_
 refine tkB (i := 8) hHeld ?_
 refine tkB (i := 9) hHeld ?_
 refine tkB (i := 10) hHeld ?_
 refine tkB (i := 11) hHeld ?_
 refine tkB (i := 12) hHeld ?_
 refine tkB (i := 13) hHeld ?_
 refine tkB (i := 14) hHeld ?_
 refine tkB (i := 15) hHeld ?_
 refine tkB (i := 16) hHeld ?_
 refine tkB (i := 17) hHeld ?_
 refine tkB (i := 18) hHeld ?_
 refine tkB (i := 19) hHeld ?_
 refine tkB (i := 20) hHeld ?_
 refine wpAnyH_ready (rs := [21]) (by kernel_rfl) (by simp) ?_
 refine AllReadyH.cons rfl (fun K hK => ?_) AllReadyH.nil
 go_simp
 refine (KD.out _ hHeld.1).mono ?_
 rintro e s1 ⟨rfl, hb⟩
 refine hK.out _ _ (KE.out _ (holdC hHeld hb)) (fun hHeld => ?_)
 clear hK K hb
 refine tkB (i := 22) hHeld ?_
 refine tkB (i := 23) hHeld ?_
 refine tkB (i := 24) hHeld ?_
 refine tkB (i := 25) hHeld ?_
 refine tkB (i := 26) hHeld ?_
 refine tkB (i := 27) hHeld ?_
 refine tkB (i := 29) hHeld ?_
 refine tkB (i := 30) hHeld ?_
 refine tkB (i := 31) hHeld ?_
 refine wpAnyH_ready (rs := [28]) (by kernel_rfl) (by simp) ?_
 refine AllReadyH.cons rfl (fun K hK => ?_) AllReadyH.nil
 go_simp
 refine (KA.out _ hHeld.1).mono ?_
 rintro e s2 ⟨rfl, hb⟩
 refine hK.out _ _ (KE.out _ (holdC hHeld hb)) (fun hHeld => ?_)
 clear hK K hb
 refine tkB (i := 32) hHeld ?_
 refine tkB (i := 33) hHeld ?_
 refine tkB (i := 34) hHeld ?_
 refine tkS (i := 35) hHeld ?_
 refine tkS (i := 36) hHeld ?_
 refine tkS (i := 37) hHeld ?_
 refine tkS (i := 38) hHeld ?_
 refine tkB (i := 39) hHeld ?_
 refine tkB (i := 40) hHeld ?_
 refine tkS (i := 41) hHeld ?_
 refine tkS (i := 42) hHeld ?_
 refine tkS (i := 43) hHeld ?_
 refine tkS (i := 44) hHeld ?_
 refine tkS (i := 45) hHeld ?_
 refine tkS (i := 46) hHeld ?_
 refine tkS (i := 47) hHeld ?_
 refine tkB (i := 48) hHeld ?_
 refine tkB (i := 49) hHeld ?_
 refine tkS (i := 50) hHeld ?_
 refine tkS (i := 51) hHeld ?_
 refine tkS (i := 52) hHeld ?_
 refine tkS (i := 53) hHeld ?_
 refine tkS (i := 54) hHeld ?_
 refine tkS (i := 55) hHeld ?_
 refine tkS (i := 56) hHeld ?_
 refine tkS (i := 57) hHeld ?_
 refine tkS (i := 58) hHeld ?_
 refine tkB (i := 59) hHeld ?_
 refine tkB (i := 60) hHeld ?_
 refine wpAnyH_done (by kernel_rfl) ?_ _
 have GJ : Hid (Below w1.heap.size w1 _) := Lib.hid hHeld.1
 clear hHeld
 go_wp2_with fail
 go_ret
 exact ⟨rfl, G1.out.trans (GJ.out.mono G1.out.size)⟩
end Go.Proofs.Ytmknpmamkjjiaaa
