/- What the document's own Formed of an item leaves: a walk for each way through its tests. (Written by gen-formed.py.) What the document's own Same and Short of texts leave (zone/XRefK, without Inter and Without). The contracts of the document's own functions of items as the walks of stage 9's laws call them; what a small list is. -/
import Derived.Test.YtmknpmamkjjiaaaGreatISets
import Derived.Test.YtmknpmamkjjiaaaGreatRefZs
import Derived.Deep.QuietTactic
import Derived.BigQuiet
import Derived.Test.YtmknpmamkjjiaaaGreatEqI
import Derived.Deep.Cut
import Derived.Deep.RegionHeld3
import Derived.Test.YtmknpmamkjjiaaaGreatGives
namespace Go.Proofs.YtmknpmamkjjiaaaGreat
open Go.RowKit Plain
set_option linter.unusedVariables false

theorem itv_eq (x : PItem) : itv x = .agg #[.string (bt x.key), .string (bt x.field), .int .i64 x.kind, .string (bt x.elem), .int .i64 x.n, .int .i64 x.dot.node, .int .i64 x.dot.seq, .int .i64 x.dot.pos] := rfl
theorem formed_dot {x : PItem} (h : dotB x.dot = false) : formedB x = false := by unfold formedB; rw [h, Bool.false_and]
theorem formed_key {x : PItem} (h : keyB x.key = false) : formedB x = false := by unfold formedB; rw [h, Bool.false_and, Bool.and_false]
theorem formed_field {x : PItem} (h : prefixB x.field = false) : formedB x = false := by unfold formedB; rw [h, Bool.false_and, Bool.and_false, Bool.and_false]
theorem formed_elem {x : PItem} (h : ¬ x.elem.length ≤ 32) : formedB x = false := by unfold formedB; rw [decide_eq_false h, Bool.false_and, Bool.and_false, Bool.and_false, Bool.and_false]
theorem formed_value {x : PItem} (h1 : dotB x.dot = true) (h2 : keyB x.key = true) (h3 : prefixB x.field = true) (h4 : x.elem.length ≤ 32) : formedB x = valueB x := by
 unfold formedB
 rw [h1, h2, h3, decide_eq_true h4]
 rfl


set_option maxRecDepth 100000 in
set_option maxHeartbeats 1000000 in
theorem rformed_dot0 (x : PItem) (w : World)  (h0 : x.dot.node < 0) :
  Calls Tryz.prog 63 #[itv x] w fun e w' => e = .returned (.bool false) ∧ Below w.heap.size w w' := by
 have HB := Lib.hid (((Below.refl w.heap.size w).alloc (Nat.le_refl _) (.cells #[.string (bt x.key), .string (bt x.field), .int .i64 x.kind, .string (bt x.elem), .int .i64 x.n, .int .i64 x.dot.node, .int .i64 x.dot.seq, .int .i64 x.dot.pos] 79)).alloc (by simp) (.cells #[.int .i64 x.dot.node, .int .i64 x.dot.seq, .int .i64 x.dot.pos] 54))
 rw [itv_eq]
 generalize x.dot.node = dn at *
 generalize x.dot.seq = ds at *
 generalize x.dot.pos = dp at *
 generalize bt x.key = K at *
 generalize bt x.field = F at *
 generalize bt x.elem = El at *
 generalize x.kind = kd at *
 generalize x.n = nn at *
 go_enter Tryz.func63, Tryz.ntmps63
 go_wp2_with fail
 go_ret
 exact ⟨rfl, HB.out⟩


set_option maxRecDepth 100000 in
set_option maxHeartbeats 1000000 in
theorem rformed_dot1 (x : PItem) (w : World) (h0 : ¬ x.dot.node < 0) (h1 : 7 < x.dot.node) :
  Calls Tryz.prog 63 #[itv x] w fun e w' => e = .returned (.bool false) ∧ Below w.heap.size w w' := by
 have HB := Lib.hid (((Below.refl w.heap.size w).alloc (Nat.le_refl _) (.cells #[.string (bt x.key), .string (bt x.field), .int .i64 x.kind, .string (bt x.elem), .int .i64 x.n, .int .i64 x.dot.node, .int .i64 x.dot.seq, .int .i64 x.dot.pos] 79)).alloc (by simp) (.cells #[.int .i64 x.dot.node, .int .i64 x.dot.seq, .int .i64 x.dot.pos] 54))
 rw [itv_eq]
 generalize x.dot.node = dn at *
 generalize x.dot.seq = ds at *
 generalize x.dot.pos = dp at *
 generalize bt x.key = K at *
 generalize bt x.field = F at *
 generalize bt x.elem = El at *
 generalize x.kind = kd at *
 generalize x.n = nn at *
 go_enter Tryz.func63, Tryz.ntmps63
 go_wp2_with fail
 go_ret
 exact ⟨rfl, HB.out⟩


set_option maxRecDepth 100000 in
set_option maxHeartbeats 1000000 in
theorem rformed_dot2 (x : PItem) (w : World) (h0 : ¬ x.dot.node < 0) (h1 : ¬ 7 < x.dot.node) (h2 : x.dot.seq < 1) :
  Calls Tryz.prog 63 #[itv x] w fun e w' => e = .returned (.bool false) ∧ Below w.heap.size w w' := by
 have HB := Lib.hid (((Below.refl w.heap.size w).alloc (Nat.le_refl _) (.cells #[.string (bt x.key), .string (bt x.field), .int .i64 x.kind, .string (bt x.elem), .int .i64 x.n, .int .i64 x.dot.node, .int .i64 x.dot.seq, .int .i64 x.dot.pos] 79)).alloc (by simp) (.cells #[.int .i64 x.dot.node, .int .i64 x.dot.seq, .int .i64 x.dot.pos] 54))
 rw [itv_eq]
 generalize x.dot.node = dn at *
 generalize x.dot.seq = ds at *
 generalize x.dot.pos = dp at *
 generalize bt x.key = K at *
 generalize bt x.field = F at *
 generalize bt x.elem = El at *
 generalize x.kind = kd at *
 generalize x.n = nn at *
 go_enter Tryz.func63, Tryz.ntmps63
 go_wp2_with fail
 go_ret
 exact ⟨rfl, HB.out⟩


set_option maxRecDepth 100000 in
set_option maxHeartbeats 1000000 in
theorem rformed_dot3 (x : PItem) (w : World) (h0 : ¬ x.dot.node < 0) (h1 : ¬ 7 < x.dot.node) (h2 : ¬ x.dot.seq < 1) (h3 : 1073741824 < x.dot.seq) :
  Calls Tryz.prog 63 #[itv x] w fun e w' => e = .returned (.bool false) ∧ Below w.heap.size w w' := by
 have HB := Lib.hid (((Below.refl w.heap.size w).alloc (Nat.le_refl _) (.cells #[.string (bt x.key), .string (bt x.field), .int .i64 x.kind, .string (bt x.elem), .int .i64 x.n, .int .i64 x.dot.node, .int .i64 x.dot.seq, .int .i64 x.dot.pos] 79)).alloc (by simp) (.cells #[.int .i64 x.dot.node, .int .i64 x.dot.seq, .int .i64 x.dot.pos] 54))
 rw [itv_eq]
 generalize x.dot.node = dn at *
 generalize x.dot.seq = ds at *
 generalize x.dot.pos = dp at *
 generalize bt x.key = K at *
 generalize bt x.field = F at *
 generalize bt x.elem = El at *
 generalize x.kind = kd at *
 generalize x.n = nn at *
 go_enter Tryz.func63, Tryz.ntmps63
 go_wp2_with fail
 go_ret
 exact ⟨rfl, HB.out⟩


set_option maxRecDepth 100000 in
set_option maxHeartbeats 1000000 in
theorem rformed_dot4 (x : PItem) (w : World) (h0 : ¬ x.dot.node < 0) (h1 : ¬ 7 < x.dot.node) (h2 : ¬ x.dot.seq < 1) (h3 : ¬ 1073741824 < x.dot.seq) (h4 : x.dot.pos < 0) :
  Calls Tryz.prog 63 #[itv x] w fun e w' => e = .returned (.bool false) ∧ Below w.heap.size w w' := by
 have HB := Lib.hid (((Below.refl w.heap.size w).alloc (Nat.le_refl _) (.cells #[.string (bt x.key), .string (bt x.field), .int .i64 x.kind, .string (bt x.elem), .int .i64 x.n, .int .i64 x.dot.node, .int .i64 x.dot.seq, .int .i64 x.dot.pos] 79)).alloc (by simp) (.cells #[.int .i64 x.dot.node, .int .i64 x.dot.seq, .int .i64 x.dot.pos] 54))
 rw [itv_eq]
 generalize x.dot.node = dn at *
 generalize x.dot.seq = ds at *
 generalize x.dot.pos = dp at *
 generalize bt x.key = K at *
 generalize bt x.field = F at *
 generalize bt x.elem = El at *
 generalize x.kind = kd at *
 generalize x.n = nn at *
 go_enter Tryz.func63, Tryz.ntmps63
 go_wp2_with fail
 go_ret
 exact ⟨rfl, HB.out⟩


set_option maxRecDepth 100000 in
set_option maxHeartbeats 1000000 in
theorem rformed_dot5 (x : PItem) (w : World) (h0 : ¬ x.dot.node < 0) (h1 : ¬ 7 < x.dot.node) (h2 : ¬ x.dot.seq < 1) (h3 : ¬ 1073741824 < x.dot.seq) (h4 : ¬ x.dot.pos < 0) (h5 : 7 < x.dot.pos) :
  Calls Tryz.prog 63 #[itv x] w fun e w' => e = .returned (.bool false) ∧ Below w.heap.size w w' := by
 have HB := Lib.hid (((Below.refl w.heap.size w).alloc (Nat.le_refl _) (.cells #[.string (bt x.key), .string (bt x.field), .int .i64 x.kind, .string (bt x.elem), .int .i64 x.n, .int .i64 x.dot.node, .int .i64 x.dot.seq, .int .i64 x.dot.pos] 79)).alloc (by simp) (.cells #[.int .i64 x.dot.node, .int .i64 x.dot.seq, .int .i64 x.dot.pos] 54))
 rw [itv_eq]
 generalize x.dot.node = dn at *
 generalize x.dot.seq = ds at *
 generalize x.dot.pos = dp at *
 generalize bt x.key = K at *
 generalize bt x.field = F at *
 generalize bt x.elem = El at *
 generalize x.kind = kd at *
 generalize x.n = nn at *
 go_enter Tryz.func63, Tryz.ntmps63
 go_wp2_with fail
 go_ret
 exact ⟨rfl, HB.out⟩


set_option maxRecDepth 100000 in
set_option maxHeartbeats 1000000 in
theorem rformed_key (x : PItem) (w : World) (h0 : ¬ x.dot.node < 0) (h1 : ¬ 7 < x.dot.node) (h2 : ¬ x.dot.seq < 1) (h3 : ¬ 1073741824 < x.dot.seq) (h4 : ¬ x.dot.pos < 0) (h5 : ¬ 7 < x.dot.pos) (l1 : x.key.length ≤ 9223372036854775807) (l2 : x.field.length ≤ 9223372036854775807) (hk : keyB x.key = false) :
  Calls Tryz.prog 63 #[itv x] w fun e w' => e = .returned (.bool false) ∧ Below w.heap.size w w' := by
 have HB := Lib.hid (((Below.refl w.heap.size w).alloc (Nat.le_refl _) (.cells #[.string (bt x.key), .string (bt x.field), .int .i64 x.kind, .string (bt x.elem), .int .i64 x.n, .int .i64 x.dot.node, .int .i64 x.dot.seq, .int .i64 x.dot.pos] 79)).alloc (by simp) (.cells #[.int .i64 x.dot.node, .int .i64 x.dot.seq, .int .i64 x.dot.pos] 54))
 have KK := Lib.hid (fun W => rkey_any x.key (by omega) W)
 rw [hk] at KK
 clear hk
 rw [itv_eq]
 generalize x.dot.node = dn at *
 generalize x.dot.seq = ds at *
 generalize x.dot.pos = dp at *
 generalize bt x.key = K at *
 generalize bt x.field = F at *
 generalize bt x.elem = El at *
 generalize x.kind = kd at *
 generalize x.n = nn at *
 go_enter Tryz.func63, Tryz.ntmps63
 go_wp2_with fail
 refine (KK.out _).mono ?_
 rintro e w1 ⟨rfl, rfl⟩
 go_wp2_with fail
 go_ret
 exact ⟨rfl, HB.out⟩


set_option maxRecDepth 100000 in
set_option maxHeartbeats 1000000 in
theorem rformed_field (x : PItem) (w : World) (h0 : ¬ x.dot.node < 0) (h1 : ¬ 7 < x.dot.node) (h2 : ¬ x.dot.seq < 1) (h3 : ¬ 1073741824 < x.dot.seq) (h4 : ¬ x.dot.pos < 0) (h5 : ¬ 7 < x.dot.pos) (l1 : x.key.length ≤ 9223372036854775807) (l2 : x.field.length ≤ 9223372036854775807) (hk : keyB x.key = true) (hf : prefixB x.field = false) :
  Calls Tryz.prog 63 #[itv x] w fun e w' => e = .returned (.bool false) ∧ Below w.heap.size w w' := by
 have HB := Lib.hid (((Below.refl w.heap.size w).alloc (Nat.le_refl _) (.cells #[.string (bt x.key), .string (bt x.field), .int .i64 x.kind, .string (bt x.elem), .int .i64 x.n, .int .i64 x.dot.node, .int .i64 x.dot.seq, .int .i64 x.dot.pos] 79)).alloc (by simp) (.cells #[.int .i64 x.dot.node, .int .i64 x.dot.seq, .int .i64 x.dot.pos] 54))
 have KK := Lib.hid (fun W => rkey_any x.key (by omega) W)
 have KP := Lib.hid (fun W => rprefix_any x.field (by omega) W)
 rw [hk] at KK
 rw [hf] at KP
 clear hk hf
 rw [itv_eq]
 generalize x.dot.node = dn at *
 generalize x.dot.seq = ds at *
 generalize x.dot.pos = dp at *
 generalize bt x.key = K at *
 generalize bt x.field = F at *
 generalize bt x.elem = El at *
 generalize x.kind = kd at *
 generalize x.n = nn at *
 go_enter Tryz.func63, Tryz.ntmps63
 go_wp2_with fail
 refine (KK.out _).mono ?_
 rintro e w1 ⟨rfl, rfl⟩
 go_wp2_with fail
 refine (KP.out _).mono ?_
 rintro e w1 ⟨rfl, rfl⟩
 go_wp2_with fail
 go_ret
 exact ⟨rfl, HB.out⟩


set_option maxRecDepth 100000 in
set_option maxHeartbeats 1000000 in
theorem rformed_elem (x : PItem) (w : World) (h0 : ¬ x.dot.node < 0) (h1 : ¬ 7 < x.dot.node) (h2 : ¬ x.dot.seq < 1) (h3 : ¬ 1073741824 < x.dot.seq) (h4 : ¬ x.dot.pos < 0) (h5 : ¬ 7 < x.dot.pos) (l1 : x.key.length ≤ 9223372036854775807) (l2 : x.field.length ≤ 9223372036854775807) (hk : keyB x.key = true) (hf : prefixB x.field = true) (he : (32 : Int) < (x.elem.length : Int)) :
  Calls Tryz.prog 63 #[itv x] w fun e w' => e = .returned (.bool false) ∧ Below w.heap.size w w' := by
 have HB := Lib.hid (((Below.refl w.heap.size w).alloc (Nat.le_refl _) (.cells #[.string (bt x.key), .string (bt x.field), .int .i64 x.kind, .string (bt x.elem), .int .i64 x.n, .int .i64 x.dot.node, .int .i64 x.dot.seq, .int .i64 x.dot.pos] 79)).alloc (by simp) (.cells #[.int .i64 x.dot.node, .int .i64 x.dot.seq, .int .i64 x.dot.pos] 54))
 have KK := Lib.hid (fun W => rkey_any x.key (by omega) W)
 have KP := Lib.hid (fun W => rprefix_any x.field (by omega) W)
 have z1 := bt_size x.elem
 rw [hk] at KK
 rw [hf] at KP
 clear hk hf
 rw [itv_eq]
 generalize x.dot.node = dn at *
 generalize x.dot.seq = ds at *
 generalize x.dot.pos = dp at *
 generalize bt x.key = K at *
 generalize bt x.field = F at *
 generalize bt x.elem = El at *
 generalize x.kind = kd at *
 generalize x.n = nn at *
 go_enter Tryz.func63, Tryz.ntmps63
 go_wp2_with fail
 refine (KK.out _).mono ?_
 rintro e w1 ⟨rfl, rfl⟩
 go_wp2_with fail
 refine (KP.out _).mono ?_
 rintro e w1 ⟨rfl, rfl⟩
 go_wp2_with fail
 go_ret
 exact ⟨rfl, HB.out⟩


set_option maxRecDepth 100000 in
set_option maxHeartbeats 1000000 in
theorem rformed_v1 (x : PItem) (w : World) (h0 : ¬ x.dot.node < 0) (h1 : ¬ 7 < x.dot.node) (h2 : ¬ x.dot.seq < 1) (h3 : ¬ 1073741824 < x.dot.seq) (h4 : ¬ x.dot.pos < 0) (h5 : ¬ 7 < x.dot.pos) (l1 : x.key.length ≤ 9223372036854775807) (l2 : x.field.length ≤ 9223372036854775807) (hk : keyB x.key = true) (hf : prefixB x.field = true) (he : ¬ (32 : Int) < (x.elem.length : Int)) (k1 : (x.kind == 1) = true) (n0 : (x.n == 0) = true) :
  Calls Tryz.prog 63 #[itv x] w fun e w' => e = .returned (.bool true) ∧ Below w.heap.size w w' := by
 have HB := Lib.hid (((Below.refl w.heap.size w).alloc (Nat.le_refl _) (.cells #[.string (bt x.key), .string (bt x.field), .int .i64 x.kind, .string (bt x.elem), .int .i64 x.n, .int .i64 x.dot.node, .int .i64 x.dot.seq, .int .i64 x.dot.pos] 79)).alloc (by simp) (.cells #[.int .i64 x.dot.node, .int .i64 x.dot.seq, .int .i64 x.dot.pos] 54))
 have KK := Lib.hid (fun W => rkey_any x.key (by omega) W)
 have KP := Lib.hid (fun W => rprefix_any x.field (by omega) W)
 have z1 := bt_size x.elem
 rw [hk] at KK
 rw [hf] at KP
 clear hk hf
 rw [itv_eq]
 generalize x.dot.node = dn at *
 generalize x.dot.seq = ds at *
 generalize x.dot.pos = dp at *
 generalize bt x.key = K at *
 generalize bt x.field = F at *
 generalize bt x.elem = El at *
 generalize x.kind = kd at *
 generalize x.n = nn at *
 go_enter Tryz.func63, Tryz.ntmps63
 go_wp2_with fail
 refine (KK.out _).mono ?_
 rintro e w1 ⟨rfl, rfl⟩
 go_wp2_with fail
 refine (KP.out _).mono ?_
 rintro e w1 ⟨rfl, rfl⟩
 go_wp2_with fail
 go_ret
 exact ⟨rfl, HB.out⟩


set_option maxRecDepth 100000 in
set_option maxHeartbeats 1000000 in
theorem rformed_v2 (x : PItem) (w : World) (h0 : ¬ x.dot.node < 0) (h1 : ¬ 7 < x.dot.node) (h2 : ¬ x.dot.seq < 1) (h3 : ¬ 1073741824 < x.dot.seq) (h4 : ¬ x.dot.pos < 0) (h5 : ¬ 7 < x.dot.pos) (l1 : x.key.length ≤ 9223372036854775807) (l2 : x.field.length ≤ 9223372036854775807) (hk : keyB x.key = true) (hf : prefixB x.field = true) (he : ¬ (32 : Int) < (x.elem.length : Int)) (k1 : (x.kind == 1) = true) (k3 : (x.kind == 3) = false) (n0 : (x.n == 0) = false) :
  Calls Tryz.prog 63 #[itv x] w fun e w' => e = .returned (.bool false) ∧ Below w.heap.size w w' := by
 have HB := Lib.hid (((Below.refl w.heap.size w).alloc (Nat.le_refl _) (.cells #[.string (bt x.key), .string (bt x.field), .int .i64 x.kind, .string (bt x.elem), .int .i64 x.n, .int .i64 x.dot.node, .int .i64 x.dot.seq, .int .i64 x.dot.pos] 79)).alloc (by simp) (.cells #[.int .i64 x.dot.node, .int .i64 x.dot.seq, .int .i64 x.dot.pos] 54))
 have KK := Lib.hid (fun W => rkey_any x.key (by omega) W)
 have KP := Lib.hid (fun W => rprefix_any x.field (by omega) W)
 have z1 := bt_size x.elem
 rw [hk] at KK
 rw [hf] at KP
 clear hk hf
 rw [itv_eq]
 generalize x.dot.node = dn at *
 generalize x.dot.seq = ds at *
 generalize x.dot.pos = dp at *
 generalize bt x.key = K at *
 generalize bt x.field = F at *
 generalize bt x.elem = El at *
 generalize x.kind = kd at *
 generalize x.n = nn at *
 go_enter Tryz.func63, Tryz.ntmps63
 go_wp2_with fail
 refine (KK.out _).mono ?_
 rintro e w1 ⟨rfl, rfl⟩
 go_wp2_with fail
 refine (KP.out _).mono ?_
 rintro e w1 ⟨rfl, rfl⟩
 go_wp2_with fail
 go_ret
 exact ⟨rfl, HB.out⟩


set_option maxRecDepth 100000 in
set_option maxHeartbeats 1000000 in
theorem rformed_v3 (x : PItem) (w : World) (h0 : ¬ x.dot.node < 0) (h1 : ¬ 7 < x.dot.node) (h2 : ¬ x.dot.seq < 1) (h3 : ¬ 1073741824 < x.dot.seq) (h4 : ¬ x.dot.pos < 0) (h5 : ¬ 7 < x.dot.pos) (l1 : x.key.length ≤ 9223372036854775807) (l2 : x.field.length ≤ 9223372036854775807) (hk : keyB x.key = true) (hf : prefixB x.field = true) (he : ¬ (32 : Int) < (x.elem.length : Int)) (k1 : (x.kind == 1) = false) (k2 : (x.kind == 2) = true) (n0 : (x.n == 0) = true) :
  Calls Tryz.prog 63 #[itv x] w fun e w' => e = .returned (.bool true) ∧ Below w.heap.size w w' := by
 have HB := Lib.hid (((Below.refl w.heap.size w).alloc (Nat.le_refl _) (.cells #[.string (bt x.key), .string (bt x.field), .int .i64 x.kind, .string (bt x.elem), .int .i64 x.n, .int .i64 x.dot.node, .int .i64 x.dot.seq, .int .i64 x.dot.pos] 79)).alloc (by simp) (.cells #[.int .i64 x.dot.node, .int .i64 x.dot.seq, .int .i64 x.dot.pos] 54))
 have KK := Lib.hid (fun W => rkey_any x.key (by omega) W)
 have KP := Lib.hid (fun W => rprefix_any x.field (by omega) W)
 have z1 := bt_size x.elem
 rw [hk] at KK
 rw [hf] at KP
 clear hk hf
 rw [itv_eq]
 generalize x.dot.node = dn at *
 generalize x.dot.seq = ds at *
 generalize x.dot.pos = dp at *
 generalize bt x.key = K at *
 generalize bt x.field = F at *
 generalize bt x.elem = El at *
 generalize x.kind = kd at *
 generalize x.n = nn at *
 go_enter Tryz.func63, Tryz.ntmps63
 go_wp2_with fail
 refine (KK.out _).mono ?_
 rintro e w1 ⟨rfl, rfl⟩
 go_wp2_with fail
 refine (KP.out _).mono ?_
 rintro e w1 ⟨rfl, rfl⟩
 go_wp2_with fail
 go_ret
 exact ⟨rfl, HB.out⟩


set_option maxRecDepth 100000 in
set_option maxHeartbeats 1000000 in
theorem rformed_v4 (x : PItem) (w : World) (h0 : ¬ x.dot.node < 0) (h1 : ¬ 7 < x.dot.node) (h2 : ¬ x.dot.seq < 1) (h3 : ¬ 1073741824 < x.dot.seq) (h4 : ¬ x.dot.pos < 0) (h5 : ¬ 7 < x.dot.pos) (l1 : x.key.length ≤ 9223372036854775807) (l2 : x.field.length ≤ 9223372036854775807) (hk : keyB x.key = true) (hf : prefixB x.field = true) (he : ¬ (32 : Int) < (x.elem.length : Int)) (k1 : (x.kind == 1) = false) (k2 : (x.kind == 2) = true) (k3 : (x.kind == 3) = false) (n0 : (x.n == 0) = false) :
  Calls Tryz.prog 63 #[itv x] w fun e w' => e = .returned (.bool false) ∧ Below w.heap.size w w' := by
 have HB := Lib.hid (((Below.refl w.heap.size w).alloc (Nat.le_refl _) (.cells #[.string (bt x.key), .string (bt x.field), .int .i64 x.kind, .string (bt x.elem), .int .i64 x.n, .int .i64 x.dot.node, .int .i64 x.dot.seq, .int .i64 x.dot.pos] 79)).alloc (by simp) (.cells #[.int .i64 x.dot.node, .int .i64 x.dot.seq, .int .i64 x.dot.pos] 54))
 have KK := Lib.hid (fun W => rkey_any x.key (by omega) W)
 have KP := Lib.hid (fun W => rprefix_any x.field (by omega) W)
 have z1 := bt_size x.elem
 rw [hk] at KK
 rw [hf] at KP
 clear hk hf
 rw [itv_eq]
 generalize x.dot.node = dn at *
 generalize x.dot.seq = ds at *
 generalize x.dot.pos = dp at *
 generalize bt x.key = K at *
 generalize bt x.field = F at *
 generalize bt x.elem = El at *
 generalize x.kind = kd at *
 generalize x.n = nn at *
 go_enter Tryz.func63, Tryz.ntmps63
 go_wp2_with fail
 refine (KK.out _).mono ?_
 rintro e w1 ⟨rfl, rfl⟩
 go_wp2_with fail
 refine (KP.out _).mono ?_
 rintro e w1 ⟨rfl, rfl⟩
 go_wp2_with fail
 go_ret
 exact ⟨rfl, HB.out⟩


set_option maxRecDepth 100000 in
set_option maxHeartbeats 1000000 in
theorem rformed_v5 (x : PItem) (w : World) (h0 : ¬ x.dot.node < 0) (h1 : ¬ 7 < x.dot.node) (h2 : ¬ x.dot.seq < 1) (h3 : ¬ 1073741824 < x.dot.seq) (h4 : ¬ x.dot.pos < 0) (h5 : ¬ 7 < x.dot.pos) (l1 : x.key.length ≤ 9223372036854775807) (l2 : x.field.length ≤ 9223372036854775807) (hk : keyB x.key = true) (hf : prefixB x.field = true) (he : ¬ (32 : Int) < (x.elem.length : Int)) (k1 : (x.kind == 1) = false) (k2 : (x.kind == 2) = false) (k3 : (x.kind == 3) = true) (e0 : ((x.elem.length : Int) == 0) = true) :
  Calls Tryz.prog 63 #[itv x] w fun e w' => e = .returned (.bool true) ∧ Below w.heap.size w w' := by
 have HB := Lib.hid (((Below.refl w.heap.size w).alloc (Nat.le_refl _) (.cells #[.string (bt x.key), .string (bt x.field), .int .i64 x.kind, .string (bt x.elem), .int .i64 x.n, .int .i64 x.dot.node, .int .i64 x.dot.seq, .int .i64 x.dot.pos] 79)).alloc (by simp) (.cells #[.int .i64 x.dot.node, .int .i64 x.dot.seq, .int .i64 x.dot.pos] 54))
 have KK := Lib.hid (fun W => rkey_any x.key (by omega) W)
 have KP := Lib.hid (fun W => rprefix_any x.field (by omega) W)
 have z1 := bt_size x.elem
 rw [hk] at KK
 rw [hf] at KP
 clear hk hf
 rw [itv_eq]
 generalize x.dot.node = dn at *
 generalize x.dot.seq = ds at *
 generalize x.dot.pos = dp at *
 generalize bt x.key = K at *
 generalize bt x.field = F at *
 generalize bt x.elem = El at *
 generalize x.kind = kd at *
 generalize x.n = nn at *
 go_enter Tryz.func63, Tryz.ntmps63
 go_wp2_with fail
 refine (KK.out _).mono ?_
 rintro e w1 ⟨rfl, rfl⟩
 go_wp2_with fail
 refine (KP.out _).mono ?_
 rintro e w1 ⟨rfl, rfl⟩
 go_wp2_with fail
 go_ret
 exact ⟨rfl, HB.out⟩


set_option maxRecDepth 100000 in
set_option maxHeartbeats 1000000 in
theorem rformed_v6 (x : PItem) (w : World) (h0 : ¬ x.dot.node < 0) (h1 : ¬ 7 < x.dot.node) (h2 : ¬ x.dot.seq < 1) (h3 : ¬ 1073741824 < x.dot.seq) (h4 : ¬ x.dot.pos < 0) (h5 : ¬ 7 < x.dot.pos) (l1 : x.key.length ≤ 9223372036854775807) (l2 : x.field.length ≤ 9223372036854775807) (hk : keyB x.key = true) (hf : prefixB x.field = true) (he : ¬ (32 : Int) < (x.elem.length : Int)) (k1 : (x.kind == 1) = false) (k2 : (x.kind == 2) = false) (k3 : (x.kind == 3) = true) (e0 : ((x.elem.length : Int) == 0) = false) :
  Calls Tryz.prog 63 #[itv x] w fun e w' => e = .returned (.bool false) ∧ Below w.heap.size w w' := by
 have HB := Lib.hid (((Below.refl w.heap.size w).alloc (Nat.le_refl _) (.cells #[.string (bt x.key), .string (bt x.field), .int .i64 x.kind, .string (bt x.elem), .int .i64 x.n, .int .i64 x.dot.node, .int .i64 x.dot.seq, .int .i64 x.dot.pos] 79)).alloc (by simp) (.cells #[.int .i64 x.dot.node, .int .i64 x.dot.seq, .int .i64 x.dot.pos] 54))
 have KK := Lib.hid (fun W => rkey_any x.key (by omega) W)
 have KP := Lib.hid (fun W => rprefix_any x.field (by omega) W)
 have z1 := bt_size x.elem
 rw [hk] at KK
 rw [hf] at KP
 clear hk hf
 rw [itv_eq]
 generalize x.dot.node = dn at *
 generalize x.dot.seq = ds at *
 generalize x.dot.pos = dp at *
 generalize bt x.key = K at *
 generalize bt x.field = F at *
 generalize bt x.elem = El at *
 generalize x.kind = kd at *
 generalize x.n = nn at *
 go_enter Tryz.func63, Tryz.ntmps63
 go_wp2_with fail
 refine (KK.out _).mono ?_
 rintro e w1 ⟨rfl, rfl⟩
 go_wp2_with fail
 refine (KP.out _).mono ?_
 rintro e w1 ⟨rfl, rfl⟩
 go_wp2_with fail
 go_ret
 exact ⟨rfl, HB.out⟩


set_option maxRecDepth 100000 in
set_option maxHeartbeats 1000000 in
theorem rformed_v7 (x : PItem) (w : World) (h0 : ¬ x.dot.node < 0) (h1 : ¬ 7 < x.dot.node) (h2 : ¬ x.dot.seq < 1) (h3 : ¬ 1073741824 < x.dot.seq) (h4 : ¬ x.dot.pos < 0) (h5 : ¬ 7 < x.dot.pos) (l1 : x.key.length ≤ 9223372036854775807) (l2 : x.field.length ≤ 9223372036854775807) (hk : keyB x.key = true) (hf : prefixB x.field = true) (he : ¬ (32 : Int) < (x.elem.length : Int)) (k1 : (x.kind == 1) = false) (k2 : (x.kind == 2) = false) (k3 : (x.kind == 3) = false) :
  Calls Tryz.prog 63 #[itv x] w fun e w' => e = .returned (.bool false) ∧ Below w.heap.size w w' := by
 have HB := Lib.hid (((Below.refl w.heap.size w).alloc (Nat.le_refl _) (.cells #[.string (bt x.key), .string (bt x.field), .int .i64 x.kind, .string (bt x.elem), .int .i64 x.n, .int .i64 x.dot.node, .int .i64 x.dot.seq, .int .i64 x.dot.pos] 79)).alloc (by simp) (.cells #[.int .i64 x.dot.node, .int .i64 x.dot.seq, .int .i64 x.dot.pos] 54))
 have KK := Lib.hid (fun W => rkey_any x.key (by omega) W)
 have KP := Lib.hid (fun W => rprefix_any x.field (by omega) W)
 have z1 := bt_size x.elem
 rw [hk] at KK
 rw [hf] at KP
 clear hk hf
 rw [itv_eq]
 generalize x.dot.node = dn at *
 generalize x.dot.seq = ds at *
 generalize x.dot.pos = dp at *
 generalize bt x.key = K at *
 generalize bt x.field = F at *
 generalize bt x.elem = El at *
 generalize x.kind = kd at *
 generalize x.n = nn at *
 go_enter Tryz.func63, Tryz.ntmps63
 go_wp2_with fail
 refine (KK.out _).mono ?_
 rintro e w1 ⟨rfl, rfl⟩
 go_wp2_with fail
 refine (KP.out _).mono ?_
 rintro e w1 ⟨rfl, rfl⟩
 go_wp2_with fail
 go_ret
 exact ⟨rfl, HB.out⟩


theorem kind_eq {a b : Int} (h : a = b) : (a == b) = true := by subst h; simp
theorem kind_ne {a b : Int} (h : ¬ a = b) : (a == b) = false := by simp [h]
/-- Formed -/
theorem rformed_any (x : PItem) (w : World) (l1 : x.key.length ≤ 9223372036854775807) (l2 : x.field.length ≤ 9223372036854775807) :
  Calls Tryz.prog 63 #[itv x] w fun e w' => e = .returned (.bool (formedB x)) ∧ Below w.heap.size w w' := by
 by_cases h0 : x.dot.node < 0
 ·rw [formed_dot (show dotB x.dot = false from decide_eq_false (by omega))]
  exact rformed_dot0 x w h0
 by_cases h1 : 7 < x.dot.node
 ·rw [formed_dot (show dotB x.dot = false from decide_eq_false (by omega))]
  exact rformed_dot1 x w h0 h1
 by_cases h2 : x.dot.seq < 1
 ·rw [formed_dot (show dotB x.dot = false from decide_eq_false (by omega))]
  exact rformed_dot2 x w h0 h1 h2
 by_cases h3 : 1073741824 < x.dot.seq
 ·rw [formed_dot (show dotB x.dot = false from decide_eq_false (by omega))]
  exact rformed_dot3 x w h0 h1 h2 h3
 by_cases h4 : x.dot.pos < 0
 ·rw [formed_dot (show dotB x.dot = false from decide_eq_false (by omega))]
  exact rformed_dot4 x w h0 h1 h2 h3 h4
 by_cases h5 : 7 < x.dot.pos
 ·rw [formed_dot (show dotB x.dot = false from decide_eq_false (by omega))]
  exact rformed_dot5 x w h0 h1 h2 h3 h4 h5
 have hd : dotB x.dot = true := decide_eq_true (by omega)
 cases hk : keyB x.key with
 | false =>
  rw [formed_key hk]
  exact rformed_key x w h0 h1 h2 h3 h4 h5 l1 l2 hk
 | true =>
  cases hf : prefixB x.field with
  | false =>
   rw [formed_field hf]
   exact rformed_field x w h0 h1 h2 h3 h4 h5 l1 l2 hk hf
  | true =>
   by_cases he : x.elem.length ≤ 32
   rotate_left
   ·rw [formed_elem he]
    exact rformed_elem x w h0 h1 h2 h3 h4 h5 l1 l2 hk hf (by omega)
   rw [formed_value hd hk hf he]
   have he' : ¬ (32 : Int) < (x.elem.length : Int) := by omega
   by_cases k1 : x.kind = 1
   ·have k3 : ¬ x.kind = 3 := by omega
    by_cases n0 : x.n = 0
    ·rw [show valueB x = true by simp [valueB, k1, n0]]
     exact rformed_v1 x w h0 h1 h2 h3 h4 h5 l1 l2 hk hf he' (kind_eq k1) (kind_eq n0)
    ·rw [show valueB x = false by simp [valueB, k1, n0]]
     exact rformed_v2 x w h0 h1 h2 h3 h4 h5 l1 l2 hk hf he' (kind_eq k1) (kind_ne k3) (kind_ne n0)
   ·by_cases k2 : x.kind = 2
    ·have k3 : ¬ x.kind = 3 := by omega
     by_cases n0 : x.n = 0
     ·rw [show valueB x = true by simp [valueB, k2, n0]]
      exact rformed_v3 x w h0 h1 h2 h3 h4 h5 l1 l2 hk hf he' (kind_ne k1) (kind_eq k2) (kind_eq n0)
     ·rw [show valueB x = false by simp [valueB, k2, n0]]
      exact rformed_v4 x w h0 h1 h2 h3 h4 h5 l1 l2 hk hf he' (kind_ne k1) (kind_eq k2) (kind_ne k3) (kind_ne n0)
    ·by_cases k3 : x.kind = 3
     ·by_cases e0 : x.elem.length = 0
      ·rw [show valueB x = true by simp [valueB, k3, e0]]
       exact rformed_v5 x w h0 h1 h2 h3 h4 h5 l1 l2 hk hf he' (kind_ne k1) (kind_ne k2) (kind_eq k3) (kind_eq (by omega))
      ·rw [show valueB x = false by unfold valueB; rw [k3, decide_eq_false e0]; simp]
       exact rformed_v6 x w h0 h1 h2 h3 h4 h5 l1 l2 hk hf he' (kind_ne k1) (kind_ne k2) (kind_eq k3) (kind_ne (by omega))
     ·rw [show valueB x = false by simp [valueB, k1, k2, k3]]
      exact rformed_v7 x w h0 h1 h2 h3 h4 h5 l1 l2 hk hf he' (kind_ne k1) (kind_ne k2) (kind_ne k3)
end Go.Proofs.YtmknpmamkjjiaaaGreat
namespace Go.Proofs.YtmknpmamkjjiaaaGreat
open Go.RowKit Plain
set_option linter.unusedVariables false

end Go.Proofs.YtmknpmamkjjiaaaGreat
namespace Go.Proofs.YtmknpmamkjjiaaaGreat
open Go.RowKit Plain
set_option linter.unusedVariables false

/-- a list of items that is looked at -/
def SmallI (xs : List PItem) : Prop := xs.length ≤ 200 ∧ ∀ x ∈ xs, shortB1 x = true ∧ dotOk x.dot
theorem SmallI.key {xs : List PItem} (h : SmallI xs) : ∀ x ∈ xs, x.key.length ≤ 1000000 := fun x hx => by have := (short1_iff.1 (h.2 x hx).1).1; omega
end Go.Proofs.YtmknpmamkjjiaaaGreat
