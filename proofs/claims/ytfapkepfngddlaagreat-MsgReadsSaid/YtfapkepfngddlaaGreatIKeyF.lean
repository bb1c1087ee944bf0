/- What the program's own Keys and Under of items leave, and the function that Under hands to those. What the program's own Under of items leaves, and the function that it hands to those. What the program's own isField, isDot, fits and Formed of an item leave: a walk for each way through their tests. (Written by gen-form.py.) -/
import Derived.Test.YtfapkepfngddlaaGreatINorms
import Derived.Test.YtfapkepfngddlaaGreatStItems
import Derived.Deep.QuietTactic
import Derived.BigQuiet
import Derived.Test.YtfapkepfngddlaaGreatISets
import Derived.Deep.Cut
set_option maxRecDepth 100000
set_option maxHeartbeats 64000000
namespace Go.Proofs.YtfapkepfngddlaaGreat
open Go.RowKit Plain
set_option linter.unusedVariables false
theorem itv_eq4 (x : PItem) : itv x = .agg #[.string (bt x.key), .string (bt x.field), .int .i64 x.kind, .string (bt x.elem), .int .i64 x.n, .int .i64 x.dot.node, .int .i64 x.dot.seq, .int .i64 x.dot.pos] := rfl
theorem dv_eq4 (d : PDot) : dv d = .agg #[.int .i64 d.node, .int .i64 d.seq, .int .i64 d.pos] := rfl
theorem nil_eq (s : Txt) : ((bt s).toList == []) = decide (s.length = 0) := by
 have t1 := text_eq s [];rw [show (bt []).toList = [] from toList_bt []] at t1;rw [t1];exact decide_eq_decide.2 ⟨fun e => by rw [e]; rfl, List.eq_nil_of_length_eq_zero⟩
theorem field_way (s : Txt) : (decide (s.length = 0) || keyB s) = prefixB s := by
 unfold keyB
 cases s with
 | nil => rfl
 | cons c s => simp
theorem formed_way (x : PItem) : (keyB x.key && (prefixB x.field && ((decide (x.elem.length ≤ 32) && valueB x) && dotB x.dot))) = formedB x := by
 unfold formedB
 cases keyB x.key <;> cases prefixB x.field <;> cases decide (x.elem.length ≤ 32) <;> cases valueB x <;> cases dotB x.dot <;> rfl
theorem ifield_any (s : Txt) (w : World) : Calls Tryz.prog 118 #[.string (bt s)] w fun e w' => e = .returned (.bool (prefixB s)) ∧ w = w' := by
 have K := zkey_any s w;have t1 := nil_eq s;rw [← field_way s];generalize keyB s = r at *;generalize bt s = S at *
 by_cases h : s.length = 0
 ·rw [decide_eq_true h] at t1 ⊢
  rw [Bool.true_or];clear h;go_enter Tryz.func118, Tryz.ntmps118
  go_wp2_with fail
  go_ret
  exact ⟨rfl, rfl⟩
 ·rw [decide_eq_false h] at t1 ⊢
  rw [Bool.false_or];clear h;go_enter Tryz.func118, Tryz.ntmps118
  go_wp2_with fail
  refine K.mono ?_;rintro e w' ⟨rfl, rfl⟩;go_wp2_with fail
  go_ret
  exact ⟨rfl, rfl⟩
theorem idot_any (d : PDot) (w : World) : Calls Tryz.prog 120 #[dv d] w (GivesB w (dotB d)) := by
 have HB : Hid (dotB d = decide (0 ≤ d.node ∧ d.node ≤ 7 ∧ 1 ≤ d.seq ∧ d.seq ≤ 1073741824 ∧ 0 ≤ d.pos ∧ d.pos ≤ 7)) := zH rfl;have G := zH (zB w (.cells #[.int .i64 d.node, .int .i64 d.seq, .int .i64 d.pos] 45));rw [dv_eq4];generalize dotB d = r at *;generalize d.node = a at *;generalize d.seq = b at *;generalize d.pos = c at *
 by_cases h0 : (0 : Int) ≤ a
 rotate_left
 ·obtain rfl : r = false := by rw [HB.out]; exact decide_eq_false (by omega)
  go_enter Tryz.func120, Tryz.ntmps120
  go_wp2_with fail
  go_ret
  exact ⟨rfl, G.out⟩
 by_cases h1 : a < 8
 rotate_left
 ·obtain rfl : r = false := by rw [HB.out]; exact decide_eq_false (by omega)
  go_enter Tryz.func120, Tryz.ntmps120
  go_wp2_with fail
  go_ret
  exact ⟨rfl, G.out⟩
 by_cases h2 : (1 : Int) ≤ b
 rotate_left
 ·obtain rfl : r = false := by rw [HB.out]; exact decide_eq_false (by omega)
  go_enter Tryz.func120, Tryz.ntmps120
  go_wp2_with fail
  go_ret
  exact ⟨rfl, G.out⟩
 by_cases h3 : b ≤ 1073741824
 rotate_left
 ·obtain rfl : r = false := by rw [HB.out]; exact decide_eq_false (by omega)
  go_enter Tryz.func120, Tryz.ntmps120
  go_wp2_with fail
  go_ret
  exact ⟨rfl, G.out⟩
 by_cases h4 : (0 : Int) ≤ c
 rotate_left
 ·obtain rfl : r = false := by rw [HB.out]; exact decide_eq_false (by omega)
  go_enter Tryz.func120, Tryz.ntmps120
  go_wp2_with fail
  go_ret
  exact ⟨rfl, G.out⟩
 by_cases h5 : c < 8
 rotate_left
 ·obtain rfl : r = false := by rw [HB.out]; exact decide_eq_false (by omega)
  go_enter Tryz.func120, Tryz.ntmps120
  go_wp2_with fail
  go_ret
  exact ⟨rfl, G.out⟩
 obtain rfl : r = true := by rw [HB.out]; exact decide_eq_true (by omega)
 go_enter Tryz.func120, Tryz.ntmps120
 go_wp2_with fail
 go_ret
 exact ⟨rfl, G.out⟩
theorem ifits_any (x : PItem) (w : World) : Calls Tryz.prog 119 #[itv x] w (GivesB w (decide (x.elem.length ≤ 32) && valueB x)) := by
 have HB : Hid ((decide (x.elem.length ≤ 32) && valueB x) = (decide (x.elem.length ≤ 32) && ((decide (x.kind = 1 ∨ x.kind = 2) && decide (x.n = 0)) || (decide (x.kind = 3) && decide (x.elem.length = 0))))) := zH rfl;have G := zH (zB w (.cells #[.string (bt x.key), .string (bt x.field), .int .i64 x.kind, .string (bt x.elem), .int .i64 x.n, .int .i64 x.dot.node, .int .i64 x.dot.seq, .int .i64 x.dot.pos] 47));have t1 := nil_eq x.elem;have z1 := bt_size x.elem;rw [itv_eq4];generalize (decide (x.elem.length ≤ 32) && valueB x) = r at *;generalize bt x.key = K at *;generalize bt x.field = F at *;generalize bt x.elem = El at *;generalize x.elem.length = m at *;generalize x.kind = kd at *;generalize x.n = nn at *
 by_cases h1 : kd = 1
 ·subst h1
  by_cases hm : m ≤ 32
  ·have hi : (m : Int) ≤ 32 := by omega
   by_cases hn : nn = 0
   ·subst hn
    obtain rfl : r = true := by rw [HB.out]; simp [hm]
    clear hm t1;go_enter Tryz.func119, Tryz.ntmps119
    go_wp2_with fail
    go_ret
    exact ⟨rfl, G.out⟩
   ·have b1 : (nn == 0) = false := by simpa using hn
    obtain rfl : r = false := by rw [HB.out]; simp [hn]
    clear hm t1;go_enter Tryz.func119, Tryz.ntmps119
    go_wp2_with fail
    go_ret
    exact ⟨rfl, G.out⟩
  ·have hi : ¬ (m : Int) ≤ 32 := by omega
   obtain rfl : r = false := by rw [HB.out]; simp [hm]
   clear hm t1;go_enter Tryz.func119, Tryz.ntmps119
   go_wp2_with fail
   go_ret
   exact ⟨rfl, G.out⟩
 by_cases h2 : kd = 2
 ·subst h2
  by_cases hm : m ≤ 32
  ·have hi : (m : Int) ≤ 32 := by omega
   by_cases hn : nn = 0
   ·subst hn
    obtain rfl : r = true := by rw [HB.out]; simp [hm]
    clear hm t1;go_enter Tryz.func119, Tryz.ntmps119
    go_wp2_with fail
    go_ret
    exact ⟨rfl, G.out⟩
   ·have b1 : (nn == 0) = false := by simpa using hn
    obtain rfl : r = false := by rw [HB.out]; simp [hn]
    clear hm t1;go_enter Tryz.func119, Tryz.ntmps119
    go_wp2_with fail
    go_ret
    exact ⟨rfl, G.out⟩
  ·have hi : ¬ (m : Int) ≤ 32 := by omega
   obtain rfl : r = false := by rw [HB.out]; simp [hm]
   clear hm t1;go_enter Tryz.func119, Tryz.ntmps119
   go_wp2_with fail
   go_ret
   exact ⟨rfl, G.out⟩
 by_cases h3 : kd = 3
 ·subst h3
  by_cases hz : m = 0
  ·obtain rfl : r = true := by rw [HB.out]; simp [hz]
   rw [decide_eq_true hz] at t1;clear hz;go_enter Tryz.func119, Tryz.ntmps119
   go_wp2_with fail
   go_ret
   exact ⟨rfl, G.out⟩
  ·obtain rfl : r = false := by rw [HB.out]; simp [hz]
   rw [decide_eq_false hz] at t1;clear hz;go_enter Tryz.func119, Tryz.ntmps119
   go_wp2_with fail
   go_ret
   exact ⟨rfl, G.out⟩
 ·obtain rfl : r = false := by rw [HB.out]; simp [h1, h2, h3]
  clear t1;go_enter Tryz.func119, Tryz.ntmps119
  go_wp2_with fail
  go_ret
  exact ⟨rfl, G.out⟩
theorem iformed_any (x : PItem) (w : World) : Calls Tryz.prog 70 #[itv x] w (GivesB w (formedB x)) := by
 have G := zH (zB w (.cells #[.string (bt x.key), .string (bt x.field), .int .i64 x.kind, .string (bt x.elem), .int .i64 x.n, .int .i64 x.dot.node, .int .i64 x.dot.seq, .int .i64 x.dot.pos] 47));have IB : Hid (ItemAt (w.alloc (.cells #[.string (bt x.key), .string (bt x.field), .int .i64 x.kind, .string (bt x.elem), .int .i64 x.n, .int .i64 x.dot.node, .int .i64 x.dot.seq, .int .i64 x.dot.pos] 47)) w.heap.size 0 x) := zH ⟨by simp, by simp, by simp, by simp, by simp, by simp, by simp, by simp⟩;have KK := zH (fun W => zkey_any x.key W);have KF := zH (fun W => ifield_any x.field W);have KV := zH (fun W => ifits_any x W);have KD := zH (fun W => idot_any x.dot W);rw [← formed_way x];rw [itv_eq4] at KV ⊢;rw [dv_eq4] at KD;generalize (decide (x.elem.length ≤ 32) && valueB x) = r3 at *;generalize keyB x.key = r1 at *;generalize prefixB x.field = r2 at *;generalize dotB x.dot = r4 at *;go_enter Tryz.func70, Tryz.ntmps70
 go_upto_region 1 with fail
 generalize (w.alloc (.cells #[.string (bt x.key), .string (bt x.field), .int .i64 x.kind, .string (bt x.elem), .int .i64 x.n, .int .i64 x.dot.node, .int .i64 x.dot.seq, .int .i64 x.dot.pos] 47)) = wb at *;obtain ⟨c0, c1, c2, c3, c4, c5, c6, c7⟩ := IB.out;simp only [Nat.zero_add] at c1 c2 c3 c4 c5 c6 c7
 go_wp2_with fail
 refine (KK.out _).mono ?_;rintro e w1 ⟨rfl, rfl⟩
 cases r1 with
 | false =>
  rw [Bool.false_and];go_wp2_with fail
  go_ret
  exact ⟨rfl, G.out⟩
 | true =>
  rw [Bool.true_and];go_wp2_with fail
  refine (KF.out _).mono ?_;rintro e w1 ⟨rfl, rfl⟩
  cases r2 with
  | false =>
   rw [Bool.false_and];go_wp2_with fail
   go_ret
   exact ⟨rfl, G.out⟩
  | true =>
   rw [Bool.true_and];go_wp2_with fail
   refine (KV.out _).mono ?_;rintro e w3 ⟨rfl, hb⟩;have G3 : Hid (Below w.heap.size w w3) := zH (G.out.trans (hb.mono G.out.size));have IB3 := zH (IB.out.below hb IB.out.lt);clear hb c0 c1 c2 c3 c4 c5 c6 c7;obtain ⟨c0, c1, c2, c3, c4, c5, c6, c7⟩ := IB3.out;simp only [Nat.zero_add] at c1 c2 c3 c4 c5 c6 c7
   cases r3 with
   | false =>
    rw [Bool.false_and];go_wp2_with fail
    go_ret
    exact ⟨rfl, G3.out⟩
   | true =>
    rw [Bool.true_and];go_wp2_with fail
    refine (KD.out _).mono ?_;rintro e w4 ⟨rfl, hb⟩;have G4 : Hid (Below w.heap.size w w4) := zH (G3.out.trans (hb.mono G3.out.size));clear hb;go_wp2_with fail
    go_ret
    exact ⟨rfl, G4.out⟩
end Go.Proofs.YtfapkepfngddlaaGreat
