/- How the model compares dots and items. What the document's own Is, Without, Under, Of, Keys, Size, Same of items leave. What the document's own Less of items leaves. What the document's own Put and Norm of items leave. (Written by gen-put.py.) -/
import Derived.Test.YtfapkepfngddlaaGreatItem
import Derived.Laws.StructEq
import Derived.Test.YtfapkepfngddlaaGreatISets
import Derived.Test.YtfapkepfngddlaaGreatZIs
import Derived.Deep.QuietTactic
import Derived.Deep.Cut
import Derived.Lib.AppendZeros
import Derived.WalkSpells
import Derived.Shelf.Abstract
namespace Go.Proofs.YtfapkepfngddlaaGreat
open Go.RowKit Plain
set_option linter.unusedVariables false

theorem fields_dot : Tryz.prog.underlying 45 = some (.struct (Tryz.prog.fieldsOf 45)) := by kernel_rfl
theorem held_dot : Tryz.prog.stoodInHeld 45 = false := by kernel_rfl
theorem fields_item : Tryz.prog.underlying 47 = some (.struct (Tryz.prog.fieldsOf 47)) := by kernel_rfl
theorem held_item : Tryz.prog.stoodInHeld 47 = false := by kernel_rfl
theorem dot_dec (d e : PDot) : decide (d = e) = (decide (d.node = e.node) && (decide (d.seq = e.seq) && decide (d.pos = e.pos))) := by
 rw [Bool.eq_iff_iff, Bool.and_eq_true, Bool.and_eq_true, decide_eq_true_iff, decide_eq_true_iff, decide_eq_true_iff, decide_eq_true_iff]
 exact ⟨fun h => by subst h; exact ⟨rfl, rfl, rfl⟩, fun ⟨h1, h2, h3⟩ => pdot_ext h1 h2 h3⟩
theorem item_dec (x y : PItem) : decide (x = y) = (decide (x.key = y.key) && (decide (x.field = y.field) && (decide (x.kind = y.kind) && (decide (x.elem = y.elem) && (decide (x.n = y.n) && decide (x.dot = y.dot)))))) := by
 rw [Bool.eq_iff_iff]
 simp only [Bool.and_eq_true, decide_eq_true_iff]
 exact ⟨fun h => by subst h; exact ⟨rfl, rfl, rfl, rfl, rfl, rfl⟩, fun ⟨h1, h2, h3, h4, h5, h6⟩ => pitem_ext h1 h2 h3 h4 h5 h6⟩

set_option maxRecDepth 100000 in
theorem eq_dot (k : Nat) (d e : PDot) (w : World) : (Op.equalIn (k + 2) 45 (.agg #[.int .i64 d.node, .int .i64 d.seq, .int .i64 d.pos]) (.agg #[.int .i64 e.node, .int .i64 e.seq, .int .i64 e.pos])).run Tryz.prog w = .ok (decide (d = e)) w := by
 rw [run_equalIn_agg w (k + 1) _ _ _ fields_dot held_dot, dot_dec]
 simp [Program.fieldsOf, Tryz.underlying45, Tryz.underlying3, Tryz.isAgg3, Tryz.sizeOf3, Op.eqFields, go_sem]
 by_cases h1 : d.node = e.node
 ·by_cases h2 : d.seq = e.seq
  ·by_cases h3 : d.pos = e.pos <;> simp [h1, h2, h3]
  ·simp [h1, h2]
 ·simp [h1]
theorem txt_dec (s t : Txt) : ((bt s).toList == (bt t).toList) = decide (s = t) := text_eq s t
set_option maxRecDepth 100000 in
set_option maxHeartbeats 1000000 in
theorem eq_item (k : Nat) (x y : PItem) (w : World) : (Op.equalIn (k + 3) 47 (.agg #[.string (bt x.key), .string (bt x.field), .int .i64 x.kind, .string (bt x.elem), .int .i64 x.n, .int .i64 x.dot.node, .int .i64 x.dot.seq, .int .i64 x.dot.pos])
  (.agg #[.string (bt y.key), .string (bt y.field), .int .i64 y.kind, .string (bt y.elem), .int .i64 y.n, .int .i64 y.dot.node, .int .i64 y.dot.seq, .int .i64 y.dot.pos])).run Tryz.prog w = .ok (decide (x = y)) w := by
 rw [run_equalIn_agg w (k + 2) _ _ _ fields_item held_item, item_dec]
 have e1 := txt_dec x.key y.key
 have e2 := txt_dec x.field y.field
 have e3 := txt_dec x.elem y.elem
 have e4 := eq_dot k x.dot y.dot w
 generalize bt x.key = K1 at *
 generalize bt y.key = K2 at *
 generalize bt x.field = F1 at *
 generalize bt y.field = F2 at *
 generalize bt x.elem = E1 at *
 generalize bt y.elem = E2 at *
 by_cases h1 : x.key = y.key
 ·by_cases h2 : x.field = y.field
  ·by_cases h3 : x.kind = y.kind
   ·by_cases h4 : x.elem = y.elem
    ·by_cases h5 : x.n = y.n
     ·generalize decide (x.dot = y.dot) = b at *
      cases b
      ·simp [Program.fieldsOf, Tryz.underlying47, Tryz.underlying3, Tryz.underlying2, Tryz.underlying9, Tryz.isAgg3, Tryz.isAgg2, Tryz.isAgg9, Tryz.isAgg45, Tryz.sizeOf45, Op.eqFields, run_equalIn_int, run_equalIn_string, part, e1, e2, e3, e4, h1, h2, h3, h4, h5]
      ·simp [Program.fieldsOf, Tryz.underlying47, Tryz.underlying3, Tryz.underlying2, Tryz.underlying9, Tryz.isAgg3, Tryz.isAgg2, Tryz.isAgg9, Tryz.isAgg45, Tryz.sizeOf45, Op.eqFields, run_equalIn_int, run_equalIn_string, part, e1, e2, e3, e4, h1, h2, h3, h4, h5]
     ·simp [Program.fieldsOf, Tryz.underlying47, Tryz.underlying3, Tryz.underlying2, Tryz.underlying9, Tryz.isAgg3, Tryz.isAgg2, Tryz.isAgg9, Op.eqFields, run_equalIn_int, run_equalIn_string, part, e1, e2, e3, h1, h2, h3, h4, h5]
    ·simp [Program.fieldsOf, Tryz.underlying47, Tryz.underlying3, Tryz.underlying2, Tryz.underlying9, Tryz.isAgg3, Tryz.isAgg2, Tryz.isAgg9, Op.eqFields, run_equalIn_int, run_equalIn_string, part, e1, e2, e3, h1, h2, h3, h4]
   ·simp [Program.fieldsOf, Tryz.underlying47, Tryz.underlying3, Tryz.underlying2, Tryz.underlying9, Tryz.isAgg3, Tryz.isAgg2, Tryz.isAgg9, Op.eqFields, run_equalIn_int, run_equalIn_string, part, e1, e2, h1, h2, h3]
  ·simp [Program.fieldsOf, Tryz.underlying47, Tryz.underlying3, Tryz.underlying2, Tryz.underlying9, Tryz.isAgg3, Tryz.isAgg2, Tryz.isAgg9, Op.eqFields, run_equalIn_int, run_equalIn_string, part, e1, e2, h1, h2]
 ·simp [Program.fieldsOf, Tryz.underlying47, Tryz.underlying3, Tryz.underlying2, Tryz.underlying9, Tryz.isAgg3, Tryz.isAgg2, Tryz.isAgg9, Op.eqFields, run_equalIn_int, run_equalIn_string, part, e1, h1]
theorem neq_item (x y : PItem) (w : World) : (binOp .neq 47 (.agg #[.string (bt x.key), .string (bt x.field), .int .i64 x.kind, .string (bt x.elem), .int .i64 x.n, .int .i64 x.dot.node, .int .i64 x.dot.seq, .int .i64 x.dot.pos])
  (.agg #[.string (bt y.key), .string (bt y.field), .int .i64 y.kind, .string (bt y.elem), .int .i64 y.n, .int .i64 y.dot.node, .int .i64 y.dot.seq, .int .i64 y.dot.pos])).run Tryz.prog w = .ok (.bool (!decide (x = y))) w := by
 rw [run_neq_struct, eq_item 9997]
 rfl
end Go.Proofs.YtfapkepfngddlaaGreat
namespace Go.Proofs.YtfapkepfngddlaaGreat
open Go.RowKit Plain
set_option linter.unusedVariables false

set_option maxRecDepth 100000 in
set_option maxHeartbeats 4000000 in
theorem rsameI_any {u v : Value} {xs ys : List PItem} {w : World} (hu : SeqE LItem w u xs) (hv : SeqE LItem w v ys) :
  Calls Tryz.prog 36 #[u, v] w fun e w' => e = .returned (.bool (decide (xs = ys))) ∧ ∃ n, w' = w.drewN n := by
 obtain ⟨a, cap, rfl, g1, g2, g0, h⟩ := hu.parts
 obtain ⟨a', cap', rfl, e1, e2, e0, h'⟩ := hv.parts
 by_cases hl : xs.length = ys.length
 ·obtain ⟨n, hN⟩ : ∃ n, xs.length = n := ⟨_, rfl⟩
  have hM : ys.length = n := by omega
  have hT : (∀ j, j < n → xs.getD j default = ys.getD j default) → decide (xs = ys) = true := fun hall => decide_eq_true (by
   apply List.ext_getElem hl
   intro j h1 h2
   have := hall j (by omega)
   simpa [List.getD, List.getElem?_eq_getElem h1, List.getElem?_eq_getElem h2] using this)
  have hF : ∀ j, ¬ xs.getD j default = ys.getD j default → decide (xs = ys) = false := fun j hne => decide_eq_false (by
   intro e; subst e; exact hne rfl)
  have HT := Lib.hid hT
  have HF := Lib.hid hF
  generalize decide (xs = ys) = r at *
  rw [hN] at h g1 ⊢
  rw [hM] at h' e1 ⊢
  have HS := Lib.hid h
  have HS' := Lib.hid h'
  have LN := Lib.hid hN
  have LM := Lib.hid hM
  clear hu hv h h' g0 e0 hl hT hF hN hM
  go_enter Tryz.func36, Tryz.ntmps36
  go_wp2_with fail
  go_loopw [5] (fun i wr => ∃ k : Nat, k ≤ n ∧ i = .int .i64 k ∧ (∀ j, j < k → xs.getD j default = ys.getD j default) ∧ ∃ q, wr = w.drewN q) (fun i _ => n - (intOf i).toNat)
  case atStart => exact ⟨0, Nat.zero_le _, rfl, (fun j hj => absurd hj (by omega)), 0, rfl⟩
  case round =>
   obtain ⟨k, hk, rfl, hall, q, rfl⟩ := hrel
   have HALL := Lib.hid hall
   clear hall
   by_cases hlt : k < n
   ·obtain ⟨b, o, c, hv, -, -, -, hc⟩ := items_spot HS.out (by rw [LN.out]; omega)
    rw [LN.out] at hv
    simp only [Value.slice.injEq] at hv
    obtain ⟨rfl, -, rfl⟩ := hv
    obtain ⟨b', o', c', hv', -, -, -, hc'⟩ := items_spot HS'.out (by rw [LM.out]; omega)
    rw [LM.out] at hv'
    simp only [Value.slice.injEq] at hv'
    obtain ⟨rfl, -, rfl⟩ := hv'
    obtain ⟨c0, c1, c2, c3, c4, c5, c6, c7⟩ := hc k (by rw [LN.out]; exact hlt)
    obtain ⟨d0, d1, d2, d3, d4, d5, d6, d7⟩ := hc' k (by rw [LM.out]; exact hlt)
    have HFK := Lib.hid (HF.out k)
    have HNX : Hid (xs.getD k default = ys.getD k default → ∀ j, j < k + 1 → xs.getD j default = ys.getD j default) := Lib.hid (fun he j hj => by
     by_cases e : j = k
     ·rw [e]; exact he
     ·exact HALL.out j (by omega))
    clear hc hc'
    generalize xs.getD k default = x at *
    generalize ys.getD k default = y at *
    have hq := neq_item x y
    by_cases he : x = y
    ·have HX := Lib.hid (HNX.out he)
     rw [decide_eq_true he] at hq
     clear he HNX HFK
     go_wp2_with fail
     go_quiet (fail)
     go_wp2_with fail
     go_roundw
     case rel => exact ⟨k + 1, by omega, by go_num, HX.out, _, rfl⟩
     case measure => simp [intOf]; omega
    ·obtain rfl : r = false := HFK.out he
     rw [decide_eq_false he] at hq
     clear he HNX HFK
     go_wp2_with fail
     go_quiet (fail)
     go_wp2_with fail
     go_ret
     exact ⟨rfl, _, World.drewN_drewN _ _ _⟩
   ·obtain rfl : k = n := by omega
    obtain rfl : r = true := HT.out HALL.out
    go_wp2_with fail
    go_ret
    exact ⟨rfl, _, rfl⟩
 ·have hne : ((xs.length : Int) == (ys.length : Int)) = false := by simp; omega
  rw [decide_eq_false (by intro e; subst e; exact hl rfl)]
  clear hu hv h h' g0 e0 g1 g2 e1 e2
  generalize xs.length = n at *
  generalize ys.length = m at *
  go_enter Tryz.func36, Tryz.ntmps36
  go_wp2_with fail
  go_ret
  exact ⟨rfl, 0, rfl⟩
theorem rsameIR {u v : Value} {xs ys : List PItem} {w : World} {r : Bool} (hu : SeqE LItem w u xs) (hv : SeqE LItem w v ys) (e : decide (xs = ys) = r) :
  Calls Tryz.prog 36 #[u, v] w fun e w' => e = .returned (.bool r) ∧ Below w.heap.size w w' := by
 rw [← e]
 exact (rsameI_any hu hv).mono fun _ _ ⟨h, n, hw⟩ => ⟨h, by rw [hw]; exact below_drewN (Below.refl _ _) n⟩

end Go.Proofs.YtfapkepfngddlaaGreat
namespace Go.Proofs.YtfapkepfngddlaaGreat
open Go.RowKit Plain
set_option linter.unusedVariables false

def tailP (a b : PItem) : Prop := a.kind < b.kind ∨ (a.kind = b.kind ∧ (a.dot.node < b.dot.node ∨ (a.dot.node = b.dot.node ∧ (a.dot.seq < b.dot.seq ∨ (a.dot.seq = b.dot.seq ∧ (a.dot.pos < b.dot.pos ∨ (a.dot.pos = b.dot.pos ∧ (a.elem < b.elem ∨ (a.elem = b.elem ∧ a.n < b.n)))))))))
instance (a b : PItem) : Decidable (tailP a b) := by unfold tailP; infer_instance
end Go.Proofs.YtfapkepfngddlaaGreat
namespace Go.Proofs.YtfapkepfngddlaaGreat
open Go.RowKit Plain
set_option linter.unusedVariables false

end Go.Proofs.YtfapkepfngddlaaGreat
namespace Go.Proofs.YtfapkepfngddlaaGreat
open Go.RowKit Plain
set_option linter.unusedVariables false

set_option maxRecDepth 100000 in
set_option maxHeartbeats 4000000 in
theorem stequal_any {u v : Value} {xs ys : List PItem} {w : World} (hu : SeqE LItem w u xs) (hv : SeqE LItem w v ys) :
  Calls Tryz.prog 72 #[u, v] w fun e w' => e = .returned (.bool (decide (xs = ys))) ∧ ∃ n, w' = w.drewN n := by
 obtain ⟨a, cap, rfl, g1, g2, g0, h⟩ := hu.parts
 obtain ⟨a', cap', rfl, e1, e2, e0, h'⟩ := hv.parts
 by_cases hl : xs.length = ys.length
 ·obtain ⟨n, hN⟩ : ∃ n, xs.length = n := ⟨_, rfl⟩
  have hM : ys.length = n := by omega
  have hT : (∀ j, j < n → xs.getD j default = ys.getD j default) → decide (xs = ys) = true := fun hall => decide_eq_true (by
   apply List.ext_getElem hl
   intro j h1 h2
   have := hall j (by omega)
   simpa [List.getD, List.getElem?_eq_getElem h1, List.getElem?_eq_getElem h2] using this)
  have hF : ∀ j, ¬ xs.getD j default = ys.getD j default → decide (xs = ys) = false := fun j hne => decide_eq_false (by
   intro e; subst e; exact hne rfl)
  have HT := Lib.hid hT
  have HF := Lib.hid hF
  generalize decide (xs = ys) = r at *
  rw [hN] at h g1 ⊢
  rw [hM] at h' e1 ⊢
  have HS := Lib.hid h
  have HS' := Lib.hid h'
  have LN := Lib.hid hN
  have LM := Lib.hid hM
  clear hu hv h h' g0 e0 hl hT hF hN hM
  go_enter Tryz.func72, Tryz.ntmps72
  go_wp2_with fail
  go_loopw [13] (fun i wr => ∃ k : Nat, k ≤ n ∧ i = .int .i64 k ∧ (∀ j, j < k → xs.getD j default = ys.getD j default) ∧ ∃ q, wr = w.drewN q) (fun i _ => n - (intOf i).toNat)
  case atStart => exact ⟨0, Nat.zero_le _, rfl, (fun j hj => absurd hj (by omega)), 0, rfl⟩
  case round =>
   obtain ⟨k, hk, rfl, hall, q, rfl⟩ := hrel
   have HALL := Lib.hid hall
   clear hall
   by_cases hlt : k < n
   ·obtain ⟨b, o, c, hv, -, -, -, hc⟩ := items_spot HS.out (by rw [LN.out]; omega)
    rw [LN.out] at hv
    simp only [Value.slice.injEq] at hv
    obtain ⟨rfl, -, rfl⟩ := hv
    obtain ⟨b', o', c', hv', -, -, -, hc'⟩ := items_spot HS'.out (by rw [LM.out]; omega)
    rw [LM.out] at hv'
    simp only [Value.slice.injEq] at hv'
    obtain ⟨rfl, -, rfl⟩ := hv'
    obtain ⟨c0, c1, c2, c3, c4, c5, c6, c7⟩ := hc k (by rw [LN.out]; exact hlt)
    obtain ⟨d0, d1, d2, d3, d4, d5, d6, d7⟩ := hc' k (by rw [LM.out]; exact hlt)
    have HFK := Lib.hid (HF.out k)
    have HNX : Hid (xs.getD k default = ys.getD k default → ∀ j, j < k + 1 → xs.getD j default = ys.getD j default) := Lib.hid (fun he j hj => by
     by_cases e : j = k
     ·rw [e]; exact he
     ·exact HALL.out j (by omega))
    clear hc hc'
    generalize xs.getD k default = x at *
    generalize ys.getD k default = y at *
    have hq := neq_item x y
    by_cases he : x = y
    ·have HX := Lib.hid (HNX.out he)
     rw [decide_eq_true he] at hq
     clear he HNX HFK
     go_wp2_with fail
     go_quiet (fail)
     go_wp2_with fail
     go_roundw
     case rel => exact ⟨k + 1, by omega, by go_num, HX.out, _, rfl⟩
     case measure => simp [intOf]; omega
    ·obtain rfl : r = false := HFK.out he
     rw [decide_eq_false he] at hq
     clear he HNX HFK
     go_wp2_with fail
     go_quiet (fail)
     go_wp2_with fail
     go_ret
     exact ⟨rfl, _, World.drewN_drewN _ _ _⟩
   ·obtain rfl : k = n := by omega
    obtain rfl : r = true := HT.out HALL.out
    go_wp2_with fail
    go_ret
    exact ⟨rfl, _, rfl⟩
 ·have hne : ((xs.length : Int) != (ys.length : Int)) = true := bne_iff_ne.2 (by omega)
  rw [decide_eq_false (by intro e; subst e; exact hl rfl)]
  clear hu hv h h' g0 e0 g1 g2 e1 e2
  generalize xs.length = n at *
  generalize ys.length = m at *
  go_enter Tryz.func72, Tryz.ntmps72
  go_wp2_with fail
  go_ret
  exact ⟨rfl, 0, rfl⟩
set_option maxRecDepth 100000 in
set_option maxHeartbeats 2000000 in
theorem stindex_any {v : Value} {ds : List PItem} {w : World} (hv : SeqE LItem w v ds) (hn : ds.length ≤ 1000000) (p : PItem → Bool) (g : Nat) (lb : Array Value)
  (eg : ∀ args w, (callFunc g args).run Tryz.prog w = .ok (.enter g args) w)
  (hp : ∀ W d, Below w.heap.size w W → Calls Tryz.prog g (#[itv d] ++ lb) W (GivesB W (p d))) :
  Calls Tryz.prog 121 #[v, .func (.func g) #[] lb] w fun e w' => ∃ r : Int, e = .returned (.int .i64 r) ∧ decide (0 ≤ r) = ds.any p ∧ Below w.heap.size w w' := by
 obtain ⟨a, cap, rfl, g1, g2, g0, h⟩ := hv.parts
 have HS := Lib.hid h
 have HP := Lib.hid hp
 have HY : Hid (∀ k, k < ds.length → p (ds.getD k default) = true → ds.any p = true) := Lib.hid (fun k hk h => by
  rw [List.any_eq_true]
  exact ⟨_, by rw [show ds.getD k default = ds[k] by simp [List.getD, List.getElem?_eq_getElem hk]]; exact List.getElem_mem hk, h⟩)
 have HN : Hid ((∀ j, j < ds.length → p (ds.getD j default) = false) → ds.any p = false) := Lib.hid (fun h => by
  rw [List.any_eq_false]
  intro d hd
  obtain ⟨j, hj, rfl⟩ := List.getElem_of_mem hd
  have := h j hj
  rw [show ds.getD j default = ds[j] by simp [List.getD, List.getElem?_eq_getElem hj]] at this
  rw [this]
  decide)
 clear hp hv h g0
 obtain ⟨n, hN⟩ : ∃ n, ds.length = n := ⟨_, rfl⟩
 rw [hN] at hn g1 HS HY HN ⊢
 have LN := Lib.hid hN
 clear hN
 generalize ds.any p = r at *
 go_enter Tryz.func121, Tryz.ntmps121
 go_wp2_with fail
 go_loopw [8] (fun i wr => ∃ k : Nat, k ≤ n ∧ i = .int .i64 k ∧ (∀ j, j < k → p (ds.getD j default) = false) ∧ Below w.heap.size w wr) (fun i _ => n - (intOf i).toNat)
 case atStart => exact ⟨0, Nat.zero_le _, rfl, fun j hj => absurd hj (by omega), Below.refl _ _⟩
 case round =>
  obtain ⟨k, hk, rfl, hall, hb⟩ := hrel
  have HA := Lib.hid hall
  have HB := Lib.hid hb
  clear hall hb
  by_cases hlt : k < n
  ·obtain ⟨b, o, c, hv, -, -, -, hc⟩ := items_spot (HS.out.below HB.out) (by rw [LN.out]; omega)
   rw [LN.out] at hv
   simp only [Value.slice.injEq] at hv
   obtain ⟨rfl, -, rfl⟩ := hv
   obtain ⟨c0, c1, c2, c3, c4, c5, c6, c7⟩ := hc k (by rw [LN.out]; exact hlt)
   have HYK := Lib.hid (HY.out k hlt)
   have HAK : Hid (p (ds.getD k default) = false → ∀ j, j < k + 1 → p (ds.getD j default) = false) := Lib.hid (fun h j hj => by
    by_cases e : j = k
    ·rw [e]; exact h
    ·exact HA.out j (by omega))
   have K := HP.out wr (ds.getD k default) HB.out
   clear hc
   rw [itv_eq3] at K
   generalize ds.getD k default = d at *
   cases hpd : p d with
   | true =>
    rw [hpd] at K
    obtain rfl : r = true := HYK.out hpd
    clear hpd
    go_wp2_with (go_at_fn g; refine K.mono ?_; rintro e w1 ⟨rfl, hb⟩)
    have G := Lib.hid (HB.out.trans (hb.mono HB.out.size))
    clear hb c0 c1 c2 c3 c4 c5 c6 c7 K
    go_wp2_with fail
    go_ret
    exact ⟨k, rfl, by simp, G.out⟩
   | false =>
    rw [hpd] at K
    have HX := Lib.hid (HAK.out hpd)
    clear hpd
    go_wp2_with (go_at_fn g; refine K.mono ?_; rintro e w1 ⟨rfl, hb⟩)
    have G := Lib.hid (HB.out.trans (hb.mono HB.out.size))
    clear hb c0 c1 c2 c3 c4 c5 c6 c7 K
    go_wp2_with fail
    go_roundw
    case rel => exact ⟨k + 1, by omega, by go_num, HX.out, G.out⟩
    case measure => simp [intOf]; omega
  ·obtain rfl : k = n := by omega
   obtain rfl : r = false := HN.out HA.out
   go_wp2_with fail
   go_ret
   exact ⟨-1, rfl, by decide, HB.out⟩

set_option maxRecDepth 100000 in
set_option maxHeartbeats 1000000 in
theorem stcontains_any {v : Value} {ds : List PItem} {w : World} (hv : SeqE LItem w v ds) (hn : ds.length ≤ 1000000) (p : PItem → Bool) (g : Nat) (lb : Array Value)
  (eg : ∀ args w, (callFunc g args).run Tryz.prog w = .ok (.enter g args) w)
  (hp : ∀ W d, Below w.heap.size w W → Calls Tryz.prog g (#[itv d] ++ lb) W (GivesB W (p d))) :
  Calls Tryz.prog 71 #[v, .func (.func g) #[] lb] w (GivesB w (ds.any p)) := by
 have K := stindex_any hv hn p g lb eg hp
 obtain ⟨a, cap, rfl, -⟩ := hv.parts
 generalize ds.any p = r at *
 generalize ds.length = n at *
 clear hv hp
 go_enter Tryz.func71, Tryz.ntmps71
 go_wp2_with fail
 refine K.mono ?_
 rintro e w1 ⟨q, rfl, hq, hb⟩
 have G := Lib.hid hb
 clear hb K
 subst hq
 go_wp2_with fail
 go_ret
 exact ⟨rfl, G.out⟩

end Go.Proofs.YtfapkepfngddlaaGreat
