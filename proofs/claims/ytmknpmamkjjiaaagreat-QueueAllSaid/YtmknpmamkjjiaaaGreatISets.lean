/- WORDS FOR SETS OF DOTS: a map keyed by dots, what it holds, a look-up, a store. What the document's own Short, Size, Copy of items leave. What the program's own those (of items), slices.Clone of items, and cmp.Or leave. -/
import Derived.Test.YtmknpmamkjjiaaaGreatItem
import Derived.Test.YtmknpmamkjjiaaaGreatElGs
import Derived.Maps.OwnSet
import Derived.DeepKeys5
import Derived.Deep.LoopGhost
import Derived.BigQuiet
import Derived.Test.YtmknpmamkjjiaaaGreatMaths
import Derived.Shelf.Abstract
import Derived.Deep.Cut
import Derived.Lib.SliceRun
namespace Go.Proofs.YtmknpmamkjjiaaaGreat
open Go.RowKit Plain Go.Maps
set_option linter.unusedVariables false
set_option maxRecDepth 100000

/-- what a dot reads as, as a key -/
def kd (d : PDot) : Lit := (DataW.agg [.lit (.int .i64 d.node), .lit (.int .i64 d.seq), .lit (.int .i64 d.pos)] : DataW Unit).asKey
/-- block b is a set of dots: those of ds -/
def SetAt (w : World) (b : Nat) (ds : List PDot) : Prop := ∃ (D : DataW Unit) (n : Nat), n ≤ ds.length ∧ w.ownsMap Tryz.prog 54 unitElem b n D ∧ ∀ d, dotOk d → Maps.has D (kd d) = hasDot ds d
theorem SetAt.lt {w : World} {b : Nat} {ds : List PDot} (h : SetAt w b ds) : b < w.heap.size := by
 obtain ⟨D, n, -, ho, -⟩ := h
 exact ho.lt
end Go.Proofs.YtmknpmamkjjiaaaGreat
namespace Go.Proofs.YtmknpmamkjjiaaaGreat
open Go.RowKit Plain
set_option linter.unusedVariables false

def shortB1 (x : PItem) : Bool := decide (x.key.length ≤ 300) && (decide (x.field.length ≤ 300) && decide (x.elem.length ≤ 300))
theorem short1_iff {x : PItem} : shortB1 x = true ↔ x.key.length ≤ 300 ∧ x.field.length ≤ 300 ∧ x.elem.length ≤ 300 := by
 unfold shortB1
 rw [Bool.and_eq_true, Bool.and_eq_true, decide_eq_true_iff, decide_eq_true_iff, decide_eq_true_iff]
theorem mem_def {α : Type} [Inhabited α] {xs : List α} {j : Nat} (hj : j < xs.length) : xs.getD j default ∈ xs := List.mem_of_getElem? (getD_at hj)
end Go.Proofs.YtmknpmamkjjiaaaGreat
namespace Go.Proofs.YtmknpmamkjjiaaaGreat
open Go.RowKit Plain
set_option linter.unusedVariables false

theorem itv_eq3 (x : PItem) : itv x = .agg #[.string (bt x.key), .string (bt x.field), .int .i64 x.kind, .string (bt x.elem), .int .i64 x.n, .int .i64 x.dot.node, .int .i64 x.dot.seq, .int .i64 x.dot.pos] := rfl

set_option maxRecDepth 100000 in
set_option maxHeartbeats 4000000 in
/-- those: a function value tells, element by element, which ones stay; it may write a block of the caller's (row); I: what holds ahead of its k-th call -/
theorem ithose_any {u : Value} {xs : List PItem} {w : World} {row : Option Nat} (hu : Old LItem row w.heap.size w u xs) (hn : xs.length ≤ 1000000) (f : Nat → Bool) (I : Nat → World → Prop) (g : Nat) (lb : Array Value)
  (eg : ∀ args w, (callFunc g args).run Tryz.prog w = .ok (.enter g args) w) (hrow : ∀ j, row = some j → j < w.heap.size)
  (hI : ∀ k W W', I k W → Below w.heap.size W W' → I k W')
  (hp : ∀ k W, k < xs.length → I k W → w.grownBy W row → Calls Tryz.prog g (#[itv (xs.getD k default)] ++ lb) W fun e W' => e = .returned (.bool (f k)) ∧ I (k + 1) W' ∧ W.grownBy W' row)
  (h0 : I 0 w) :
  Calls Tryz.prog 76 #[u, .func (.func g) #[] lb] w fun e w' => ∃ v, e = .returned v ∧ OwnE LItem w.heap.size w' v (pickK f xs xs.length) ∧ w.grownBy w' row ∧ I xs.length w' := by
 have hu' := hu
 obtain ⟨a, cap, -, rfl, -⟩ := hu'
 have HS := Lib.hid hu
 have HI := Lib.hid hI
 have HP := Lib.hid hp
 have HR := Lib.hid hrow
 have H0 := Lib.hid h0
 obtain ⟨n, hN⟩ : ∃ n, xs.length = n := ⟨_, rfl⟩
 rw [hN] at hn ⊢
 have LN := Lib.hid hN
 clear hu hI hp hrow h0 hN
 go_enter Tryz.func76, Tryz.ntmps76
 go_wp2_with fail
 go_loopw [5, 10] (fun o i wr => ∃ k : Nat, k ≤ n ∧ i = .int .i64 k ∧ OwnE LItem w.heap.size wr o (pickK f xs k) ∧ w.grownBy wr row ∧ I k wr) (fun _ i _ => n - (intOf i).toNat)
 case atStart => exact ⟨0, Nat.zero_le _, rfl, OwnE.nil _ _, World.grownBy.refl _ _, H0.out⟩
 case round =>
  obtain ⟨k, hk, rfl, ho, hb, hi⟩ := hrel
  have HO := Lib.hid ho
  have HB := Lib.hid hb
  have HK := Lib.hid hi
  have PL := pickK_len f xs k
  clear ho hb hi
  by_cases hlt : k < n
  ·have hkx := Lib.hid (show k < xs.length by rw [LN.out]; exact hlt)
   obtain ⟨b, o, c, hv, -, -, -, hc⟩ := items_spot ((HS.out.kept HB.out).seq HB.out.size) (by rw [LN.out]; omega)
   rw [LN.out] at hv
   simp only [Value.slice.injEq] at hv
   obtain ⟨rfl, -, rfl⟩ := hv
   obtain ⟨c0, c1, c2, c3, c4, c5, c6, c7⟩ := hc k hkx.out
   have PK := Lib.hid (fun W => HP.out k W hkx.out)
   have S1 := Lib.hid (fun (W : World) => one_item W (xs.getD k default))
   have PY := Lib.hid (fun h => pickK_yes (f := f) (xs := xs) (k := k) h)
   have PN := Lib.hid (fun h => pickK_no (f := f) (xs := xs) (k := k) h)
   clear hc
   generalize xs.getD k default = x at *
   have B1 := Lib.hid ((Below.refl w.heap.size wr).alloc HB.out.size (.cells #[.string (bt x.key), .string (bt x.field), .int .i64 x.kind, .string (bt x.elem), .int .i64 x.n, .int .i64 x.dot.node, .int .i64 x.dot.seq, .int .i64 x.dot.pos] 79))
   have BG := Lib.hid (grown_below HB.out B1.out)
   have K := PK.out _ (HI.out _ _ _ HK.out B1.out) BG.out
   have O1 := Lib.hid (HO.out.alloc (.cells #[.string (bt x.key), .string (bt x.field), .int .i64 x.kind, .string (bt x.elem), .int .i64 x.n, .int .i64 x.dot.node, .int .i64 x.dot.seq, .int .i64 x.dot.pos] 79))
   have IB : Hid (ItemAt (wr.alloc (.cells #[.string (bt x.key), .string (bt x.field), .int .i64 x.kind, .string (bt x.elem), .int .i64 x.n, .int .i64 x.dot.node, .int .i64 x.dot.seq, .int .i64 x.dot.pos] 79)) wr.heap.size 0 x) := Lib.hid ⟨by simp, by simp, by simp, by simp, by simp, by simp, by simp, by simp⟩
   have hsz : w.heap.size ≤ wr.heap.size := HB.out.size
   have HZ := Lib.hid hsz
   clear hsz PK
   rw [itv_eq3] at K
   go_upto_region 5 with fail
   clear c0 c1 c2 c3 c4 c5 c6 c7
   generalize (wr.alloc (.cells #[.string (bt x.key), .string (bt x.field), .int .i64 x.kind, .string (bt x.elem), .int .i64 x.n, .int .i64 x.dot.node, .int .i64 x.dot.seq, .int .i64 x.dot.pos] 79)) = wb at *
   obtain ⟨c0, c1, c2, c3, c4, c5, c6, c7⟩ := IB.out
   simp only [Nat.zero_add] at c1 c2 c3 c4 c5 c6 c7
   cases hf : f k with
   | true =>
    rw [hf] at K
    have HY := Lib.hid (PY.out hf)
    clear hf PY PN
    have HC8 : Hid (∀ W, wb.grownBy W row → ItemAt W wr.heap.size 0 x) := Lib.hid (fun W hg => ⟨hg.cell IB.out.c0 (fun e => by have := HR.out _ e.symm; have := HZ.out; simp at *; omega), hg.cell IB.out.c1 (fun e => by have := HR.out _ e.symm; have := HZ.out; simp at *; omega), hg.cell IB.out.c2 (fun e => by have := HR.out _ e.symm; have := HZ.out; simp at *; omega), hg.cell IB.out.c3 (fun e => by have := HR.out _ e.symm; have := HZ.out; simp at *; omega), hg.cell IB.out.c4 (fun e => by have := HR.out _ e.symm; have := HZ.out; simp at *; omega), hg.cell IB.out.c5 (fun e => by have := HR.out _ e.symm; have := HZ.out; simp at *; omega), hg.cell IB.out.c6 (fun e => by have := HR.out _ e.symm; have := HZ.out; simp at *; omega), hg.cell IB.out.c7 (fun e => by have := HR.out _ e.symm; have := HZ.out; simp at *; omega)⟩)
    have HG2 : Hid (∀ W, wb.grownBy W row → w.grownBy W row) := Lib.hid (fun W hg => grown_trans BG.out hg (fun j hj => .inl hj))
    have HO2 : Hid (∀ W, wb.grownBy W row → OwnE LItem w.heap.size W u5 (pickK f xs k)) := Lib.hid (fun W hg => O1.out.kept flat_item hg HR.out)
    go_wp2_with (first
     | (go_at_fn g; refine K.mono ?_; rintro e w1 ⟨rfl, hi, hg⟩; have I1 := Lib.hid hi; have G1 := Lib.hid hg; obtain ⟨c0, c1, c2, c3, c4, c5, c6, c7⟩ := HC8.out _ hg; simp only [Nat.zero_add] at c1 c2 c3 c4 c5 c6 c7; have G2 := Lib.hid (HG2.out _ hg); have O2 := Lib.hid (HO2.out _ hg); clear hi hg)
     | (at_builtin; refine wpList_append_el LItem rfl (.tmp 17) (.tmp 19) rfl w.heap.size rfl (O2.out.alloc _) rfl (S1.out _) (fun _ _ h => h) (by simp; omega) (by have := G2.out.size; simp; omega) ?_))
    intro v' w2 ho' hgr _
    have O3 := Lib.hid ho'
    rw [← HY.out] at O3
    have BL := Lib.hid (((Below.refl w.heap.size w1).alloc G2.out.size _).grown hgr (by have := G2.out.size; simp; omega) (fun j hj => (O2.out.lt j hj).1))
    have I3 := Lib.hid (HI.out _ _ _ I1.out BL.out)
    have G3 := Lib.hid (grown_below G2.out BL.out)
    clear ho' hgr
    go_wp2_with fail
    go_roundw
    case rel => exact ⟨k + 1, by omega, by go_num, O3.out, G3.out, I3.out⟩
    case measure => simp [intOf]; omega
   | false =>
    rw [hf] at K
    have HY := Lib.hid (PN.out hf)
    clear hf PY PN
    go_wp2_with (go_at_fn g; refine K.mono ?_; rintro e w1 ⟨rfl, hi, hg⟩)
    have I1 := Lib.hid hi
    have O2 := Lib.hid (O1.out.kept flat_item hg HR.out)
    rw [← HY.out] at O2
    have G2 := Lib.hid (grown_trans BG.out hg (fun j hj => .inl hj))
    clear hi hg K c0 c1 c2 c3 c4 c5 c6 c7
    go_wp2_with fail
    go_roundw
    case rel => exact ⟨k + 1, by omega, by go_num, O2.out, G2.out, I1.out⟩
    case measure => simp [intOf]; omega
  ·obtain rfl : k = n := by omega
   go_wp2_with fail
   go_ret
   exact ⟨_, rfl, HO.out, HB.out, HK.out⟩

set_option maxRecDepth 100000 in
set_option maxHeartbeats 2000000 in
/-- cmp.Or of integers -/
theorem ior_any (xs : List Int) (n g : Nat) (w : World) (hn : xs.length = n) (hp : n ≤ 1000) (hc : ∀ j, j < n → w.cell? ⟨g, j, none⟩ = some (.int .i64 (xs.getD j 0))) :
  Calls Tryz.prog 81 #[.slice (some ⟨g, 0, none⟩) n n] w fun e w' => e = .returned (.int .i64 (firstNZ xs)) ∧ w' = w := by
 have hit : ∀ (l : List Int) (k : Nat), k < l.length → (∀ j, j < k → l.getD j 0 = 0) → l.getD k 0 ≠ 0 → firstNZ l = l.getD k 0 := by
  intro l
  induction l with
  | nil => intro k h; simp at h
  | cons c l ih =>
   intro k hk ha hh
   cases k with
   | zero => simp only [List.getD_cons_zero] at hh ⊢; rw [firstNZ, if_neg hh]
   | succ k =>
    have h0 := ha 0 (by omega)
    simp only [List.getD_cons_zero] at h0
    simp only [List.getD_cons_succ] at hh ⊢
    rw [firstNZ, if_pos h0]
    exact ih k (by simpa using hk) (fun j hj => by have := ha (j + 1) (by omega); simpa using this) hh
 have none : ∀ l : List Int, (∀ j, j < l.length → l.getD j 0 = 0) → firstNZ l = 0 := by
  intro l
  induction l with
  | nil => intro _; rfl
  | cons c l ih =>
   intro ha
   have h0 := ha 0 (by simp)
   simp only [List.getD_cons_zero] at h0
   rw [firstNZ, if_pos h0]
   exact ih fun j hj => by have := ha (j + 1) (by simpa using hj); simpa using this
 have HH := Lib.hid (hit xs)
 have HN := Lib.hid (none xs)
 have HC := Lib.hid hc
 rw [hn] at HH HN
 clear hit none hc hn
 generalize firstNZ xs = r at *
 obtain ⟨f, hf⟩ : ∃ f : Nat → Int, (fun j => xs.getD j 0) = f := ⟨_, rfl⟩
 have HF := Lib.hid (fun j => congrFun hf j)
 clear hf
 go_enter Tryz.func81, Tryz.ntmps81
 go_wp2_with fail
 go_loop [8] (fun i => ∃ k : Nat, k ≤ n ∧ i = .int .i64 k ∧ ∀ j, j < k → xs.getD j 0 = 0) (fun i => n - (intOf i).toNat)
 case atStart => exact ⟨0, Nat.zero_le _, rfl, fun j hj => absurd hj (by omega)⟩
 case round =>
  obtain ⟨k, hk, rfl, hall⟩ := hrel
  have HA := Lib.hid hall
  clear hall
  by_cases hlt : k < n
  ·have c0 := HC.out k hlt
   have hnx := Lib.hid (HH.out k hlt HA.out)
   have hz : Hid (xs.getD k 0 = 0 → ∀ j, j < k + 1 → xs.getD j 0 = 0) := Lib.hid (fun e j hj => by
    by_cases e2 : j = k
    ·rw [e2]; exact e
    ·exact HA.out j (by omega))
   generalize xs.getD k 0 = c at *
   by_cases hc0 : c = 0
   ·have HX := Lib.hid (hz.out hc0)
    subst hc0
    go_wp2_with fail
    go_round
    case rel => exact ⟨k + 1, by omega, by go_num, HX.out⟩
    case measure => simp [intOf]; omega
   ·obtain rfl : r = c := hnx.out hc0
    go_wp2_with fail
    go_ret
    exact ⟨rfl, rfl⟩
  ·obtain rfl : k = n := by omega
   obtain rfl : r = 0 := HN.out HA.out
   go_wp2_with fail
   go_ret
   exact ⟨rfl, rfl⟩
end Go.Proofs.YtmknpmamkjjiaaaGreat
