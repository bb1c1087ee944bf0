/- The program's own alone: a transaction in memory of its own. (Written by gen-lone.py.) -/
import Derived.Test.YtajfliemmfdnhaaGreatOrCon
import Derived.Test.YtajfliemmfdnhaaGreatOrNxs
import Derived.Test.YtajfliemmfdnhaaGreatRefTxOC
import Derived.Test.YtajfliemmfdnhaaGreatEDos
import Derived.Deep.DeepCutAuto
namespace Go.Proofs.YtajfliemmfdnhaaGreat
open Go.RowKit Plain
set_option linter.unusedVariables false

set_option maxRecDepth 100000 in
set_option maxHeartbeats 1000000 in
theorem eclone_any {P : Nat → Prop} {u : Value} {xs : List PEff} {w : World} (hu : Sq LEff P w u xs) (hP : ∀ b, P b → b < w.heap.size) (hn : xs.length ≤ 1000000) : Calls Tryz.prog 56 #[u] w fun e w' => ∃ v, e = .returned v ∧ OwnJ P LEff w.heap.size w' v xs ∧ Below w.heap.size w w' := by
 obtain ⟨a, cap, rfl, -, -, g0, h⟩ := SeqE.parts (L := LEff) (hu.mono hP)
 have q22 : ∀ (w : World) (a : Option Addr) (n c n' c' : Nat), (binOp .eql 27 (.slice a n c) (.slice none n' c')).run Tryz.prog w = .ok (.bool a.isNone) w := fun w a n c n' c' => Lib.run_eql_slice_nil w _ _ a n c n' c' Tryz.underlying27
 cases a with
 | none =>
  obtain rfl := g0 rfl
  obtain rfl : xs = [] := List.eq_nil_of_length_eq_zero (by have := h.dims; omega)
  clear hu h hP
  go_enter Tryz.func56, Tryz.ntmps56
  go_wp2_with fail
  go_ret
  exact ⟨_, rfl, OwnJ.nil _ _ _, Below.refl _ _⟩
 | some ad =>
  have hB := (Below.refl w.heap.size w).alloc (Nat.le_refl _) (.cells #[] 65)
  have HS : Hid (Sq LEff P (w.alloc (.cells #[] 65)) (.slice (some ad) xs.length cap) xs) := Lib.hid (Sq.agree hu fun b hb => hB.block b (hP b hb))
  have HO : Hid (OwnJ P LEff w.heap.size (w.alloc (.cells #[] LEff.E)) (.slice (some ⟨w.heap.size, 0, none⟩) 0 0) []) := Lib.hid ⟨[], World.ownsRow_made w #[] 0 (Nat.le_refl _) (Nat.zero_le _) (by simp), Rows.nil _ _⟩
  have HB := Lib.hid hB
  have hz : w.heap.size ≤ (w.alloc (.cells #[] 65)).heap.size := by simp
  have HZ := Lib.hid hz
  have HI : Hid (∀ vs x, LEff.R P (w.alloc (.cells #[] 65)) vs x → LEff.R (fun b => P b ∧ b < (w.alloc (.cells #[] 65)).heap.size ∧ Value.ownBlock (.slice (some ⟨w.heap.size, 0, none⟩) 0 0) ≠ some b) (w.alloc (.cells #[] 65)) vs x) := Lib.hid (fun vs x h => LEff.mono h fun b hb => ⟨hb, Nat.lt_of_lt_of_le (hP b hb) hz, fun e => by cases e; exact Nat.lt_irrefl _ (hP _ hb)⟩)
  clear hu h g0 hz hB hP
  go_enter Tryz.func56, Tryz.ntmps56
  go_wp2_with (at_builtin; refine wpList_append_elJ P LEff rfl (.tmp 5) (.tmp 6) rfl w.heap.size rfl HO.out rfl HS.out HI.out (by simp; omega) HZ.out ?_)
  intro v' w2 ho' hgr _
  have O3 := Lib.hid ho'
  have B3 := Lib.hid (HB.out.grown hgr HZ.out (fun j hj => (HO.out.lt j hj).1))
  clear ho' hgr
  go_wp2_with fail
  go_ret
  exact ⟨_, rfl, by simpa using O3.out, B3.out⟩

structure LoneAt (N : Nat) (u : World) (rb c : Nat) (xs : List PEff) (k : Nat) (vals : List Value) : Prop where
 own : u.ownsRow N 65 7 (.slice (some ⟨rb, 0, none⟩) xs.length c) xs.length vals
 len : vals.length = xs.length * 7
 each : ∀ j x, xs[j]? = some x → REff (fun b => (j < k → N ≤ b) ∧ b < u.heap.size ∧ b ≠ rb) u (pt 7 vals j) x
theorem LoneAt.start {N : Nat} {u : World} {rb c : Nat} {xs : List PEff} (h : OwnE LEff N u (.slice (some ⟨rb, 0, none⟩) xs.length c) xs) : ∃ vals, LoneAt N u rb c xs 0 vals := by
 obtain ⟨vals, ho, hr⟩ := h
 exact ⟨vals, ho, hr.1, fun j x hj => monoEf (hr.2 j x hj) fun b hb => ⟨fun h => absurd h (Nat.not_lt_zero _), hb.1, fun e => hb.2 (by rw [e]; rfl)⟩⟩
theorem LoneAt.below {N : Nat} {u u' : World} {rb c : Nat} {xs : List PEff} {k : Nat} {vals : List Value} (h : LoneAt N u rb c xs k vals) (hb : Below u.heap.size u u') : LoneAt N u' rb c xs k vals := by
 refine ⟨⟨h.own.1, ?_⟩, h.len, fun j x hj => monoEf (agreeEf (h.each j x hj) fun b hl => hb.block b hl.2.1) fun b hl => ⟨hl.1, Nat.lt_of_lt_of_le hl.2.1 hb.size, hl.2.2⟩⟩
 rcases h.own.2 with hn | ⟨g, cap, cur, hv, hb', hg, hr'⟩
 ·exact .inl hn
 ·exact .inr ⟨g, cap, cur, hv, hb', (hb.block g (Array.getElem?_eq_some_iff.1 hg).1).trans hg, hr'⟩
theorem LoneAt.lt {N : Nat} {u : World} {rb c : Nat} {xs : List PEff} {k : Nat} {vals : List Value} (h : LoneAt N u rb c xs k vals) : N ≤ rb ∧ rb < u.heap.size := World.ownsRow.lt h.own rb rfl
theorem LoneAt.at {N : Nat} {u : World} {rb c : Nat} {xs : List PEff} {k : Nat} {vals : List Value} (h : LoneAt N u rb c xs k vals) {j : Nat} {x : PEff} (hj : xs[j]? = some x) :
  ∃ dv, EffAt u rb (j * 7) x dv ∧ Sq LDot (fun b => (j < k → N ≤ b) ∧ b < u.heap.size ∧ b ≠ rb) u dv x.drops := by
 obtain ⟨dv, e, hs⟩ := h.each j x hj
 have hlt : j < xs.length := (List.getElem?_eq_some_iff.1 hj).1
 have g : ∀ i v, i < 7 → (cellsEf x dv)[i]? = some v → u.cell? ⟨rb, j * 7 + i, none⟩ = some v := fun i v hi hv => by
  rw [World.ownsRow.cellAt h.own (j * 7 + i) (by omega), ← pt_get vals j i hi, e, hv]
 exact ⟨dv, ⟨g 0 _ (by omega) rfl, g 1 _ (by omega) rfl, g 2 _ (by omega) rfl, g 3 _ (by omega) rfl, g 4 _ (by omega) rfl, g 5 _ (by omega) rfl, g 6 _ (by omega) rfl⟩, hs⟩
theorem pt_set7 (vals : List Value) (k j : Nat) (u : Value) (hk : (k + 1) * 7 ≤ vals.length) : pt 7 (vals.set (k * 7 + 6) u) j = if j = k then (pt 7 vals k).set 6 u else pt 7 vals j := by
 have len : ∀ (l : List Value) (q : Nat), (pt 7 l q).length ≤ 7 := fun l q => by unfold pt; rw [List.length_take]; omega
 have hl : (pt 7 vals k).length = 7 := by unfold pt; rw [List.length_take, List.length_drop]; omega
 apply List.ext_getElem?
 intro i
 by_cases hi : i < 7
 ·rw [pt_get _ _ _ hi, List.getElem?_set]
  by_cases c : j = k
  ·subst c
   rw [if_pos rfl, List.getElem?_set]
   by_cases e : i = 6
   ·subst e
    rw [if_pos rfl, if_pos (by omega), if_pos rfl, if_pos (by omega)]
   ·rw [if_neg (by omega), if_neg (fun x => e x.symm), pt_get _ _ _ hi]
  ·rw [if_neg (by omega), if_neg c, pt_get _ _ _ hi]
 ·rw [List.getElem?_eq_none (by have := len (vals.set (k * 7 + 6) u) j; omega)]
  split
  ·rw [List.getElem?_eq_none (by rw [List.length_set, hl]; omega)]
  ·rw [List.getElem?_eq_none (by have := len vals j; omega)]
theorem LoneAt.set {N : Nat} {u : World} {rb c : Nat} {xs : List PEff} {k : Nat} {vals : List Value} (h : LoneAt N u rb c xs k vals) {x : PEff} (hk : xs[k]? = some x) {dv : Value} (hd : Sq LDot (fun b => N ≤ b ∧ b < u.heap.size ∧ b ≠ rb) u dv x.drops) :
  LoneAt N (u.setCell ⟨rb, k * 7 + 6, none⟩ dv) rb c xs (k + 1) (vals.set (k * 7 + 6) dv) := by
 have hlt : k < xs.length := (List.getElem?_eq_some_iff.1 hk).1
 have hs : (u.setCell ⟨rb, k * 7 + 6, none⟩ dv).heap.size = u.heap.size := by simp [World.setCell]
 have hkl : (k + 1) * 7 ≤ vals.length := by rw [h.len]; exact Nat.mul_le_mul_right 7 hlt
 have hne : ∀ b, b ≠ rb → (u.setCell ⟨rb, k * 7 + 6, none⟩ dv).heap[b]? = u.heap[b]? := fun b e => Below.heap_setCell _ _ _ _ e
 refine ⟨(World.ownsRow.stored h.own (k * 7 + 6) dv).1, by rw [List.length_set]; exact h.len, fun j y hj => ?_⟩
 rw [pt_set7 vals k j dv hkl]
 by_cases e : j = k
 ·subst e
  rw [hk] at hj
  cases hj
  rw [if_pos rfl]
  obtain ⟨dv0, e0, -⟩ := h.each j x hk
  rw [e0]
  exact ⟨dv, rfl, (hd.agree fun b hb => hne b hb.2.2).mono fun b hb => ⟨fun _ => hb.1, by rw [hs]; exact hb.2.1, hb.2.2⟩⟩
 ·rw [if_neg e]
  exact monoEf (agreeEf (h.each j y hj) fun b hb => hne b hb.2.2) fun b hb => ⟨fun hl => hb.1 (by omega), by rw [hs]; exact hb.2.1, hb.2.2⟩
theorem LoneAt.done {N : Nat} {u : World} {rb c : Nat} {xs : List PEff} {vals : List Value} (h : LoneAt N u rb c xs xs.length vals) : Sq LEff (fun b => N ≤ b ∧ b < u.heap.size) u (.slice (some ⟨rb, 0, none⟩) xs.length c) xs := by
 have hlt := h.lt
 have hd := World.ownsRow.cellAt h.own
 rcases h.own.2 with ⟨e, -⟩ | ⟨g, cap, cur, hv, hb', hg, hnc, hcm, hcs, ht⟩
 ·cases e
 ·simp only [Value.slice.injEq, Option.some.injEq, Addr.mk.injEq, and_true, true_and] at hv
  obtain ⟨rfl, rfl⟩ := hv
  refine ⟨_, c, vals, rfl, hnc, hcm, (by simp), ⟨h.len, fun j x hj => monoEf (h.each j x hj) fun b hb => ⟨hb.1 (List.getElem?_eq_some_iff.1 hj).1, hb.2.1⟩⟩, fun hp => ⟨rb, 0, rfl, hlt, fun i v hi => ?_⟩⟩
  have hil : i < xs.length * 7 := by rw [← h.len]; exact (List.getElem?_eq_some_iff.1 hi).1
  rw [Nat.zero_add, hd i hil, hi]
theorem OwnE.parts_none {α : Type} {L : El α} {B : Nat} {w : World} {a : Option Addr} {n c : Nat} {xs : List α} (h : OwnE L B w (.slice a n c) xs) : a = none → c = 0 := by
 obtain ⟨a', c', e, -, -, -, h0⟩ := h.parts
 simp only [Value.slice.injEq] at e
 obtain ⟨rfl, -, rfl⟩ := e
 exact h0
theorem getD_some {xs : List PEff} {k : Nat} (h : k < xs.length) : xs[k]? = some (xs.getD k default) := by simp [List.getD, h]
end Go.Proofs.YtajfliemmfdnhaaGreat
