/- A ROW OF PACKETS OF THE CALL'S OWN WHOSE BYTES ARE PUT INTO BLOCKS OF THEIR OWN, ONE BY ONE. -/
import Derived.Test.YtgllaoanpemjlaaNtCat
namespace Go.Proofs.Ytgllaoanpemjlaa
open Go.RowKit Plain
set_option linter.unusedVariables false

structure LonePk (N : Nat) (u : World) (rb c : Nat) (xs : List PPkt) (k : Nat) (vals : List Value) : Prop where
  own : u.ownsRow N 27 3 (.slice (some ⟨rb, 0, none⟩) xs.length c) xs.length vals
  len : vals.length = xs.length * 3
  each : ∀ j x, xs[j]? = some x → RPkt (fun b => (j < k → N ≤ b) ∧ b < u.heap.size ∧ b ≠ rb) u (pt 3 vals j) x
theorem LonePk.start {N : Nat} {u : World} {rb c : Nat} {xs : List PPkt} (h : OwnE LPkt N u (.slice (some ⟨rb, 0, none⟩) xs.length c) xs) : ∃ vals, LonePk N u rb c xs 0 vals := by
  obtain ⟨vals, ho, hr⟩ := h
  exact ⟨vals, ho, hr.1, fun j x hj => monoPk (hr.2 j x hj) fun b hb => ⟨fun h => absurd h (Nat.not_lt_zero _), hb.1, fun e => hb.2 (by rw [e]; rfl)⟩⟩
theorem LonePk.below {N : Nat} {u u' : World} {rb c : Nat} {xs : List PPkt} {k : Nat} {vals : List Value} (h : LonePk N u rb c xs k vals) (hb : Below u.heap.size u u') : LonePk N u' rb c xs k vals := by
  refine ⟨⟨h.own.1, ?_⟩, h.len, fun j x hj => monoPk (agreePk (h.each j x hj) fun b hl => hb.block b hl.2.1) fun b hl => ⟨hl.1, Nat.lt_of_lt_of_le hl.2.1 hb.size, hl.2.2⟩⟩
  rcases h.own.2 with hn | ⟨g, cap, cur, hv, hb', hg, hr'⟩
  · exact .inl hn
  · exact .inr ⟨g, cap, cur, hv, hb', (hb.block g (Array.getElem?_eq_some_iff.1 hg).1).trans hg, hr'⟩
theorem LonePk.lt {N : Nat} {u : World} {rb c : Nat} {xs : List PPkt} {k : Nat} {vals : List Value} (h : LonePk N u rb c xs k vals) : N ≤ rb ∧ rb < u.heap.size := World.ownsRow.lt h.own rb rfl
theorem LonePk.at {N : Nat} {u : World} {rb c : Nat} {xs : List PPkt} {k : Nat} {vals : List Value} (h : LonePk N u rb c xs k vals) {j : Nat} {x : PPkt} (hj : xs[j]? = some x) :
    ∃ dv, PktAt u rb (j * 3) x dv ∧ Sq LByte (fun b => (j < k → N ≤ b) ∧ b < u.heap.size ∧ b ≠ rb) u dv x.bytes := by
  obtain ⟨dv, e, hs⟩ := h.each j x hj
  have hlt : j < xs.length := (List.getElem?_eq_some_iff.1 hj).1
  have g : ∀ i v, i < 3 → (cellsPk x dv)[i]? = some v → u.cell? ⟨rb, j * 3 + i, none⟩ = some v := fun i v hi hv => by
    rw [World.ownsRow.cellAt h.own (j * 3 + i) (by omega), ← pt_get vals j i hi, e, hv]
  exact ⟨dv, ⟨g 0 _ (by omega) rfl, g 1 _ (by omega) rfl, g 2 _ (by omega) rfl⟩, hs⟩
theorem pt_set3 (vals : List Value) (k j : Nat) (u : Value) (hk : (k + 1) * 3 ≤ vals.length) : pt 3 (vals.set (k * 3 + 2) u) j = if j = k then (pt 3 vals k).set 2 u else pt 3 vals j := by
  have len : ∀ (l : List Value) (q : Nat), (pt 3 l q).length ≤ 3 := fun l q => by unfold pt; rw [List.length_take]; omega
  have hl : (pt 3 vals k).length = 3 := by unfold pt; rw [List.length_take, List.length_drop]; omega
  apply List.ext_getElem?
  intro i
  by_cases hi : i < 3
  · rw [pt_get _ _ _ hi, List.getElem?_set]
    by_cases c : j = k
    · subst c
      rw [if_pos rfl, List.getElem?_set]
      by_cases e : i = 2
      · subst e
        rw [if_pos rfl, if_pos (by omega), if_pos rfl, if_pos (by omega)]
      · rw [if_neg (by omega), if_neg (fun x => e x.symm), pt_get _ _ _ hi]
    · rw [if_neg (by omega), if_neg c, pt_get _ _ _ hi]
  · rw [List.getElem?_eq_none (by have := len (vals.set (k * 3 + 2) u) j; omega)]
    split
    · rw [List.getElem?_eq_none (by rw [List.length_set, hl]; omega)]
    · rw [List.getElem?_eq_none (by have := len vals j; omega)]
theorem LonePk.set {N : Nat} {u : World} {rb c : Nat} {xs : List PPkt} {k : Nat} {vals : List Value} (h : LonePk N u rb c xs k vals) {x : PPkt} (hk : xs[k]? = some x) {dv : Value} (hd : Sq LByte (fun b => N ≤ b ∧ b < u.heap.size ∧ b ≠ rb) u dv x.bytes) :
    LonePk N (u.setCell ⟨rb, k * 3 + 2, none⟩ dv) rb c xs (k + 1) (vals.set (k * 3 + 2) dv) := by
  have hlt : k < xs.length := (List.getElem?_eq_some_iff.1 hk).1
  have hs : (u.setCell ⟨rb, k * 3 + 2, none⟩ dv).heap.size = u.heap.size := by simp [World.setCell]
  have hkl : (k + 1) * 3 ≤ vals.length := by rw [h.len]; exact Nat.mul_le_mul_right 3 hlt
  have hne : ∀ b, b ≠ rb → (u.setCell ⟨rb, k * 3 + 2, none⟩ dv).heap[b]? = u.heap[b]? := fun b e => Below.heap_setCell _ _ _ _ e
  refine ⟨(World.ownsRow.stored h.own (k * 3 + 2) dv).1, by rw [List.length_set]; exact h.len, fun j y hj => ?_⟩
  rw [pt_set3 vals k j dv hkl]
  by_cases e : j = k
  · subst e
    rw [hk] at hj
    cases hj
    rw [if_pos rfl]
    obtain ⟨dv0, e0, -⟩ := h.each j x hk
    rw [e0]
    exact ⟨dv, rfl, (hd.agree fun b hb => hne b hb.2.2).mono fun b hb => ⟨fun _ => hb.1, by rw [hs]; exact hb.2.1, hb.2.2⟩⟩
  · rw [if_neg e]
    exact monoPk (agreePk (h.each j y hj) fun b hb => hne b hb.2.2) fun b hb => ⟨fun hl => hb.1 (by omega), by rw [hs]; exact hb.2.1, hb.2.2⟩
theorem LonePk.done {N : Nat} {u : World} {rb c : Nat} {xs : List PPkt} {vals : List Value} (h : LonePk N u rb c xs xs.length vals) : OwnJ (fun b => N ≤ b) LPkt N u (.slice (some ⟨rb, 0, none⟩) xs.length c) xs :=
  ⟨vals, h.own, h.len, fun j x hj => monoPk (h.each j x hj) fun b hb => ⟨hb.1 (List.getElem?_eq_some_iff.1 hj).1, hb.2.1, fun e => hb.2.2 (by cases e; rfl)⟩⟩
/-- the row, whether there is a block or not -/
def LoneP (N : Nat) (u : World) (a : Option Addr) (n c : Nat) (xs : List PPkt) (j : Nat) : Prop := xs.length = n ∧ (n ≤ c ∧ c ≤ 9223372036854775807 ∧ (a = none → c = 0)) ∧ (0 < n → ∃ rb vals, a = some ⟨rb, 0, none⟩ ∧ LonePk N u rb c xs j vals) ∧ (n = 0 → OwnJ (fun b => N ≤ b) LPkt N u (.slice a 0 c) [])
theorem OwnJ.empty_below {J : Nat → Prop} {B : Nat} {w w' : World} {v : Value} (h : OwnJ J LPkt B w v []) (hb : Below w.heap.size w w') : OwnJ J LPkt B w' v [] := h.below hb (Nat.le_refl _)
theorem LoneP.start {N : Nat} {u : World} {a : Option Addr} {n c : Nat} {xs : List PPkt} (h : OwnE LPkt N u (.slice a n c) xs) : LoneP N u a n c xs 0 := by
  obtain ⟨hn, h1, h2⟩ := h.seq.dims
  subst hn
  have h0 : a = none → c = 0 := by
    obtain ⟨a', c', e, -, -, -, h0⟩ := h.parts
    simp only [Value.slice.injEq] at e
    obtain ⟨rfl, -, rfl⟩ := e
    exact h0
  refine ⟨rfl, ⟨h1, h2, h0⟩, fun hp => ?_, fun hz => ?_⟩
  · obtain ⟨rb, rfl⟩ : ∃ rb, a = some ⟨rb, 0, none⟩ := by
      obtain ⟨vals, ho, -⟩ := h
      rcases ho.2 with ⟨-, h0⟩ | ⟨g, cap', cur, hv, -⟩
      · omega
      · simp only [Value.slice.injEq] at hv; exact ⟨g, hv.1⟩
    obtain ⟨vals, hv⟩ := LonePk.start h
    exact ⟨rb, vals, rfl, hv⟩
  · obtain rfl : xs = [] := List.eq_nil_of_length_eq_zero hz
    obtain ⟨vals, ho, hr⟩ := h
    exact ⟨vals, ho, hr.1, fun j x hj => by simp at hj⟩
theorem LoneP.done {N : Nat} {u : World} {a : Option Addr} {n c : Nat} {xs : List PPkt} (h : LoneP N u a n c xs n) : OwnJ (fun b => N ≤ b) LPkt N u (.slice a n c) xs := by
  obtain ⟨hn, ⟨h1, h2, h3⟩, h4, h5⟩ := h
  subst hn
  by_cases hp : 0 < xs.length
  · obtain ⟨rb, vals, rfl, k⟩ := h4 hp
    exact k.done
  · have hx : xs = [] := List.eq_nil_of_length_eq_zero (by omega)
    subst hx
    exact h5 rfl
theorem getD_pk {xs : List PPkt} {k : Nat} (h : k < xs.length) : xs[k]? = some (xs.getD k default) := by simp [List.getD, h]
end Go.Proofs.Ytgllaoanpemjlaa
