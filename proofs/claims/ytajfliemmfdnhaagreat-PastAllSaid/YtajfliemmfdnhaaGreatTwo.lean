/- WORDS FOR VARIABLES OF TWO CELLS, BOTH SLICES: what stands where such a one is stored into. (Taken out of store/XStore.) -/
import Derived.Test.YtajfliemmfdnhaaGreatTxn
import Derived.Test.YtajfliemmfdnhaaGreatTxUses
import Derived.Test.YtajfliemmfdnhaaGreatOrNxs
import Derived.Test.YtajfliemmfdnhaaGreatRefTxOC
namespace Go.Proofs.YtajfliemmfdnhaaGreat
open Go.RowKit Plain
set_option linter.unusedVariables false

theorem st2_cells {w : World} {g : Nat} {x y : Value} {t : TypeId} (h : w.heap[g]? = some (.cells #[x, y] t (0, 0))) : (w.cell? ⟨g, 0, none⟩ = some x ∧ w.cell? ⟨g, 1, none⟩ = some y) ∧ w.frozen? ⟨g, 0, none⟩ = false ∧ w.frozen? ⟨g, 1, none⟩ = false := by
 have c0 := cell_of_row _ _ 0 _ _ _ h
 have c1 := cell_of_row _ _ 1 _ _ _ h
 simp only [List.getElem?_toArray, List.getElem?_cons_zero, List.getElem?_cons_succ] at c0 c1
 exact ⟨⟨c0, c1⟩, free_of h 0, free_of h 1⟩
theorem st2_heap {w : World} {g : Nat} {a b : Value} {t : TypeId} (h : w.heap[g]? = some (.cells #[a, b] t (0, 0))) (x y : Value) : ((w.setCell ⟨g, 0, none⟩ x).setCell ⟨g, 1, none⟩ y).heap[g]? = some (.cells #[x, y] t (0, 0)) :=
 heap_setCell_same _ g 1 _ _ y (heap_setCell_same _ g 0 _ _ x h)
def Two (w : World) (R : Nat) : Prop := ∃ a n c a' n' c' t, w.heap[R]? = some (.cells #[.slice a n c, .slice a' n' c'] t (0, 0))
theorem Two.cell {w : World} {R i : Nat} {u : Value} (h : Two w R) (hc : w.cell? ⟨R, i, none⟩ = some u) : i < 2 ∧ ∃ a n c, u = .slice a n c := by
 obtain ⟨a, n, c, a', n', c', t, hb⟩ := h
 have h1 := cell_of_row _ _ i _ _ _ hb
 rw [hc] at h1
 match i, h1 with
 | 0, h1 => exact ⟨by omega, a, n, c, by simpa using h1⟩
 | 1, h1 => exact ⟨by omega, a', n', c', by simpa using h1⟩
 | i + 2, h1 => simp at h1
theorem Two.but {w w' : World} {R g : Nat} (h : Two w R) (hb : But g w w') (hne : R ≠ g) : Two w' R := by
 obtain ⟨a, n, c, a', n', c', t, h1⟩ := h
 exact ⟨a, n, c, a', n', c', t, (hb.block R (Array.getElem?_eq_some_iff.1 h1).1 hne).trans h1⟩
theorem Sq.no2 {α : Type} {L : El α} (hk : 3 ≤ L.k) {P : Nat → Prop} {w : World} {R : Nat} {v : Value} {xs : List α} (h2 : Two w R) (hR : ∀ vs x, L.R P w vs x → L.R (fun b => P b ∧ b ≠ R) w vs x) (h : Sq L P w v xs) : Sq L (fun b => P b ∧ b ≠ R) w v xs := by
 obtain ⟨a, cap, vals, e, h1, h3, h0, hr, h4⟩ := h
 refine ⟨a, cap, vals, e, h1, h3, h0, ⟨hr.1, fun j x hj => hR _ _ (hr.2 j x hj)⟩, fun hp => ?_⟩
 obtain ⟨b, off, ea, hb, hc⟩ := h4 hp
 refine ⟨b, off, ea, ⟨hb, fun e => ?_⟩, hc⟩
 subst e
 have hl : 2 < vals.length := by
  have := Nat.mul_le_mul hp hk
  rw [hr.1]
  omega
 have := h2.cell (hc 2 _ (List.getElem?_eq_getElem hl))
 omega
theorem int_no2 {P : Nat → Prop} {w : World} {R : Nat} {v : Value} {xs : List Int} (h2 : Two w R) (h : Sq LInt P w v xs) : Sq LInt (fun b => P b ∧ b ≠ R) w v xs := by
 obtain ⟨a, cap, vals, e, h1, h3, h0, hr, h4⟩ := h
 refine ⟨a, cap, vals, e, h1, h3, h0, ⟨hr.1, fun j x hj => flat_int (hr.2 j x hj)⟩, fun hp => ?_⟩
 obtain ⟨b, off, ea, hb, hc⟩ := h4 hp
 refine ⟨b, off, ea, ⟨hb, fun e => ?_⟩, hc⟩
 subst e
 have hx := hr.2 0 _ (List.getElem?_eq_getElem hp)
 have h5 : pt 1 vals 0 = [.int .i64 xs[0]] := hx
 have h6 := pt_get (k := 1) vals 0 0 (by omega)
 rw [h5] at h6
 obtain ⟨-, a', n', c', h7⟩ := h2.cell (hc 0 (.int .i64 xs[0]) (by simpa using h6.symm))
 cases h7
theorem dot_no2 {P : Nat → Prop} {w : World} {R : Nat} {v : Value} {xs : List PDot} (h2 : Two w R) (h : Sq LDot P w v xs) : Sq LDot (fun b => P b ∧ b ≠ R) w v xs := h.no2 (show 3 ≤ 3 by omega) h2 fun _ _ h => h
theorem eff_no2 {P : Nat → Prop} {w : World} {R : Nat} {v : Value} {xs : List PEff} (h2 : Two w R) (h : Sq LEff P w v xs) : Sq LEff (fun b => P b ∧ b ≠ R) w v xs := h.no2 (show 3 ≤ 7 by omega) h2 fun _ _ ⟨dv, e, hd⟩ => ⟨dv, e, dot_no2 h2 hd⟩
theorem txn_no2 {P : Nat → Prop} {w : World} {R : Nat} {v : Value} {xs : List PTxn} (h2 : Two w R) (h : Sq LTxn P w v xs) : Sq LTxn (fun b => P b ∧ b ≠ R) w v xs := h.no2 (show 3 ≤ 4 by omega) h2 fun _ _ ⟨dv, ev, e, hd, he⟩ => ⟨dv, ev, e, int_no2 h2 hd, eff_no2 h2 he⟩
theorem Sq.but {α : Type} {L : El α} {w w' : World} {R : Nat} {v : Value} {xs : List α} (hb : But R w w') (h : Sq L (fun b => b < w.heap.size ∧ b ≠ R) w v xs) : SeqE L w' v xs :=
 (h.agree fun b hq => hb.block b hq.1 hq.2).mono fun b hq => Nat.lt_of_lt_of_le hq.1 hb.size
theorem Sq.nil {α : Type} {L : El α} (P : Nat → Prop) (w : World) : Sq L P w (.slice none 0 0) [] := ⟨none, 0, [], rfl, Nat.zero_le _, Nat.zero_le _, fun _ => rfl, Rows.nil _ _, fun h => absurd h (by simp)⟩
theorem Sq.later {α : Type} {L : El α} {N : Nat} {w w' : World} {v : Value} {xs : List α} (h : Sq L (fun b => N ≤ b ∧ b < w.heap.size) w v xs) (hb : Below w.heap.size w w') : Sq L (fun b => N ≤ b ∧ b < w'.heap.size) w' v xs :=
 (h.agree fun b hq => hb.block b hq.2).mono fun b hq => ⟨hq.1, Nat.lt_of_lt_of_le hq.2 hb.size⟩
theorem Sq.set2 {α : Type} {L : El α} {N R : Nat} {w w' : World} {v : Value} {xs : List α} (hb : But R w w') (h : Sq L (fun b => (N ≤ b ∧ b < w.heap.size) ∧ b ≠ R) w v xs) : Sq L (fun b => N ≤ b ∧ b < w'.heap.size) w' v xs :=
 (h.agree fun b hq => hb.block b hq.1.2 hq.2).mono fun b hq => ⟨hq.1.1, Nat.lt_of_lt_of_le hq.1.2 hb.size⟩
theorem OwnsI.newI {N B : Nat} {w : World} {v : Value} {xs : List Int} (h : OwnsI B w v xs) (hN : N ≤ B) : Sq LInt (fun b => N ≤ b ∧ b < w.heap.size) w v xs := ((ownE_of h).new flat_int).mono fun b hb => ⟨Nat.le_trans hN hb.1, hb.2⟩
theorem seq_int_but {w w' : World} {R : Nat} {v : Value} {xs : List Int} (h2 : Two w R) (hb : But R w w') (h : SeqE LInt w v xs) : SeqE LInt w' v xs := (int_no2 h2 h).but hb
theorem seq_txn_but {w w' : World} {R : Nat} {v : Value} {xs : List PTxn} (h2 : Two w R) (hb : But R w w') (h : SeqE LTxn w v xs) : SeqE LTxn w' v xs := (txn_no2 h2 h).but hb
theorem seq_eff_but {w w' : World} {R : Nat} {v : Value} {xs : List PEff} (h2 : Two w R) (hb : But R w w') (h : SeqE LEff w v xs) : SeqE LEff w' v xs := (eff_no2 h2 h).but hb
theorem st2_but (w : World) (R : Nat) (x y : Value) : But R w ((w.setCell ⟨R, 0, none⟩ x).setCell ⟨R, 1, none⟩ y) := (But.set R w 0 x).trans (But.set R _ 1 y)
theorem TxBox.but {g R : Nat} {t : PTxn} {da ea : Option Addr} {dn dc en ec : Nat} {u u' : World} (k : TxBox g t da dn dc ea en ec u) (h2 : Two u R) (hb : But R u u') (hne : g ≠ R) : TxBox g t da dn dc ea en ec u' := by
 have c : ∀ {i : Nat} {v : Value}, u.cell? ⟨g, i, none⟩ = some v → u'.cell? ⟨g, i, none⟩ = some v := fun {i v} h => (World.cell?_of_block (a := ⟨g, i, none⟩) (hb.block g (World.block_lt_of_cell? u _ h) hne)).trans h
 obtain ⟨h0, h1, h3, h4⟩ := k.c
 exact ⟨⟨c h0, c h1, c h3, c h4⟩, seq_int_but h2 hb k.d, seq_eff_but h2 hb k.e⟩
end Go.Proofs.YtajfliemmfdnhaaGreat
