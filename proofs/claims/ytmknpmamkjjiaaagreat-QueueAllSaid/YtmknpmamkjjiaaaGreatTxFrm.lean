/- What the program's own Formed of transactions leaves. -/
import Derived.Test.YtmknpmamkjjiaaaGreatTxFrmA
import Derived.Test.YtmknpmamkjjiaaaGreatTxFrmB
namespace Go.Proofs.YtmknpmamkjjiaaaGreat
open Go.RowKit Plain
set_option linter.unusedVariables false
/-- transactions of the sizes that are looked at, their numbers of the model's range -/
structure FitTx (t : PTxn) : Prop where
 deps : t.deps.length ≤ 1000
 effs : t.effs.length ≤ 1000
 drops : ∀ e ∈ t.effs, e.drops.length ≤ 1000
 ok : txnOk t
theorem IsTxn.slices {w : World} {v : Value} {t : PTxn} (h : IsTxn w v t) : ∃ da dn dc ea en ec, v = .agg #[.int .i64 t.node, .int .i64 t.seq, .slice da dn dc, .slice ea en ec] ∧ SeqE LInt w (.slice da dn dc) t.deps ∧ SeqE LEff w (.slice ea en ec) t.effs := by
 obtain ⟨dv, ev, rfl, h1, h2⟩ := h
 obtain ⟨a1, c1, rfl, -, -, -, k1⟩ := h1.parts
 obtain ⟨a2, c2, rfl, -, -, -, k2⟩ := h2.parts
 exact ⟨_, _, _, _, _, _, rfl, k1, k2⟩
theorem tf_range {t : PTxn} (h : inRange t.node t.seq = false) : tformedB t = false := by unfold tformedB; rw [h]; rfl
set_option maxRecDepth 100000 in
/-- Formed -/
theorem txformedP {v : Value} {t : PTxn} {w : World} (h : IsTxn w v t) (ht : FitTx t) (r : Bool) (hr : tformedB t = r) : Calls Tryz.prog 19 #[v] w (GivesB w r) := by
 obtain ⟨l1, l2, l3, -⟩ := ht
 obtain ⟨da, dn, dc, ea, en, ec, rfl, k1, k2⟩ := h.slices
 have hen := k2.dims
 have g1 : en ≤ 9223372036854775807 := by omega
 have hz := @Below.trans w.heap.size w (w.alloc (.cells #[.int .i64 t.node, .int .i64 t.seq, .slice da dn dc, .slice ea en ec] 29))
 have hba := (Below.refl w.heap.size w).alloc (Nat.le_refl _) (.cells #[.int .i64 t.node, .int .i64 t.seq, .slice da dn dc, .slice ea en ec] 29)
 have hto : ∀ W, Below (w.alloc (.cells #[.int .i64 t.node, .int .i64 t.seq, .slice da dn dc, .slice ea en ec] 29)).heap.size (w.alloc (.cells #[.int .i64 t.node, .int .i64 t.seq, .slice da dn dc, .slice ea en ec] 29)) W → Below w.heap.size w W := fun W hb => hba.trans (hb.mono hba.size)
 have KD := fun W hb => areDeps_any (seqI_of (k1.below (hto W hb))) (by omega)
 have KA := fun W hb => (vc_at_any (seqI_of (k1.below (hto W hb))) t.node).mono (R' := fun e w' => e = .returned (.int .i64 (saysI t.deps t.node)) ∧ Below W.heap.size W w') fun e w' ⟨he, hw⟩ => ⟨he, hw ▸ Below.refl _ _⟩
 have KR := fun W hb => eright_any t.node t.seq (k2.below (hto W hb)) (by omega) (fun e he => by have := l3 e he; omega)
 have KH := fun W hb => eheard_any t.node t.seq (k2.below (hto W hb)) (seqI_of (k1.below (hto W hb))) (fun e he => by have := l3 e he; omega)
 have ed := depsB_is t
 subst hr
 by_cases h1 : 0 ≤ t.node
 rotate_left
 ·rw [tf_range (decide_eq_false (by omega))]; exact tformed_way1 h1 g1
 by_cases h2 : t.node < 8
 rotate_left
 ·rw [tf_range (decide_eq_false (by omega))]; exact tformed_way2 h1 h2 g1
 by_cases h3 : 1 ≤ t.seq
 rotate_left
 ·rw [tf_range (decide_eq_false (by omega))]; exact tformed_way3 h1 h2 h3 g1
 by_cases h4 : t.seq ≤ 1073741824
 rotate_left
 ·rw [tf_range (decide_eq_false (by omega))]; exact tformed_way4 h1 h2 h3 h4 g1
 have hI : inRange t.node t.seq = true := decide_eq_true (by omega)
 have h6 : IntKind.i64.wrap (t.seq - 1) = t.seq - 1 := by simp [IntKind.wrap, IntKind.bits, IntKind.signed]; omega
 cases h5 : areB t.deps with
 | false =>
  have e : tformedB t = false := by unfold tformedB; rw [ed, h5, hI]; rfl
  rw [e]
  exact tformed_way5 h1 h2 h3 h4 (fun W hb => h5 ▸ KD W hb) g1
 | true =>
  have KD' : ∀ W, Below (w.alloc (.cells #[.int .i64 t.node, .int .i64 t.seq, .slice da dn dc, .slice ea en ec] 29)).heap.size (w.alloc (.cells #[.int .i64 t.node, .int .i64 t.seq, .slice da dn dc, .slice ea en ec] 29)) W → Calls Tryz.prog 28 #[.slice da dn dc] W (GivesB W true) := fun W hb => h5 ▸ KD W hb
  by_cases h6b : saysI t.deps t.node = t.seq - 1
  rotate_left
  ·have e : tformedB t = false := by unfold tformedB; rw [ed, h5, hI, decide_eq_false h6b]; rfl
   rw [e]
   exact tformed_way6 h1 h2 h3 h4 KD' (saysI t.deps t.node) (t.seq - 1) h6 (by simp [h6b]) KA g1
  have q6 : (saysI t.deps t.node == t.seq - 1) = true := by simp [h6b]
  by_cases h7 : (en : Int) ≤ 8
  rotate_left
  ·have e : tformedB t = false := by unfold tformedB; rw [ed, h5, hI, decide_eq_true h6b, decide_eq_false (show ¬ t.effs.length ≤ 8 by omega)]; rfl
   rw [e]
   exact tformed_way7 h1 h2 h3 h4 h7 KD' (saysI t.deps t.node) (t.seq - 1) h6 q6 KA g1
  have q7 : decide (t.effs.length ≤ 8) = true := decide_eq_true (by omega)
  cases h8 : rightB t.node t.seq t.effs with
  | false =>
   have e : tformedB t = false := by unfold tformedB; rw [ed, h5, hI, decide_eq_true h6b, q7, h8]; rfl
   rw [e]
   exact tformed_way8 h1 h2 h3 h4 h7 KD' (saysI t.deps t.node) (t.seq - 1) h6 q6 KA (fun W hb => h8 ▸ KR W hb) g1
  | true =>
   have KR' : ∀ W, Below (w.alloc (.cells #[.int .i64 t.node, .int .i64 t.seq, .slice da dn dc, .slice ea en ec] 29)).heap.size (w.alloc (.cells #[.int .i64 t.node, .int .i64 t.seq, .slice da dn dc, .slice ea en ec] 29)) W → Calls Tryz.prog 30 #[.int .i64 t.node, .int .i64 t.seq, .slice ea en ec] W (GivesB W true) := fun W hb => h8 ▸ KR W hb
   cases h9 : heardB t.effs t.node t.seq t.deps with
   | false =>
    have e : tformedB t = false := by unfold tformedB; rw [ed, h5, hI, decide_eq_true h6b, q7, h8, h9]; rfl
    rw [e]
    exact tformed_way9 h1 h2 h3 h4 h7 KD' (saysI t.deps t.node) (t.seq - 1) h6 q6 KA KR' (fun W hb => h9 ▸ KH W hb) g1
   | true =>
    have e : tformedB t = true := by unfold tformedB; rw [ed, h5, hI, decide_eq_true h6b, q7, h8, h9]; rfl
    rw [e]
    exact tformed_way10 h1 h2 h3 h4 h7 KD' (saysI t.deps t.node) (t.seq - 1) h6 q6 KA KR' (fun W hb => h9 ▸ KH W hb) g1
end Go.Proofs.YtmknpmamkjjiaaaGreat
