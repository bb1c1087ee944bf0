/- What the program's own Formed of transactions leaves. -/
import Derived.Test.YtlpcpbangmonaaaTxDeps
import Derived.Test.YtlpcpbangmonaaaEForms
import Derived.Test.YtlpcpbangmonaaaEHeard
import Derived.Deep.RegionHeld3
import Derived.Deep.Cut
namespace Go.Proofs.Ytlpcpbangmonaaa
open Go.RowKit Plain
set_option linter.unusedVariables false
/-- transactions of the sizes that are looked at, their numbers of the model's range -/
structure FitTx (t : PTxn) : Prop where
  deps : t.deps.length ≤ 1000
  effs : t.effs.length ≤ 1000
  drops : ∀ e ∈ t.effs, e.drops.length ≤ 1000
  ok : txnOk t
theorem IsTxn.slices {w : World} {v : Value} {t : PTxn} (h : IsTxn w v t) : ∃ da dn dc ea en ec, v = .agg #[.int .i64 t.node, .int .i64 t.seq, .slice da dn dc, .slice ea en ec] ∧ SeqE LInt w (.slice da dn dc) t.deps ∧ SeqE LEff w (.slice ea en ec) t.effs := by
  obtain ⟨dv, ev, rfl, h1, h2⟩ := h
  obtain ⟨a1, c1, rfl, -, -, -, k1⟩ := h1.parts
  obtain ⟨a2, c2, rfl, -, -, -, k2⟩ := h2.parts
  exact ⟨_, _, _, _, _, _, rfl, k1, k2⟩
theorem tf_range {t : PTxn} (h : inRange t.node t.seq = false) : tformedB t = false := by unfold tformedB; rw [h]; rfl
end Go.Proofs.Ytlpcpbangmonaaa
