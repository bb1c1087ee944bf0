/- The program's own lacking: whom a transaction waits for. What is waiting, as it lies in memory: the list, what was heard, the heap, the map; what may change, and what stands beside it. The program's own wait. (Written by gen-wt.py.) -/
import Derived.Test.YtajfliemmfdnhaaOrCon
import Derived.Test.YtajfliemmfdnhaaISets
import Derived.BigQuiet
import Derived.Deep.QuietTactic
import Derived.Test.YtajfliemmfdnhaaVWords
import Derived.RegionTactic
import Derived.ChangeAlike
import Derived.BigRegion
import Derived.Lib.OwnKind
import Derived.Deep.RegionHeld3
import Derived.Deep.Cut
import Derived.Deep.RegionLaw
import Derived.Shelf.Abstract
import Derived.WideKeyEntry
import Derived.Test.YtajfliemmfdnhaaOrWait
import Derived.Test.YtajfliemmfdnhaaRefTxOC
import Derived.Deep.DeepCutAuto
namespace Go.Proofs.Ytajfliemmfdnhaa
open Go.RowKit Plain
set_option linter.unusedVariables false

theorem free_of {w : World} {g : Nat} {cs : Array Value} {t : TypeId} (h : w.heap[g]? = some (.cells cs t (0, 0))) (i : Nat) : w.frozen? ⟨g, i, none⟩ = false := by
 unfold World.frozen?; rw [h]; simp
end Go.Proofs.Ytajfliemmfdnhaa
namespace Go.Proofs.Ytajfliemmfdnhaa
open Go.RowKit Plain
set_option linter.unusedVariables false

section
variable {F : Nat → Prop} {B : Nat} {w : World} {g : Nat} {l : List PTxn} {v : Ints} {H : List Nat} {Bh : Int → Int → List Nat} {lv hv rv : Value} {m : Nat} {V : PDot → Value} {hs : List Int}
end
end Go.Proofs.Ytajfliemmfdnhaa
namespace Go.Proofs.Ytajfliemmfdnhaa
open Go.RowKit Plain
set_option linter.unusedVariables false

structure FitW (t : PTxn) : Prop where
 deps : t.deps.length ≤ 1000000
 effs : t.effs.length ≤ 1000000
 drops : ∀ e ∈ t.effs, e.drops.length ≤ 1000000
 ok : txnOk t
theorem FitW.small {t : PTxn} (h : FitW t) : TSmall t := (i64_in h.ok.2.1).2
theorem txns_spotB {B : Nat} {w : World} {v : Value} {xs : List PTxn} (h : Sq LTxn (fun b => b < B) w v xs) (hB : B ≤ w.heap.size) (hp : 0 < xs.length) : ∃ b o cap, v = .slice (some ⟨b, o, none⟩) xs.length cap ∧ xs.length ≤ cap ∧ cap ≤ 9223372036854775807 ∧
  ∀ j, j < xs.length → ∃ da dn dc ea en ec, TxnAt w b (o + j * 4) (otx xs j) (.slice da dn dc) (.slice ea en ec) ∧ IsTxn w (.agg #[.int .i64 (otx xs j).node, .int .i64 (otx xs j).seq, .slice da dn dc, .slice ea en ec]) (otx xs j) := by
 have hs : SeqE LTxn w v xs := h.mono fun b hb => Nat.lt_of_lt_of_le hb hB
 obtain ⟨b, o, cap, e, h1, h2, -, hc⟩ := txns_spot hs hp
 refine ⟨b, o, cap, e, h1, h2, fun j hj => ?_⟩
 obtain ⟨dv, ev, ha, hd, he⟩ := hc j hj
 obtain ⟨da, dc, rfl, -, -, -, hd'⟩ := hd.parts
 obtain ⟨ea, ec, rfl, -, -, -, he'⟩ := he.parts
 exact ⟨da, _, dc, ea, _, ec, ha, _, _, rfl, hd', he'⟩
end Go.Proofs.Ytajfliemmfdnhaa
namespace Go.Proofs.Ytajfliemmfdnhaa
open Go.RowKit Plain
set_option linter.unusedVariables false

end Go.Proofs.Ytajfliemmfdnhaa
namespace Go.Proofs.Ytajfliemmfdnhaa
open Go.RowKit Plain
set_option linter.unusedVariables false

theorem oNext_len (v : Ints) (t : PTxn) : (oNext v t).length ≤ max v.length 8 := by
 unfold oNext
 split
 ·rename_i h
  have h1 := (oValid_iff.1 h).1
  unfold withN
  have := laid_len (withF v t.node.toNat t.seq) (max v.length (t.node.toNat + 1))
  omega
 ·unfold trim
  have := laid_len (says v) v.length
  omega
end Go.Proofs.Ytajfliemmfdnhaa
