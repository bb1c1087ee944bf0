/- What is waiting, as it lies in memory: the list, what was heard, the heap, the map; what may change, and what stands beside it. The program's own wait. (Written by gen-wt.py.) The program's own Take. (Written by gen-tk.py, and by hand since round 19.) -/
import Derived.Test.YtmknpmamkjjiaaaGreatVWords
import Derived.RegionTactic
import Derived.ChangeAlike
import Derived.BigRegion
import Derived.Lib.OwnKind
import Derived.Deep.QuietTactic
import Derived.BigQuiet
import Derived.Deep.RegionHeld3
import Derived.Deep.Cut
import Derived.Deep.RegionLaw
import Derived.Shelf.Abstract
import Derived.Test.YtmknpmamkjjiaaaGreatISets
import Derived.WideKeyEntry
import Derived.Test.YtmknpmamkjjiaaaGreatOrCon
import Derived.Test.YtmknpmamkjjiaaaGreatRefTxOC
import Derived.Deep.DeepCutAuto
import Derived.Test.YtmknpmamkjjiaaaGreatEDos
import Derived.Carry
namespace Go.Proofs.YtmknpmamkjjiaaaGreat
open Go.RowKit Plain
set_option linter.unusedVariables false

section
variable {F : Nat → Prop} {B : Nat} {w : World} {g : Nat} {l : List PTxn} {v : Ints} {H : List Nat} {Bh : Int → Int → List Nat} {lv hv rv : Value} {m : Nat} {V : PDot → Value} {hs : List Int}
end
/-- the rows of those that were heard stand -/
def RowsStay (v : Ints) (V : PDot → Value) (w : World) (V' : PDot → Value) (w' : World) : Prop := ∀ d : PDot, oHas v d.node d.seq → V' d = V d ∧ ∀ k, (V d).ownBlock = some k → w'.heap[k]? = w.heap[k]?
theorem RowsStay.trans {v : Ints} {V V' V'' : PDot → Value} {a b c : World} (h : RowsStay v V a V' b) (k : RowsStay v V' b V'' c) : RowsStay v V a V'' c := fun d hd => by
 obtain ⟨h1, h2⟩ := h d hd
 obtain ⟨k1, k2⟩ := k d hd
 exact ⟨k1.trans h1, fun x hx => (k2 x (by rw [h1]; exact hx)).trans (h2 x hx)⟩
end Go.Proofs.YtmknpmamkjjiaaaGreat
namespace Go.Proofs.YtmknpmamkjjiaaaGreat
open Go.RowKit Plain
set_option linter.unusedVariables false

theorem txns_spotB {B : Nat} {w : World} {v : Value} {xs : List PTxn} (h : Sq LTxn (fun b => b < B) w v xs) (hB : B ≤ w.heap.size) (hp : 0 < xs.length) : ∃ b o cap, v = .slice (some ⟨b, o, none⟩) xs.length cap ∧ xs.length ≤ cap ∧ cap ≤ 9223372036854775807 ∧
  ∀ j, j < xs.length → ∃ da dn dc ea en ec, TxnAt w b (o + j * 4) (otx xs j) (.slice da dn dc) (.slice ea en ec) ∧ IsTxn w (.agg #[.int .i64 (otx xs j).node, .int .i64 (otx xs j).seq, .slice da dn dc, .slice ea en ec]) (otx xs j) := by
 have hs : SeqE LTxn w v xs := h.mono fun b hb => Nat.lt_of_lt_of_le hb hB
 obtain ⟨b, o, cap, e, h1, h2, -, hc⟩ := txns_spot hs hp
 refine ⟨b, o, cap, e, h1, h2, fun j hj => ?_⟩
 obtain ⟨dv, ev, ha, hd, he⟩ := hc j hj
 obtain ⟨da, dc, rfl, -, -, -, hd'⟩ := hd.parts
 obtain ⟨ea, ec, rfl, -, -, -, he'⟩ := he.parts
 exact ⟨da, _, dc, ea, _, ec, ha, _, _, rfl, hd', he'⟩
end Go.Proofs.YtmknpmamkjjiaaaGreat
namespace Go.Proofs.YtmknpmamkjjiaaaGreat
open Go.RowKit Plain
set_option linter.unusedVariables false

/-- those that were taken, beside what is waiting -/
structure TakenAt (F : Nat → Prop) (B : Nat) (w : World) (tv : Value) (a : List PTxn) : Prop where
 row : OwnJ (fun b => ¬ F b ∧ B ≤ b) LTxn B w tv a
 out : ∀ k, tv.ownBlock = some k → ¬ F k
theorem TakenAt.nil (F : Nat → Prop) (B : Nat) (w : World) : TakenAt F B w (.slice none 0 0) [] := ⟨OwnJ.nil _ _ _, fun k h => by cases h⟩
theorem nil_own {k : Nat} {p : Prop} (h : Value.ownBlock (.slice none 0 0) = some k) : p := by cases h
end Go.Proofs.YtmknpmamkjjiaaaGreat
