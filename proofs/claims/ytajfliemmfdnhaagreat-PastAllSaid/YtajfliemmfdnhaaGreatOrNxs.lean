/- Binary heaps in a list, as plain mathematics: what goes up, what goes down, what is the least. The library's heap over the program's own list of places: a row of numbers in a field of a variable; Len, Less, Swap, Push, Pop. -/
import Derived.Test.YtajfliemmfdnhaaGreatVWords
import Derived.RegionTactic
import Derived.ChangeAlike
import Derived.BigRegion
import Derived.Lib.OwnKind
import Derived.Deep.QuietTactic
import Derived.BigQuiet
import Derived.Deep.RegionHeld3
import Derived.Deep.Cut
import Derived.Deep.RegionLaw
import Derived.Test.YtajfliemmfdnhaaGreatOrCon
import Derived.Test.YtajfliemmfdnhaaGreatISets
import Derived.Shelf.Abstract
import Derived.WideKeyEntry
import Derived.Test.YtajfliemmfdnhaaGreatPaMath
import Derived.Test.YtajfliemmfdnhaaGreatRefTxOC
import Derived.Deep.DeepCutAuto
namespace Go.Proofs.YtajfliemmfdnhaaGreat.Plain
set_option linter.unusedVariables false

def hat (h : List Int) (i : Nat) : Int := h.getD i 0
end Go.Proofs.YtajfliemmfdnhaaGreat.Plain
namespace Go.Proofs.YtajfliemmfdnhaaGreat
open Go.RowKit Plain
set_option linter.unusedVariables false

structure ButF (F : Nat → Prop) (w w' : World) : Prop where
 os : w'.os = w.os
 tape : w'.tape = w.tape
 output : w'.output = w.output
 size : w.heap.size ≤ w'.heap.size
 block : ∀ k, k < w.heap.size → ¬ F k → w'.heap[k]? = w.heap[k]?
theorem ButF.of {F : Nat → Prop} {w w' : World} (h : Below w.heap.size w w') : ButF F w w' := ⟨h.os, h.tape, h.output, h.size, fun k hk _ => h.block k hk⟩
theorem ButF.below {F : Nat → Prop} {B : Nat} {w w' : World} (h : ButF F w w') (hB : B ≤ w.heap.size) (hF : ∀ k, F k → B ≤ k) : Below B w w' :=
 ⟨h.os, h.tape, h.output, h.size, fun k hk => h.block k (by omega) fun f => by have := hF k f; omega⟩
theorem ButF.trans {F G : Nat → Prop} {a b c : World} (h : ButF F a b) (k : ButF G b c) (hG : ∀ x, x < a.heap.size → G x → F x) : ButF F a c :=
 ⟨k.os.trans h.os, k.tape.trans h.tape, k.output.trans h.output, Nat.le_trans h.size k.size, fun x hx hn => (k.block x (Nat.lt_of_lt_of_le hx h.size) fun g => hn (hG x hx g)).trans (h.block x hx hn)⟩
theorem ButF.mono {F G : Nat → Prop} {a b : World} (h : ButF F a b) (hG : ∀ x, x < a.heap.size → F x → G x) : ButF G a b := ⟨h.os, h.tape, h.output, h.size, fun x hx hn => h.block x hx fun f => hn (hG x hx f)⟩
theorem ButF.then {F : Nat → Prop} {a b c : World} (h : ButF F a b) (k : Below b.heap.size b c) : ButF F a c := h.trans (ButF.of (F := fun _ => False) k) fun _ _ f => f.elim
theorem ButF.set {F : Nat → Prop} {w : World} {g i : Nat} {v : Value} (hg : F g) : ButF F w (w.setCell ⟨g, i, none⟩ v) :=
 ⟨rfl, rfl, rfl, by simp [World.setCell], fun k _ hn => Below.heap_setCell _ _ _ _ fun e => hn (by rw [show k = g from e]; exact hg)⟩
structure HpTo (g : Nat) (w : World) (rv : Value) (w' : World) (rv' : Value) : Prop where
 but : ButF (fun k => k = g ∨ rv.ownBlock = some k) w w'
 own : ∀ k, rv'.ownBlock = some k → rv.ownBlock = some k ∨ w.heap.size ≤ k
theorem HpTo.trans {g : Nat} {a b c : World} {x y z : Value} (h : HpTo g a x b y) (k : HpTo g b y c z) : HpTo g a x c z :=
 ⟨h.but.trans k.but fun n hn e => e.imp id fun e => (h.own n e).resolve_right (by omega), fun n e => (k.own n e).elim (h.own n) fun l => .inr (Nat.le_trans h.but.size l)⟩
end Go.Proofs.YtajfliemmfdnhaaGreat
namespace Go.Proofs.YtajfliemmfdnhaaGreat
open Go.RowKit Plain
set_option linter.unusedVariables false

theorem free_of {w : World} {g : Nat} {cs : Array Value} {t : TypeId} (h : w.heap[g]? = some (.cells cs t (0, 0))) (i : Nat) : w.frozen? ⟨g, i, none⟩ = false := by
 unfold World.frozen?; rw [h]; simp
end Go.Proofs.YtajfliemmfdnhaaGreat
namespace Go.Proofs.YtajfliemmfdnhaaGreat
open Go.RowKit Plain
set_option linter.unusedVariables false

section
variable {F : Nat → Prop} {B : Nat} {w : World} {g : Nat} {l : List PTxn} {v : Ints} {H : List Nat} {Bh : Int → Int → List Nat} {lv hv rv : Value} {m : Nat} {V : PDot → Value} {hs : List Int}
end
end Go.Proofs.YtajfliemmfdnhaaGreat
namespace Go.Proofs.YtajfliemmfdnhaaGreat
open Go.RowKit Plain
set_option linter.unusedVariables false

structure FitW (t : PTxn) : Prop where
 deps : t.deps.length ≤ 1000000
 effs : t.effs.length ≤ 1000000
 drops : ∀ e ∈ t.effs, e.drops.length ≤ 1000000
 ok : txnOk t
theorem FitW.small {t : PTxn} (h : FitW t) : TSmall t := (i64_in h.ok.2.1).2
theorem txns_spotB {B : Nat} {w : World} {v : Value} {xs : List PTxn} (h : Sq LTxn (fun b => b < B) w v xs) (hB : B ≤ w.heap.size) (hp : 0 < xs.length) : ∃ b o cap, v = .slice (some ⟨b, o, none⟩) xs.length cap ∧ xs.length ≤ cap ∧ cap ≤ 9223372036854775807 ∧
  ∀ j, j < xs.length → ∃ da dn dc ea en ec, TxnAt w b (o + j * 4) (otx xs j) (.slice da dn dc) (.slice ea en ec) ∧ IsTxn w (.agg #[.int .i64 (otx xs j).node, .int .i64 (otx xs j).seq, .slice da dn dc, .slice ea en ec]) (otx xs j) := by
 have hs : SeqE LTxn w v xs := h.mono fun b hb => Nat.lt_of_lt_of_le hb hB
 obtain ⟨b, o, cap, e, h1, h2, -, hc⟩ := txns_spot hs hp
 refine ⟨b, o, cap, e, h1, h2, fun j hj => ?_⟩
 obtain ⟨dv, ev, ha, hd, he⟩ := hc j hj
 obtain ⟨da, dc, rfl, -, -, -, hd'⟩ := hd.parts
 obtain ⟨ea, ec, rfl, -, -, -, he'⟩ := he.parts
 exact ⟨da, _, dc, ea, _, ec, ha, _, _, rfl, hd', he'⟩
end Go.Proofs.YtajfliemmfdnhaaGreat
namespace Go.Proofs.YtajfliemmfdnhaaGreat
open Go.RowKit Plain
set_option linter.unusedVariables false

end Go.Proofs.YtajfliemmfdnhaaGreat
namespace Go.Proofs.YtajfliemmfdnhaaGreat
open Go.RowKit Plain
set_option linter.unusedVariables false

theorem oNext_len (v : Ints) (t : PTxn) : (oNext v t).length ≤ max v.length 8 := by
 unfold oNext
 split
 ·rename_i h
  have h1 := (oValid_iff.1 h).1
  unfold withN
  have := laid_len (withF v t.node.toNat t.seq) (max v.length (t.node.toNat + 1))
  omega
 ·unfold trim
  have := laid_len (says v) v.length
  omega
end Go.Proofs.YtajfliemmfdnhaaGreat
