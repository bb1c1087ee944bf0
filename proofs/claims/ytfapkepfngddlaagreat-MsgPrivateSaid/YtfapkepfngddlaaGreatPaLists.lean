/- What slices.Clone, slices.IndexFunc, slices.ContainsFunc, slices.Concat of transactions leave. (Written by gen-lists.py.) -/
import Derived.Test.YtfapkepfngddlaaGreatEHeard
import Derived.Test.YtfapkepfngddlaaGreatTxUses
import Derived.Test.YtfapkepfngddlaaGreatZIs
import Derived.Lib.AppendZeros
import Derived.WalkSpells
import Derived.Shelf.Abstract
import Derived.Deep.DeepCutAuto
namespace Go.Proofs.YtfapkepfngddlaaGreat
open Go.RowKit Plain
set_option linter.unusedVariables false

def FirstAt (p : PTxn → Bool) (ds : List PTxn) (r : Int) : Prop := (r = -1 ∧ ∀ j, j < ds.length → p (ds.getD j default) = false) ∨ ∃ k : Nat, r = (k : Int) ∧ k < ds.length ∧ p (ds.getD k default) = true ∧ ∀ j, j < k → p (ds.getD j default) = false
theorem FirstAt.any {p : PTxn → Bool} {ds : List PTxn} {r : Int} (h : FirstAt p ds r) : decide (0 ≤ r) = ds.any p := by
 rcases h with ⟨rfl, h⟩ | ⟨k, rfl, hk, h, -⟩
 ·rw [Eq.comm]
  show ds.any p = false
  rw [List.any_eq_false]
  intro d hd
  obtain ⟨j, hj, rfl⟩ := List.getElem_of_mem hd
  have := h j hj
  rw [show ds.getD j default = ds[j] by simp [List.getD, List.getElem?_eq_getElem hj]] at this
  rw [this]
  decide
 ·rw [decide_eq_true (by omega), Eq.comm, List.any_eq_true]
  exact ⟨_, List.mem_of_getElem? (getD_at hk), h⟩
set_option maxRecDepth 100000 in
set_option maxHeartbeats 2000000 in
theorem txindex_any {v : Value} {ds : List PTxn} {w : World} (hv : SeqE LTxn w v ds) (hn : ds.length ≤ 1000000) (p : PTxn → Bool) (g : Nat) (lb : Array Value)
  (eg : ∀ args w, (callFunc g args).run Tryz.prog w = .ok (.enter g args) w)
  (hp : ∀ W d tv, d ∈ ds → Below w.heap.size w W → IsTxn W tv d → Calls Tryz.prog g (#[tv] ++ lb) W (GivesB W (p d))) :
  Calls Tryz.prog 130 #[v, .func (.func g) #[] lb] w fun e w' => ∃ r : Int, e = .returned (.int .i64 r) ∧ FirstAt p ds r ∧ Below w.heap.size w w' := by
 obtain ⟨a, cap, rfl, g1, g2, g0, h⟩ := hv.parts
 have HS := Lib.hid h
 have HP := Lib.hid hp
 have HM := Lib.hid (fun k (hk : k < ds.length) => (List.mem_of_getElem? (getD_at hk) : ds.getD k default ∈ ds))
 clear hp hv h g0
 obtain ⟨n, hN⟩ : ∃ n, ds.length = n := ⟨_, rfl⟩
 rw [hN] at hn g1 HS HM ⊢
 have LN := Lib.hid hN
 clear hN
 go_enter Tryz.func130, Tryz.ntmps130
 go_wp2_with fail
 go_loopw [8] (fun i wr => ∃ k : Nat, k ≤ n ∧ i = .int .i64 k ∧ (∀ j, j < k → p (ds.getD j default) = false) ∧ Below w.heap.size w wr) (fun i _ => n - (intOf i).toNat)
 case atStart => exact ⟨0, Nat.zero_le _, rfl, fun j hj => absurd hj (by omega), Below.refl _ _⟩
 case round =>
  obtain ⟨k, hk, rfl, hall, hb⟩ := hrel
  have HA := Lib.hid hall
  have HB := Lib.hid hb
  clear hall hb
  by_cases hlt : k < n
  ·obtain ⟨b, o, c, hv, -, -, -, hc⟩ := txns_spot (HS.out.below HB.out) (by rw [LN.out]; omega)
   rw [LN.out] at hv
   simp only [Value.slice.injEq] at hv
   obtain ⟨rfl, -, rfl⟩ := hv
   obtain ⟨dv, ev, ⟨c0, c1, c2, c3⟩, hdv, hev⟩ := hc k (by rw [LN.out]; exact hlt)
   have HAK : Hid (p (ds.getD k default) = false → ∀ j, j < k + 1 → p (ds.getD j default) = false) := Lib.hid (fun h j hj => by
    by_cases e : j = k
    ·rw [e]; exact h
    ·exact HA.out j (by omega))
   have K := HP.out wr (ds.getD k default) _ (HM.out k hlt) HB.out ⟨_, _, rfl, hdv, hev⟩
   obtain ⟨da, dc, rfl, -⟩ := hdv.parts
   obtain ⟨ea, ec, rfl, -⟩ := hev.parts
   obtain ⟨d, hd⟩ : ∃ d, d = ds.getD k default := ⟨_, rfl⟩
   have HD := Lib.hid hd
   rw [← hd] at K c0 c1 c2 c3 HAK
   clear hc hd hdv hev
   cases hpd : p d with
   | true =>
    rw [hpd] at K
    have HPD := Lib.hid hpd
    clear hpd
    go_wp2_with (go_at_fn g; refine K.mono ?_; rintro e w1 ⟨rfl, hb⟩)
    have G := Lib.hid (HB.out.trans (hb.mono HB.out.size))
    clear hb c0 c1 c2 c3 K
    go_wp2_with fail
    go_ret
    exact ⟨k, rfl, .inr ⟨k, rfl, by rw [LN.out]; exact hlt, by rw [← HD.out]; exact HPD.out, HA.out⟩, G.out⟩
   | false =>
    rw [hpd] at K
    have HX := Lib.hid (HAK.out hpd)
    clear hpd
    go_wp2_with (go_at_fn g; refine K.mono ?_; rintro e w1 ⟨rfl, hb⟩)
    have G := Lib.hid (HB.out.trans (hb.mono HB.out.size))
    clear hb c0 c1 c2 c3 K
    go_wp2_with fail
    go_roundw
    case rel => exact ⟨k + 1, by omega, by go_num, HX.out, G.out⟩
    case measure => simp [intOf]; omega
  ·obtain rfl : k = n := by omega
   go_wp2_with fail
   go_ret
   exact ⟨-1, rfl, .inl ⟨rfl, by rw [LN.out]; exact HA.out⟩, HB.out⟩

set_option maxRecDepth 100000 in
set_option maxHeartbeats 1000000 in
theorem txcontains_any {v : Value} {ds : List PTxn} {w : World} (hv : SeqE LTxn w v ds) (hn : ds.length ≤ 1000000) (p : PTxn → Bool) (g : Nat) (lb : Array Value)
  (eg : ∀ args w, (callFunc g args).run Tryz.prog w = .ok (.enter g args) w)
  (hp : ∀ W d tv, d ∈ ds → Below w.heap.size w W → IsTxn W tv d → Calls Tryz.prog g (#[tv] ++ lb) W (GivesB W (p d))) :
  Calls Tryz.prog 76 #[v, .func (.func g) #[] lb] w (GivesB w (ds.any p)) := by
 have K := txindex_any hv hn p g lb eg hp
 obtain ⟨a, cap, rfl, -⟩ := hv.parts
 generalize ds.length = n at *
 clear hv hp
 go_enter Tryz.func76, Tryz.ntmps76
 go_wp2_with fail
 refine K.mono ?_
 rintro e w1 ⟨q, rfl, hq, hb⟩
 have G := Lib.hid hb
 have hq := hq.any
 generalize ds.any p = r at *
 subst hq
 clear hb K
 go_wp2_with fail
 go_ret
 exact ⟨rfl, G.out⟩

end Go.Proofs.YtfapkepfngddlaaGreat
