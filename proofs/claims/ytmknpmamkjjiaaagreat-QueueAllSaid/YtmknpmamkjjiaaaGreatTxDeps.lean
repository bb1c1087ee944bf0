/- What slices.Equal, slices.IndexFunc, slices.ContainsFunc of vectors and the program's own areDeps leave. (Written by gen-form.py.) -/
import Derived.Test.YtmknpmamkjjiaaaGreatVcAll
import Derived.Test.YtmknpmamkjjiaaaGreatGives
import Derived.Test.YtmknpmamkjjiaaaGreatTxMaths
import Derived.Shelf.Abstract
namespace Go.Proofs.YtmknpmamkjjiaaaGreat
open Go.RowKit Plain
set_option linter.unusedVariables false

set_option maxRecDepth 100000 in
set_option maxHeartbeats 4000000 in
/-- Equal -/
theorem tsequal_yes {u v : Value} {xs : Ints} {w : World} (hs : SeqI w u xs) (ht : SeqI w v xs) :
  Calls Tryz.prog 38 #[u, v] w fun e w' => e = .returned (.bool true) ∧ ∃ n, w' = w.drewN n := by
 by_cases hp : 0 < xs.length
 ·obtain ⟨b1, o1, c1, rfl, g1, m1, -, k1⟩ := hs.spot hp
  obtain ⟨b2, o2, c2, rfl, g2, m2, -, k2⟩ := ht.spot hp
  have HU := Lib.hid k1
  have HV := Lib.hid k2
  have hm : maxLen = 9223372036854775807 := rfl
  rw [hm] at m1 m2
  clear hs ht k1 k2 hm
  go_enter Tryz.func38, Tryz.ntmps38
  go_wp2_with fail
  go_loopw [13] (fun i wr => ∃ k : Nat, k ≤ xs.length ∧ i = .int .i64 k ∧ ∃ n, wr = w.drewN n) (fun i _ => xs.length - (intOf i).toNat)
  case atStart => exact ⟨0, Nat.zero_le _, rfl, 0, rfl⟩
  case round =>
   obtain ⟨k, hk, rfl, n, rfl⟩ := hrel
   by_cases hlt : k < xs.length
   ·have c1' := HU.out k hlt
    have c2' := HV.out k hlt
    generalize xs.getD k 0 = x at *
    go_wp2_with fail
    go_quiet (fail)
    go_wp2_with fail
    go_roundw
    case rel => exact ⟨k + 1, by omega, by go_num, _, rfl⟩
    case measure => simp [intOf]; omega
   ·obtain rfl : k = xs.length := by omega
    go_wp2_with fail
    go_ret
    exact ⟨rfl, _, rfl⟩
 ·obtain rfl : xs = [] := List.eq_nil_of_length_eq_zero (by omega)
  obtain ⟨a1, c1, rfl, -⟩ := hs
  obtain ⟨a2, c2, rfl, -⟩ := ht
  simp only [List.length_nil]
  go_enter Tryz.func38, Tryz.ntmps38
  go_wp2_with fail
  go_loop [13] (fun i => i = .int .i64 0) (fun _ => 0)
  case atStart => rfl
  case round =>
   obtain rfl := hrel
   go_wp2_with fail
   go_ret
   exact ⟨rfl, 0, rfl⟩

set_option maxRecDepth 100000 in
set_option maxHeartbeats 4000000 in
theorem tsequal_no {u v : Value} {xs ys : Ints} {w : World} (hs : SeqI w u xs) (ht : SeqI w v ys) (hne : ¬ xs = ys) :
  Calls Tryz.prog 38 #[u, v] w fun e w' => e = .returned (.bool false) ∧ ∃ n, w' = w.drewN n := by
 by_cases hl : xs.length = ys.length
 ·have hp : 0 < xs.length := by
   by_cases h : 0 < xs.length
   ·exact h
   ·exfalso
    apply hne
    rw [List.eq_nil_of_length_eq_zero (show xs.length = 0 by omega), List.eq_nil_of_length_eq_zero (show ys.length = 0 by omega)]
  have hex : ∃ j, j < xs.length ∧ xs.getD j 0 ≠ ys.getD j 0 := by
   refine Classical.byContradiction fun hno => hne ?_
   apply List.ext_getElem hl
   intro j h1 h2
   have hj : xs.getD j 0 = ys.getD j 0 := Classical.byContradiction fun h => hno ⟨j, h1, h⟩
   simpa [List.getD, List.getElem?_eq_getElem h1, List.getElem?_eq_getElem h2] using hj
  obtain ⟨b1, o1, c1, rfl, g1, m1, -, k1⟩ := hs.spot hp
  obtain ⟨b2, o2, c2, rfl, g2, m2, -, k2⟩ := ht.spot (by omega)
  rw [← hl] at k2 g2 ⊢
  have HU := Lib.hid k1
  have HV := Lib.hid k2
  have HEX := Lib.hid hex
  have hm : maxLen = 9223372036854775807 := rfl
  rw [hm] at m1 m2
  clear hs ht k1 k2 hm hl hex hne
  go_enter Tryz.func38, Tryz.ntmps38
  go_wp2_with fail
  go_loopw [13] (fun i wr => ∃ k : Nat, k ≤ xs.length ∧ i = .int .i64 k ∧ (∀ j, j < k → xs.getD j 0 = ys.getD j 0) ∧ ∃ n, wr = w.drewN n) (fun i _ => xs.length - (intOf i).toNat)
  case atStart => exact ⟨0, Nat.zero_le _, rfl, (fun j hj => absurd hj (by omega)), 0, rfl⟩
  case round =>
   obtain ⟨k, hk, rfl, hall, n, rfl⟩ := hrel
   have HALL := Lib.hid hall
   clear hall
   by_cases hlt : k < xs.length
   ·have c1' := HU.out k hlt
    have c2' := HV.out k hlt
    by_cases he : xs.getD k 0 = ys.getD k 0
    ·have HE := Lib.hid he
     rw [he] at c1'
     clear he
     have HALL2 : Hid (∀ j, j < k + 1 → xs.getD j 0 = ys.getD j 0) := Lib.hid (fun j hj => by
      by_cases h : j < k
      ·exact HALL.out j h
      ·obtain rfl : j = k := by omega
       exact HE.out)
     generalize ys.getD k 0 = x at *
     go_wp2_with fail
     go_quiet (fail)
     go_wp2_with fail
     go_roundw
     case rel => exact ⟨k + 1, by omega, by go_num, HALL2.out, _, rfl⟩
     case measure => simp [intOf]; omega
    ·generalize xs.getD k 0 = x at *
     generalize ys.getD k 0 = y at *
     have hb2 : (x != y) = true := bne_iff_ne.2 he
     clear he
     go_wp2_with fail
     go_quiet (fail)
     go_wp2_with fail
     go_ret
     exact ⟨rfl, _, World.drewN_drewN _ _ _⟩
   ·exfalso
    obtain ⟨j, hj, hne⟩ := HEX.out
    exact hne (HALL.out j (by omega))
 ·obtain ⟨a1, c1, rfl, -⟩ := hs
  obtain ⟨a2, c2, rfl, -⟩ := ht
  generalize xs.length = la at *
  generalize ys.length = lb at *
  have h1 : ¬ ((la : Int) = (lb : Int)) := by omega
  have h2 : ((la : Int) != (lb : Int)) = true := bne_iff_ne.2 h1
  clear hl h1 hne
  go_enter Tryz.func38, Tryz.ntmps38
  go_wp2_with fail
  go_ret
  exact ⟨rfl, 0, rfl⟩
/-- Equal -/
theorem tsequal_any {u v : Value} {xs ys : Ints} {w : World} (hs : SeqI w u xs) (ht : SeqI w v ys) :
  Calls Tryz.prog 38 #[u, v] w fun e w' => e = .returned (.bool (decide (xs = ys))) ∧ ∃ n, w' = w.drewN n := by
 by_cases h : xs = ys
 ·subst h
  rw [decide_eq_true rfl]
  exact tsequal_yes hs ht
 ·rw [decide_eq_false h]
  exact tsequal_no hs ht h


set_option maxRecDepth 100000 in
set_option maxHeartbeats 2000000 in
/-- slices.IndexFunc of vectors -/
theorem tsindex_any {v : Value} {ds : List Int} {w : World} (hv : SeqI w v ds) (hn : ds.length ≤ 1000000) (p : Int → Bool) (g : Nat) (lb : Array Value)
  (eg : ∀ args w, (callFunc g args).run Tryz.prog w = .ok (.enter g args) w)
  (hp : ∀ W d, Below w.heap.size w W → Calls Tryz.prog g (#[.int .i64 d] ++ lb) W (GivesB W (p d))) :
  Calls Tryz.prog 51 #[v, .func (.func g) #[] lb] w fun e w' => ∃ r : Int, e = .returned (.int .i64 r) ∧ decide (0 ≤ r) = ds.any p ∧ Below w.heap.size w w' := by
 obtain ⟨a, cap, rfl, g1, g2, g0, h⟩ := hv.parts
 have HS := Lib.hid h
 have HP := Lib.hid hp
 have HY : Hid (∀ k, k < ds.length → p (ds.getD k 0) = true → ds.any p = true) := Lib.hid (fun k hk h => by
  rw [List.any_eq_true]
  exact ⟨_, by rw [show ds.getD k 0 = ds[k] by simp [List.getD, List.getElem?_eq_getElem hk]]; exact List.getElem_mem hk, h⟩)
 have HN : Hid ((∀ j, j < ds.length → p (ds.getD j 0) = false) → ds.any p = false) := Lib.hid (fun h => by
  rw [List.any_eq_false]
  intro d hd
  obtain ⟨j, hj, rfl⟩ := List.getElem_of_mem hd
  have := h j hj
  rw [show ds.getD j 0 = ds[j] by simp [List.getD, List.getElem?_eq_getElem hj]] at this
  rw [this]
  decide)
 clear hp hv h g0
 have hm : maxLen = 9223372036854775807 := rfl
 rw [hm] at g2
 obtain ⟨n, hN⟩ : ∃ n, ds.length = n := ⟨_, rfl⟩
 rw [hN] at hn g1 HS HY HN ⊢
 have LN := Lib.hid hN
 clear hN hm
 generalize ds.any p = r at *
 go_enter Tryz.func51, Tryz.ntmps51
 go_wp2_with fail
 go_loopw [8] (fun i wr => ∃ k : Nat, k ≤ n ∧ i = .int .i64 k ∧ (∀ j, j < k → p (ds.getD j 0) = false) ∧ Below w.heap.size w wr) (fun i _ => n - (intOf i).toNat)
 case atStart => exact ⟨0, Nat.zero_le _, rfl, fun j hj => absurd hj (by omega), Below.refl _ _⟩
 case round =>
  obtain ⟨k, hk, rfl, hall, hb⟩ := hrel
  have HA := Lib.hid hall
  have HB := Lib.hid hb
  clear hall hb
  by_cases hlt : k < n
  ·obtain ⟨b, o, c, hv, -, -, -, hc⟩ := (HS.out.below HB.out).spot (by rw [LN.out]; omega)
   rw [LN.out] at hv
   simp only [Value.slice.injEq] at hv
   obtain ⟨rfl, -, rfl⟩ := hv
   have c0 := hc k (by rw [LN.out]; exact hlt)
   have HYK := Lib.hid (HY.out k hlt)
   have HAK : Hid (p (ds.getD k 0) = false → ∀ j, j < k + 1 → p (ds.getD j 0) = false) := Lib.hid (fun h j hj => by
    by_cases e : j = k
    ·rw [e]; exact h
    ·exact HA.out j (by omega))
   have K := HP.out wr (ds.getD k 0) HB.out
   clear hc
   generalize ds.getD k 0 = d at *
   cases hpd : p d with
   | true =>
    rw [hpd] at K
    obtain rfl : r = true := HYK.out hpd
    clear hpd
    go_wp2_with (go_at_fn g; refine K.mono ?_; rintro e w1 ⟨rfl, hb⟩)
    have G := Lib.hid (HB.out.trans (hb.mono HB.out.size))
    clear hb c0 K
    go_wp2_with fail
    go_ret
    exact ⟨k, rfl, by simp, G.out⟩
   | false =>
    rw [hpd] at K
    have HX := Lib.hid (HAK.out hpd)
    clear hpd
    go_wp2_with (go_at_fn g; refine K.mono ?_; rintro e w1 ⟨rfl, hb⟩)
    have G := Lib.hid (HB.out.trans (hb.mono HB.out.size))
    clear hb c0 K
    go_wp2_with fail
    go_roundw
    case rel => exact ⟨k + 1, by omega, by go_num, HX.out, G.out⟩
    case measure => simp [intOf]; omega
  ·obtain rfl : k = n := by omega
   obtain rfl : r = false := HN.out HA.out
   go_wp2_with fail
   go_ret
   exact ⟨-1, rfl, by decide, HB.out⟩
set_option maxRecDepth 100000 in
set_option maxHeartbeats 1000000 in
/-- slices.ContainsFunc of vectors -/
theorem tscontains_any {v : Value} {ds : List Int} {w : World} (hv : SeqI w v ds) (hn : ds.length ≤ 1000000) (p : Int → Bool) (g : Nat) (lb : Array Value)
  (eg : ∀ args w, (callFunc g args).run Tryz.prog w = .ok (.enter g args) w)
  (hp : ∀ W d, Below w.heap.size w W → Calls Tryz.prog g (#[.int .i64 d] ++ lb) W (GivesB W (p d))) :
  Calls Tryz.prog 40 #[v, .func (.func g) #[] lb] w (GivesB w (ds.any p)) := by
 have K := tsindex_any hv hn p g lb eg hp
 obtain ⟨a, cap, rfl, -⟩ := hv.parts
 generalize ds.any p = r at *
 generalize ds.length = n at *
 clear hv hp
 go_enter Tryz.func40, Tryz.ntmps40
 go_wp2_with fail
 refine K.mono ?_
 rintro e w1 ⟨q, rfl, hq, hb⟩
 have G := Lib.hid hb
 clear hb K
 subst hq
 go_wp2_with fail
 go_ret
 exact ⟨rfl, G.out⟩
/-- may these be a transaction's Deps? -/
def areB (v : List Int) : Bool := decide (v.length ≤ 8) && (decide (v = trim v) && !v.any (fun n => decide (n > 1073741824)))
theorem depsB_is (t : PTxn) : depsB t = (areB t.deps && decide (saysI t.deps t.node = t.seq - 1)) := by
 have e : (!t.deps.any (fun n => decide (n > 1073741824))) = t.deps.all (fun n => decide (n ≤ 1073741824)) := by
  rw [List.not_any_eq_all_not]
  congr 1
  funext n
  by_cases h : n > 1073741824
  ·rw [decide_eq_true h, decide_eq_false (show ¬ n ≤ 1073741824 by omega)]; rfl
  ·rw [decide_eq_false h, decide_eq_true (show n ≤ 1073741824 by omega)]; rfl
 unfold depsB areB
 rw [e, Bool.and_assoc, Bool.and_assoc]
 congr 2
 ·exact decide_eq_decide.2 ⟨fun h => h.symm, fun h => h.symm⟩
 ·congr 1
  exact decide_eq_decide.2 (by omega)
set_option maxRecDepth 100000 in
set_option maxHeartbeats 1000000 in
theorem givesGreat (W : World) (d : Int) : Calls Tryz.prog 37 (#[.int .i64 d] ++ #[]) W (GivesB W (decide (d > 1073741824))) := by
 show Calls Tryz.prog 37 #[.int .i64 d] W _
 go_enter Tryz.func37, Tryz.ntmps37
 go_wp2_with fail
 go_ret
 exact ⟨rfl, Below.refl _ _⟩
set_option maxRecDepth 100000 in
set_option maxHeartbeats 4000000 in
/-- areDeps -/
theorem areDeps_any {v : Value} {xs : List Int} {w : World} (hv : SeqI w v xs) (hl : xs.length ≤ 1000000) : Calls Tryz.prog 28 #[v] w (GivesB w (areB xs)) := by
 obtain ⟨a, cap, rfl, g1, g2, g0, h⟩ := hv.parts
 have KT := Lib.hid (vc_trim_any h hl)
 have KE : Hid (∀ (W : World) (u : Value), Below w.heap.size w W → SeqI W u (trim xs) → Calls Tryz.prog 38 #[.slice a xs.length cap, u] W fun e w' => e = .returned (.bool (decide (xs = trim xs))) ∧ ∃ n, w' = W.drewN n) := Lib.hid (fun W u hb hs => tsequal_any (h.below hb) hs)
 have KC : Hid (∀ W, Below w.heap.size w W → Calls Tryz.prog 40 #[.slice a xs.length cap, .func (.func 37) #[] #[]] W (GivesB W (xs.any fun n => decide (n > 1073741824)))) := Lib.hid (fun W hb => tscontains_any (h.below hb) hl _ _ #[] (enters_of Tryz.func37 (by kernel_rfl) rfl) (fun W' d _ => givesGreat W' d))
 have HR : Hid (areB xs = (decide (xs.length ≤ 8) && (decide (xs = trim xs) && !xs.any (fun n => decide (n > 1073741824))))) := Lib.hid rfl
 clear hv h g0
 generalize areB xs = r at *
 generalize decide (xs = trim xs) = r1 at *
 generalize (xs.any fun n => decide (n > 1073741824)) = r2 at *
 generalize trim xs = ts at *
 generalize xs.length = n at *
 by_cases hn : n ≤ 8
 ·have hni : (n : Int) ≤ 8 := by omega
  rw [decide_eq_true hn, Bool.true_and] at HR
  clear hn
  go_enter Tryz.func28, Tryz.ntmps28
  go_wp2_with fail
  refine KT.out.mono ?_
  rintro e w1 ⟨v1, rfl, ho, hb⟩
  have B1 := Lib.hid hb
  have KE1 := KE.out w1 v1 hb ho.seq
  obtain ⟨a1, c1, rfl, -, -, -, -⟩ := ho.parts
  clear ho hb KT KE
  generalize ts.length = tn at *
  go_wp2_with fail
  refine KE1.mono ?_
  rintro e w2 ⟨rfl, q, rfl⟩
  have B2 := Lib.hid (below_drewN B1.out q)
  clear KE1
  generalize w1.drewN q = w2 at *
  cases r1 with
  | false =>
   obtain rfl : r = false := HR.out
   go_wp2_with fail
   go_ret
   exact ⟨rfl, B2.out⟩
  | true =>
   rw [Bool.true_and] at HR
   have KC2 := KC.out w2 B2.out
   clear KC
   go_wp2_with fail
   refine KC2.mono ?_
   rintro e w3 ⟨rfl, hb⟩
   have B3 := Lib.hid (B2.out.trans (hb.mono B2.out.size))
   clear hb KC2
   obtain rfl : r = !r2 := HR.out
   go_wp2_with fail
   go_ret
   exact ⟨rfl, B3.out⟩
 ·have hni : ¬ (n : Int) ≤ 8 := by omega
  rw [decide_eq_false hn, Bool.false_and] at HR
  obtain rfl : r = false := HR.out
  clear hn HR
  go_enter Tryz.func28, Tryz.ntmps28
  go_wp2_with fail
  go_ret
  exact ⟨rfl, Below.refl _ _⟩
end Go.Proofs.YtmknpmamkjjiaaaGreat
