/- What the program's own made and isOf of effects leave. What slices.IndexFunc and slices.ContainsFunc of dots leave, whatever is asked; the program's own dropsUnmade. -/
import Derived.Test.YtmknpmamkjjiaaaGreatEff
import Derived.Test.YtmknpmamkjjiaaaGreatMaths
import Derived.Test.YtmknpmamkjjiaaaGreatElGs
import Derived.Test.YtmknpmamkjjiaaaGreatGives
import Derived.Deep.Cut
import Derived.Shelf.Abstract
namespace Go.Proofs.YtmknpmamkjjiaaaGreat
open Go.RowKit Plain
set_option linter.unusedVariables false

set_option maxRecDepth 100000 in
set_option maxHeartbeats 4000000 in
/-- made -/
theorem emade_any (node seq : Int) (x : PEff) (a : Option Addr) (n c : Nat) (w : World) :
  Calls Tryz.prog 52 #[.int .i64 node, .int .i64 seq, .agg #[.int .i64 x.pos, .string (bt x.key), .string (bt x.field), .int .i64 x.kind, .string (bt x.elem), .int .i64 x.n, .slice a n c]] w fun e w' => e = .returned (.agg #[.string (bt x.key), .string (bt x.field), .int .i64 x.kind, .string (bt x.elem), .int .i64 x.n, .int .i64 node, .int .i64 seq, .int .i64 x.pos]) ∧ Below w.heap.size w w' := by
 show Calls Tryz.prog 52 _ w fun e w' => e = .returned (.agg #[.string (bt x.key), .string (bt x.field), .int .i64 x.kind, .string (bt x.elem), .int .i64 x.n, .int .i64 node, .int .i64 seq, .int .i64 x.pos]) ∧ Below w.heap.size w w'
 go_enter Tryz.func52, Tryz.ntmps52
 go_wp2_with fail
 refine bodyPost_ret (v := .agg #[.string (bt x.key), .string (bt x.field), .int .i64 x.kind, .string (bt x.elem), .int .i64 x.n, .int .i64 node, .int .i64 seq, .int .i64 x.pos]) (by simp [results, Tryz.results52, go_sem]) rfl ⟨rfl, ?_⟩
 exact (((Below.refl _ _).alloc (Nat.le_refl _) _).alloc (by simp) _).alloc (by simp; omega) _

def isOfB (node seq : Int) (d : PDot) : Bool := decide (d.node = node) && decide (d.seq = seq)
set_option maxRecDepth 100000 in
set_option maxHeartbeats 2000000 in
/-- isOf -/
theorem eisOf_any (node seq : Int) (d : PDot) (w : World) :
  Calls Tryz.prog 44 #[.int .i64 node, .int .i64 seq, .agg #[.int .i64 d.node, .int .i64 d.seq, .int .i64 d.pos]] w (GivesB w (isOfB node seq d)) := by
 have G := Lib.hid ((Below.refl w.heap.size w).alloc (Nat.le_refl _) (.cells #[.int .i64 d.node, .int .i64 d.seq, .int .i64 d.pos] 54))
 unfold isOfB
 generalize d.node = dn at *
 generalize d.seq = ds at *
 by_cases h1 : dn = node
 ·by_cases h2 : ds = seq
  ·rw [decide_eq_true h1, decide_eq_true h2]
   have e1 : (dn == node) = true := by simp [h1]
   have e2 : (ds == seq) = true := by simp [h2]
   clear h1 h2
   go_enter Tryz.func44, Tryz.ntmps44
   go_wp2_with fail
   go_ret
   exact ⟨rfl, G.out⟩
  ·rw [decide_eq_true h1, decide_eq_false h2]
   have e1 : (dn == node) = true := by simp [h1]
   have e2 : (ds == seq) = false := by simp [h2]
   clear h1 h2
   go_enter Tryz.func44, Tryz.ntmps44
   go_wp2_with fail
   go_ret
   exact ⟨rfl, G.out⟩
 ·rw [decide_eq_false h1]
  have e1 : (dn == node) = false := by simp [h1]
  clear h1
  go_enter Tryz.func44, Tryz.ntmps44
  go_wp2_with fail
  go_ret
  exact ⟨rfl, G.out⟩
end Go.Proofs.YtmknpmamkjjiaaaGreat
namespace Go.Proofs.YtmknpmamkjjiaaaGreat
open Go.RowKit Plain
set_option linter.unusedVariables false

theorem dv_eq3 (d : PDot) : dv d = .agg #[.int .i64 d.node, .int .i64 d.seq, .int .i64 d.pos] := rfl
set_option maxRecDepth 100000 in
set_option maxHeartbeats 2000000 in
/-- slices.IndexFunc of dots -/
theorem eindex_any {v : Value} {ds : List PDot} {w : World} (hv : SeqE LDot w v ds) (hn : ds.length ≤ 1000000) (p : PDot → Bool) (g : Nat) (lb : Array Value)
  (eg : ∀ args w, (callFunc g args).run Tryz.prog w = .ok (.enter g args) w)
  (hp : ∀ W d, Below w.heap.size w W → Calls Tryz.prog g (#[dv d] ++ lb) W (GivesB W (p d))) :
  Calls Tryz.prog 56 #[v, .func (.func g) #[] lb] w fun e w' => ∃ r : Int, e = .returned (.int .i64 r) ∧ decide (0 ≤ r) = ds.any p ∧ Below w.heap.size w w' := by
 obtain ⟨a, cap, rfl, g1, g2, g0, h⟩ := hv.parts
 have HS := Lib.hid h
 have HP := Lib.hid hp
 have HY : Hid (∀ k, k < ds.length → p (ds.getD k default) = true → ds.any p = true) := Lib.hid (fun k hk h => by
  rw [List.any_eq_true]
  exact ⟨_, by rw [show ds.getD k default = ds[k] by simp [List.getD, List.getElem?_eq_getElem hk]]; exact List.getElem_mem hk, h⟩)
 have HN : Hid ((∀ j, j < ds.length → p (ds.getD j default) = false) → ds.any p = false) := Lib.hid (fun h => by
  rw [List.any_eq_false]
  intro d hd
  obtain ⟨j, hj, rfl⟩ := List.getElem_of_mem hd
  have := h j hj
  rw [show ds.getD j default = ds[j] by simp [List.getD, List.getElem?_eq_getElem hj]] at this
  rw [this]
  decide)
 clear hp hv h g0
 obtain ⟨n, hN⟩ : ∃ n, ds.length = n := ⟨_, rfl⟩
 rw [hN] at hn g1 HS HY HN ⊢
 have LN := Lib.hid hN
 clear hN
 generalize ds.any p = r at *
 go_enter Tryz.func56, Tryz.ntmps56
 go_wp2_with fail
 go_loopw [8] (fun i wr => ∃ k : Nat, k ≤ n ∧ i = .int .i64 k ∧ (∀ j, j < k → p (ds.getD j default) = false) ∧ Below w.heap.size w wr) (fun i _ => n - (intOf i).toNat)
 case atStart => exact ⟨0, Nat.zero_le _, rfl, fun j hj => absurd hj (by omega), Below.refl _ _⟩
 case round =>
  obtain ⟨k, hk, rfl, hall, hb⟩ := hrel
  have HA := Lib.hid hall
  have HB := Lib.hid hb
  clear hall hb
  by_cases hlt : k < n
  ·obtain ⟨b, o, c, hv, -, -, -, hc⟩ := dots_spot (HS.out.below HB.out) (by rw [LN.out]; omega)
   rw [LN.out] at hv
   simp only [Value.slice.injEq] at hv
   obtain ⟨rfl, -, rfl⟩ := hv
   obtain ⟨c0, c1, c2⟩ := hc k (by rw [LN.out]; exact hlt)
   have HYK := Lib.hid (HY.out k hlt)
   have HAK : Hid (p (ds.getD k default) = false → ∀ j, j < k + 1 → p (ds.getD j default) = false) := Lib.hid (fun h j hj => by
    by_cases e : j = k
    ·rw [e]; exact h
    ·exact HA.out j (by omega))
   have K := HP.out wr (ds.getD k default) HB.out
   clear hc
   rw [dv_eq3] at K
   generalize ds.getD k default = d at *
   cases hpd : p d with
   | true =>
    rw [hpd] at K
    obtain rfl : r = true := HYK.out hpd
    clear hpd
    go_wp2_with (go_at_fn g; refine K.mono ?_; rintro e w1 ⟨rfl, hb⟩)
    have G := Lib.hid (HB.out.trans (hb.mono HB.out.size))
    clear hb c0 c1 c2 K
    go_wp2_with fail
    go_ret
    exact ⟨k, rfl, by simp, G.out⟩
   | false =>
    rw [hpd] at K
    have HX := Lib.hid (HAK.out hpd)
    clear hpd
    go_wp2_with (go_at_fn g; refine K.mono ?_; rintro e w1 ⟨rfl, hb⟩)
    have G := Lib.hid (HB.out.trans (hb.mono HB.out.size))
    clear hb c0 c1 c2 K
    go_wp2_with fail
    go_roundw
    case rel => exact ⟨k + 1, by omega, by go_num, HX.out, G.out⟩
    case measure => simp [intOf]; omega
  ·obtain rfl : k = n := by omega
   obtain rfl : r = false := HN.out HA.out
   go_wp2_with fail
   go_ret
   exact ⟨-1, rfl, by decide, HB.out⟩

set_option maxRecDepth 100000 in
set_option maxHeartbeats 1000000 in
/-- slices.ContainsFunc of dots -/
theorem econtains_any {v : Value} {ds : List PDot} {w : World} (hv : SeqE LDot w v ds) (hn : ds.length ≤ 1000000) (p : PDot → Bool) (g : Nat) (lb : Array Value)
  (eg : ∀ args w, (callFunc g args).run Tryz.prog w = .ok (.enter g args) w)
  (hp : ∀ W d, Below w.heap.size w W → Calls Tryz.prog g (#[dv d] ++ lb) W (GivesB W (p d))) :
  Calls Tryz.prog 45 #[v, .func (.func g) #[] lb] w (GivesB w (ds.any p)) := by
 have K := eindex_any hv hn p g lb eg hp
 obtain ⟨a, cap, rfl, -⟩ := hv.parts
 generalize ds.any p = r at *
 generalize ds.length = n at *
 clear hv hp
 go_enter Tryz.func45, Tryz.ntmps45
 go_wp2_with fail
 refine K.mono ?_
 rintro e w1 ⟨q, rfl, hq, hb⟩
 have G := Lib.hid hb
 clear hb K
 subst hq
 go_wp2_with fail
 go_ret
 exact ⟨rfl, G.out⟩

theorem three_cells (w : World) (X Y Z : Array Value) (t u s : TypeId) (i : Nat) :
  (((w.alloc (.cells X t)).alloc (.cells Y u)).alloc (.cells Z s)).cell? ⟨w.heap.size, i, none⟩ = X[i]? ∧
  (((w.alloc (.cells X t)).alloc (.cells Y u)).alloc (.cells Z s)).cell? ⟨w.heap.size + 1, i, none⟩ = Y[i]? ∧
  (((w.alloc (.cells X t)).alloc (.cells Y u)).alloc (.cells Z s)).cell? ⟨w.heap.size + 1 + 1, i, none⟩ = Z[i]? := by
 have s1 : (w.alloc (.cells X t)).heap.size = w.heap.size + 1 := by simp
 have s2 : ((w.alloc (.cells X t)).alloc (.cells Y u)).heap.size = w.heap.size + 1 + 1 := by simp
 have h1 := World.cell?_alloc_new w X t i
 have h2 := World.cell?_alloc_new (w.alloc (.cells X t)) Y u i
 have h3 := World.cell?_alloc_new ((w.alloc (.cells X t)).alloc (.cells Y u)) Z s i
 rw [s1] at h2
 rw [s2] at h3
 have b2 := (Below.refl (w.heap.size + 1) (w.alloc (.cells X t))).alloc (by rw [s1]; exact Nat.le_refl _) (.cells Y u)
 have b3 := (Below.refl (w.heap.size + 1 + 1) ((w.alloc (.cells X t)).alloc (.cells Y u))).alloc (by rw [s2]; exact Nat.le_refl _) (.cells Z s)
 exact ⟨(b3.cell (p := ⟨w.heap.size, i, none⟩) (show w.heap.size < w.heap.size + 1 + 1 by omega)).trans ((b2.cell (p := ⟨w.heap.size, i, none⟩) (show w.heap.size < w.heap.size + 1 by omega)).trans h1), (b3.cell (p := ⟨w.heap.size + 1, i, none⟩) (show w.heap.size + 1 < w.heap.size + 1 + 1 by omega)).trans h2, h3⟩
theorem entersUnmade : ∀ args w, (callFunc 55 args).run Tryz.prog w = .ok (.enter 55 args) w := enters_of Tryz.func55 (by kernel_rfl) rfl
theorem unmade_is (node seq pos : Int) (d : PDot) : unmadeB node seq pos d = (isOfB node seq d && decide (pos ≤ d.pos)) := by
 unfold unmadeB isOfB
 rw [Bool.and_assoc]
set_option maxRecDepth 100000 in
set_option maxHeartbeats 2000000 in
theorem givesUnmade (node seq pos : Int) (d : PDot) (b1 b2 b3 : Nat) (W : World) (h1 : W.cell? ⟨b1, 0, none⟩ = some (.int .i64 node)) (h2 : W.cell? ⟨b2, 0, none⟩ = some (.int .i64 seq)) (h3 : W.cell? ⟨b3, 0, none⟩ = some (.int .i64 pos)) :
  Calls Tryz.prog 55 (#[dv d] ++ #[.pointer (some ⟨b1, 0, none⟩), .pointer (some ⟨b2, 0, none⟩), .pointer (some ⟨b3, 0, none⟩)]) W (GivesB W (unmadeB node seq pos d)) := by
 show Calls Tryz.prog 55 #[.agg #[.int .i64 d.node, .int .i64 d.seq, .int .i64 d.pos], .pointer (some ⟨b1, 0, none⟩), .pointer (some ⟨b2, 0, none⟩), .pointer (some ⟨b3, 0, none⟩)] W _
 have hb := (Below.refl W.heap.size W).alloc (Nat.le_refl _) (.cells #[.int .i64 d.node, .int .i64 d.seq, .int .i64 d.pos] 54)
 have hc : ∀ {b : Nat} {u : Value}, W.cell? ⟨b, 0, none⟩ = some u → (W.alloc (.cells #[.int .i64 d.node, .int .i64 d.seq, .int .i64 d.pos] 54)).cell? ⟨b, 0, none⟩ = some u := fun h => (hb.cell (World.block_lt_of_cell? W _ h)).trans h
 have k1 := hc h1
 have k2 := hc h2
 have k3 := hc h3
 have DB : Hid (DotAt (W.alloc (.cells #[.int .i64 d.node, .int .i64 d.seq, .int .i64 d.pos] 54)) W.heap.size 0 d) := Lib.hid ⟨by simp, by simp, by simp⟩
 have G := Lib.hid hb
 have K := Lib.hid (fun W => eisOf_any node seq d W)
 have e1 := unmade_is node seq pos d
 clear hc hb h1 h2 h3
 rw [e1]
 clear e1
 generalize isOfB node seq d = r1 at *
 go_enter Tryz.func55, Tryz.ntmps55
 go_upto_region 1 with fail
 generalize (W.alloc (.cells #[.int .i64 d.node, .int .i64 d.seq, .int .i64 d.pos] 54)) = w1 at *
 obtain ⟨c0, c1, c2⟩ := DB.out
 simp only [Nat.zero_add] at c1 c2
 go_wp2_with fail
 refine (K.out _).mono ?_
 rintro e w2 ⟨rfl, hb⟩
 have m3 := (hb.cell (World.block_lt_of_cell? w1 _ k3)).trans k3
 have d2 := (hb.cell (World.block_lt_of_cell? w1 _ c2)).trans c2
 have G2 := Lib.hid (G.out.trans (hb.mono G.out.size))
 clear hb c0 c1 c2 k1 k2 k3
 cases r1 with
 | false =>
  rw [Bool.false_and]
  go_wp2_with fail
  go_ret
  exact ⟨rfl, G2.out⟩
 | true =>
  rw [Bool.true_and]
  go_wp2_with fail
  go_ret
  exact ⟨rfl, G2.out⟩

set_option maxRecDepth 100000 in
set_option maxHeartbeats 2000000 in
/-- dropsUnmade -/
theorem eunmade_any (node seq : Int) (x : PEff) {a : Option Addr} {n c : Nat} {w : World} (hs : SeqE LDot w (.slice a n c) x.drops) (hn : x.drops.length ≤ 1000000) :
  Calls Tryz.prog 42 #[.int .i64 node, .int .i64 seq, .agg #[.int .i64 x.pos, .string (bt x.key), .string (bt x.field), .int .i64 x.kind, .string (bt x.elem), .int .i64 x.n, .slice a n c]] w (GivesB w (x.drops.any (unmadeB node seq x.pos))) := by
 have B1 := (((Below.refl w.heap.size w).alloc (Nat.le_refl _) (.cells #[.int .i64 node] 3)).alloc (by simp) (.cells #[.int .i64 seq] 3)).alloc (by simp; omega) (.cells #[.int .i64 x.pos, .string (bt x.key), .string (bt x.field), .int .i64 x.kind, .string (bt x.elem), .int .i64 x.n, .slice a n c] 61)
 have X : Hid (∀ W, Below w.heap.size w W → W.cell? ⟨w.heap.size, 0, none⟩ = some (.int .i64 node) → W.cell? ⟨w.heap.size + 1, 0, none⟩ = some (.int .i64 seq) → W.cell? ⟨w.heap.size + 1 + 1, 0, none⟩ = some (.int .i64 x.pos) →
   Calls Tryz.prog 45 #[.slice a n c, .func (.func 55) #[] #[.pointer (some ⟨w.heap.size, 0, none⟩), .pointer (some ⟨w.heap.size + 1, 0, none⟩), .pointer (some ⟨w.heap.size + 1 + 1, 0, none⟩)]] W (GivesB W (x.drops.any (unmadeB node seq x.pos)))) :=
  Lib.hid (fun W hb k1 k2 k3 => econtains_any (hs.below hb) hn _ _ _ entersUnmade (fun W' d hb' => givesUnmade node seq x.pos d _ _ _ W' ((hb'.cell (World.block_lt_of_cell? W _ k1)).trans k1) ((hb'.cell (World.block_lt_of_cell? W _ k2)).trans k2) ((hb'.cell (World.block_lt_of_cell? W _ k3)).trans k3)))
 have G := Lib.hid B1
 have k1 : ((((w.alloc (.cells #[.int .i64 node] 3)).alloc (.cells #[.int .i64 seq] 3)).alloc (.cells #[.int .i64 x.pos, .string (bt x.key), .string (bt x.field), .int .i64 x.kind, .string (bt x.elem), .int .i64 x.n, .slice a n c] 61))).cell? ⟨w.heap.size, 0, none⟩ = some (.int .i64 node) := (three_cells w _ _ _ _ _ _ 0).1
 have k2 : ((((w.alloc (.cells #[.int .i64 node] 3)).alloc (.cells #[.int .i64 seq] 3)).alloc (.cells #[.int .i64 x.pos, .string (bt x.key), .string (bt x.field), .int .i64 x.kind, .string (bt x.elem), .int .i64 x.n, .slice a n c] 61))).cell? ⟨w.heap.size + 1, 0, none⟩ = some (.int .i64 seq) := (three_cells w _ _ _ _ _ _ 0).2.1
 have k3 : ((((w.alloc (.cells #[.int .i64 node] 3)).alloc (.cells #[.int .i64 seq] 3)).alloc (.cells #[.int .i64 x.pos, .string (bt x.key), .string (bt x.field), .int .i64 x.kind, .string (bt x.elem), .int .i64 x.n, .slice a n c] 61))).cell? ⟨w.heap.size + 1 + 1, 0, none⟩ = some (.int .i64 x.pos) := (three_cells w _ _ _ _ _ _ 0).2.2
 have k4 : ((((w.alloc (.cells #[.int .i64 node] 3)).alloc (.cells #[.int .i64 seq] 3)).alloc (.cells #[.int .i64 x.pos, .string (bt x.key), .string (bt x.field), .int .i64 x.kind, .string (bt x.elem), .int .i64 x.n, .slice a n c] 61))).cell? ⟨w.heap.size + 1 + 1, 6, none⟩ = some (.slice a n c) := (three_cells w _ _ _ _ _ _ 6).2.2
 clear hs hn B1
 generalize x.drops.any (unmadeB node seq x.pos) = r at *
 go_enter Tryz.func42, Tryz.ntmps42
 go_upto_region 1 with fail
 generalize (((w.alloc (.cells #[.int .i64 node] 3)).alloc (.cells #[.int .i64 seq] 3)).alloc (.cells #[.int .i64 x.pos, .string (bt x.key), .string (bt x.field), .int .i64 x.kind, .string (bt x.elem), .int .i64 x.n, .slice a n c] 61)) = w1 at *
 have K := X.out w1 G.out k1 k2 k3
 go_wp2_with fail
 refine K.mono ?_
 rintro e w2 ⟨rfl, hb⟩
 have G2 := Lib.hid (G.out.trans (hb.mono G.out.size))
 clear hb K k1 k2 k3 k4
 go_wp2_with fail
 go_ret
 exact ⟨rfl, G2.out⟩
end Go.Proofs.YtmknpmamkjjiaaaGreat
