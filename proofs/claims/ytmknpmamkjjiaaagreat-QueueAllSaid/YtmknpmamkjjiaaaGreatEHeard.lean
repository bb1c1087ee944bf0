/- What the program's own Heard of effects leaves. -/
import Derived.Test.YtmknpmamkjjiaaaGreatTxn
import Derived.Test.YtmknpmamkjjiaaaGreatEMades
import Derived.Test.YtmknpmamkjjiaaaGreatVcAll
import Derived.Deep.Cut
namespace Go.Proofs.YtmknpmamkjjiaaaGreat
open Go.RowKit Plain
set_option linter.unusedVariables false

theorem entersHeard : ∀ args w, (callFunc 43 args).run Tryz.prog w = .ok (.enter 43 args) w := enters_of Tryz.func43 (by kernel_rfl) rfl
theorem heard_is (node seq : Int) (v : List Int) (d : PDot) : (!heard1 node seq v d) = ((!(decide (1 ≤ d.seq) && decide (d.seq ≤ saysI v d.node))) && !isOfB node seq d) := by
 unfold heard1 isOfB
 cases decide (d.node = node) <;> cases decide (d.seq = seq) <;> cases decide (1 ≤ d.seq) <;> cases decide (d.seq ≤ saysI v d.node) <;> rfl
set_option maxRecDepth 100000 in
set_option maxHeartbeats 2000000 in
theorem givesHeard (node seq : Int) {a : Option Addr} {n c : Nat} {v : List Int} (d : PDot) (b1 b2 b3 : Nat) (W : World) (hv : SeqI W (.slice a n c) v)
  (h1 : W.cell? ⟨b1, 0, none⟩ = some (.slice a n c)) (h2 : W.cell? ⟨b2, 0, none⟩ = some (.int .i64 node)) (h3 : W.cell? ⟨b3, 0, none⟩ = some (.int .i64 seq)) :
  Calls Tryz.prog 43 (#[dv d] ++ #[.pointer (some ⟨b1, 0, none⟩), .pointer (some ⟨b2, 0, none⟩), .pointer (some ⟨b3, 0, none⟩)]) W (GivesB W (!heard1 node seq v d)) := by
 show Calls Tryz.prog 43 #[.agg #[.int .i64 d.node, .int .i64 d.seq, .int .i64 d.pos], .pointer (some ⟨b1, 0, none⟩), .pointer (some ⟨b2, 0, none⟩), .pointer (some ⟨b3, 0, none⟩)] W _
 have hb := (Below.refl W.heap.size W).alloc (Nat.le_refl _) (.cells #[.int .i64 d.node, .int .i64 d.seq, .int .i64 d.pos] 54)
 have hc : ∀ {b : Nat} {u : Value}, W.cell? ⟨b, 0, none⟩ = some u → (W.alloc (.cells #[.int .i64 d.node, .int .i64 d.seq, .int .i64 d.pos] 54)).cell? ⟨b, 0, none⟩ = some u := fun h => (hb.cell (World.block_lt_of_cell? W _ h)).trans h
 have k1 := hc h1
 have k2 := hc h2
 have k3 := hc h3
 have DB : Hid (DotAt (W.alloc (.cells #[.int .i64 d.node, .int .i64 d.seq, .int .i64 d.pos] 54)) W.heap.size 0 d) := Lib.hid ⟨by simp, by simp, by simp⟩
 have KH := Lib.hid (vc_has_any (hv.below hb) d.node d.seq d.pos)
 have G := Lib.hid hb
 have K := Lib.hid (fun W => eisOf_any node seq d W)
 have e1 := heard_is node seq v d
 clear hc hb h1 h2 h3 hv
 rw [e1]
 clear e1
 generalize (decide (1 ≤ d.seq) && decide (d.seq ≤ saysI v d.node)) = r0 at *
 generalize isOfB node seq d = r1 at *
 go_enter Tryz.func43, Tryz.ntmps43
 go_upto_region 1 with fail
 generalize (W.alloc (.cells #[.int .i64 d.node, .int .i64 d.seq, .int .i64 d.pos] 54)) = w1 at *
 obtain ⟨c0, c1, c2⟩ := DB.out
 simp only [Nat.zero_add] at c1 c2
 go_wp2_with fail
 refine KH.out.mono ?_
 rintro e w2 ⟨rfl, hb⟩
 have m2 := (hb.cell (World.block_lt_of_cell? w1 _ k2)).trans k2
 have m3 := (hb.cell (World.block_lt_of_cell? w1 _ k3)).trans k3
 have d0 := (hb.cell (World.block_lt_of_cell? w1 _ c0)).trans c0
 have d1 := (hb.cell (World.block_lt_of_cell? w1 _ c1)).trans c1
 have d2 := (hb.cell (World.block_lt_of_cell? w1 _ c2)).trans c2
 have G2 := Lib.hid (G.out.trans (hb.mono G.out.size))
 clear hb c0 c1 c2 k1 k2 k3 KH
 cases r0 with
 | true =>
  go_wp2_with fail
  go_ret
  exact ⟨rfl, G2.out⟩
 | false =>
  rw [Bool.not_false, Bool.true_and]
  go_wp2_with fail
  refine (K.out _).mono ?_
  rintro e w3 ⟨rfl, hb⟩
  have G3 := Lib.hid (G2.out.trans (hb.mono G2.out.size))
  clear hb
  go_wp2_with fail
  go_ret
  exact ⟨rfl, G3.out⟩
theorem heard_all {l : List PEff} {node seq : Int} {v : List Int} (h : ∀ j, j < l.length → ((l.getD j default).drops.any fun d => !heard1 node seq v d) = false) : heardB l node seq v = true := by
 unfold heardB
 rw [List.all_eq_true]
 intro e he
 obtain ⟨j, hj, rfl⟩ := List.getElem_of_mem he
 have := h j hj
 rw [show l.getD j default = l[j] by simp [List.getD, List.getElem?_eq_getElem hj], List.any_eq_false] at this
 rw [List.all_eq_true]
 intro d hd
 simpa using this d hd
theorem heard_not {l : List PEff} {node seq : Int} {v : List Int} {j : Nat} (hj : j < l.length) (h : ((l.getD j default).drops.any fun d => !heard1 node seq v d) = true) : heardB l node seq v = false := by
 unfold heardB
 rw [List.all_eq_false]
 refine ⟨l[j], List.getElem_mem hj, ?_⟩
 rw [show l.getD j default = l[j] by simp [List.getD, List.getElem?_eq_getElem hj], List.any_eq_true] at h
 obtain ⟨d, hd, hn⟩ := h
 rw [List.all_eq_true]
 intro k
 have := k d hd
 rw [this] at hn
 cases hn

set_option maxRecDepth 100000 in
set_option maxHeartbeats 4000000 in
/-- Heard -/
theorem eheard_any (node seq : Int) {u v : Value} {l : List PEff} {xs : List Int} {w : World} (hu : SeqE LEff w u l) (hv : SeqI w v xs) (hd : ∀ e ∈ l, e.drops.length ≤ 1000000) :
  Calls Tryz.prog 31 #[u, .int .i64 node, .int .i64 seq, v] w (GivesB w (heardB l node seq xs)) := by
 have HDM := Lib.hid (fun k hk => hd _ (mem_defE (l := l) (k := k) hk))
 have HA := Lib.hid (fun h => heard_all (l := l) (node := node) (seq := seq) (v := xs) h)
 have HN := Lib.hid (fun j (hj : j < l.length) h => heard_not (l := l) (node := node) (seq := seq) (v := xs) hj h)
 generalize heardB l node seq xs = r at *
 obtain ⟨a, cap, rfl, g1, g2, g0, h⟩ := hu.parts
 obtain ⟨av, cv, rfl, gv1, gv2, gv0, hv'⟩ := hv.parts
 generalize xs.length = nv at *
 obtain ⟨n, hN⟩ : ∃ n, l.length = n := ⟨_, rfl⟩
 rw [hN] at g1 HDM HA HN h ⊢
 have LN := Lib.hid hN
 have B1 := (((Below.refl w.heap.size w).alloc (Nat.le_refl _) (.cells #[.int .i64 node] 3)).alloc (by simp) (.cells #[.int .i64 seq] 3)).alloc (by simp; omega) (.cells #[.slice av nv cv] 26)
 have k1 : ((((w.alloc (.cells #[.int .i64 node] 3)).alloc (.cells #[.int .i64 seq] 3)).alloc (.cells #[.slice av nv cv] 26))).cell? ⟨w.heap.size, 0, none⟩ = some (.int .i64 node) := (three_cells w _ _ _ _ _ _ 0).1
 have k2 : ((((w.alloc (.cells #[.int .i64 node] 3)).alloc (.cells #[.int .i64 seq] 3)).alloc (.cells #[.slice av nv cv] 26))).cell? ⟨w.heap.size + 1, 0, none⟩ = some (.int .i64 seq) := (three_cells w _ _ _ _ _ _ 0).2.1
 have k3 : ((((w.alloc (.cells #[.int .i64 node] 3)).alloc (.cells #[.int .i64 seq] 3)).alloc (.cells #[.slice av nv cv] 26))).cell? ⟨w.heap.size + 1 + 1, 0, none⟩ = some (.slice av nv cv) := (three_cells w _ _ _ _ _ _ 0).2.2
 have HS := Lib.hid (h.below B1)
 have HV := Lib.hid (hv'.below B1)
 have G := Lib.hid B1
 clear hu hv h hv' g0 gv0 hN B1 hd
 go_enter Tryz.func31, Tryz.ntmps31
 go_upto_region 1 with fail
 generalize (((w.alloc (.cells #[.int .i64 node] 3)).alloc (.cells #[.int .i64 seq] 3)).alloc (.cells #[.slice av nv cv] 26)) = w1 at *
 have KC : Hid (∀ W {dv : Value} {ds : List PDot}, Below w1.heap.size w1 W → SeqE LDot W dv ds → ds.length ≤ 1000000 → Calls Tryz.prog 45 #[dv, .func (.func 43) #[] #[.pointer (some ⟨w.heap.size + 1 + 1, 0, none⟩), .pointer (some ⟨w.heap.size, 0, none⟩), .pointer (some ⟨w.heap.size + 1, 0, none⟩)]] W (GivesB W (ds.any fun d => !heard1 node seq xs d))) :=
  Lib.hid (fun W dv ds hb hs hn => econtains_any hs hn _ _ _ entersHeard (fun W' d hb' => by
   have b2 := hb.trans (hb'.mono hb.size)
   exact givesHeard node seq d _ _ _ W' (HV.out.below b2) ((b2.cell (World.block_lt_of_cell? w1 _ k3)).trans k3) ((b2.cell (World.block_lt_of_cell? w1 _ k1)).trans k1) ((b2.cell (World.block_lt_of_cell? w1 _ k2)).trans k2)))
 clear k1 k2 k3
 go_wp2_with fail
 go_loopw [11, 15] (fun _ i wr => ∃ k : Nat, k ≤ n ∧ i = .int .i64 k ∧ (∀ j, j < k → ((l.getD j default).drops.any fun d => !heard1 node seq xs d) = false) ∧ Below w1.heap.size w1 wr) (fun _ i _ => n - (intOf i).toNat)
 case atStart => exact ⟨0, Nat.zero_le _, rfl, fun j hj => absurd hj (by omega), Below.refl _ _⟩
 case round =>
  obtain ⟨k, hk, rfl, hall, hb⟩ := hrel
  have HALL := Lib.hid hall
  have HB := Lib.hid hb
  clear hall hb
  by_cases hlt : k < n
  ·obtain ⟨b, o, c, hv, -, -, -, hc⟩ := effs_spot (HS.out.below HB.out) (by rw [LN.out]; omega)
   rw [LN.out] at hv
   simp only [Value.slice.injEq] at hv
   obtain ⟨rfl, -, rfl⟩ := hv
   obtain ⟨dv, EA, SD⟩ := hc k (by rw [LN.out]; exact hlt)
   have hl := HDM.out k hlt
   have HNK := Lib.hid (HN.out k hlt)
   have HX : Hid (((l.getD k default).drops.any fun d => !heard1 node seq xs d) = false → ∀ j, j < k + 1 → ((l.getD j default).drops.any fun d => !heard1 node seq xs d) = false) := Lib.hid (fun h j hj => by
    by_cases e : j = k
    ·rw [e]; exact h
    ·exact HALL.out j (by omega))
   clear hc
   generalize l.getD k default = x at *
   obtain ⟨da, dc, rfl, -⟩ := SD.parts
   have hb2 := (Below.refl wr.heap.size wr).alloc (Nat.le_refl _) (.cells #[.int .i64 x.pos, .string (bt x.key), .string (bt x.field), .int .i64 x.kind, .string (bt x.elem), .int .i64 x.n, .slice da x.drops.length dc] 61)
   have EX : (wr.alloc (.cells #[.int .i64 x.pos, .string (bt x.key), .string (bt x.field), .int .i64 x.kind, .string (bt x.elem), .int .i64 x.n, .slice da x.drops.length dc] 61)).cell? ⟨wr.heap.size, 6, none⟩ = some (.slice da x.drops.length dc) := World.cell?_alloc_new wr _ _ 6
   have K := KC.out _ (HB.out.trans (hb2.mono HB.out.size)) (SD.below hb2) hl
   have G2 := Lib.hid (HB.out.trans (hb2.mono HB.out.size))
   obtain ⟨c0, c1, c2, c3, c4, c5, c6⟩ := EA
   clear SD hb2
   generalize x.drops.length = dn at *
   go_upto_region 5 with fail
   clear c0 c1 c2 c3 c4 c5 c6
   generalize (wr.alloc (.cells #[.int .i64 x.pos, .string (bt x.key), .string (bt x.field), .int .i64 x.kind, .string (bt x.elem), .int .i64 x.n, .slice da dn dc] 61)) = w2 at *
   cases hq : x.drops.any fun d => !heard1 node seq xs d with
   | true =>
    obtain rfl : r = false := HNK.out hq
    rw [hq] at K
    clear hq HX HNK
    go_wp2_with fail
    refine K.mono ?_
    rintro e w3 ⟨rfl, hb⟩
    have G3 := Lib.hid (G.out.trans ((G2.out.trans (hb.mono G2.out.size)).mono G.out.size))
    clear hb K
    go_wp2_with fail
    go_ret
    exact ⟨rfl, G3.out⟩
   | false =>
    have HU := Lib.hid (HX.out hq)
    rw [hq] at K
    clear hq HX HNK
    go_wp2_with fail
    refine K.mono ?_
    rintro e w3 ⟨rfl, hb⟩
    have G3 := Lib.hid (G2.out.trans (hb.mono G2.out.size))
    clear hb K
    go_wp2_with fail
    go_roundw
    case rel => exact ⟨k + 1, by omega, by go_num, HU.out, G3.out⟩
    case measure => simp [intOf]; omega
  ·obtain rfl : k = n := by omega
   obtain rfl : r = true := HA.out HALL.out
   go_wp2_with fail
   go_ret
   exact ⟨rfl, G.out.trans (HB.out.mono G.out.size)⟩
end Go.Proofs.YtmknpmamkjjiaaaGreat
