/- What slices.DeleteFunc of transactions leaves of a row of the call's own. -/
import Derived.Test.YtajfliemmfdnhaaGreatPaRow
import Derived.Test.YtajfliemmfdnhaaGreatPaLists
import Derived.Test.YtajfliemmfdnhaaGreatPaWay
import Derived.Deep.Cut
namespace Go.Proofs.YtajfliemmfdnhaaGreat
open Go.RowKit Plain
set_option linter.unusedVariables false

theorem getD_getElem {xs : List PTxn} {k : Nat} (h : k < xs.length) : xs.getD k default = xs[k] := by simp [List.getD, List.getElem?_eq_getElem h]
theorem zero_one : ∀ u ∈ LTxn.zero.cells, u.oneCell' = true := by
 intro u hu
 have e : LTxn.zero.cells = #[.int .i64 0, .int .i64 0, .slice none 0 0, .slice none 0 0] := rfl
 rw [e] at hu
 simp only [List.mem_toArray, List.mem_cons, List.not_mem_nil, or_false] at hu
 rcases hu with rfl | rfl | rfl | rfl <;> rfl
def DelAt (p : PTxn → Bool) (xs : List PTxn) (N : Nat) (w : World) (rb n cap i j : Nat) (u : World) : Prop := ∃ ys, DelInv p xs ys i j ∧ OwnE LTxn N u (.slice (some ⟨rb, 0, none⟩) n cap) ys ∧ Below N w u
section
variable {p : PTxn → Bool} {xs : List PTxn} {N : Nat} {w : World} {rb n cap i j : Nat} {u u' : World}
theorem DelAt.below (h : DelAt p xs N w rb n cap i j u) (hb : Below u.heap.size u u') (hN : N ≤ u.heap.size) : DelAt p xs N w rb n cap i j u' := by
 obtain ⟨ys, h1, h2, h3⟩ := h
 exact ⟨ys, h1, h2.below hb (Nat.le_refl _), h3.trans (hb.mono hN)⟩
theorem DelAt.at (h : DelAt p xs N w rb n cap i j u) (hj : j < xs.length) : ∃ da dn dc ea en ec, TxnAt u rb (j * 4) xs[j] (.slice da dn dc) (.slice ea en ec) ∧ Sq LInt (fun b => b < u.heap.size ∧ b ≠ rb) u (.slice da dn dc) xs[j].deps ∧ Sq LEff (fun b => b < u.heap.size ∧ b ≠ rb) u (.slice ea en ec) xs[j].effs := by
 obtain ⟨ys, h1, h2, h3⟩ := h
 exact h2.txnAt (h1.at (Nat.le_refl _) hj)
theorem DelAt.into (h : DelAt p xs N w rb n cap i j u) (hj : j < xs.length) (hn : n = xs.length) : (∃ v0 v1 v2 v3, u.cell? ⟨rb, i * 4, none⟩ = some v0 ∧ u.cell? ⟨rb, i * 4 + 1, none⟩ = some v1 ∧ u.cell? ⟨rb, i * 4 + 2, none⟩ = some v2 ∧ u.cell? ⟨rb, i * 4 + 3, none⟩ = some v3) ∧ (u.frozen? ⟨rb, i * 4, none⟩ = false ∧ u.frozen? ⟨rb, i * 4 + 1, none⟩ = false ∧ u.frozen? ⟨rb, i * 4 + 2, none⟩ = false ∧ u.frozen? ⟨rb, i * 4 + 3, none⟩ = false) := by
 obtain ⟨ys, h1, h2, h3⟩ := h
 have hl := h1.lt
 have g : ∀ m, m < 4 → ∃ v, u.cell? ⟨rb, i * 4 + m, none⟩ = some v := fun m hm => Option.isSome_iff_exists.1 (h2.there (j := i * 4 + m) (show _ < n * 4 by omega))
 obtain ⟨v0, g0⟩ := g 0 (by omega)
 obtain ⟨v1, g1⟩ := g 1 (by omega)
 obtain ⟨v2, g2⟩ := g 2 (by omega)
 obtain ⟨v3, g3⟩ := g 3 (by omega)
 exact ⟨⟨v0, v1, v2, v3, g0, g1, g2, g3⟩, h2.bare _, h2.bare _, h2.bare _, h2.bare _⟩
theorem DelAt.skip (h : DelAt p xs N w rb n cap i j u) (hj : j < xs.length) (hp : p xs[j] = true) : DelAt p xs N w rb n cap i (j + 1) u := by
 obtain ⟨ys, h1, h2, h3⟩ := h
 exact ⟨ys, h1.skip hj hp, h2, h3⟩
theorem DelAt.put (h : DelAt p xs N w rb n cap i j u) (hj : j < xs.length) (hn : n = xs.length) (hp : p xs[j] = false) {dv ev : Value} (hd : Sq LInt (fun b => b < u.heap.size ∧ b ≠ rb) u dv xs[j].deps) (he : Sq LEff (fun b => b < u.heap.size ∧ b ≠ rb) u ev xs[j].effs) :
  DelAt p xs N w rb n cap (i + 1) (j + 1) (put4 u rb (i * 4) (.int .i64 xs[j].node) (.int .i64 xs[j].seq) dv ev) := by
 obtain ⟨ys, h1, h2, h3⟩ := h
 have hl := h1.lt
 exact ⟨_, h1.stays hj hp, h2.put4 (by omega) hd he, h3.trans (put4_below u (h2.lt rb rfl).1 _ _ _ _ _)⟩
theorem DelAt.lt (h : DelAt p xs N w rb n cap i j u) : i < j ∧ j ≤ xs.length ∧ rb < u.heap.size ∧ N ≤ rb := by
 obtain ⟨ys, h1, h2, h3⟩ := h
 exact ⟨h1.lt, h1.le, (h2.lt rb rfl).2, (h2.lt rb rfl).1⟩
theorem DelAt.done (h : DelAt p xs N w rb n cap i xs.length u) (hn : n = xs.length) (vs : List Value) : OwnE LTxn N (u.setCells rb (i * 4) vs) (.slice (some ⟨rb, 0, none⟩) i cap) (xs.filter fun x => !p x) ∧ Below N w (u.setCells rb (i * 4) vs) := by
 obtain ⟨ys, h1, h2, h3⟩ := h
 have hl := h1.lt
 have h4 := h2.cut (i := i) (by omega)
 rw [h1.done] at h4
 exact ⟨h4.clearOut vs (Nat.le_refl _), h3.trans (below_setCells (h2.lt rb rfl).1 vs _ _)⟩
theorem DelAt.clear (h : DelAt p xs N w rb n cap i xs.length u) (hn : n = xs.length) (ty : TypeId) : (Builtin.clear_ #[24] ty #[.slice (some ⟨rb, i * 4, none⟩) (n - i) (cap - i)]).run Tryz.prog u = .ok (.tuple #[]) (u.setCells rb (i * 4) (Builtin.zeroCells LTxn.zero.cells (n - i)).toList) := by
 obtain ⟨ys, h1, h2, h3⟩ := h
 have hl := h1.lt
 exact run_clear_el LTxn zero_one u ty rb (i * 4) (n - i) (cap - i) (by omega) (fun j hj => h2.there (by have hj' : j < (n - i) * 4 := hj; show _ < n * 4; omega)) fun j hj => h2.bare _
end
set_option maxRecDepth 100000 in
set_option maxHeartbeats 16000000 in
theorem txdelete_any {lv : Value} {xs : List PTxn} {N : Nat} {w : World} (h : OwnE LTxn N w lv xs) (hN : N ≤ w.heap.size) (hl : xs.length ≤ 1000000) (p : PTxn → Bool) (g : Nat) (lb : Array Value)
  (eg : ∀ args w, (callFunc g args).run Tryz.prog w = .ok (.enter g args) w)
  (hp : ∀ W d tv, d ∈ xs → Below N w W → IsTxn W tv d → Calls Tryz.prog g (#[tv] ++ lb) W (GivesB W (p d))) :
  Calls Tryz.prog 69 #[lv, .func (.func g) #[] lb] w fun e w' => ∃ v, e = .returned v ∧ OwnE LTxn N w' v (xs.filter fun x => !p x) ∧ Below N w w' := by
 have KI := Lib.hid (txindex_any h.seq hl p g lb eg fun W d tv hd hb => hp W d tv hd (hb.mono hN))
 have e10 : ∀ args w, (callFunc 63 args).run Tryz.prog w = .ok (.enter 63 args) w := enters_of Tryz.func63 (by kernel_rfl) rfl
 have HO := Lib.hid h
 have HP := Lib.hid hp
 have HN := Lib.hid hN
 obtain ⟨a, cap, rfl, L1, L2, -, g0⟩ := h.parts
 obtain ⟨n, hn⟩ : ∃ n, n = xs.length := ⟨_, rfl⟩
 have HL := Lib.hid hn
 rw [← hn] at KI HO L1 ⊢
 clear h hp hN hn g0
 by_cases hz : 0 < n
 rotate_left
 ·obtain rfl : n = 0 := by omega
  have HF : Hid ((xs.filter fun x => !p x) = xs) := Lib.hid (by rw [List.eq_nil_of_length_eq_zero HL.out.symm]; rfl)
  rw [HF.out]
  clear HF hz
  go_enter Tryz.func69, Tryz.ntmps69
  go_wp2_with fail
  refine KI.out.mono ?_
  rintro e w1 ⟨r, rfl, hr, hb⟩
  obtain rfl : r = -1 := by
   rcases hr with ⟨e, -⟩ | ⟨k, -, hk, -⟩
   ·exact e
   ·have := HL.out; omega
  have G := Lib.hid hb
  clear hr hb KI
  go_wp2_with fail
  go_ret
  exact ⟨_, rfl, HO.out.below G.out (Nat.le_refl _), G.out.mono HN.out⟩
 obtain ⟨rb, rfl⟩ : ∃ rb, a = some ⟨rb, 0, none⟩ := by
  obtain ⟨vals, ho, -⟩ := HO.out
  rcases ho.2 with ⟨-, h0⟩ | ⟨g, cap', cur, hv, -⟩
  ·have := HL.out; omega
  ·simp only [Value.slice.injEq] at hv; exact ⟨g, hv.1⟩
 have i1 : (n : Int) ≤ cap := by omega
 have i2 : (cap : Int) ≤ 9223372036854775807 := by omega
 have RB := Lib.hid (HO.out.lt rb rfl)
 clear L1 L2
 go_enter Tryz.func69, Tryz.ntmps69
 go_wp2_with fail
 refine KI.out.mono ?_
 rintro e w1 ⟨r, rfl, hr, hb⟩
 have G := Lib.hid hb
 clear hb KI
 rcases hr with ⟨rfl, hall⟩ | ⟨k, rfl, hk, hyes, hno⟩
 ·have HF : Hid ((xs.filter fun x => !p x) = xs) := Lib.hid (del_none fun j hj => by rw [← getD_getElem hj]; exact hall j hj)
  clear hall
  go_wp2_with fail
  go_ret
  exact ⟨_, rfl, by rw [HF.out]; exact HO.out.below G.out (Nat.le_refl _), G.out.mono HN.out⟩
 ·have D0 : Hid (DelAt p xs N w rb n cap k (k + 1) w1) := Lib.hid ⟨xs, DelInv.start hk (fun j hj hjk => by rw [← getD_getElem hj]; exact hno j hjk) (by rw [← getD_getElem hk]; exact hyes), HO.out.below G.out (Nat.le_refl _), G.out.mono HN.out⟩
  have bk : ((k : Int) == -1) = false := beq_false_of_ne (by omega)
  have hkn : (k : Int) < n := by have := HL.out; omega
  clear hyes hno hk
  go_wp2_with fail
  go_loopw [5, 6] (fun s5 s6 wr => ∃ i j : Nat, s5 = .int .i64 i ∧ s6 = .int .i64 j ∧ j ≤ n ∧ Aside (DelAt p xs N w rb n cap i j wr)) (fun _ s6 _ => n - (intOf s6).toNat)
  case atStart => exact ⟨k, k + 1, rfl, by go_num, by omega, D0.out⟩
  case round =>
   obtain ⟨i, j, rfl, rfl, hj, hrel⟩ := hrel
   have D := Lib.hid (Aside.out hrel)
   have hij : i < j := D.out.lt.1
   clear hrel D0
   by_cases hlt : j < n
   ·have hjx : j < xs.length := by rw [← HL.out]; exact hlt
    have HJX := Lib.hid hjx
    obtain ⟨da, dn, dc, ea, en, ec, TA, SD, SE⟩ := D.out.at hjx
    have HD := Lib.hid SD
    have HE := Lib.hid SE
    have hm : xs[j] ∈ xs := List.getElem_mem hjx
    have KP := Lib.hid (fun W tv (hb : Below N w W) (ht : IsTxn W tv xs[j]) => HP.out W xs[j] tv hm hb ht)
    have SK := Lib.hid (fun (hp : p xs[j] = true) => D.out.skip hjx hp)
    have PU := Lib.hid (fun (u : World) (hb : Below wr.heap.size wr u) (hp : p xs[j] = false) => (D.out.below hb (by have := D.out.lt; omega)).put (dv := .slice da dn dc) (ev := .slice ea en ec) hjx HL.out hp ((SD.agree fun b hq => hb.block b hq.1).mono fun b hq => ⟨Nat.lt_of_lt_of_le hq.1 hb.size, hq.2⟩) ((SE.agree fun b hq => hb.block b hq.1).mono fun b hq => ⟨Nat.lt_of_lt_of_le hq.1 hb.size, hq.2⟩))
    have IN := Lib.hid (fun (u : World) (hb : Below wr.heap.size wr u) => (D.out.below hb (by have := D.out.lt; omega)).into hjx HL.out)
    have GN : Hid (Below N w wr ∧ N ≤ wr.heap.size) := Lib.hid (by obtain ⟨ys, -, -, h3⟩ := D.out; have := D.out.lt; exact ⟨h3, by omega⟩)
    obtain ⟨c0, c1, c2, c3⟩ := TA
    generalize xs[j] = t at *
    clear hjx SD SE hm
    have hk1 : (j : Int) < n := by omega
    have hk2 : (i : Int) < n := by omega
    have BE := Lib.hid ((Below.refl wr.heap.size wr).alloc (Nat.le_refl _) (.cells #[.int .i64 t.node, .int .i64 t.seq, .slice da dn dc, .slice ea en ec] 29))
    have TB : Hid (TxBox wr.heap.size t da dn dc ea en ec (wr.alloc (.cells #[.int .i64 t.node, .int .i64 t.seq, .slice da dn dc, .slice ea en ec] 29))) := Lib.hid (txbox_new (HD.out.mono fun b hb => hb.1) (HE.out.mono fun b hb => hb.1))
    go_upto_region 8 with fail
    clear c0 c1 c2 c3
    generalize (wr.alloc (.cells #[.int .i64 t.node, .int .i64 t.seq, .slice da dn dc, .slice ea en ec] 29)) = wd at *
    obtain ⟨c0, c1, c2, c3⟩ := TB.out.c
    have K2 := KP.out wd _ (GN.out.1.trans (BE.out.mono GN.out.2)) TB.out.is
    cases hq : p t with
    | true =>
     rw [hq] at K2
     have SKK := Lib.hid (SK.out hq)
     clear hq
     go_wp2_with (go_at_fn g; refine K2.mono ?_; rintro e w2 ⟨rfl, hb⟩)
     have G2 := Lib.hid (BE.out.trans (hb.mono BE.out.size))
     clear hb c0 c1 c2 c3 K2
     go_wp2_with fail
     go_roundw
     case rel => exact ⟨i, j + 1, rfl, by go_num, by omega, SKK.out.below G2.out GN.out.2⟩
     case measure => simp [intOf]; omega
    | false =>
     rw [hq] at K2
     have HQ := Lib.hid hq
     clear hq
     go_upto_region 9 with (go_at_fn g; refine K2.mono ?_; rintro e w2 ⟨rfl, hb⟩; have G2 := Lib.hid (BE.out.trans (hb.mono BE.out.size)); have TB2 := Lib.hid (TB.out.below hb); clear hb c0 c1 c2 c3)
     clear K2
     obtain ⟨d0, d1, d2, d3⟩ := TB2.out.c
     obtain ⟨⟨v0, v1, v2, v3, y0, y1, y2, y3⟩, f0, f1, f2, f3⟩ := IN.out w2 G2.out
     have DN := Lib.hid (PU.out w2 G2.out HQ.out)
     unfold put4 at DN
     go_wp2_with fail
     go_roundw
     case rel => exact ⟨i + 1, j + 1, by go_num, by go_num, by omega, DN.out⟩
     case measure => simp [intOf]; omega
   ·obtain rfl : j = n := by omega
    have DJ : Hid (DelAt p xs N w rb j cap i xs.length wr) := Lib.hid (by have := D.out; rwa [HL.out] at this ⊢)
    have hcl := fun ty => DJ.out.clear HL.out ty
    have DD := Lib.hid (DJ.out.done HL.out (Builtin.zeroCells LTxn.zero.cells (j - i)).toList)
    have hi1 : (i : Int) ≤ j := by omega
    have hi2 : ¬ (i : Int) = cap := by omega
    have hi3 : ¬ cap = i := by omega
    generalize wr.setCells rb (i * 4) (Builtin.zeroCells LTxn.zero.cells (j - i)).toList = wz at *
    go_wp2_with fail
    go_ret
    exact ⟨_, rfl, DD.out.1, DD.out.2⟩
end Go.Proofs.YtajfliemmfdnhaaGreat
