/- What slices.Clone, slices.IndexFunc, slices.ContainsFunc, slices.Concat of transactions leave. (Written by gen-lists.py.) -/
import Derived.Test.YtajfliemmfdnhaaGreatTxn
import Derived.Test.YtajfliemmfdnhaaGreatTxUses
import Derived.Test.YtajfliemmfdnhaaGreatGives
import Derived.Lib.AppendZeros
import Derived.WalkSpells
import Derived.Shelf.Abstract
import Derived.Deep.DeepCutAuto
namespace Go.Proofs.YtajfliemmfdnhaaGreat
open Go.RowKit Plain
set_option linter.unusedVariables false

set_option maxRecDepth 100000 in
set_option maxHeartbeats 1000000 in
theorem txclone_any {P : Nat → Prop} {u : Value} {xs : List PTxn} {w : World} (hu : Sq LTxn P w u xs) (hP : ∀ b, P b → b < w.heap.size) (hn : xs.length ≤ 1000000) : Calls Tryz.prog 70 #[u] w fun e w' => ∃ v, e = .returned v ∧ OwnJ P LTxn w.heap.size w' v xs ∧ Below w.heap.size w w' := by
 obtain ⟨a, cap, rfl, -, -, g0, h⟩ := SeqE.parts (L := LTxn) (hu.mono hP)
 have q22 : ∀ (w : World) (a : Option Addr) (n c n' c' : Nat), (binOp .eql 24 (.slice a n c) (.slice none n' c')).run Tryz.prog w = .ok (.bool a.isNone) w := fun w a n c n' c' => Lib.run_eql_slice_nil w _ _ a n c n' c' Tryz.underlying24
 cases a with
 | none =>
  obtain rfl := g0 rfl
  obtain rfl : xs = [] := List.eq_nil_of_length_eq_zero (by have := h.dims; omega)
  clear hu h hP
  go_enter Tryz.func70, Tryz.ntmps70
  go_wp2_with fail
  go_ret
  exact ⟨_, rfl, OwnJ.nil _ _ _, Below.refl _ _⟩
 | some ad =>
  have hB := (Below.refl w.heap.size w).alloc (Nat.le_refl _) (.cells #[] 29)
  have HS : Hid (Sq LTxn P (w.alloc (.cells #[] 29)) (.slice (some ad) xs.length cap) xs) := Lib.hid (Sq.agree hu fun b hb => hB.block b (hP b hb))
  have HO : Hid (OwnJ P LTxn w.heap.size (w.alloc (.cells #[] LTxn.E)) (.slice (some ⟨w.heap.size, 0, none⟩) 0 0) []) := Lib.hid ⟨[], World.ownsRow_made w #[] 0 (Nat.le_refl _) (Nat.zero_le _) (by simp), Rows.nil _ _⟩
  have HB := Lib.hid hB
  have hz : w.heap.size ≤ (w.alloc (.cells #[] 29)).heap.size := by simp
  have HZ := Lib.hid hz
  have HI : Hid (∀ vs x, LTxn.R P (w.alloc (.cells #[] 29)) vs x → LTxn.R (fun b => P b ∧ b < (w.alloc (.cells #[] 29)).heap.size ∧ Value.ownBlock (.slice (some ⟨w.heap.size, 0, none⟩) 0 0) ≠ some b) (w.alloc (.cells #[] 29)) vs x) := Lib.hid (fun vs x h => LTxn.mono h fun b hb => ⟨hb, Nat.lt_of_lt_of_le (hP b hb) hz, fun e => by cases e; exact Nat.lt_irrefl _ (hP _ hb)⟩)
  clear hu h g0 hz hB hP
  go_enter Tryz.func70, Tryz.ntmps70
  go_wp2_with (at_builtin; refine wpList_append_elJ P LTxn rfl (.tmp 5) (.tmp 6) rfl w.heap.size rfl HO.out rfl HS.out HI.out (by simp; omega) HZ.out ?_)
  intro v' w2 ho' hgr _
  have O3 := Lib.hid ho'
  have B3 := Lib.hid (HB.out.grown hgr HZ.out (fun j hj => (HO.out.lt j hj).1))
  clear ho' hgr
  go_wp2_with fail
  go_ret
  exact ⟨_, rfl, by simpa using O3.out, B3.out⟩

def FirstAt (p : PTxn → Bool) (ds : List PTxn) (r : Int) : Prop := (r = -1 ∧ ∀ j, j < ds.length → p (ds.getD j default) = false) ∨ ∃ k : Nat, r = (k : Int) ∧ k < ds.length ∧ p (ds.getD k default) = true ∧ ∀ j, j < k → p (ds.getD j default) = false
theorem FirstAt.any {p : PTxn → Bool} {ds : List PTxn} {r : Int} (h : FirstAt p ds r) : decide (0 ≤ r) = ds.any p := by
 rcases h with ⟨rfl, h⟩ | ⟨k, rfl, hk, h, -⟩
 ·rw [Eq.comm]
  show ds.any p = false
  rw [List.any_eq_false]
  intro d hd
  obtain ⟨j, hj, rfl⟩ := List.getElem_of_mem hd
  have := h j hj
  rw [show ds.getD j default = ds[j] by simp [List.getD, List.getElem?_eq_getElem hj]] at this
  rw [this]
  decide
 ·rw [decide_eq_true (by omega), Eq.comm, List.any_eq_true]
  exact ⟨_, List.mem_of_getElem? (getD_at hk), h⟩
set_option maxRecDepth 100000 in
set_option maxHeartbeats 2000000 in
theorem txindex_any {v : Value} {ds : List PTxn} {w : World} (hv : SeqE LTxn w v ds) (hn : ds.length ≤ 1000000) (p : PTxn → Bool) (g : Nat) (lb : Array Value)
  (eg : ∀ args w, (callFunc g args).run Tryz.prog w = .ok (.enter g args) w)
  (hp : ∀ W d tv, d ∈ ds → Below w.heap.size w W → IsTxn W tv d → Calls Tryz.prog g (#[tv] ++ lb) W (GivesB W (p d))) :
  Calls Tryz.prog 63 #[v, .func (.func g) #[] lb] w fun e w' => ∃ r : Int, e = .returned (.int .i64 r) ∧ FirstAt p ds r ∧ Below w.heap.size w w' := by
 obtain ⟨a, cap, rfl, g1, g2, g0, h⟩ := hv.parts
 have HS := Lib.hid h
 have HP := Lib.hid hp
 have HM := Lib.hid (fun k (hk : k < ds.length) => (List.mem_of_getElem? (getD_at hk) : ds.getD k default ∈ ds))
 clear hp hv h g0
 obtain ⟨n, hN⟩ : ∃ n, ds.length = n := ⟨_, rfl⟩
 rw [hN] at hn g1 HS HM ⊢
 have LN := Lib.hid hN
 clear hN
 go_enter Tryz.func63, Tryz.ntmps63
 go_wp2_with fail
 go_loopw [8] (fun i wr => ∃ k : Nat, k ≤ n ∧ i = .int .i64 k ∧ (∀ j, j < k → p (ds.getD j default) = false) ∧ Below w.heap.size w wr) (fun i _ => n - (intOf i).toNat)
 case atStart => exact ⟨0, Nat.zero_le _, rfl, fun j hj => absurd hj (by omega), Below.refl _ _⟩
 case round =>
  obtain ⟨k, hk, rfl, hall, hb⟩ := hrel
  have HA := Lib.hid hall
  have HB := Lib.hid hb
  clear hall hb
  by_cases hlt : k < n
  ·obtain ⟨b, o, c, hv, -, -, -, hc⟩ := txns_spot (HS.out.below HB.out) (by rw [LN.out]; omega)
   rw [LN.out] at hv
   simp only [Value.slice.injEq] at hv
   obtain ⟨rfl, -, rfl⟩ := hv
   obtain ⟨dv, ev, ⟨c0, c1, c2, c3⟩, hdv, hev⟩ := hc k (by rw [LN.out]; exact hlt)
   have HAK : Hid (p (ds.getD k default) = false → ∀ j, j < k + 1 → p (ds.getD j default) = false) := Lib.hid (fun h j hj => by
    by_cases e : j = k
    ·rw [e]; exact h
    ·exact HA.out j (by omega))
   have K := HP.out wr (ds.getD k default) _ (HM.out k hlt) HB.out ⟨_, _, rfl, hdv, hev⟩
   obtain ⟨da, dc, rfl, -⟩ := hdv.parts
   obtain ⟨ea, ec, rfl, -⟩ := hev.parts
   obtain ⟨d, hd⟩ : ∃ d, d = ds.getD k default := ⟨_, rfl⟩
   have HD := Lib.hid hd
   rw [← hd] at K c0 c1 c2 c3 HAK
   clear hc hd hdv hev
   cases hpd : p d with
   | true =>
    rw [hpd] at K
    have HPD := Lib.hid hpd
    clear hpd
    go_wp2_with (go_at_fn g; refine K.mono ?_; rintro e w1 ⟨rfl, hb⟩)
    have G := Lib.hid (HB.out.trans (hb.mono HB.out.size))
    clear hb c0 c1 c2 c3 K
    go_wp2_with fail
    go_ret
    exact ⟨k, rfl, .inr ⟨k, rfl, by rw [LN.out]; exact hlt, by rw [← HD.out]; exact HPD.out, HA.out⟩, G.out⟩
   | false =>
    rw [hpd] at K
    have HX := Lib.hid (HAK.out hpd)
    clear hpd
    go_wp2_with (go_at_fn g; refine K.mono ?_; rintro e w1 ⟨rfl, hb⟩)
    have G := Lib.hid (HB.out.trans (hb.mono HB.out.size))
    clear hb c0 c1 c2 c3 K
    go_wp2_with fail
    go_roundw
    case rel => exact ⟨k + 1, by omega, by go_num, HX.out, G.out⟩
    case measure => simp [intOf]; omega
  ·obtain rfl : k = n := by omega
   go_wp2_with fail
   go_ret
   exact ⟨-1, rfl, .inl ⟨rfl, by rw [LN.out]; exact HA.out⟩, HB.out⟩

set_option maxRecDepth 100000 in
set_option maxHeartbeats 1000000 in
theorem txcontains_any {v : Value} {ds : List PTxn} {w : World} (hv : SeqE LTxn w v ds) (hn : ds.length ≤ 1000000) (p : PTxn → Bool) (g : Nat) (lb : Array Value)
  (eg : ∀ args w, (callFunc g args).run Tryz.prog w = .ok (.enter g args) w)
  (hp : ∀ W d tv, d ∈ ds → Below w.heap.size w W → IsTxn W tv d → Calls Tryz.prog g (#[tv] ++ lb) W (GivesB W (p d))) :
  Calls Tryz.prog 38 #[v, .func (.func g) #[] lb] w (GivesB w (ds.any p)) := by
 have K := txindex_any hv hn p g lb eg hp
 obtain ⟨a, cap, rfl, -⟩ := hv.parts
 generalize ds.length = n at *
 clear hv hp
 go_enter Tryz.func38, Tryz.ntmps38
 go_wp2_with fail
 refine K.mono ?_
 rintro e w1 ⟨q, rfl, hq, hb⟩
 have G := Lib.hid hb
 have hq := hq.any
 generalize ds.any p = r at *
 subst hq
 clear hb K
 go_wp2_with fail
 go_ret
 exact ⟨rfl, G.out⟩

theorem own_room {α : Type} {L : El α} {N : Nat} {w : World} {v : Value} {xs : List α} (h : OwnE L N w v xs) (hN : N ≤ w.heap.size) : ∀ vs x, L.R (· < N) w vs x → L.R (fun b => b < w.heap.size ∧ v.ownBlock ≠ some b) w vs x :=
 fun vs x hr => L.mono hr fun b hb => ⟨Nat.lt_of_lt_of_le hb hN, fun e => by have := (h.lt b e).1; omega⟩
def flatX (f : Nat → List PTxn) : Nat → List PTxn
 | 0 => []
 | k + 1 => flatX f k ++ f k
theorem flatX_len (f : Nat → List PTxn) (k n : Nat) (h : k ≤ n) : (flatX f k).length ≤ (flatX f n).length := by
 induction n with
 | zero =>
  obtain rfl : k = 0 := by omega
  exact Nat.le_refl _
 | succ n ih =>
  by_cases e : k = n + 1
  ·subst e; exact Nat.le_refl _
  ·have := ih (by omega)
   rw [flatX, List.length_append]; omega

set_option maxRecDepth 100000 in
set_option maxHeartbeats 4000000 in
theorem growX_nil (n : Nat) (hn : n ≤ 1073741824) (w : World) : Calls Tryz.prog 55 #[.slice none 0 0, .int .i64 n] w (MadeE LTxn w []) := by
 obtain ⟨i0, hi, hz0, hz1, hz2⟩ := info_el LTxn
 have hk8 : LTxn.k = 4 := rfl
 have hb88 : LTxn.bytes = 64 := rfl
 rw [hk8] at hz1
 rw [hb88] at hz2
 by_cases h0 : n = 0
 ·subst h0
  go_enter Tryz.func55, Tryz.ntmps55
  go_wp2_with fail
  go_ret
  exact ⟨_, rfl, OwnE.nil _ _, Below.refl _ _⟩
 ·have hp : 0 < n := by omega
  have hr := Lib.run_append_nil_zeros (P := Tryz.prog) w 24 3 24 29 i0 zeroTx .i64 .i64 Tryz.underlying24 Tryz.underlying3 hi hz0 n hp (by omega) (by omega) (by rw [hz2]; omega)
  have hge := grownCap_ge w n 0 29
  have hcm : grownCap w n 0 29 ≤ maxLen := grownCap_le_maxLen w n 0 29 (by unfold maxLen; omega)
  have hO : OwnE LTxn w.heap.size (w.drew.alloc (.cells (Builtin.zeroCells zeroTx.cells n ++ Builtin.zeroCells zeroTx.cells (grownCap w n 0 29 - n)) 29)) (.slice (some ⟨w.heap.size, 0, none⟩) 0 (grownCap w n 0 29)) [] := by
   refine ⟨[], World.ownsRow_made (size := 4) w.drew _ _ (Nat.le_refl _) hcm ?_, Rows.nil _ _⟩
   have hz1 : zeroTx.cells.size = 4 := rfl
   simp only [Array.size_append, size_zeroCells, hz1]
   omega
  have hB : Below w.heap.size w (w.drew.alloc (.cells (Builtin.zeroCells zeroTx.cells n ++ Builtin.zeroCells zeroTx.cells (grownCap w n 0 29 - n)) 29)) := (Below.refl _ _).drew.alloc (Nat.le_refl _) _
  have HO := Lib.hid hO
  have HB := Lib.hid hB
  have HR := Lib.hid hr
  have hm : maxLen = 9223372036854775807 := rfl
  rw [hm] at hcm
  clear hO hB hr hz0 hz1 hz2 hi hm h0
  generalize hG : grownCap w n 0 29 = G at *
  clear hG
  generalize (Builtin.zeroCells zeroTx.cells n ++ Builtin.zeroCells zeroTx.cells (G - n)) = Z at *
  go_enter Tryz.func55, Tryz.ntmps55
  go_wp2_with (at_builtin; refine Lib.wpList_append_run _ rfl _ _ _ _ rfl _ _ rfl rfl _ _ HR.out ?_)
  go_ret
  exact ⟨_, rfl, HO.out, HB.out⟩

set_option maxRecDepth 100000 in
set_option maxHeartbeats 4000000 in
theorem concatX_any (b n c : Nat) (vs : Nat → Value) (f : Nat → List PTxn) (w : World) (hn : n ≤ 1000) (hc : ∀ j, j < n → w.cell? ⟨b, j, none⟩ = some (vs j)) (hs : ∀ j, j < n → SeqE LTxn w (vs j) (f j)) (hlen : (flatX f n).length ≤ 1000000000) :
  Calls Tryz.prog 29 #[.slice (some ⟨b, 0, none⟩) n c] w (MadeE LTxn w (flatX f n)) := by
 have HC := Lib.hid hc
 have HS := Lib.hid hs
 clear hc hs
 go_enter Tryz.func29, Tryz.ntmps29
 go_wp2_with fail
 go_loop [3, 11] (fun s i => ∃ k : Nat, k ≤ n ∧ i = .int .i64 k ∧ s = .int .i64 (flatX f k).length) (fun _ i => n - (intOf i).toNat)
 case atStart => exact ⟨0, Nat.zero_le _, rfl, rfl⟩
 case round =>
  obtain ⟨k, hk, rfl, rfl⟩ := hrel
  have hl := flatX_len f k n hk
  by_cases hlt : k < n
  ·have hcell := HC.out k hlt
   obtain ⟨a, cap, hv, h1, h2, h0, hs⟩ := (HS.out k hlt).parts
   rw [hv] at hcell
   have hl' := flatX_len f (k + 1) n (by omega)
   have e : (flatX f (k + 1)).length = (flatX f k).length + (f k).length := by rw [flatX, List.length_append]
   have E := Lib.hid e
   have hl2 : (flatX f k).length + (f k).length ≤ 1000000000 := by omega
   clear h0 hs hv e hl'
   go_wp2_with fail
   go_round
   case rel => exact ⟨k + 1, by omega, by go_num, by rw [E.out]; go_num⟩
   case measure => simp [intOf]; omega
  ·obtain rfl : k = n := by omega
   go_wp2_with fail
   refine (growX_nil _ (by omega) _).mono ?_
   rintro e w1 ⟨v1, rfl, ho1, hb1⟩
   have O1 := Lib.hid ho1
   clear ho1
   go_wp2_with fail
   go_loopw [6, 27] (fun v i wr => ∃ j : Nat, j ≤ k ∧ i = .int .i64 j ∧ OwnE LTxn w.heap.size wr v (flatX f j) ∧ Below w.heap.size w wr) (fun _ i _ => k - (intOf i).toNat)
   case atStart => exact ⟨0, Nat.zero_le _, rfl, O1.out, hb1⟩
   case round =>
    obtain ⟨j, hj, rfl, ho, hb⟩ := hrel
    have hl3 := flatX_len f j k hj
    by_cases hlt : j < k
    ·have hcell0 := HC.out j hlt
     have hblt : b < w.heap.size := World.block_lt_of_cell? w ⟨b, j, none⟩ hcell0
     obtain ⟨a, cap, hv, h1, h2, h0, hs⟩ := (HS.out j hlt).parts
     rw [hv] at hcell0
     have hcell := (hb.cell (p := ⟨b, j, none⟩) hblt).trans hcell0
     have hl' := flatX_len f (j + 1) k (by omega)
     have E : Hid (flatX f (j + 1) = flatX f j ++ f j) := Lib.hid rfl
     have hl2 : (flatX f j).length + (f j).length ≤ 1000000000 := by rw [E.out, List.length_append] at hl'; omega
     have hsz := hb.size
     have S1 : Hid (Sq LTxn (· < w.heap.size) wr (.slice a (f j).length cap) (f j)) := Lib.hid (Sq.agree hs fun b hl => hb.block b hl)
     have O2 := Lib.hid ho
     have B2 := Lib.hid hb
     clear h0 hs hv hl' ho hb hcell0
     go_wp2_with (at_builtin; refine wpList_append_el LTxn rfl (.tmp 31) (.tmp 32) rfl w.heap.size rfl O2.out rfl S1.out (own_room O2.out hsz) (by omega) (by omega) ?_)
     intro v2 w2 ho2 hg2 _
     have hb2 : Below w.heap.size w w2 := B2.out.grown hg2 (by omega) (fun k hk => (O2.out.lt k hk).1)
     have O3 := Lib.hid ho2
     clear ho2 hg2 hcell
     go_wp2_with fail
     go_roundw
     case rel => exact ⟨j + 1, by omega, by go_num, by rw [E.out]; exact O3.out, hb2⟩
     case measure => simp [intOf]; omega
    ·obtain rfl : j = k := by omega
     have O2 := Lib.hid ho
     clear ho
     go_wp2_with fail
     go_ret
     exact ⟨_, rfl, O2.out, hb⟩

theorem concatX_two (b c : Nat) {u v : Value} {xs ys : List PTxn} (w : World) (h0 : w.cell? ⟨b, 0, none⟩ = some u) (h1 : w.cell? ⟨b, 1, none⟩ = some v) (hu : SeqE LTxn w u xs) (hv : SeqE LTxn w v ys) (hlen : xs.length + ys.length ≤ 1000000000) :
  Calls Tryz.prog 29 #[.slice (some ⟨b, 0, none⟩) 2 c] w (MadeE LTxn w (xs ++ ys)) := by
 have h := concatX_any b 2 c (fun j => if j = 0 then u else v) (fun j => if j = 0 then xs else ys) w (by omega)
  (fun j hj => by match j, hj with | 0, _ => exact h0 | 1, _ => exact h1) (fun j hj => by match j, hj with | 0, _ => exact hu | 1, _ => exact hv) (by simp [flatX]; omega)
 simpa [flatX] using h
end Go.Proofs.YtajfliemmfdnhaaGreat
