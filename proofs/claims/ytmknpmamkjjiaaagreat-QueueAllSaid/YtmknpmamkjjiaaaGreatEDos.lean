/- What the program's own madeAndLeft of effects leaves. (Written by gen-eleft.py.) What the program's own Do of effects leaves. What the program's own Only of effects leaves, and slices.Clone of dots. What the law's own functions names and has leave. -/
import Derived.Test.YtmknpmamkjjiaaaGreatEForms
import Derived.Test.YtmknpmamkjjiaaaGreatISets
import Derived.Test.YtmknpmamkjjiaaaGreatRefSs
import Derived.IntWalk
import Derived.Test.YtmknpmamkjjiaaaGreatShelf
import Derived.Test.YtmknpmamkjjiaaaGreatGives
import Derived.Sort.Grow
import Derived.Deep.RegionHeld3
import Derived.Deep.Cut
import Derived.Test.YtmknpmamkjjiaaaGreatElSorts
import Derived.Test.YtmknpmamkjjiaaaGreatRefE
import Derived.Test.YtmknpmamkjjiaaaGreatElGs
import Derived.Test.YtmknpmamkjjiaaaGreatIKeyF
import Derived.Test.YtmknpmamkjjiaaaGreatEMades
namespace Go.Proofs.YtmknpmamkjjiaaaGreat
open Go.RowKit Plain Go.Maps
set_option linter.unusedVariables false

end Go.Proofs.YtmknpmamkjjiaaaGreat
namespace Go.Proofs.YtmknpmamkjjiaaaGreat
open Go.RowKit Plain
set_option linter.unusedVariables false

end Go.Proofs.YtmknpmamkjjiaaaGreat
namespace Go.Proofs.YtmknpmamkjjiaaaGreat
open Go.RowKit Plain
set_option linter.unusedVariables false

set_option maxRecDepth 100000 in
set_option maxHeartbeats 1000000 in
/-- slices.Clone of dots -/
theorem dclone_any {u : Value} {xs : List PDot} {w : World} (hu : SeqE LDot w u xs) (hn : xs.length ≤ 1000000) : Calls Tryz.prog 60 #[u] w (MadeE LDot w xs) := by
 obtain ⟨a, cap, rfl, -, -, g0, h⟩ := hu.parts
 have q22 : ∀ (w : World) (a : Option Addr) (n c n' c' : Nat), (binOp .eql 59 (.slice a n c) (.slice none n' c')).run Tryz.prog w = .ok (.bool a.isNone) w := fun w a n c n' c' => Lib.run_eql_slice_nil w _ _ a n c n' c' Tryz.underlying59
 cases a with
 | none =>
  obtain rfl := g0 rfl
  obtain rfl : xs = [] := List.eq_nil_of_length_eq_zero (by have := h.dims; omega)
  go_enter Tryz.func60, Tryz.ntmps60
  go_wp2_with fail
  go_ret
  exact ⟨_, rfl, OwnE.nil _ _, Below.refl _ _⟩
 | some ad =>
  have HS := Lib.hid (h.below_alloc (.cells #[] 54))
  have HO := Lib.hid (OwnE.empty (L := LDot) w w.heap.size (Nat.le_refl _))
  have HB := Lib.hid ((Below.refl w.heap.size w).alloc (Nat.le_refl _) (.cells #[] 54))
  have hz : w.heap.size ≤ (w.alloc (.cells #[] 54)).heap.size := by simp
  have HZ := Lib.hid hz
  clear hu h g0 hz
  go_enter Tryz.func60, Tryz.ntmps60
  go_wp2_with (at_builtin; refine wpList_append_el LDot rfl (.tmp 5) (.tmp 6) rfl w.heap.size rfl HO.out rfl HS.out (fun _ _ h => h) (by simp; omega) HZ.out ?_)
  intro v' w2 ho' hgr _
  have O3 := Lib.hid ho'
  have B3 := Lib.hid (HB.out.grown hgr HZ.out (fun j hj => (HO.out.lt j hj).1))
  clear ho' hgr
  go_wp2_with fail
  go_ret
  exact ⟨_, rfl, by simpa using O3.out, B3.out⟩

/-! ### the keys that are asked at once -/
def zeroP : PItem := ⟨[], [], 0, [], 0, ⟨0, 0, 0⟩⟩
theorem zero_item (P : Nat → Prop) (w : World) : LItem.R P w LItem.zero.cells.toList zeroP := rfl
theorem pt_set8 (vals : List Value) (j i : Nat) (u : Value) (hj : j * 8 < vals.length) : pt 8 (vals.set (j * 8) u) i = if i = j then (pt 8 vals j).set 0 u else pt 8 vals i := by
 have len : ∀ (l : List Value) (q : Nat), (pt 8 l q).length ≤ 8 := fun l q => by unfold pt; rw [List.length_take]; omega
 apply List.ext_getElem?
 intro r
 by_cases hr : r < 8
 ·rw [pt_get _ _ _ hr, List.getElem?_set]
  by_cases e : i = j
  ·subst e
   rw [if_pos rfl, List.getElem?_set]
   by_cases r0 : r = 0
   ·subst r0
    have h0 : 0 < (pt 8 vals i).length := by unfold pt; rw [List.length_take, List.length_drop]; omega
    rw [if_pos (by omega), if_pos hj, if_pos rfl, if_pos h0]
   ·rw [if_neg (by omega), if_neg (fun h => r0 h.symm), pt_get _ _ _ hr]
  ·rw [if_neg e, if_neg (by omega), pt_get _ _ _ hr]
 ·have h1 := len (vals.set (j * 8) u) i
  rw [List.getElem?_eq_none (by omega)]
  split
  ·rw [List.getElem?_eq_none (by rw [List.length_set]; have := len vals j; omega)]
  ·rw [List.getElem?_eq_none (by have := len vals i; omega)]
/-- an item whose Key is stored -/
theorem OwnE.setKey {B : Nat} {w : World} {g n cap : Nat} {xs : List PItem} (h : OwnE LItem B w (.slice (some ⟨g, 0, none⟩) n cap) xs) {j : Nat} (hj : j < xs.length) (s : Txt) :
  OwnE LItem B (w.setCell ⟨g, j * 8, none⟩ (.string (bt s))) (.slice (some ⟨g, 0, none⟩) n cap) (xs.set j ⟨s, (xs.getD j default).field, (xs.getD j default).kind, (xs.getD j default).elem, (xs.getD j default).n, (xs.getD j default).dot⟩) := by
 have hn := h.seq.dims.1
 obtain ⟨vals, ho, hr⟩ := h
 rw [hn] at ho
 have hs := (World.ownsRow.stored ho (j * 8) (.string (bt s))).1
 have hl : vals.length = xs.length * 8 := hr.1
 refine ⟨vals.set (j * 8) (.string (bt s)), by rw [List.length_set, hn]; exact hs, by rw [List.length_set, List.length_set]; exact hl, fun i x hx => ?_⟩
 show pt 8 (vals.set (j * 8) (.string (bt s))) i = cellsIt x
 rw [pt_set8 vals j i _ (by omega)]
 rw [List.getElem?_set] at hx
 by_cases e : i = j
 ·subst e
  rw [if_pos rfl, if_pos hj] at hx
  rw [if_pos rfl]
  have h0 : pt 8 vals i = cellsIt (xs.getD i default) := hr.2 i _ (getD_at hj)
  rw [h0, ← Option.some.inj hx]
  rfl
 ·rw [if_neg (fun h => e h.symm)] at hx
  rw [if_neg e]
  exact hr.2 i x hx
theorem OwnE.freeI {B : Nat} {w : World} {g n cap : Nat} {xs : List PItem} (h : OwnE LItem B w (.slice (some ⟨g, 0, none⟩) n cap) xs) (j : Nat) : w.frozen? ⟨g, j, none⟩ = false := by
 have hn := h.seq.dims.1
 obtain ⟨vals, ho, -⟩ := h
 rw [hn] at ho
 exact World.ownsRow.frozenAt ho j
def keysK (l : List PEff) (k : Nat) : List PItem := (l.take k).map keyI ++ List.replicate (l.length - k) zeroP
theorem keysK_zero (l : List PEff) : keysK l 0 = List.replicate l.length zeroP := by unfold keysK; simp
theorem keysK_all (l : List PEff) : keysK l l.length = l.map keyI := by unfold keysK; simp
theorem keysK_len (l : List PEff) {k : Nat} (hk : k ≤ l.length) : (keysK l k).length = l.length := by unfold keysK; simp; omega
theorem keysK_at (l : List PEff) {k : Nat} (hk : k < l.length) : (keysK l k).getD k default = zeroP := by
 unfold keysK
 have h1 : ((l.take k).map keyI).length = k := by simp; omega
 rw [List.getD, List.getElem?_append_right (by omega), h1, Nat.sub_self, List.getElem?_replicate, if_pos (by omega)]
 rfl
theorem keysK_next (l : List PEff) {k : Nat} (hk : k < l.length) : (keysK l k).set k (keyI (l.getD k default)) = keysK l (k + 1) := by
 have h1 : ((l.take k).map keyI).length = k := by simp; omega
 unfold keysK
 rw [List.set_append_right _ _ (by omega), h1, Nat.sub_self, take_nextD hk, List.map_append, List.append_assoc]
 congr 1
 obtain ⟨m, hm⟩ : ∃ m, l.length - k = m + 1 := ⟨l.length - k - 1, by omega⟩
 rw [hm, show l.length - (k + 1) = m by omega, List.replicate_succ]
 rfl

/-! ### Only -/
theorem aw_cover {l : List PEff} {zs : List Txt} {k : Nat} (hk : k < l.length) : decide ((l.getD k default).key ∈ coveredK l zs) = covers zs (l.getD k default).key := covered_way (mem_defE hk)
/-- an effect whose Drops are stored anew -/
theorem EffAt.drops {w : World} {b : Nat} {x : PEff} {dv : Value} (h : EffAt w b 0 x dv) (u : Value) : EffAt (w.setCell ⟨b, 6, none⟩ u) b 0 x u := by
 obtain ⟨c0, c1, c2, c3, c4, c5, c6⟩ := h
 simp only [Nat.zero_add] at c1 c2 c3 c4 c5 c6
 exact ⟨(World.cell?_setCell_other _ _ _ _ (by simp)).trans c0, (World.cell?_setCell_other _ _ _ _ (by simp)).trans c1, (World.cell?_setCell_other _ _ _ _ (by simp)).trans c2, (World.cell?_setCell_other _ _ _ _ (by simp)).trans c3, (World.cell?_setCell_other _ _ _ _ (by simp)).trans c4, (World.cell?_setCell_other _ _ _ _ (by simp)).trans c5, World.cell?_setCell_same _ _ _ c6⟩
/-- one effect in a block of its own, behind a variable that was stored into -/
theorem one_eff {W : World} {x : PEff} {av : Option Addr} {nv cv : Nat} {g C : Nat} {ov : Value} (hC : g < C) (hs : Sq LDot (fun b => C ≤ b ∧ b < W.heap.size) W (.slice av nv cv) x.drops) (hg : ∀ k, ov.ownBlock = some k → k < C) (hz : C ≤ W.heap.size) (u : Value) :
  Sq LEff (fun b => C ≤ b ∧ b < ((W.setCell ⟨g, 6, none⟩ u).alloc (.cells #[.int .i64 x.pos, .string (bt x.key), .string (bt x.field), .int .i64 x.kind, .string (bt x.elem), .int .i64 x.n, .slice av nv cv] 61)).heap.size ∧ ov.ownBlock ≠ some b) ((W.setCell ⟨g, 6, none⟩ u).alloc (.cells #[.int .i64 x.pos, .string (bt x.key), .string (bt x.field), .int .i64 x.kind, .string (bt x.elem), .int .i64 x.n, .slice av nv cv] 61)) (.slice (some ⟨(W.setCell ⟨g, 6, none⟩ u).heap.size, 0, none⟩) 1 1) [x] := by
 have hw : (W.setCell ⟨g, 6, none⟩ u).heap.size = W.heap.size := by simp [World.setCell]
 have hS : ((W.setCell ⟨g, 6, none⟩ u).alloc (.cells #[.int .i64 x.pos, .string (bt x.key), .string (bt x.field), .int .i64 x.kind, .string (bt x.elem), .int .i64 x.n, .slice av nv cv] 61)).heap.size = W.heap.size + 1 := by rw [← hw]; simp
 rw [hS]
 have hB : Below (W.setCell ⟨g, 6, none⟩ u).heap.size (W.setCell ⟨g, 6, none⟩ u) ((W.setCell ⟨g, 6, none⟩ u).alloc (.cells #[.int .i64 x.pos, .string (bt x.key), .string (bt x.field), .int .i64 x.kind, .string (bt x.elem), .int .i64 x.n, .slice av nv cv] 61)) := (Below.refl _ _).alloc (Nat.le_refl _) _
 have hin : Sq LDot (fun b => C ≤ b ∧ b < W.heap.size + 1 ∧ ov.ownBlock ≠ some b) ((W.setCell ⟨g, 6, none⟩ u).alloc (.cells #[.int .i64 x.pos, .string (bt x.key), .string (bt x.field), .int .i64 x.kind, .string (bt x.elem), .int .i64 x.n, .slice av nv cv] 61)) (.slice av nv cv) x.drops :=
  (Sq.agree hs fun b hb => (hB.block b (by rw [hw]; exact hb.2)).trans (Below.heap_setCell _ _ _ _ (show b ≠ g by have := hb.1; omega))).mono fun b hb => ⟨hb.1, by omega, fun e => by have := hg b e; omega⟩
 refine ⟨_, 1, cellsEf x (.slice av nv cv), rfl, Nat.le_refl _, by unfold maxLen; simp, (by simp), Rows.of_one ⟨_, rfl, hin⟩, fun _ => ⟨_, 0, rfl, ⟨by rw [hw]; omega, by rw [hw]; omega, fun e => by have := hg _ e; rw [hw] at this; omega⟩, fun i u' hu => ?_⟩⟩
 rw [Nat.zero_add]
 have := World.cell?_alloc_new (W.setCell ⟨g, 6, none⟩ u) #[.int .i64 x.pos, .string (bt x.key), .string (bt x.field), .int .i64 x.kind, .string (bt x.elem), .int .i64 x.n, .slice av nv cv] 61 i
 rw [this, ← Array.getElem?_toList]
 exact hu
set_option maxRecDepth 100000 in
set_option maxHeartbeats 16000000 in
/-- Only -/
theorem eonly_anyJ {v zv : Value} {l : List PEff} {zs : List Txt} {w : World} (hv : SeqE LEff w v l) (hz : SeqT w zv zs) (hn : l.length ≤ 1000) (hd : ∀ e ∈ l, e.drops.length ≤ 1000) (hzl : zs.length ≤ 1000000) :
  Calls Tryz.prog 47 #[v, zv] w (MadeJ LEff w (eonly l zs)) := by
 have HDM := Lib.hid (fun k hk => hd _ (mem_defE (l := l) (k := k) hk))
 have HKA := Lib.hid (keysK_all l)
 have HK0 := Lib.hid (keysK_zero l)
 have HKN := Lib.hid (fun k hk => keysK_next l (k := k) hk)
 have HKT := Lib.hid (fun k hk => keysK_at l (k := k) hk)
 have HKL := Lib.hid (fun k hk => keysK_len l (k := k) hk)
 have HCV : Hid (∀ k, k < l.length → decide ((l.getD k default).key ∈ coveredK l zs) = (fun j => covers zs (l.getD j default).key) k) := Lib.hid (fun k hk => aw_cover (l := l) (zs := zs) (k := k) hk)
 have HCL : Hid ((coveredK l zs).length ≤ 1000000) := Lib.hid (by have := covered_len l zs; omega)
 have HCR : Hid (Rising (coveredK l zs)) := Lib.hid (rising_once _)
 have KU := Lib.hid (fun (W : World) (kv : Value) (h : Below w.heap.size w W) (hs : SeqE LItem W kv (l.map keyI)) => iunder_any hs (hz.below h) (by rw [List.length_map]; omega) hzl)
 have KK : Hid (∀ (W : World) (kv : Value) (hs : SeqE LItem W kv (iunder (l.map keyI) zs)), Calls Tryz.prog 57 #[kv] W (GivesT W (coveredK l zs))) := Lib.hid (fun W kv hs => ikeys_any hs (by have := iunder_len (l.map keyI) zs; rw [List.length_map] at this; omega))
 have HEO := Lib.hid (only_way l zs)
 rw [← HEO.out]
 have PY : Hid (∀ k, (fun j => covers zs (l.getD j default).key) k = true → pickK (fun j => covers zs (l.getD j default).key) l (k + 1) = pickK (fun j => covers zs (l.getD j default).key) l k ++ [l.getD k default]) := Lib.hid (fun k h => pickK_yes (f := fun j => covers zs (l.getD j default).key) (xs := l) (k := k) h)
 have PN : Hid (∀ k, (fun j => covers zs (l.getD j default).key) k = false → pickK (fun j => covers zs (l.getD j default).key) l (k + 1) = pickK (fun j => covers zs (l.getD j default).key) l k) := Lib.hid (fun k h => pickK_no (f := fun j => covers zs (l.getD j default).key) (xs := l) (k := k) h)
 have PL := Lib.hid (fun k => pickK_len (fun j => covers zs (l.getD j default).key) l k)
 have P0 : Hid (pickK (fun j => covers zs (l.getD j default).key) l 0 = []) := Lib.hid rfl
 obtain ⟨a, cap, rfl, g1, g2, g0, h⟩ := hv.parts
 obtain ⟨az, cz, rfl, -⟩ := hz.parts
 have HS := Lib.hid h
 obtain ⟨n, hN⟩ : ∃ n, l.length = n := ⟨_, rfl⟩
 rw [hN] at g1 hn HS HDM HK0 HKA HKN HKT HKL HCV ⊢
 have LN := Lib.hid hN
 clear hv hz h g0 hd hN
 generalize (fun j => covers zs (l.getD j default).key) = f at *
 generalize zs.length = nz at *
 go_enter Tryz.func47, Tryz.ntmps47
 go_wp2_with (at_make; refine wpList_make_el LItem zeroP zero_item rfl (.tmp 15) rfl n rfl (by omega) ?_)
 intro w1 ho1 hb1 hz1
 have O1 := Lib.hid ho1
 rw [← HK0.out] at O1
 have B1 := Lib.hid hb1
 have Z1 : Hid (w.heap.size < w1.heap.size) := Lib.hid (by omega)
 clear ho1 hb1 hz1
 go_wp2_with fail
 go_loopw [6, 19] (fun _ i wr => ∃ k : Nat, k ≤ n ∧ i = .int .i64 k ∧ OwnE LItem w.heap.size wr (.slice (some ⟨w.heap.size, 0, none⟩) n n) (keysK l k) ∧ Below w.heap.size w wr) (fun _ i _ => n - (intOf i).toNat)
 case atStart => exact ⟨0, Nat.zero_le _, rfl, O1.out, B1.out⟩
 case round =>
  obtain ⟨k, hk, rfl, ho, hb⟩ := hrel
  have HO := Lib.hid ho
  have HB := Lib.hid hb
  clear ho hb
  by_cases hlt : k < n
  ·obtain ⟨b, o, c, hv, -, -, -, hc⟩ := effs_spot (HS.out.below HB.out) (by rw [LN.out]; omega)
   rw [LN.out] at hv
   simp only [Value.slice.injEq] at hv
   obtain ⟨rfl, -, rfl⟩ := hv
   obtain ⟨dv, EX, hsd⟩ := hc k (by rw [LN.out]; exact hlt)
   obtain ⟨da, dc, rfl, -, -, -, hsd⟩ := hsd.parts
   have HNK := Lib.hid (HKN.out k hlt)
   have HTK := Lib.hid (HKT.out k hlt)
   have HLK : Hid (k < (keysK l k).length) := Lib.hid (by rw [HKL.out k hk]; exact hlt)
   clear hc hsd
   generalize l.getD k default = x at *
   obtain ⟨c0, c1, c2, c3, c4, c5, c6⟩ := EX
   generalize x.drops.length = m at *
   have OB := Lib.hid (HO.out.alloc (.cells #[.int .i64 x.pos, .string (bt x.key), .string (bt x.field), .int .i64 x.kind, .string (bt x.elem), .int .i64 x.n, .slice da m dc] 61))
   have GB := Lib.hid (HB.out.alloc HB.out.size (.cells #[.int .i64 x.pos, .string (bt x.key), .string (bt x.field), .int .i64 x.kind, .string (bt x.elem), .int .i64 x.n, .slice da m dc] 61))
   have EB : Hid (EffAt (wr.alloc (.cells #[.int .i64 x.pos, .string (bt x.key), .string (bt x.field), .int .i64 x.kind, .string (bt x.elem), .int .i64 x.n, .slice da m dc] 61)) wr.heap.size 0 x (.slice da m dc)) := Lib.hid (effAt_box wr x da m dc)
   go_upto_region 5 with fail
   clear c0 c1 c2 c3 c4 c5 c6
   generalize (wr.alloc (.cells #[.int .i64 x.pos, .string (bt x.key), .string (bt x.field), .int .i64 x.kind, .string (bt x.elem), .int .i64 x.n, .slice da m dc] 61)) = wb at *
   obtain ⟨c0, c1, c2, c3, c4, c5, c6⟩ := EB.out.zero
   have hcell : wb.cell? ⟨w.heap.size, k * 8, none⟩ = some (.string (bt [])) := by
    obtain ⟨b', o', cc, hv', -, -, -, hc'⟩ := items_spot OB.out.seq (Nat.lt_of_le_of_lt (Nat.zero_le _) HLK.out)
    simp only [Value.slice.injEq, Option.some.injEq, Addr.mk.injEq, and_true] at hv'
    obtain ⟨⟨rfl, rfl⟩, -, -⟩ := hv'
    have := (hc' k HLK.out).c0
    rw [HTK.out, Nat.zero_add] at this
    exact this
   have hfro : wb.frozen? ⟨w.heap.size, k * 8, none⟩ = false := OB.out.freeI _
   have O2 : Hid (OwnE LItem w.heap.size (wb.setCell ⟨w.heap.size, k * 8, none⟩ (.string (bt x.key))) (.slice (some ⟨w.heap.size, 0, none⟩) n n) (keysK l (k + 1))) := Lib.hid (by
    have := OB.out.setKey HLK.out x.key
    rw [HTK.out] at this
    rw [← HNK.out]
    exact this)
   have G2 : Hid (Below w.heap.size w (wb.setCell ⟨w.heap.size, k * 8, none⟩ (.string (bt x.key)))) := Lib.hid (GB.out.setCell (Nat.le_refl _) _)
   have kn : (k : Int) < (n : Int) := by omega
   go_upto_region 6 with fail
   clear c0 c1 c2 c3 c4 c5 c6 hcell hfro
   generalize (wb.setCell ⟨w.heap.size, k * 8, none⟩ (.string (bt x.key))) = w2 at *
   go_wp2_with fail
   go_roundw
   case rel => exact ⟨k + 1, by omega, by go_num, O2.out, G2.out⟩
   case measure => simp [intOf]; omega
  ·obtain rfl : k = n := by omega
   rw [HKA.out] at HO
   have K := KU.out wr _ HB.out HO.out.seq
   clear HO
   go_wp2_with fail
   refine K.mono ?_
   rintro e w3 ⟨v3, rfl, ho, hb⟩
   have G3 := Lib.hid (HB.out.trans (hb.mono HB.out.size))
   have K4 := KK.out w3 v3 ho.seq
   obtain ⟨a3, c3, rfl, -⟩ := ho.parts
   clear ho hb K
   generalize (iunder (l.map keyI) zs).length = n3 at *
   go_wp2_with fail
   refine K4.mono ?_
   rintro e w4 ⟨v4, rfl, hs4, hb⟩
   have G4 := Lib.hid (G3.out.trans (hb.mono G3.out.size))
   have S4 := Lib.hid hs4
   obtain ⟨a4, c4, rfl, -⟩ := hs4.parts
   clear hs4 hb K4
   go_wp2_with fail
   go_loopw [9, 12, 13, 37] (fun z _ _ i wq => ∃ t : Nat, t ≤ k ∧ i = .int .i64 t ∧ OwnJ (fun b => w4.heap.size ≤ b) LEff w4.heap.size wq z (pickK f l t) ∧ Below w4.heap.size w4 wq) (fun _ _ _ i _ => k - (intOf i).toNat)
   case atStart => exact ⟨0, Nat.zero_le _, rfl, by rw [P0.out]; exact OwnJ.nil _ _ _, Below.refl _ _⟩
   case round =>
    rename World => wq
    obtain ⟨t, ht, rfl, ho, hb⟩ := hrel
    have HO := Lib.hid ho
    have HB4 := Lib.hid hb
    have HB : Hid (Below w.heap.size w wq) := Lib.hid (G4.out.trans (hb.mono G4.out.size))
    have HC := Lib.hid (S4.out.below hb)
    have HPL := Lib.hid (PL.out t)
    clear ho hb
    by_cases hlt : t < k
    ·obtain ⟨b, o, c, hv, -, -, -, hc⟩ := effs_spot (HS.out.below HB.out) (by rw [LN.out]; omega)
     rw [LN.out] at hv
     simp only [Value.slice.injEq] at hv
     obtain ⟨rfl, -, rfl⟩ := hv
     obtain ⟨dv, EX, hsd⟩ := hc t (by rw [LN.out]; exact hlt)
     obtain ⟨da, dc, rfl, -, -, -, hsd⟩ := hsd.parts
     have HM := HDM.out t hlt
     have HCT := HCV.out t hlt
     have PYT := Lib.hid (PY.out t)
     have PNT := Lib.hid (PN.out t)
     clear hc
     generalize l.getD t default = x at *
     obtain ⟨c0, c1, c2, c3', c4', c5, c6⟩ := EX
     obtain ⟨m, hM⟩ : ∃ m, x.drops.length = m := ⟨_, rfl⟩
     rw [hM] at hsd c6 HM
     have LM := Lib.hid hM
     clear hM
     have SB := Lib.hid (hsd.below_alloc (.cells #[.int .i64 x.pos, .string (bt x.key), .string (bt x.field), .int .i64 x.kind, .string (bt x.elem), .int .i64 x.n, .slice da m dc] 61))
     have BX := Lib.hid ((Below.refl wq.heap.size wq).alloc (Nat.le_refl _) (.cells #[.int .i64 x.pos, .string (bt x.key), .string (bt x.field), .int .i64 x.kind, .string (bt x.elem), .int .i64 x.n, .slice da m dc] 61))
     have CB := Lib.hid (HC.out.below_alloc (.cells #[.int .i64 x.pos, .string (bt x.key), .string (bt x.field), .int .i64 x.kind, .string (bt x.elem), .int .i64 x.n, .slice da m dc] 61))
     have EB : Hid (EffAt (wq.alloc (.cells #[.int .i64 x.pos, .string (bt x.key), .string (bt x.field), .int .i64 x.kind, .string (bt x.elem), .int .i64 x.n, .slice da m dc] 61)) wq.heap.size 0 x (.slice da m dc)) := Lib.hid (effAt_box wq x da m dc)
     have ZB : Hid ((wq.alloc (.cells #[.int .i64 x.pos, .string (bt x.key), .string (bt x.field), .int .i64 x.kind, .string (bt x.elem), .int .i64 x.n, .slice da m dc] 61)).heap.size = wq.heap.size + 1) := Lib.hid (by simp)
     have FB : Hid ((wq.alloc (.cells #[.int .i64 x.pos, .string (bt x.key), .string (bt x.field), .int .i64 x.kind, .string (bt x.elem), .int .i64 x.n, .slice da m dc] 61)).frozen? ⟨wq.heap.size, 6, none⟩ = false) := Lib.hid (by simp)
     clear hsd
     go_upto_region 12 with fail
     clear c0 c1 c2 c3' c4' c5 c6
     generalize (wq.alloc (.cells #[.int .i64 x.pos, .string (bt x.key), .string (bt x.field), .int .i64 x.kind, .string (bt x.elem), .int .i64 x.n, .slice da m dc] 61)) = wb at *
     obtain ⟨j, -, h1, h2, KS⟩ := search_texts CB.out HCR.out HCL.out x.key
     rw [found_iff HCR.out h1 h2] at KS
     clear h1 h2
     obtain ⟨c0, c1, c2, c3', c4', c5, c6⟩ := EB.out.zero
     rw [HCT] at KS
     clear HCT
     go_wp2_with fail
     refine KS.mono ?_
     rintro e w5 ⟨rfl, q, hw5⟩
     have B5 : Below wb.heap.size wb w5 := by rw [hw5]; exact below_drewN (Below.refl _ _) q
     have Z5 : w5.heap.size = wb.heap.size := by rw [hw5]; rfl
     clear hw5 KS
     have E5 := Lib.hid (EB.out.below B5 EB.out.lt)
     have BQ : Hid (Below wq.heap.size wq w5) := Lib.hid (BX.out.trans (B5.mono BX.out.size))
     have SD := SB.out.below B5
     have F5 : w5.frozen? ⟨wq.heap.size, 6, none⟩ = false := (B5.frozen (p := ⟨wq.heap.size, 6, none⟩) (show wq.heap.size < wb.heap.size by rw [ZB.out]; omega)).trans FB.out
     have ZQ : Hid (wq.heap.size < w5.heap.size) := Lib.hid (by rw [Z5, ZB.out]; omega)
     clear c0 c1 c2 c3' c4' c5 c6
     obtain ⟨c0, c1, c2, c3', c4', c5, c6⟩ := E5.out.zero
     cases hf : f t with
     | false =>
      have HX := Lib.hid (PNT.out hf)
      have O5 : Hid (OwnJ (fun b => w4.heap.size ≤ b) LEff w4.heap.size w5 _ (pickK f l t)) := Lib.hid (HO.out.below BQ.out (Nat.le_refl _))
      have G5 := Lib.hid (HB4.out.trans (BQ.out.mono HB4.out.size))
      clear hf B5 F5 SD
      go_wp2_with fail
      clear c0 c1 c2 c3' c4' c5 c6
      go_roundw
      case rel => exact ⟨t + 1, by omega, by go_num, by rw [HX.out]; exact O5.out, G5.out⟩
      case measure => simp [intOf]; omega
     | true =>
      have HX := Lib.hid (PYT.out hf)
      have KC := dclone_any SD (by rw [LM.out]; omega)
      have FZ := Lib.hid F5
      clear hf B5 F5 SD
      go_wp2_with fail
      refine KC.mono ?_
      rintro e w6 ⟨v6, rfl, ho6, hb6⟩
      have N6 := Lib.hid (ho6.new flat_dot)
      have E6 := Lib.hid (E5.out.below hb6 E5.out.lt)
      have BQ6 : Hid (Below wq.heap.size wq w6) := Lib.hid (BQ.out.trans (hb6.mono BQ.out.size))
      have f6 : w6.frozen? ⟨wq.heap.size, 6, none⟩ = false := (hb6.frozen (p := ⟨wq.heap.size, 6, none⟩) ZQ.out).trans FZ.out
      have Z6 : Hid (w5.heap.size ≤ w6.heap.size) := Lib.hid hb6.size
      obtain ⟨a6, c6x, rfl, -⟩ := ho6.parts
      rw [LM.out] at N6
      clear ho6 hb6 KC c0 c1 c2 c3' c4' c5 c6
      obtain ⟨c0, c1, c2, c3', c4', c5, c6⟩ := E6.out.zero
      rw [LM.out]
      have E7 : Hid (EffAt (w6.setCell ⟨wq.heap.size, 6, none⟩ (.slice a6 m c6x)) wq.heap.size 0 x (.slice a6 m c6x)) := Lib.hid (E6.out.drops _)
      have Z7 : Hid ((w6.setCell ⟨wq.heap.size, 6, none⟩ (.slice a6 m c6x)).heap.size = w6.heap.size) := Lib.hid (by simp [World.setCell])
      have BQ7 : Hid (Below wq.heap.size wq (w6.setCell ⟨wq.heap.size, 6, none⟩ (.slice a6 m c6x))) := Lib.hid (BQ6.out.setCell (Nat.le_refl _) _)
      have ONE := Lib.hid (fun (ov : Value) (hov : ∀ k, ov.ownBlock = some k → k < w5.heap.size) => one_eff (x := x) (g := wq.heap.size) (C := w5.heap.size) (ov := ov) ZQ.out N6.out hov Z6.out (.slice a6 m c6x))
      go_upto_region 15 with fail
      clear c0 c1 c2 c3' c4' c5 c6 f6
      generalize (w6.setCell ⟨wq.heap.size, 6, none⟩ (.slice a6 m c6x)) = w7 at *
      obtain ⟨c0, c1, c2, c3', c4', c5, c6⟩ := E7.out.zero
      have O7 := Lib.hid (HO.out.below BQ7.out (Nat.le_refl _))
      have G7 : Hid (Below w4.heap.size w4 w7) := Lib.hid (HB4.out.trans (BQ7.out.mono HB4.out.size))
      have OL := HO.out.lt
      obtain ⟨ao, co, rfl, -⟩ := HO.out.own.parts
      have H45 := HB4.out.size
      have H5 := BQ.out.size
      go_wp2_with (at_builtin; refine wpList_append_elJ (fun b => w4.heap.size ≤ b) LEff rfl (.tmp 53) (.tmp 55) rfl w4.heap.size rfl (O7.out.alloc _) rfl (ONE.out _ (fun k hk => Nat.lt_trans (HO.out.lt k hk).2 ZQ.out)) (fun _ _ h => LEff.mono h fun b hb => ⟨by have := hb.1; omega, hb.2⟩) (by have := HPL.out; simp; omega) (by have := G7.out.size; simp; omega) ?_)
      intro v8 w8 ho8 hgr _
      have O8 := Lib.hid ho8
      have G8 : Hid (Below w4.heap.size w4 w8) := Lib.hid (G7.out.trans (((Below.refl w4.heap.size w7).alloc G7.out.size _).grown hgr (by have := G7.out.size; simp; omega) (fun j hj => (HO.out.lt j hj).1)))
      rw [← HX.out] at O8
      clear ho8 hgr c0 c1 c2 c3' c4' c5 c6
      go_wp2_with fail
      go_roundw
      case rel => exact ⟨t + 1, by omega, by go_num, O8.out, G8.out⟩
      case measure => simp [intOf]; omega
    ·obtain rfl : t = k := by omega
     have OE := Lib.hid ((HO.out.mono G4.out.size).imp fun b hb => Nat.le_trans G4.out.size hb)
     go_wp2_with fail
     go_ret
     exact ⟨_, rfl, OE.out, HB.out⟩
end Go.Proofs.YtmknpmamkjjiaaaGreat
namespace Go.Proofs.YtmknpmamkjjiaaaGreat
open Go.RowKit Plain
set_option linter.unusedVariables false

end Go.Proofs.YtmknpmamkjjiaaaGreat
