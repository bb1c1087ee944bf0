/- The program's own alone: a transaction in memory of its own. (Written by gen-lone.py.) -/
import Derived.Test.YtpnpomocjkmncaaGreatOrCon
import Derived.Test.YtpnpomocjkmncaaGreatOrHps
import Derived.Test.YtpnpomocjkmncaaGreatStore
import Derived.Test.YtpnpomocjkmncaaGreatRefTxOC
import Derived.Test.YtpnpomocjkmncaaGreatEDos
import Derived.Deep.DeepCutAuto
namespace Go.Proofs.YtpnpomocjkmncaaGreat
open Go.RowKit Plain
set_option linter.unusedVariables false

set_option maxRecDepth 100000 in
set_option maxHeartbeats 1000000 in
theorem eclone_any {P : Nat → Prop} {u : Value} {xs : List PEff} {w : World} (hu : Sq LEff P w u xs) (hP : ∀ b, P b → b < w.heap.size) (hn : xs.length ≤ 1000000) : Calls Tryz.prog 132 #[u] w fun e w' => ∃ v, e = .returned v ∧ OwnJ P LEff w.heap.size w' v xs ∧ Below w.heap.size w w' := by
 obtain ⟨a, cap, rfl, -, -, g0, h⟩ := SeqE.parts (L := LEff) (hu.mono hP)
 have q22 : ∀ (w : World) (a : Option Addr) (n c n' c' : Nat), (binOp .eql 28 (.slice a n c) (.slice none n' c')).run Tryz.prog w = .ok (.bool a.isNone) w := fun w a n c n' c' => Lib.run_eql_slice_nil w _ _ a n c n' c' Tryz.underlying28
 cases a with
 | none =>
  obtain rfl := g0 rfl
  obtain rfl : xs = [] := List.eq_nil_of_length_eq_zero (by have := h.dims; omega)
  clear hu h hP
  go_enter Tryz.func132, Tryz.ntmps132
  go_wp2_with fail
  go_ret
  exact ⟨_, rfl, OwnJ.nil _ _ _, Below.refl _ _⟩
 | some ad =>
  have hB := (Below.refl w.heap.size w).alloc (Nat.le_refl _) (.cells #[] 59)
  have HS : Hid (Sq LEff P (w.alloc (.cells #[] 59)) (.slice (some ad) xs.length cap) xs) := Lib.hid (Sq.agree hu fun b hb => hB.block b (hP b hb))
  have HO : Hid (OwnJ P LEff w.heap.size (w.alloc (.cells #[] LEff.E)) (.slice (some ⟨w.heap.size, 0, none⟩) 0 0) []) := Lib.hid ⟨[], World.ownsRow_made w #[] 0 (Nat.le_refl _) (Nat.zero_le _) (by simp), Rows.nil _ _⟩
  have HB := Lib.hid hB
  have hz : w.heap.size ≤ (w.alloc (.cells #[] 59)).heap.size := by simp
  have HZ := Lib.hid hz
  have HI : Hid (∀ vs x, LEff.R P (w.alloc (.cells #[] 59)) vs x → LEff.R (fun b => P b ∧ b < (w.alloc (.cells #[] 59)).heap.size ∧ Value.ownBlock (.slice (some ⟨w.heap.size, 0, none⟩) 0 0) ≠ some b) (w.alloc (.cells #[] 59)) vs x) := Lib.hid (fun vs x h => LEff.mono h fun b hb => ⟨hb, Nat.lt_of_lt_of_le (hP b hb) hz, fun e => by cases e; exact Nat.lt_irrefl _ (hP _ hb)⟩)
  clear hu h g0 hz hB hP
  go_enter Tryz.func132, Tryz.ntmps132
  go_wp2_with (at_builtin; refine wpList_append_elJ P LEff rfl (.tmp 5) (.tmp 6) rfl w.heap.size rfl HO.out rfl HS.out HI.out (by simp; omega) HZ.out ?_)
  intro v' w2 ho' hgr _
  have O3 := Lib.hid ho'
  have B3 := Lib.hid (HB.out.grown hgr HZ.out (fun j hj => (HO.out.lt j hj).1))
  clear ho' hgr
  go_wp2_with fail
  go_ret
  exact ⟨_, rfl, by simpa using O3.out, B3.out⟩

structure LoneAt (N : Nat) (u : World) (rb c : Nat) (xs : List PEff) (k : Nat) (vals : List Value) : Prop where
 own : u.ownsRow N 59 7 (.slice (some ⟨rb, 0, none⟩) xs.length c) xs.length vals
 len : vals.length = xs.length * 7
 each : ∀ j x, xs[j]? = some x → REff (fun b => (j < k → N ≤ b) ∧ b < u.heap.size ∧ b ≠ rb) u (pt 7 vals j) x
theorem LoneAt.start {N : Nat} {u : World} {rb c : Nat} {xs : List PEff} (h : OwnE LEff N u (.slice (some ⟨rb, 0, none⟩) xs.length c) xs) : ∃ vals, LoneAt N u rb c xs 0 vals := by
 obtain ⟨vals, ho, hr⟩ := h
 exact ⟨vals, ho, hr.1, fun j x hj => monoEf (hr.2 j x hj) fun b hb => ⟨fun h => absurd h (Nat.not_lt_zero _), hb.1, fun e => hb.2 (by rw [e]; rfl)⟩⟩
theorem LoneAt.below {N : Nat} {u u' : World} {rb c : Nat} {xs : List PEff} {k : Nat} {vals : List Value} (h : LoneAt N u rb c xs k vals) (hb : Below u.heap.size u u') : LoneAt N u' rb c xs k vals := by
 refine ⟨⟨h.own.1, ?_⟩, h.len, fun j x hj => monoEf (agreeEf (h.each j x hj) fun b hl => hb.block b hl.2.1) fun b hl => ⟨hl.1, Nat.lt_of_lt_of_le hl.2.1 hb.size, hl.2.2⟩⟩
 rcases h.own.2 with hn | ⟨g, cap, cur, hv, hb', hg, hr'⟩
 ·exact .inl hn
 ·exact .inr ⟨g, cap, cur, hv, hb', (hb.block g (Array.getElem?_eq_some_iff.1 hg).1).trans hg, hr'⟩
theorem LoneAt.lt {N : Nat} {u : World} {rb c : Nat} {xs : List PEff} {k : Nat} {vals : List Value} (h : LoneAt N u rb c xs k vals) : N ≤ rb ∧ rb < u.heap.size := World.ownsRow.lt h.own rb rfl
theorem LoneAt.at {N : Nat} {u : World} {rb c : Nat} {xs : List PEff} {k : Nat} {vals : List Value} (h : LoneAt N u rb c xs k vals) {j : Nat} {x : PEff} (hj : xs[j]? = some x) :
  ∃ dv, EffAt u rb (j * 7) x dv ∧ Sq LDot (fun b => (j < k → N ≤ b) ∧ b < u.heap.size ∧ b ≠ rb) u dv x.drops := by
 obtain ⟨dv, e, hs⟩ := h.each j x hj
 have hlt : j < xs.length := (List.getElem?_eq_some_iff.1 hj).1
 have g : ∀ i v, i < 7 → (cellsEf x dv)[i]? = some v → u.cell? ⟨rb, j * 7 + i, none⟩ = some v := fun i v hi hv => by
  rw [World.ownsRow.cellAt h.own (j * 7 + i) (by omega), ← pt_get vals j i hi, e, hv]
 exact ⟨dv, ⟨g 0 _ (by omega) rfl, g 1 _ (by omega) rfl, g 2 _ (by omega) rfl, g 3 _ (by omega) rfl, g 4 _ (by omega) rfl, g 5 _ (by omega) rfl, g 6 _ (by omega) rfl⟩, hs⟩
theorem pt_set7 (vals : List Value) (k j : Nat) (u : Value) (hk : (k + 1) * 7 ≤ vals.length) : pt 7 (vals.set (k * 7 + 6) u) j = if j = k then (pt 7 vals k).set 6 u else pt 7 vals j := by
 have len : ∀ (l : List Value) (q : Nat), (pt 7 l q).length ≤ 7 := fun l q => by unfold pt; rw [List.length_take]; omega
 have hl : (pt 7 vals k).length = 7 := by unfold pt; rw [List.length_take, List.length_drop]; omega
 apply List.ext_getElem?
 intro i
 by_cases hi : i < 7
 ·rw [pt_get _ _ _ hi, List.getElem?_set]
  by_cases c : j = k
  ·subst c
   rw [if_pos rfl, List.getElem?_set]
   by_cases e : i = 6
   ·subst e
    rw [if_pos rfl, if_pos (by omega), if_pos rfl, if_pos (by omega)]
   ·rw [if_neg (by omega), if_neg (fun x => e x.symm), pt_get _ _ _ hi]
  ·rw [if_neg (by omega), if_neg c, pt_get _ _ _ hi]
 ·rw [List.getElem?_eq_none (by have := len (vals.set (k * 7 + 6) u) j; omega)]
  split
  ·rw [List.getElem?_eq_none (by rw [List.length_set, hl]; omega)]
  ·rw [List.getElem?_eq_none (by have := len vals j; omega)]
theorem LoneAt.set {N : Nat} {u : World} {rb c : Nat} {xs : List PEff} {k : Nat} {vals : List Value} (h : LoneAt N u rb c xs k vals) {x : PEff} (hk : xs[k]? = some x) {dv : Value} (hd : Sq LDot (fun b => N ≤ b ∧ b < u.heap.size ∧ b ≠ rb) u dv x.drops) :
  LoneAt N (u.setCell ⟨rb, k * 7 + 6, none⟩ dv) rb c xs (k + 1) (vals.set (k * 7 + 6) dv) := by
 have hlt : k < xs.length := (List.getElem?_eq_some_iff.1 hk).1
 have hs : (u.setCell ⟨rb, k * 7 + 6, none⟩ dv).heap.size = u.heap.size := by simp [World.setCell]
 have hkl : (k + 1) * 7 ≤ vals.length := by rw [h.len]; exact Nat.mul_le_mul_right 7 hlt
 have hne : ∀ b, b ≠ rb → (u.setCell ⟨rb, k * 7 + 6, none⟩ dv).heap[b]? = u.heap[b]? := fun b e => Below.heap_setCell _ _ _ _ e
 refine ⟨(World.ownsRow.stored h.own (k * 7 + 6) dv).1, by rw [List.length_set]; exact h.len, fun j y hj => ?_⟩
 rw [pt_set7 vals k j dv hkl]
 by_cases e : j = k
 ·subst e
  rw [hk] at hj
  cases hj
  rw [if_pos rfl]
  obtain ⟨dv0, e0, -⟩ := h.each j x hk
  rw [e0]
  exact ⟨dv, rfl, (hd.agree fun b hb => hne b hb.2.2).mono fun b hb => ⟨fun _ => hb.1, by rw [hs]; exact hb.2.1, hb.2.2⟩⟩
 ·rw [if_neg e]
  exact monoEf (agreeEf (h.each j y hj) fun b hb => hne b hb.2.2) fun b hb => ⟨fun hl => hb.1 (by omega), by rw [hs]; exact hb.2.1, hb.2.2⟩
theorem LoneAt.done {N : Nat} {u : World} {rb c : Nat} {xs : List PEff} {vals : List Value} (h : LoneAt N u rb c xs xs.length vals) : Sq LEff (fun b => N ≤ b ∧ b < u.heap.size) u (.slice (some ⟨rb, 0, none⟩) xs.length c) xs := by
 have hlt := h.lt
 have hd := World.ownsRow.cellAt h.own
 rcases h.own.2 with ⟨e, -⟩ | ⟨g, cap, cur, hv, hb', hg, hnc, hcm, hcs, ht⟩
 ·cases e
 ·simp only [Value.slice.injEq, Option.some.injEq, Addr.mk.injEq, and_true, true_and] at hv
  obtain ⟨rfl, rfl⟩ := hv
  refine ⟨_, c, vals, rfl, hnc, hcm, (by simp), ⟨h.len, fun j x hj => monoEf (h.each j x hj) fun b hb => ⟨hb.1 (List.getElem?_eq_some_iff.1 hj).1, hb.2.1⟩⟩, fun hp => ⟨rb, 0, rfl, hlt, fun i v hi => ?_⟩⟩
  have hil : i < xs.length * 7 := by rw [← h.len]; exact (List.getElem?_eq_some_iff.1 hi).1
  rw [Nat.zero_add, hd i hil, hi]
def GivesLone (w : World) (t : PTxn) (e : Ending) (w' : World) : Prop := ∃ dv ev, e = .returned (.agg #[.int .i64 t.node, .int .i64 t.seq, dv, ev]) ∧ Sq LInt (fun b => w.heap.size ≤ b ∧ b < w'.heap.size) w' dv t.deps ∧ Sq LEff (fun b => w.heap.size ≤ b ∧ b < w'.heap.size) w' ev t.effs ∧ Below w.heap.size w w'
theorem st4q {w : World} {g : Nat} {z0 z1 z2 z3 : Value} {t : TypeId} (h : w.heap[g]? = some (.cells #[z0, z1, z2, z3] t (0, 0))) :
  (∀ a, (w.setCell ⟨g, 0, none⟩ a).cell? ⟨g, 0, none⟩ = some a) ∧ (∀ a b, ((w.setCell ⟨g, 0, none⟩ a).setCell ⟨g, 1, none⟩ b).cell? ⟨g, 1, none⟩ = some b) ∧ (∀ a b c, (((w.setCell ⟨g, 0, none⟩ a).setCell ⟨g, 1, none⟩ b).setCell ⟨g, 2, none⟩ c).cell? ⟨g, 2, none⟩ = some c) ∧
  (∀ a b c d, ((((w.setCell ⟨g, 0, none⟩ a).setCell ⟨g, 1, none⟩ b).setCell ⟨g, 2, none⟩ c).setCell ⟨g, 3, none⟩ d).cell? ⟨g, 3, none⟩ = some d) := by
 have h1 := fun a => heap_setCell_same _ g 0 _ _ a h
 have h2 := fun a b => heap_setCell_same _ g 1 _ _ b (h1 a)
 have h3 := fun a b c => heap_setCell_same _ g 2 _ _ c (h2 a b)
 have h4 := fun a b c d => heap_setCell_same _ g 3 _ _ d (h3 a b c)
 exact ⟨fun a => by simp [World.cell?, h1 a], fun a b => by simp [World.cell?, h2 a b], fun a b c => by simp [World.cell?, h3 a b c], fun a b c d => by simp [World.cell?, h4 a b c d]⟩
theorem sq4 {α : Type} {L : El α} {N : Nat} {w : World} {v : Value} {xs : List α} {g : Nat} (h : Sq L (fun b => N ≤ b ∧ b < w.heap.size ∧ b ≠ g) w v xs) (a b c d : Value) :
  Sq L (fun k => N ≤ k ∧ k < ((((w.setCell ⟨g, 0, none⟩ a).setCell ⟨g, 1, none⟩ b).setCell ⟨g, 2, none⟩ c).setCell ⟨g, 3, none⟩ d).heap.size) ((((w.setCell ⟨g, 0, none⟩ a).setCell ⟨g, 1, none⟩ b).setCell ⟨g, 2, none⟩ c).setCell ⟨g, 3, none⟩ d) v xs := by
 have e : ∀ (u : World) (i : Nat) (x : Value) k, k ≠ g → (u.setCell ⟨g, i, none⟩ x).heap[k]? = u.heap[k]? := fun u i x k hk => Below.heap_setCell _ _ _ _ hk
 have z : ∀ (u : World) (i : Nat) (x : Value), (u.setCell ⟨g, i, none⟩ x).heap.size = u.heap.size := fun u i x => by simp [World.setCell]
 rw [z, z, z, z]
 exact (h.agree fun k hk => (e _ _ _ _ hk.2.2).trans ((e _ _ _ _ hk.2.2).trans ((e _ _ _ _ hk.2.2).trans (e _ _ _ _ hk.2.2)))).mono fun k hk => ⟨hk.1, hk.2.1⟩
theorem OwnE.parts_none {α : Type} {L : El α} {B : Nat} {w : World} {a : Option Addr} {n c : Nat} {xs : List α} (h : OwnE L B w (.slice a n c) xs) : a = none → c = 0 := by
 obtain ⟨a', c', e, -, -, -, h0⟩ := h.parts
 simp only [Value.slice.injEq] at e
 obtain ⟨rfl, -, rfl⟩ := e
 exact h0
theorem getD_some {xs : List PEff} {k : Nat} (h : k < xs.length) : xs[k]? = some (xs.getD k default) := by simp [List.getD, h]
set_option maxRecDepth 100000 in
set_option maxHeartbeats 16000000 in
theorem alone_any {tv : Value} {t : PTxn} {w : World} (ht : IsTxn w tv t) (hd : t.deps.length ≤ 1000000) (he : t.effs.length ≤ 1000000) (hx : ∀ e ∈ t.effs, e.drops.length ≤ 1000000) : Calls Tryz.prog 93 #[tv] w (GivesLone w t) := by
 obtain ⟨da, dn, dc, ea, en, ec, rfl, k1, k2⟩ := ht.parts
 have HK1 := Lib.hid k1
 have HK2 := Lib.hid k2
 have HX := Lib.hid (fun k (hk : k < t.effs.length) => hx (t.effs.getD k default) (List.mem_of_getElem? (getD_some hk)))
 have B0 := Lib.hid (heap_alloc_new w (.cells #[.int .i64 t.node, .int .i64 t.seq, .slice da dn dc, .slice ea en ec] 30))
 have Z0 := Lib.hid (heap_alloc_new (w.alloc (.cells #[.int .i64 t.node, .int .i64 t.seq, .slice da dn dc, .slice ea en ec] 30)) (.cells #[.int .i64 0, .int .i64 0, .slice none 0 0, .slice none 0 0] 30))
 have G0 : Hid (Below w.heap.size w ((w.alloc (.cells #[.int .i64 t.node, .int .i64 t.seq, .slice da dn dc, .slice ea en ec] 30)).alloc (.cells #[.int .i64 0, .int .i64 0, .slice none 0 0, .slice none 0 0] 30))) := Lib.hid (((Below.refl _ _).alloc (Nat.le_refl _) _).alloc (by simp) _)
 have BX : Hid (((w.alloc (.cells #[.int .i64 t.node, .int .i64 t.seq, .slice da dn dc, .slice ea en ec] 30)).alloc (.cells #[.int .i64 0, .int .i64 0, .slice none 0 0, .slice none 0 0] 30)).heap[w.heap.size]? = some (.cells #[.int .i64 t.node, .int .i64 t.seq, .slice da dn dc, .slice ea en ec] 30 (0, 0))) := Lib.hid ((Below.heap_alloc _ _ _ (by simp)).trans B0.out)
 have BZ : Hid (((w.alloc (.cells #[.int .i64 t.node, .int .i64 t.seq, .slice da dn dc, .slice ea en ec] 30)).alloc (.cells #[.int .i64 0, .int .i64 0, .slice none 0 0, .slice none 0 0] 30)).heap[w.heap.size + 1]? = some (.cells #[.int .i64 0, .int .i64 0, .slice none 0 0, .slice none 0 0] 30 (0, 0))) := Lib.hid (by have := Z0.out; simpa using this)
 have ZS : Hid (w.heap.size + 2 ≤ ((w.alloc (.cells #[.int .i64 t.node, .int .i64 t.seq, .slice da dn dc, .slice ea en ec] 30)).alloc (.cells #[.int .i64 0, .int .i64 0, .slice none 0 0, .slice none 0 0] 30)).heap.size) := Lib.hid (by simp)
 have HDL := Lib.hid hd
 have HEL := Lib.hid he
 clear ht k1 k2 hx B0 Z0 hd he
 go_enter Tryz.func93, Tryz.ntmps93
 go_upto_region 1 with fail
 generalize ((w.alloc (.cells #[.int .i64 t.node, .int .i64 t.seq, .slice da dn dc, .slice ea en ec] 30)).alloc (.cells #[.int .i64 0, .int .i64 0, .slice none 0 0, .slice none 0 0] 30)) = wb at *
 have KD := Lib.hid (tclone_any (HK1.out.below G0.out) HDL.out)
 have c2 : wb.cell? ⟨w.heap.size, 2, none⟩ = some (.slice da dn dc) := cell_of_row _ _ 2 _ _ _ BX.out
 go_upto_region 2 with (go_at_call 55; refine KD.out.mono ?_; rintro e w1 ⟨v1, rfl, ho1, hb1⟩; have BX1 := Lib.hid ((hb1.block _ (by have := ZS.out; omega)).trans BX.out); have BZ1 := Lib.hid ((hb1.block _ (by have := ZS.out; omega)).trans BZ.out); have O1 := Lib.hid (ho1.new flat_int); have G1 := Lib.hid (G0.out.trans (hb1.mono G0.out.size)); have S1 := Lib.hid hb1.size; obtain ⟨a1, cc1, rfl, -, -, -, -⟩ := ho1.parts; have y2 : w1.cell? ⟨w.heap.size, 2, none⟩ = some (.slice da dn dc) := cell_of_row _ _ 2 _ _ _ BX1.out; have y3 := free_of BX1.out 2; clear ho1 hb1 KD)
 obtain ⟨ln, hln⟩ : ∃ n, n = t.deps.length := ⟨_, rfl⟩
 rw [← hln] at O1 ⊢
 have BX2 : Hid ((w1.setCell ⟨w.heap.size, 2, none⟩ (.slice a1 ln cc1)).heap[w.heap.size]? = some (.cells #[.int .i64 t.node, .int .i64 t.seq, .slice a1 ln cc1, .slice ea en ec] 30 (0, 0))) := Lib.hid (heap_setCell_same _ w.heap.size 2 _ _ _ BX1.out)
 have BZ2 : Hid ((w1.setCell ⟨w.heap.size, 2, none⟩ (.slice a1 ln cc1)).heap[w.heap.size + 1]? = some (.cells #[.int .i64 0, .int .i64 0, .slice none 0 0, .slice none 0 0] 30 (0, 0))) := Lib.hid ((Below.heap_setCell _ _ _ _ (by show w.heap.size + 1 ≠ w.heap.size; omega)).trans BZ1.out)
 have G2 : Hid (Below w.heap.size w (w1.setCell ⟨w.heap.size, 2, none⟩ (.slice a1 ln cc1))) := Lib.hid (G1.out.setCell (Nat.le_refl _) _)
 have D2 : Hid (Sq LInt (fun b => w.heap.size + 2 ≤ b ∧ b < (w1.setCell ⟨w.heap.size, 2, none⟩ (.slice a1 ln cc1)).heap.size) (w1.setCell ⟨w.heap.size, 2, none⟩ (.slice a1 ln cc1)) (.slice a1 ln cc1) t.deps) := Lib.hid ((O1.out.agree fun b hb => Below.heap_setCell _ _ _ _ (by show b ≠ w.heap.size; have := ZS.out; omega)).mono fun b hb => ⟨by have := ZS.out; omega, by simpa [World.setCell] using hb.2⟩)
 have S2 : Hid (w.heap.size + 2 ≤ (w1.setCell ⟨w.heap.size, 2, none⟩ (.slice a1 ln cc1)).heap.size) := Lib.hid (by have := ZS.out; have := S1.out; simp [World.setCell]; omega)
 clear y2 y3 c2 BX1 BZ1 O1 G1 BX BZ G0 HK1 hln
 generalize (w1.setCell ⟨w.heap.size, 2, none⟩ (.slice a1 ln cc1)) = w2 at *
 have KE := Lib.hid (eclone_any (P := fun b => b < w.heap.size) (HK2.out.agree fun b hb => G2.out.block b hb) (fun b hb => Nat.lt_of_lt_of_le hb G2.out.size) HEL.out)
 have c3 : w2.cell? ⟨w.heap.size, 3, none⟩ = some (.slice ea en ec) := cell_of_row _ _ 3 _ _ _ BX2.out
 go_upto_region 3 with (go_at_call 132; refine KE.out.mono ?_; rintro e w3 ⟨v3, rfl, ho3, hb3⟩; have BX3 := Lib.hid ((hb3.block _ (by have := S2.out; omega)).trans BX2.out); have BZ3 := Lib.hid ((hb3.block _ (by have := S2.out; omega)).trans BZ2.out); have O3 := Lib.hid ho3; have G3 := Lib.hid (G2.out.trans (hb3.mono G2.out.size)); have H3 := Lib.hid hb3; obtain ⟨a3, cc3, rfl, -, -, -, -⟩ := ho3.own.parts; have y3 : w3.cell? ⟨w.heap.size, 3, none⟩ = some (.slice ea en ec) := cell_of_row _ _ 3 _ _ _ BX3.out; have y4 := free_of BX3.out 3; clear ho3 hb3 KE)
 obtain ⟨n, hn⟩ : ∃ n, n = t.effs.length := ⟨_, rfl⟩
 rw [← hn] at O3 ⊢
 have HNN := Lib.hid hn
 have BX4 : Hid ((w3.setCell ⟨w.heap.size, 3, none⟩ (.slice a3 n cc3)).heap[w.heap.size]? = some (.cells #[.int .i64 t.node, .int .i64 t.seq, .slice a1 ln cc1, .slice a3 n cc3] 30 (0, 0))) := Lib.hid (heap_setCell_same _ w.heap.size 3 _ _ _ BX3.out)
 have BZ4 : Hid ((w3.setCell ⟨w.heap.size, 3, none⟩ (.slice a3 n cc3)).heap[w.heap.size + 1]? = some (.cells #[.int .i64 0, .int .i64 0, .slice none 0 0, .slice none 0 0] 30 (0, 0))) := Lib.hid ((Below.heap_setCell _ _ _ _ (by show w.heap.size + 1 ≠ w.heap.size; omega)).trans BZ3.out)
 have G4 : Hid (Below w.heap.size w (w3.setCell ⟨w.heap.size, 3, none⟩ (.slice a3 n cc3))) := Lib.hid (G3.out.setCell (Nat.le_refl _) _)
 have Z4 : Hid (w2.heap.size ≤ (w3.setCell ⟨w.heap.size, 3, none⟩ (.slice a3 n cc3)).heap.size) := Lib.hid (by have := H3.out.size; simpa [World.setCell] using this)
 have D4 : Hid (Sq LInt (fun b => w.heap.size + 2 ≤ b ∧ b < w2.heap.size) (w3.setCell ⟨w.heap.size, 3, none⟩ (.slice a3 n cc3)) (.slice a1 ln cc1) t.deps) := Lib.hid (D2.out.agree fun b hb => (Below.heap_setCell _ _ _ _ (by show b ≠ w.heap.size; omega)).trans (H3.out.block b hb.2))
 have O4 : Hid (OwnE LEff w2.heap.size (w3.setCell ⟨w.heap.size, 3, none⟩ (.slice a3 n cc3)) (.slice a3 n cc3) t.effs) := Lib.hid (O3.out.kept (by simp [World.setCell]) fun b hl hb => Below.heap_setCell _ _ _ _ (by show b ≠ w.heap.size; have := S2.out; rcases hb with hb | hb <;> omega)).own
 have hm : maxLen = 9223372036854775807 := rfl
 have HE2 : Hid (n ≤ 1000000) := Lib.hid (by have := HEL.out; omega)
 clear y3 y4 c3 BX3 BZ3 O3 G3 BX2 BZ2 D2 hn hm
 generalize (w3.setCell ⟨w.heap.size, 3, none⟩ (.slice a3 n cc3)) = w4 at *
 have c3 : w4.cell? ⟨w.heap.size, 3, none⟩ = some (.slice a3 n cc3) := cell_of_row _ _ 3 _ _ _ BX4.out
 by_cases h0 : n = 0
 ·subst h0
  have hnil : t.effs = [] := List.eq_nil_of_length_eq_zero HNN.out.symm
  go_wp2_with fail
  go_loopw [16] (fun i wr => i = .int .i64 0 ∧ wr = w4) (fun i _ => 0)
  case atStart => exact ⟨rfl, rfl⟩
  case round =>
   obtain ⟨rfl, rfl⟩ := hrel
   have k0 : wr.cell? ⟨w.heap.size, 0, none⟩ = some (.int .i64 t.node) := cell_of_row _ _ 0 _ _ _ BX4.out
   have k1 : wr.cell? ⟨w.heap.size, 1, none⟩ = some (.int .i64 t.seq) := cell_of_row _ _ 1 _ _ _ BX4.out
   have k2 : wr.cell? ⟨w.heap.size, 2, none⟩ = some (.slice a1 ln cc1) := cell_of_row _ _ 2 _ _ _ BX4.out
   have r0 : wr.cell? ⟨w.heap.size + 1, 0, none⟩ = some (.int .i64 0) := cell_of_row _ _ 0 _ _ _ BZ4.out
   have r1 : wr.cell? ⟨w.heap.size + 1, 1, none⟩ = some (.int .i64 0) := cell_of_row _ _ 1 _ _ _ BZ4.out
   have r2 : wr.cell? ⟨w.heap.size + 1, 2, none⟩ = some (.slice none 0 0) := cell_of_row _ _ 2 _ _ _ BZ4.out
   have r3 : wr.cell? ⟨w.heap.size + 1, 3, none⟩ = some (.slice none 0 0) := cell_of_row _ _ 3 _ _ _ BZ4.out
   have f0 := free_of BZ4.out 0
   have f1 := free_of BZ4.out 1
   have f2 := free_of BZ4.out 2
   have f3 := free_of BZ4.out 3
   go_wp2_with fail
   obtain ⟨s0, s1, s2, s3⟩ := st4q BZ4.out
   refine bodyPost_ret (v := .agg #[.int .i64 t.node, .int .i64 t.seq, .slice a1 ln cc1, .slice a3 0 cc3]) (by simp [results, Tryz.results93, go_sem, s0, s1, s2, s3]) rfl ⟨_, _, rfl, ?_, ?_, ?_⟩
   ·exact sq4 (D4.out.mono fun b hb => ⟨by omega, by have := Z4.out; omega, by omega⟩) _ _ _ _
   ·rw [hnil]
    exact ⟨a3, cc3, [], rfl, Nat.zero_le _, by have := O4.out.seq.dims; unfold maxLen; omega, (O4.out.parts_none), Rows.nil _ _, fun h => absurd h (by simp)⟩
   ·exact (((G4.out.setCell (Nat.le_succ _) _).setCell (Nat.le_succ _) _).setCell (Nat.le_succ _) _).setCell (Nat.le_succ _) _
 ·obtain ⟨rb, hrb⟩ : ∃ rb, a3 = some ⟨rb, 0, none⟩ := by
   obtain ⟨vals, ho, -⟩ := O4.out
   rcases ho.2 with ⟨-, hz⟩ | ⟨g, cap, cur, hv, -⟩
   ·rw [← HNN.out] at hz; exact absurd hz h0
   ·simp only [Value.slice.injEq] at hv; exact ⟨g, hv.1⟩
  subst hrb
  have RB : Hid (w2.heap.size ≤ rb ∧ rb < w4.heap.size) := Lib.hid (O4.out.lt rb rfl)
  have hd3 := O4.out.seq.dims
  have HL0 : Hid (∃ vals, LoneAt (w.heap.size + 2) w4 rb cc3 t.effs 0 vals) := Lib.hid (by have h4 := O4.out; rw [HNN.out] at h4; exact LoneAt.start (h4.mono S2.out))
  have L4 : (n : Int) ≤ cc3 := by omega
  have L5 : (cc3 : Int) ≤ 9223372036854775807 := by omega
  have D5 : Hid (Sq LInt (fun b => w.heap.size + 2 ≤ b ∧ b < w4.heap.size ∧ b ≠ rb) w4 (.slice a1 ln cc1) t.deps) := Lib.hid (D4.out.mono fun b hb => ⟨hb.1, by have := Z4.out; omega, by have := RB.out; omega⟩)
  have RN : Hid (w.heap.size + 2 ≤ rb) := Lib.hid (by have := RB.out; have := S2.out; omega)
  clear hd3 O4 D4 RB
  go_wp2_with fail
  clear c3
  go_loopw [16] (fun i wr => ∃ k : Nat, k ≤ n ∧ i = .int .i64 k ∧ Aside ((∃ vals, LoneAt (w.heap.size + 2) wr rb cc3 t.effs k vals) ∧ wr.heap[w.heap.size]? = some (.cells #[.int .i64 t.node, .int .i64 t.seq, .slice a1 ln cc1, .slice (some ⟨rb, 0, none⟩) n cc3] 30 (0, 0)) ∧ wr.heap[w.heap.size + 1]? = some (.cells #[.int .i64 0, .int .i64 0, .slice none 0 0, .slice none 0 0] 30 (0, 0)) ∧ Sq LInt (fun b => w.heap.size + 2 ≤ b ∧ b < wr.heap.size ∧ b ≠ rb) wr (.slice a1 ln cc1) t.deps ∧ Below w.heap.size w wr)) (fun i _ => n - (intOf i).toNat)
  case atStart => exact ⟨0, Nat.zero_le _, rfl, HL0.out, BX4.out, BZ4.out, D5.out, G4.out⟩
  case round =>
   obtain ⟨k, hk, rfl, hrel⟩ := hrel
   obtain ⟨⟨vals, hl⟩, hbx, hbz, hdd, hgg⟩ := Aside.out hrel
   have LA := Lib.hid hl
   have BX6 := Lib.hid hbx
   have BZ6 := Lib.hid hbz
   have D6 := Lib.hid hdd
   have G6 := Lib.hid hgg
   clear hrel hl hbx hbz hdd hgg
   by_cases hlt : k < n
   ·have hke : k < t.effs.length := by rw [← HNN.out]; exact hlt
    have hxk := getD_some hke
    obtain ⟨dv, EA, SD⟩ := LA.out.at hxk
    have HM := Lib.hid (HX.out k hke)
    have HXK := Lib.hid hxk
    clear hke hxk
    generalize t.effs.getD k default = x at *
    obtain ⟨xa, xc, rfl, -, -, -, -⟩ := SeqE.parts (L := LDot) (SD.mono fun b hb => hb.2.1)
    obtain ⟨xn, hxn⟩ : ∃ m, m = x.drops.length := ⟨_, rfl⟩
    rw [← hxn] at EA SD
    obtain ⟨c0, c1, c2, c3, c4, c5, c6⟩ := EA
    have hbe := (Below.refl wr.heap.size wr).alloc (Nat.le_refl _) (.cells #[.int .i64 x.pos, .string (bt x.key), .string (bt x.field), .int .i64 x.kind, .string (bt x.elem), .int .i64 x.n, .slice xa xn xc] 59)
    have BE := Lib.hid hbe
    have EB : Hid ((wr.alloc (.cells #[.int .i64 x.pos, .string (bt x.key), .string (bt x.field), .int .i64 x.kind, .string (bt x.elem), .int .i64 x.n, .slice xa xn xc] 59)).cell? ⟨wr.heap.size, 6, none⟩ = some (.slice xa xn xc)) := Lib.hid (effAt_box wr x xa xn xc).zero.2.2.2.2.2.2
    have ZB : Hid ((wr.alloc (.cells #[.int .i64 x.pos, .string (bt x.key), .string (bt x.field), .int .i64 x.kind, .string (bt x.elem), .int .i64 x.n, .slice xa xn xc] 59)).heap.size = wr.heap.size + 1) := Lib.hid (by simp)
    have SDB : Hid (Sq LDot (fun b => b < wr.heap.size ∧ b ≠ rb) (wr.alloc (.cells #[.int .i64 x.pos, .string (bt x.key), .string (bt x.field), .int .i64 x.kind, .string (bt x.elem), .int .i64 x.n, .slice xa xn xc] 59)) (.slice xa xn xc) x.drops) := Lib.hid ((SD.agree fun b hb => hbe.block b hb.2.1).mono fun b hb => hb.2)
    have hk1 : (k : Int) < n := by omega
    clear SD hbe hxn
    go_upto_region 6 with fail
    clear c0 c1 c2 c3 c4 c5 c6
    generalize (wr.alloc (.cells #[.int .i64 x.pos, .string (bt x.key), .string (bt x.field), .int .i64 x.kind, .string (bt x.elem), .int .i64 x.n, .slice xa xn xc] 59)) = wd at *
    have LB := Lib.hid (LA.out.below BE.out)
    have hw3 : wd.cell? ⟨w.heap.size, 3, none⟩ = some (.slice (some ⟨rb, 0, none⟩) n cc3) := cell_of_row _ _ 3 _ _ _ ((BE.out.block _ (Array.getElem?_eq_some_iff.1 BX6.out).1).trans BX6.out)
    have NR : Hid (w.heap.size ≠ rb ∧ wr.heap.size ≠ rb) := Lib.hid ⟨by have := RN.out; omega, by have := LA.out.lt; omega⟩
    have KE2 : Hid (∀ u, ButF (fun k => k = rb) wd u → ButF (fun k => k = rb) wd u ∧ u.cell? ⟨w.heap.size, 3, none⟩ = some (.slice (some ⟨rb, 0, none⟩) n cc3) ∧ u.cell? ⟨wr.heap.size, 6, none⟩ = some (.slice xa xn xc)) := Lib.hid (fun u hb => ⟨hb, (World.cell?_of_block (a := ⟨w.heap.size, 3, none⟩) (hb.block _ (World.block_lt_of_cell? wd _ hw3) NR.out.1)).trans hw3, (World.cell?_of_block (a := ⟨wr.heap.size, 6, none⟩) (hb.block _ (by have := ZB.out; show wr.heap.size < _; omega) NR.out.2)).trans EB.out⟩)
    have KD := Lib.hid (dclone_any (w := wd.drew) (xs := x.drops) (u := .slice xa xn xc) ((SDB.out.agree fun b _ => rfl).mono fun b hb => by have := ZB.out; show b < wd.drew.heap.size; show b < wd.heap.size; omega) HM.out)
    clear hw3
    refine wp_region_held_drew (S := fun u' => ButF (fun k => k = rb) wd u' ∧ u'.cell? ⟨w.heap.size, 3, none⟩ = some (.slice (some ⟨rb, 0, none⟩) n cc3) ∧ u'.cell? ⟨wr.heap.size, 6, none⟩ = some (.slice xa xn xc)) (by kernel_rfl) ?_ (fun hHeld => ?_)
    ·(exact KE2.out _ ((ButF.refl _ _).drawn 1))
    simp only [List.size_toArray, List.length_cons, List.length_nil, Nat.zero_add, Nat.reduceAdd]
    refine tkB (i := 0) hHeld ?_
    refine tkB (i := 1) hHeld ?_
    refine tkB (i := 2) hHeld ?_
    refine tkB (i := 3) hHeld ?_
    refine tkB (i := 4) hHeld ?_
    refine wpAnyH_ready (rs := [5]) (by kernel_rfl) (by simp) ?_
    refine AllReadyH.cons rfl (fun K hK => ?_) AllReadyH.nil
    go_simp
    refine KD.out.mono ?_
    rintro e s1 ⟨v7, rfl, ho7, hb7⟩
    have G7 : Hid (Below wd.heap.size wd s1) := Lib.hid ((Below.refl _ _).drew.trans hb7)
    have O7 := Lib.hid (ho7.new flat_dot)
    obtain ⟨a7, c7, rfl, -, -, -, -⟩ := ho7.parts
    refine hK.out _ _ (KE2.out _ (ButF.of G7.out)) (fun hHeld => ?_)
    clear hK K ho7 hb7 KD
    refine tkB (i := 6) hHeld ?_
    refine tkB (i := 7) hHeld ?_
    have LC := Lib.hid (LB.out.below G7.out)
    obtain ⟨dv6, EA6, -⟩ := LC.out.at HXK.out
    have t6 := EA6.c6
    have f6 := World.ownsRow.frozenAt LC.out.own (k * 7 + 6)
    clear EA6
    refine wpAnyH_ready (rs := [8]) (by kernel_rfl) (by simp) ?_
    refine AllReadyH.cons rfl (fun K hK => ?_) AllReadyH.nil
    go_simp
    refine hK.out _ _ (KE2.out _ ((ButF.of G7.out).trans (ButF.set (F := fun k => k = rb) rfl) fun _ _ e => e)) (fun hHeld => ?_)
    clear hK K t6 f6
    refine wpAnyH_done (by kernel_rfl) ?_ _
    clear hHeld
    have RBW : Hid (w.heap.size + 2 ≤ rb ∧ rb < wr.heap.size) := Lib.hid LA.out.lt
    have OD : Hid (Sq LDot (fun b => w.heap.size + 2 ≤ b ∧ b < s1.heap.size ∧ b ≠ rb) s1 (.slice a7 x.drops.length c7) x.drops) := Lib.hid (O7.out.mono fun b hb => by
     have h1 := RBW.out
     have h2 := ZB.out
     have h3 : wd.heap.size ≤ b := hb.1
     exact ⟨by omega, hb.2, by omega⟩)
    have GW : Hid (Below wr.heap.size wr s1) := Lib.hid (BE.out.trans (G7.out.mono BE.out.size))
    go_wp2_with fail
    go_roundw
    case rel =>
     have sz : (s1.setCell ⟨rb, k * 7 + 6, none⟩ (.slice a7 x.drops.length c7)).heap.size = s1.heap.size := by simp [World.setCell]
     have hne : ∀ b, b ≠ rb → (s1.setCell ⟨rb, k * 7 + 6, none⟩ (.slice a7 x.drops.length c7)).heap[b]? = s1.heap[b]? := fun b e => Below.heap_setCell _ _ _ _ e
     have h1 := RBW.out
     refine ⟨k + 1, by omega, by go_num, ⟨_, LC.out.set HXK.out OD.out⟩, (hne _ (by omega)).trans ((GW.out.block _ (by omega)).trans BX6.out), (hne _ (by omega)).trans ((GW.out.block _ (by omega)).trans BZ6.out), ?_, (G6.out.trans (GW.out.mono G6.out.size)).setCell (by show w.heap.size ≤ rb; omega) _⟩
     rw [sz]
     exact (D6.out.agree fun b hb => (hne b hb.2.2).trans (GW.out.block b hb.2.1)).mono fun b hb => ⟨hb.1, Nat.lt_of_lt_of_le hb.2.1 GW.out.size, hb.2.2⟩
    case measure => simp [intOf]; omega

   ·obtain rfl : k = n := by omega
    have k0 : wr.cell? ⟨w.heap.size, 0, none⟩ = some (.int .i64 t.node) := cell_of_row _ _ 0 _ _ _ BX6.out
    have k1 : wr.cell? ⟨w.heap.size, 1, none⟩ = some (.int .i64 t.seq) := cell_of_row _ _ 1 _ _ _ BX6.out
    have k2 : wr.cell? ⟨w.heap.size, 2, none⟩ = some (.slice a1 ln cc1) := cell_of_row _ _ 2 _ _ _ BX6.out
    have k3 : wr.cell? ⟨w.heap.size, 3, none⟩ = some (.slice (some ⟨rb, 0, none⟩) k cc3) := cell_of_row _ _ 3 _ _ _ BX6.out
    have r0 : wr.cell? ⟨w.heap.size + 1, 0, none⟩ = some (.int .i64 0) := cell_of_row _ _ 0 _ _ _ BZ6.out
    have r1 : wr.cell? ⟨w.heap.size + 1, 1, none⟩ = some (.int .i64 0) := cell_of_row _ _ 1 _ _ _ BZ6.out
    have r2 : wr.cell? ⟨w.heap.size + 1, 2, none⟩ = some (.slice none 0 0) := cell_of_row _ _ 2 _ _ _ BZ6.out
    have r3 : wr.cell? ⟨w.heap.size + 1, 3, none⟩ = some (.slice none 0 0) := cell_of_row _ _ 3 _ _ _ BZ6.out
    have f0 := free_of BZ6.out 0
    have f1 := free_of BZ6.out 1
    have f2 := free_of BZ6.out 2
    have f3 := free_of BZ6.out 3
    have LD : Hid (Sq LEff (fun b => w.heap.size + 2 ≤ b ∧ b < wr.heap.size) wr (.slice (some ⟨rb, 0, none⟩) k cc3) t.effs) := Lib.hid (by have h6 := LA.out; rw [HNN.out] at h6 ⊢; exact h6.done)
    go_wp2_with fail
    obtain ⟨s0, s1, s2, s3⟩ := st4q BZ6.out
    refine bodyPost_ret (v := .agg #[.int .i64 t.node, .int .i64 t.seq, .slice a1 ln cc1, .slice (some ⟨rb, 0, none⟩) k cc3]) (by simp [results, Tryz.results93, go_sem, s0, s1, s2, s3]) rfl ⟨_, _, rfl, ?_, ?_, ?_⟩
    ·exact sq4 (D6.out.mono fun b hb => ⟨by omega, hb.2.1, by omega⟩) _ _ _ _
    ·exact sq4 (LD.out.mono fun b hb => ⟨by omega, hb.2, by omega⟩) _ _ _ _
    ·exact (((G6.out.setCell (Nat.le_succ _) _).setCell (Nat.le_succ _) _).setCell (Nat.le_succ _) _).setCell (Nat.le_succ _) _
end Go.Proofs.YtpnpomocjkmncaaGreat
