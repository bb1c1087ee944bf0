/- What the document's own All of stores leaves. (Written by gen-ral.py.) -/
import Derived.Test.YtpnpomocjkmncaaGreatStDoP
import Derived.Test.YtpnpomocjkmncaaGreatStUse
import Derived.Test.YtpnpomocjkmncaaGreatStDoR
import Derived.Deep.RegionHeld3
import Derived.Deep.DeepCutAuto
namespace Go.Proofs.YtpnpomocjkmncaaGreat
open Go.RowKit Plain
set_option linter.unusedVariables false

theorem OwnsB.mono {B C : Nat} {w : World} {v : Value} {xs : List Bool} (h : OwnsB B w v xs) (hc : C ≤ B) : OwnsB C w v xs := by
 refine ⟨h.1, ?_⟩
 rcases h.2 with hn | ⟨g, cap, cur, hv, hb, hg⟩
 ·exact .inl hn
 ·exact .inr ⟨g, cap, cur, hv, by omega, hg⟩
theorem OwnJ.set1 {α : Type} {L : El α} {J : Nat → Prop} {B R i : Nat} {w : World} {v x : Value} {xs : List α} (h : OwnJ J L B w v xs) (hJ : ∀ b, J b → b ≠ R) (hne : v.ownBlock ≠ some R) : OwnJ J L B (w.setCell ⟨R, i, none⟩ x) v xs := by
 have hs : (w.setCell ⟨R, i, none⟩ x).heap.size = w.heap.size := by simp [World.setCell]
 obtain ⟨vals, ho, hr⟩ := h
 refine ⟨vals, ⟨ho.1, ?_⟩, (hr.agree fun b hb => Below.heap_setCell _ _ _ _ (hJ b hb.1)).mono fun b hb => ⟨hb.1, by rw [hs]; exact hb.2.1, hb.2.2⟩⟩
 rcases ho.2 with hz | ⟨g, cap, cur, hv, hb, hg, hr'⟩
 ·exact .inl hz
 ·exact .inr ⟨g, cap, cur, hv, hb, (Below.heap_setCell _ _ _ _ fun e => hne (by rw [hv, ← show g = R from e]; rfl)).trans hg, hr'⟩
theorem not_store {B k m R : Nat} {e : TypeId} {w : World} {v x y : Value} {vals : List Value} (h : w.ownsRow B e k v m vals) (hR : w.heap[R]? = some (.cells #[x, y] 26 (0, 0))) (hne : e ≠ 26) : v.ownBlock ≠ some R := fun hv => by
 obtain ⟨c, fz, a1⟩ := Lib.ownsRow_kind h R hv
 rw [hR] at a1
 simp only [Option.some.injEq, Obj.cells.injEq] at a1
 exact hne a1.2.1.symm
theorem txn_ne_store : 30 ≠ 26 := by decide
structure RAl (w : World) (n gb : Nat) (tv : Value) (g : List Bool) (a : List PTxn) (s : PStore) (ha : Option Addr) (hm hc : Nat) (ia : Option Addr) (im ic : Nat) (u : World) : Prop where
 marks : OwnsB w.heap.size u (.slice (some ⟨gb, 0, none⟩) n n) g
 glen : g.length = n
 gpos : gb = w.heap.size + 2
 taken : OwnJ (fun b => b ≠ gb ∧ b ≠ w.heap.size) LTxn w.heap.size u tv a
 sb : u.heap[w.heap.size]? = some (.cells #[.slice ha hm hc, .slice ia im ic] 26 (0, 0))
 hs : Sq LInt (fun b => b < u.heap.size ∧ b ≠ gb ∧ tv.ownBlock ≠ some b) u (.slice ha hm hc) s.heard
 is : Sq LItem (fun b => b < u.heap.size ∧ b ≠ gb ∧ tv.ownBlock ≠ some b) u (.slice ia im ic) s.items
 res : ∃ a n c a' n' c', u.heap[w.heap.size + 1]? = some (.cells #[.slice a n c, .slice a' n' c'] 26 (0, 0))
 low : Below w.heap.size w u
section
variable {w u u' : World} {n gb : Nat} {tv : Value} {g : List Bool} {a : List PTxn} {s : PStore} {ha : Option Addr} {hm hc : Nat} {ia : Option Addr} {im ic : Nat}
theorem RAl.box (k : RAl w n gb tv g a s ha hm hc ia im ic u) : StBox w.heap.size s ha hm hc ia im ic u := ⟨k.sb, k.hs.mono fun _ h => h.1, k.is.mono fun _ h => h.1⟩
theorem RAl.below (k : RAl w n gb tv g a s ha hm hc ia im ic u) (hb : Below u.heap.size u u') : RAl w n gb tv g a s ha hm hc ia im ic u' := by
 obtain ⟨a1, n1, c1, a2, n2, c2, hr⟩ := k.res
 have hw : ∀ b, (b < u.heap.size ∧ b ≠ gb ∧ tv.ownBlock ≠ some b) → (b < u'.heap.size ∧ b ≠ gb ∧ tv.ownBlock ≠ some b) := fun b h => ⟨Nat.lt_of_lt_of_le h.1 hb.size, h.2⟩
 exact ⟨k.marks.below hb, k.glen, k.gpos, k.taken.below hb (Nat.le_refl _), (hb.block _ (Array.getElem?_eq_some_iff.1 k.sb).1).trans k.sb, (k.hs.agree fun b h => hb.block b h.1).mono hw, (k.is.agree fun b h => hb.block b h.1).mono hw, ⟨a1, n1, c1, a2, n2, c2, (hb.block _ (Array.getElem?_eq_some_iff.1 hr).1).trans hr⟩, k.low.trans (hb.mono k.low.size)⟩
theorem RAl.glt (k : RAl w n gb tv g a s ha hm hc ia im ic u) : gb < u.heap.size := (k.marks.lt gb rfl).2
theorem RAl.apart (k : RAl w n gb tv g a s ha hm hc ia im ic u) : tv.ownBlock ≠ some gb := by
 obtain ⟨vals, ho, -⟩ := k.taken
 exact unlike k.marks ho bool_ne_txn gb rfl
theorem RAl.apartS (k : RAl w n gb tv g a s ha hm hc ia im ic u) : tv.ownBlock ≠ some w.heap.size := by
 obtain ⟨vals, ho, -⟩ := k.taken
 exact not_store ho k.sb txn_ne_store
theorem RAl.mark (k : RAl w n gb tv g a s ha hm hc ia im ic u) (j : Nat) : RAl w n gb tv (g.set j true) a s ha hm hc ia im ic (u.setCell ⟨gb, j, none⟩ (.bool true)) := by
 have hb := But.set gb u j (.bool true)
 have hg := k.gpos
 have hz : (u.setCell ⟨gb, j, none⟩ (.bool true)).heap.size = u.heap.size := by simp [World.setCell]
 obtain ⟨a1, n1, c1, a2, n2, c2, hr⟩ := k.res
 have hw : ∀ b, (b < u.heap.size ∧ b ≠ gb ∧ tv.ownBlock ≠ some b) → (b < (u.setCell ⟨gb, j, none⟩ (.bool true)).heap.size ∧ b ≠ gb ∧ tv.ownBlock ≠ some b) := fun b h => ⟨by rw [hz]; exact h.1, h.2⟩
 exact ⟨k.marks.set k.glen j true, by rw [List.length_set]; exact k.glen, k.gpos, k.taken.set1 (fun b h => h.1) k.apart, (hb.block _ (Array.getElem?_eq_some_iff.1 k.sb).1 (by omega)).trans k.sb, (k.hs.agree fun b h => hb.block b h.1 h.2.1).mono hw, (k.is.agree fun b h => hb.block b h.1 h.2.1).mono hw, ⟨a1, n1, c1, a2, n2, c2, (hb.block _ (Array.getElem?_eq_some_iff.1 hr).1 (by omega)).trans hr⟩, k.low.setCell (by show w.heap.size ≤ gb; omega) _⟩
theorem RAl.grown {tv' : Value} {a' : List PTxn} (k : RAl w n gb tv g a s ha hm hc ia im ic u) (hg : u.grownBy u' tv.ownBlock) (hat : tv'.ownBlock = tv.ownBlock ∨ tv'.ownBlock = some u.heap.size) (ht : OwnJ (fun b => b ≠ gb ∧ b ≠ w.heap.size) LTxn w.heap.size u' tv' a') : RAl w n gb tv' g a' s ha hm hc ia im ic u' := by
 obtain ⟨a1, n1, c1, a2, n2, c2, hr⟩ := k.res
 have hres : tv.ownBlock ≠ some (w.heap.size + 1) := by
  obtain ⟨vals, ho, -⟩ := k.taken
  exact not_store ho hr txn_ne_store
 have hk : ∀ j, j < u.heap.size → tv.ownBlock ≠ some j → u'.heap[j]? = u.heap[j]? := fun j hj h => hg.block j hj fun e => h e.symm
 have hw : ∀ b, (b < u.heap.size ∧ b ≠ gb ∧ tv.ownBlock ≠ some b) → (b < u'.heap.size ∧ b ≠ gb ∧ tv'.ownBlock ≠ some b) := fun b h => ⟨Nat.lt_of_lt_of_le h.1 hg.size, h.2.1, fun e => by
  rcases hat with e2 | e2
  ·exact h.2.2 (e2.symm.trans e)
  ·rw [e2] at e
   have := Option.some.inj e
   omega⟩
 exact ⟨k.marks.keep fun b hb => hk b (k.marks.lt b hb).2 (by cases hb; exact k.apart), k.glen, k.gpos, ht, (hk _ (Array.getElem?_eq_some_iff.1 k.sb).1 k.apartS).trans k.sb, (k.hs.agree fun b h => hk b h.1 h.2.2).mono hw, (k.is.agree fun b h => hk b h.1 h.2.2).mono hw, ⟨a1, n1, c1, a2, n2, c2, (hk _ (Array.getElem?_eq_some_iff.1 hr).1 hres).trans hr⟩, k.low.grown hg k.low.size fun b hb => (k.taken.lt b hb).1⟩
theorem RAl.next {s' : PStore} {N M : Nat} {qa : Option Addr} {qn qc : Nat} {pa : Option Addr} {pn pc : Nat} (k : RAl w n gb tv g a s ha hm hc ia im ic u) (hN : gb < N) (hM : M ≤ u.heap.size) (ht : ∀ b, N ≤ b → b < M → tv.ownBlock ≠ some b) (h1 : Sq LInt (fun b => N ≤ b ∧ b < M) u (.slice qa qn qc) s'.heard) (h2 : Sq LItem (fun b => N ≤ b ∧ b < M) u (.slice pa pn pc) s'.items) :
  RAl w n gb tv g a s' qa qn qc pa pn pc ((u.setCell ⟨w.heap.size, 0, none⟩ (.slice qa qn qc)).setCell ⟨w.heap.size, 1, none⟩ (.slice pa pn pc)) := by
 have hb := st2_but u w.heap.size (.slice qa qn qc) (.slice pa pn pc)
 have hz : ((u.setCell ⟨w.heap.size, 0, none⟩ (.slice qa qn qc)).setCell ⟨w.heap.size, 1, none⟩ (.slice pa pn pc)).heap.size = u.heap.size := by simp [World.setCell]
 have hg := k.gpos
 obtain ⟨a1, n1, c1, a2, n2, c2, hr⟩ := k.res
 have hw : ∀ b, (N ≤ b ∧ b < M) → (b < ((u.setCell ⟨w.heap.size, 0, none⟩ (.slice qa qn qc)).setCell ⟨w.heap.size, 1, none⟩ (.slice pa pn pc)).heap.size ∧ b ≠ gb ∧ tv.ownBlock ≠ some b) := fun b h => ⟨by rw [hz]; omega, by omega, ht b h.1 h.2⟩
 exact ⟨k.marks.keep fun b hq => hb.block b (k.marks.lt b hq).2 (by cases hq; show gb ≠ _; omega), k.glen, k.gpos, (k.taken.set1 (fun b h => h.2) k.apartS).set1 (fun b h => h.2) k.apartS, st2_heap k.sb _ _, (h1.agree fun b h => hb.block b (by omega) (by omega)).mono hw, (h2.agree fun b h => hb.block b (by omega) (by omega)).mono hw, ⟨a1, n1, c1, a2, n2, c2, (hb.block _ (Array.getElem?_eq_some_iff.1 hr).1 (by omega)).trans hr⟩, (k.low.setCell (Nat.le_refl _) _).setCell (Nat.le_refl _) _⟩
end
theorem one_txnG {J : Nat → Prop} {W : World} {N : Nat} {x : PTxn} {dv ev ov : Value} (hd : Sq LInt (fun b => b < N) W dv x.deps) (he : Sq LEff (fun b => b < N) W ev x.effs) (hN : N ≤ W.heap.size) (hJ : ∀ b, b < N → J b) (hJ2 : J W.heap.size) (hov : ∀ k, ov.ownBlock = some k → N ≤ k ∧ k < W.heap.size) :
  Sq LTxn (fun b => J b ∧ b < (W.alloc (.cells #[.int .i64 x.node, .int .i64 x.seq, dv, ev] 30)).heap.size ∧ ov.ownBlock ≠ some b) (W.alloc (.cells #[.int .i64 x.node, .int .i64 x.seq, dv, ev] 30)) (.slice (some ⟨W.heap.size, 0, none⟩) 1 1) [x] := by
 have hS : (W.alloc (.cells #[.int .i64 x.node, .int .i64 x.seq, dv, ev] 30)).heap.size = W.heap.size + 1 := by simp
 rw [hS]
 have hB : Below W.heap.size W (W.alloc (.cells #[.int .i64 x.node, .int .i64 x.seq, dv, ev] 30)) := (Below.refl _ _).alloc (Nat.le_refl _) _
 have hw : ∀ b, b < N → J b ∧ b < W.heap.size + 1 ∧ ov.ownBlock ≠ some b := fun b hb => ⟨hJ b hb, by omega, fun e => by have := hov b e; omega⟩
 refine ⟨_, 1, cellsTx x dv ev, rfl, Nat.le_refl _, by unfold maxLen; simp, (by simp), Rows.of_one ⟨_, _, rfl, (hd.agree fun b hb => hB.block b (by omega)).mono hw, (he.agree fun b hb => hB.block b (by omega)).mono hw⟩, fun _ => ⟨_, 0, rfl, ⟨hJ2, by omega, fun e => by have := hov _ e; omega⟩, fun i u' hu => ?_⟩⟩
 rw [Nat.zero_add]
 have := World.cell?_alloc_new W #[.int .i64 x.node, .int .i64 x.seq, dv, ev] 30 i
 rw [this, ← Array.getElem?_toList]
 exact hu
set_option maxRecDepth 100000 in
set_option maxHeartbeats 32000000 in
theorem stAllR_any {v lv : Value} {s0 : PStore} {l : List PTxn} {w : World} (hs : IsStore w v s0) (hlv : SeqE LTxn w lv l) (hl : s0.heard.length ≤ 900000) (hi : s0.items.length ≤ 80000) (hd : ∀ x ∈ s0.items, dotOk x.dot) (hn : l.length ≤ 100) (hf : ∀ t ∈ l, FitB t) (hx : ∀ t ∈ l, ∀ e ∈ t.effs, e.key.length ≤ 1000000 ∧ e.field.length ≤ 1000000) :
  Calls Tryz.prog 20 #[v, lv] w (GivesStT w (sAll s0 l) (sTake s0.heard l)) := by
 obtain ⟨ha, hm, hc, ia, im, ic, rfl, h1, h2⟩ := hs.slices
 obtain ⟨la, lc, rfl, L1, L2, -, -⟩ := hlv.parts
 have HL := Lib.hid hlv
 have HF := Lib.hid hf
 have HX := Lib.hid hx
 have HS1 : Hid (∀ k g a s, STk l s0 k g a s → s.heard.length ≤ 1000000 ∧ s.items.length ≤ 90000 ∧ ∀ x ∈ s.items, dotOk x.dot) := Lib.hid (fun k g a s h => ⟨by have := h.heard; omega, by have := h.items; omega, h.dots hd hf⟩)
 obtain ⟨n, hN⟩ : ∃ n, n = l.length := ⟨_, rfl⟩
 have HNN := Lib.hid hN
 have HLE : Hid ((oLeft (mF (List.replicate n false) l) l).length ≤ n) := Lib.hid (by rw [mF_left, hN, oLeft_all]; exact sForm_len l)
 rw [← hN] at HL L1 hn ⊢
 have HR0 : Hid (∀ w1, OwnsB ((w.alloc (.cells #[.slice ha hm hc, .slice ia im ic] 26)).alloc (.cells #[.slice none 0 0, .slice none 0 0] 26)).heap.size w1 (.slice (some ⟨((w.alloc (.cells #[.slice ha hm hc, .slice ia im ic] 26)).alloc (.cells #[.slice none 0 0, .slice none 0 0] 26)).heap.size, 0, none⟩) n n) (List.replicate n false) → Below ((w.alloc (.cells #[.slice ha hm hc, .slice ia im ic] 26)).alloc (.cells #[.slice none 0 0, .slice none 0 0] 26)).heap.size ((w.alloc (.cells #[.slice ha hm hc, .slice ia im ic] 26)).alloc (.cells #[.slice none 0 0, .slice none 0 0] 26)) w1 → RAl w n (w.heap.size + 2) (.slice none 0 0) (List.replicate n false) [] s0 ha hm hc ia im ic w1) := Lib.hid (fun w1 ho hb => by
  have z : ((w.alloc (.cells #[.slice ha hm hc, .slice ia im ic] 26)).alloc (.cells #[.slice none 0 0, .slice none 0 0] 26)).heap.size = w.heap.size + 2 := by simp
  have ua := unat_new w ha hm hc ia im ic
  have ub := ua.below hb
  rw [z] at ho hb
  exact ⟨ho.mono (by omega), List.length_replicate, rfl, OwnJ.nil _ _ _, ub.sb, (Sq.agree h1 fun b hlt => ub.low.block b hlt).mono fun b hlt => ⟨Nat.lt_of_lt_of_le hlt ub.low.size, by have : b < w.heap.size := hlt; omega, fun e => nomatch e⟩, (Sq.agree h2 fun b hlt => ub.low.block b hlt).mono fun b hlt => ⟨Nat.lt_of_lt_of_le hlt ub.low.size, by have : b < w.heap.size := hlt; omega, fun e => nomatch e⟩, ub.rb, ub.low⟩)
 have ST0 := Lib.hid (STk.start l s0)
 rw [← hN] at ST0
 clear hs hlv hl hi hd hf hx hN h1 h2
 go_enter Tryz.func20, Tryz.ntmps20
 go_upto_region 1 with fail
 generalize hw0 : ((w.alloc (.cells #[.slice ha hm hc, .slice ia im ic] 26)).alloc (.cells #[.slice none 0 0, .slice none 0 0] 26)) = w0 at *
 have ZW : Hid (w0.heap.size = w.heap.size + 2) := Lib.hid (by rw [← hw0]; simp)
 clear hw0
 go_wp2_with (at_make; refine wpList_makeB rfl (.tmp 12) rfl (n : Int) n rfl rfl (by omega) ?_)
 intro w1 ho1 hb1 hz1
 have R0 := Lib.hid (HR0.out w1 ho1 hb1)
 clear ho1 hb1 hz1 HR0
 obtain ⟨gb, hgb⟩ : ∃ gb, gb = w.heap.size + 2 := ⟨_, rfl⟩
 rw [show (Value.slice (some ⟨w0.heap.size, 0, none⟩) n n) = .slice (some ⟨gb, 0, none⟩) n n by rw [ZW.out, hgb]]
 rw [← hgb] at R0
 clear hgb ZW
 go_wp2_with fail
 go_loopg [7, 8] (n * (n + 1) + n) (fun gg tv i wr => ∃ (k : Nat) (g : List Bool) (a : List PTxn) (s : PStore) (ha : Option Addr) (hm hc : Nat) (ia : Option Addr) (im ic : Nat), k ≤ n ∧ i = .int .i64 k ∧ Aside (RAl w n gb tv g a s ha hm hc ia im ic wr ∧ STk l s0 k g a s ∧ (oLeft (mF g l) l).length * (n + 1) + (n - k) ≤ gg))
 case atStart => exact ⟨0, _, _, _, _, _, _, _, _, _, Nat.zero_le _, rfl, R0.out, ST0.out, by have := Nat.mul_le_mul_right (n + 1) HLE.out; omega⟩
 case round =>
  obtain ⟨k, g, a, s, ha, hm, hc, ia, im, ic, hk, rfl, hrel⟩ := hrel
  obtain ⟨hR, hST, hgg⟩ := Aside.out hrel
  have R := Lib.hid hR
  have ST := Lib.hid hST
  have HGG := Lib.hid hgg
  obtain ⟨ta, tc, rfl, -, -, -⟩ := hR.taken.at a.length rfl
  clear hrel hR hST hgg R0 ST0
  by_cases hlt : k < n
  ·have hkl : k < l.length := by rw [← HNN.out]; exact hlt
   obtain ⟨lb, lo, rfl, hc'⟩ := txns_atS HL.out (by omega)
   obtain ⟨da, dn, dc, ea, en, ec, hW, hsd, hse⟩ := hc' k hlt
   have hft := HF.out (otx l k) (by rw [otx_lt hkl]; exact List.getElem_mem hkl)
   have hfx := HX.out (otx l k) (by rw [otx_lt hkl]; exact List.getElem_mem hkl)
   have gc := R.out.marks.cell R.out.glen k hlt
   have HSK := Lib.hid (fun h => ST.out.skip h)
   have HSP := Lib.hid (fun h1 h2 => ST.out.step hkl h1 h2)
   have HDZ := Lib.hid (fun h => doSt_zero (s := s) (t := otx l k) h)
   obtain ⟨z1, z2, z3⟩ := HS1.out _ _ _ _ ST.out
   have HC := Lib.hid (fun W (hb : Below w.heap.size w W) => hW W hb)
   have SD := Lib.hid hsd
   have SE := Lib.hid hse
   have KD := Lib.hid (fun u (hb : Below wr.heap.size wr u) => stDoR_any (R.out.box.below hb).is (hW u (R.out.low.trans (hb.mono R.out.low.size))).2 z1 z2 z3 hft hfx)
   have AL := Lib.hid ST.out.alen
   have k1 : (k : Int) < n := by omega
   have k2 : (n : Int) ≤ lc := by omega
   have k3 : (lc : Int) ≤ 9223372036854775807 := by omega
   clear hc' hft hfx hsd hse z1 z2 z3 hkl
   generalize otx l k = t at *
   obtain ⟨er, her⟩ : ∃ e, e = doErr s t := ⟨_, rfl⟩
   obtain ⟨st, hst⟩ : ∃ e, e = doSt s t := ⟨_, rfl⟩
   rw [← her] at HSK HSP HDZ KD
   rw [← hst] at HDZ KD
   clear her hst
   obtain ⟨gk, hgk⟩ : ∃ b, b = gone g k := ⟨_, rfl⟩
   rw [← hgk] at gc HSK HSP
   clear hgk
   cases gk
   ·have KE : Hid (∀ u, Below wr.heap.size wr u → Below wr.heap.size wr u ∧ (u.cell? ⟨w.heap.size, 0, none⟩ = some (.slice ha hm hc) ∧ u.cell? ⟨w.heap.size, 1, none⟩ = some (.slice ia im ic)) ∧ u.cell? ⟨lb, lo + k * 4, none⟩ = some (.int .i64 t.node) ∧ u.cell? ⟨lb, lo + k * 4 + 1, none⟩ = some (.int .i64 t.seq) ∧ u.cell? ⟨lb, lo + k * 4 + 2, none⟩ = some (.slice da dn dc) ∧ u.cell? ⟨lb, lo + k * 4 + 3, none⟩ = some (.slice ea en ec)) := Lib.hid (fun u hb => ⟨hb, (R.out.box.below hb).c, (hW u (R.out.low.trans (hb.mono R.out.low.size))).1⟩)
    clear hW
    go_upto_region 7 with fail
    clear gc
    go_cut [9, 10] (fun s9 s10 wx => ∃ (nb : Nat) (qa : Option Addr) (qn qc : Nat) (pa : Option Addr) (pn pc : Nat), s9 = .pointer (some ⟨nb, 0, none⟩) ∧ s10 = .int .i64 er ∧ wr.heap.size ≤ nb ∧ wx.heap[nb]? = some (.cells #[.slice qa qn qc, .slice pa pn pc] 26 (0, 0)) ∧ Sq LInt (fun b => wr.heap.size ≤ b ∧ b < wx.heap.size) wx (.slice qa qn qc) st.heard ∧ Sq LItem (fun b => wr.heap.size ≤ b ∧ b < wx.heap.size) wx (.slice pa pn pc) st.items ∧ Below wr.heap.size wr wx)
    case first =>
     refine wp_region_held_drew (S := fun u' => Below wr.heap.size wr u' ∧ (u'.cell? ⟨w.heap.size, 0, none⟩ = some (.slice ha hm hc) ∧ u'.cell? ⟨w.heap.size, 1, none⟩ = some (.slice ia im ic)) ∧ u'.cell? ⟨lb, lo + k * 4, none⟩ = some (.int .i64 t.node) ∧ u'.cell? ⟨lb, lo + k * 4 + 1, none⟩ = some (.int .i64 t.seq) ∧ u'.cell? ⟨lb, lo + k * 4 + 2, none⟩ = some (.slice da dn dc) ∧ u'.cell? ⟨lb, lo + k * 4 + 3, none⟩ = some (.slice ea en ec)) (by kernel_rfl) ?_ (fun hHeld => ?_)
     ·(exact KE.out _ (Below.refl _ _).drew)
     simp only [List.size_toArray, List.length_cons, List.length_nil, Nat.zero_add, Nat.reduceAdd]
     refine tkB (i := 0) hHeld ?_
     refine tkB (i := 1) hHeld ?_
     refine tkB (i := 2) hHeld ?_
     refine tkB (i := 3) hHeld ?_
     refine tkB (i := 4) hHeld ?_
     refine wpAnyH_ready (rs := [5, 9]) (by kernel_rfl) (by simp) ?_
     refine AllReadyH.cons rfl (fun K hK => ?_) (AllReadyH.cons rfl (fun K hK => ?_) AllReadyH.nil)
     ·go_simp
      have ZH := Lib.hid hHeld.1.size
      refine (KD.out _ hHeld.1).mono ?_
      rintro e s1 ⟨qa, qn, qc, pa, pn, pc, rfl, hh, hi, hb⟩
      have N1 : Hid (Sq LInt (fun b => wr.heap.size ≤ b ∧ b < s1.heap.size) s1 (.slice qa qn qc) st.heard) := Lib.hid (hh.mono fun b h => ⟨Nat.le_trans ZH.out h.1, h.2⟩)
      have I1 : Hid (Sq LItem (fun b => wr.heap.size ≤ b ∧ b < s1.heap.size) s1 (.slice pa pn pc) st.items) := Lib.hid (hi.mono fun b h => ⟨Nat.le_trans ZH.out h.1, h.2⟩)
      clear hh hi
      have Z1 := Lib.hid hHeld.1.size
      refine hK.out _ _ (KE.out _ (holdC hHeld hb)) (fun hHeld => ?_)
      clear hK K
      refine tkB (i := 6) hHeld ?_
      refine tkB (i := 7) hHeld ?_
      refine tkB (i := 8) hHeld ?_
      have DQ : Hid ((s1.alloc (.cells #[.slice none 0 0, .slice none 0 0] 26)).heap[s1.heap.size]? = some (.cells #[.slice none 0 0, .slice none 0 0] 26 (0, 0))) := Lib.hid (heap_alloc_new s1 _)
      have DW : Hid (wr.heap.size ≤ s1.heap.size) := Lib.hid hHeld.1.size
      have NQ := Lib.hid (N1.out.later ((Below.refl s1.heap.size s1).alloc (Nat.le_refl _) (.cells #[.slice none 0 0, .slice none 0 0] 26)))
      have IQ := Lib.hid (I1.out.later ((Below.refl s1.heap.size s1).alloc (Nat.le_refl _) (.cells #[.slice none 0 0, .slice none 0 0] 26)))
      clear hb N1 I1
      refine wpAnyH_ready (rs := [9]) (by kernel_rfl) (by simp) ?_
      refine AllReadyH.cons rfl (fun K hK => ?_) AllReadyH.nil
      go_simp
      refine hK.out _ _ (KE.out _ (hHeld.1.alloc hHeld.1.size _)) (fun hHeld => ?_)
      clear hK K
      generalize hD : s1.heap.size = gd at *
      generalize (s1.alloc (.cells #[.slice none 0 0, .slice none 0 0] 26)) = s2 at *
      obtain ⟨⟨t0, t1⟩, f0, f1⟩ := st2_cells DQ.out
      have DS := Lib.hid (st2_heap DQ.out (.slice qa qn qc) (.slice pa pn pc))
      have NZ := Lib.hid (Sq.set2 (st2_but _ _ (.slice qa qn qc) (.slice pa pn pc)) (int_no2 ⟨_, _, _, _, _, _, _, DQ.out⟩ NQ.out))
      have IZ := Lib.hid (Sq.set2 (st2_but _ _ (.slice qa qn qc) (.slice pa pn pc)) (item_no2 ⟨_, _, _, _, _, _, _, DQ.out⟩ IQ.out))
      have DB := Lib.hid hHeld.1
      refine wpAnyH_ready (rs := [10]) (by kernel_rfl) (by simp) ?_
      refine AllReadyH.cons rfl (fun K hK => ?_) AllReadyH.nil
      go_simp
      refine hK.out _ _ (KE.out _ ((DB.out.setCell DW.out _).setCell DW.out _)) (fun hHeld => ?_)
      clear hK K t0 t1 f0 f1
      refine tkB (i := 11) hHeld ?_
      refine wpAnyH_done (by kernel_rfl) ?_ _
      have GZ := Lib.hid hHeld.1
      clear hHeld
      go_wp2_with fail
      go_meet
      exact ⟨gd, _, _, _, _, _, _, rfl, rfl, DW.out, DS.out, NZ.out, IZ.out, GZ.out⟩
     ·go_simp
      have DQ0 : Hid ((wr.drew.alloc (.cells #[.slice none 0 0, .slice none 0 0] 26)).heap[wr.heap.size]? = some (.cells #[.slice none 0 0, .slice none 0 0] 26 (0, 0))) := Lib.hid (heap_alloc_new wr.drew _)
      have ZD : Hid (wr.heap.size < (wr.drew.alloc (.cells #[.slice none 0 0, .slice none 0 0] 26)).heap.size) := Lib.hid (by simp)
      refine hK.out _ _ (KE.out _ (hHeld.1.alloc hHeld.1.size _)) (fun hHeld => ?_)
      clear hK K
      refine wpAnyH_ready (rs := [5]) (by kernel_rfl) (by simp) ?_
      refine AllReadyH.cons rfl (fun K hK => ?_) AllReadyH.nil
      go_simp
      have ZH := Lib.hid hHeld.1.size
      refine (KD.out _ hHeld.1).mono ?_
      rintro e s1 ⟨qa, qn, qc, pa, pn, pc, rfl, hh, hi, hb⟩
      have N1 : Hid (Sq LInt (fun b => wr.heap.size ≤ b ∧ b < s1.heap.size) s1 (.slice qa qn qc) st.heard) := Lib.hid (hh.mono fun b h => ⟨Nat.le_trans ZH.out h.1, h.2⟩)
      have I1 : Hid (Sq LItem (fun b => wr.heap.size ≤ b ∧ b < s1.heap.size) s1 (.slice pa pn pc) st.items) := Lib.hid (hi.mono fun b h => ⟨Nat.le_trans ZH.out h.1, h.2⟩)
      clear hh hi
      have DQ : Hid (s1.heap[wr.heap.size]? = some (.cells #[.slice none 0 0, .slice none 0 0] 26 (0, 0))) := Lib.hid ((hb.block _ ZD.out).trans DQ0.out)
      have NQ := N1
      have IQ := I1
      refine hK.out _ _ (KE.out _ (holdC hHeld hb)) (fun hHeld => ?_)
      clear hK K hb
      refine tkB (i := 6) hHeld ?_
      refine tkB (i := 7) hHeld ?_
      refine tkB (i := 8) hHeld ?_
      have DW : Hid (wr.heap.size ≤ wr.heap.size) := Lib.hid (Nat.le_refl _)
      obtain ⟨⟨t0, t1⟩, f0, f1⟩ := st2_cells DQ.out
      have DS := Lib.hid (st2_heap DQ.out (.slice qa qn qc) (.slice pa pn pc))
      have NZ := Lib.hid (Sq.set2 (st2_but _ _ (.slice qa qn qc) (.slice pa pn pc)) (int_no2 ⟨_, _, _, _, _, _, _, DQ.out⟩ NQ.out))
      have IZ := Lib.hid (Sq.set2 (st2_but _ _ (.slice qa qn qc) (.slice pa pn pc)) (item_no2 ⟨_, _, _, _, _, _, _, DQ.out⟩ IQ.out))
      have DB := Lib.hid hHeld.1
      refine wpAnyH_ready (rs := [10]) (by kernel_rfl) (by simp) ?_
      refine AllReadyH.cons rfl (fun K hK => ?_) AllReadyH.nil
      go_simp
      refine hK.out _ _ (KE.out _ ((DB.out.setCell DW.out _).setCell DW.out _)) (fun hHeld => ?_)
      clear hK K t0 t1 f0 f1
      refine tkB (i := 11) hHeld ?_
      refine wpAnyH_done (by kernel_rfl) ?_ _
      have GZ := Lib.hid hHeld.1
      clear hHeld
      go_wp2_with fail
      go_meet
      exact ⟨wr.heap.size, _, _, _, _, _, _, rfl, rfl, DW.out, DS.out, NZ.out, IZ.out, GZ.out⟩
    case rest =>
     obtain ⟨nb, qa, qn, qc, pa, pn, pc, rfl, rfl, hnb, hq, hh, hi, hb⟩ := hcut
     have R1 := Lib.hid (R.out.below hb)
     have ZB : Hid (wr.heap.size ≤ wc.heap.size) := Lib.hid hb.size
     have ZR : Hid (gb < wr.heap.size) := Lib.hid R.out.glt
     have TL : Hid (∀ j, (Value.slice ta a.length tc).ownBlock = some j → j < wr.heap.size) := Lib.hid (fun j hj => (R.out.taken.lt j hj).2)
     have NB := Lib.hid hnb
     have NL : Hid (nb < wc.heap.size) := Lib.hid (Array.getElem?_eq_some_iff.1 hq).1
     by_cases he : er = 0
     ·have b0 : (er == 0) = true := by rw [he]; rfl
      obtain ⟨ST2, HME⟩ := HSP.out (by rfl) he
      have ST3 := Lib.hid ST2
      have HME2 := Lib.hid HME
      have HST := Lib.hid (HDZ.out he)
      have gc2 := R1.out.marks.cell R1.out.glen k hlt
      have gf2 := R1.out.marks.free R1.out.glen k
      have M3 := Lib.hid (R1.out.mark k)
      have BM := Lib.hid (But.set gb wc k (.bool true))
      have Q3 : Hid ((wc.setCell ⟨gb, k, none⟩ (.bool true)).heap[nb]? = some (.cells #[.slice qa qn qc, .slice pa pn pc] 26 (0, 0))) := Lib.hid ((BM.out.block nb NL.out (by have := NB.out; have := ZR.out; omega)).trans hq)
      have H3 : Hid (Sq LInt (fun b => wr.heap.size ≤ b ∧ b < wc.heap.size) (wc.setCell ⟨gb, k, none⟩ (.bool true)) (.slice qa qn qc) st.heard) := Lib.hid (hh.agree fun b h => BM.out.block b h.2 (by have := ZR.out; omega))
      have I3 : Hid (Sq LItem (fun b => wr.heap.size ≤ b ∧ b < wc.heap.size) (wc.setCell ⟨gb, k, none⟩ (.bool true)) (.slice pa pn pc) st.items) := Lib.hid (hi.agree fun b h => BM.out.block b h.2 (by have := ZR.out; omega))
      have ZM : Hid (wc.heap.size ≤ (wc.setCell ⟨gb, k, none⟩ (.bool true)).heap.size) := Lib.hid (by simp [World.setCell])
      have GP := Lib.hid R1.out.gpos
      clear hq hh hi hb hnb he ST2 HME HSK HSP HDZ BM R1
      go_upto_region 10 with fail
      clear gc2 gf2
      generalize hw3 : (wc.setCell ⟨gb, k, none⟩ (.bool true)) = w3 at *
      clear hw3
      generalize wc.heap.size = zc at *
      generalize wr.heap.size = zr at *
      obtain ⟨c0, c1, c2, c3⟩ := (HC.out w3 M3.out.low).1
      have SD3 : Hid (Sq LInt (fun b => b < w.heap.size) w3 (.slice da dn dc) t.deps) := Lib.hid (SD.out.agree fun b hb => M3.out.low.block b hb)
      have SE3 : Hid (Sq LEff (fun b => b < w.heap.size) w3 (.slice ea en ec) t.effs) := Lib.hid (SE.out.agree fun b hb => M3.out.low.block b hb)
      have OV := Lib.hid M3.out.taken.lt
      have GL := Lib.hid M3.out.glt
      go_wp2_with (at_builtin; refine wpList_append_elJ (fun b => b ≠ gb ∧ b ≠ w.heap.size) LTxn rfl (.tmp 38) (.tmp 43) rfl w.heap.size rfl (M3.out.taken.alloc _) rfl (one_txnG (x := t) (N := w.heap.size) SD3.out SE3.out M3.out.low.size (fun b hb => ⟨by have := GP.out; omega, by omega⟩) ⟨by have := GL.out; omega, by have := GL.out; have := GP.out; omega⟩ OV.out) (fun vs x h => h) (by have := AL.out; have := HNN.out; simp; omega) (by have := M3.out.low.size; simp; omega) ?_)
      intro v5 w5 ho5 hg5 hat5
      have BA : Hid (Below w3.heap.size w3 (w3.alloc (.cells #[.int .i64 t.node, .int .i64 t.seq, .slice da dn dc, .slice ea en ec] 30))) := Lib.hid ((Below.refl _ _).alloc (Nat.le_refl _) _)
      have ZA : Hid ((w3.alloc (.cells #[.int .i64 t.node, .int .i64 t.seq, .slice da dn dc, .slice ea en ec] 30)).heap.size = w3.heap.size + 1) := Lib.hid (by simp)
      have M5 := Lib.hid ((M3.out.below BA.out).grown hg5 (by rw [ZA.out]; exact hat5) ho5)
      have KB : Hid (∀ b, zr ≤ b → b < zc → w5.heap[b]? = w3.heap[b]?) := Lib.hid (fun b h1 h2 => (hg5.block b (by rw [ZA.out]; have := ZM.out; omega) fun e => by have := TL.out b e.symm; omega).trans (BA.out.block b (by have := ZM.out; omega)))
      have Q5 := Lib.hid ((KB.out nb NB.out NL.out).trans Q3.out)
      have H5 := Lib.hid (H3.out.agree fun b h => KB.out b h.1 h.2)
      have I5 := Lib.hid (I3.out.agree fun b h => KB.out b h.1 h.2)
      have NT : Hid (∀ b, zr ≤ b → b < zc → v5.ownBlock ≠ some b) := Lib.hid (fun b h1 h2 e => by
       rcases hat5 with e2 | e2
       ·have := TL.out b (e2.symm.trans e); omega
       ·rw [e2] at e
        have := Option.some.inj e
        have := ZM.out
        omega)
      have Z5 : Hid (zc ≤ w5.heap.size) := Lib.hid (by have := hg5.size; have := ZA.out; have := ZM.out; omega)
      rw [HST.out] at H5 I5
      obtain ⟨m5, hm5⟩ : ∃ m, (a ++ [t]).length = m := ⟨_, rfl⟩
      obtain ⟨t5, x5, hv5, -, -, -⟩ := ho5.at m5 hm5
      subst hv5
      have M6 := Lib.hid (M5.out.next (s' := sDo s t) ZR.out Z5.out NT.out H5.out I5.out)
      obtain ⟨⟨q0, q1⟩, -⟩ := st2_cells Q5.out
      obtain ⟨⟨s0', s1'⟩, f0, f1⟩ := st2_cells M5.out.sb
      clear ho5 hg5 hat5 hm5 c0 c1 c2 c3 BA
      go_wp2_with fail
      go_roundg ((oLeft (mF (g.set k true) l) l).length * (n + 1) + (n - 0))
      case measure =>
       have h1 := HGG.out
       have h2 : (oLeft (mF g l) l).length * (n + 1) = (oLeft (mF (g.set k true) l) l).length * (n + 1) + (n + 1) := by rw [HME2.out, Nat.succ_mul]
       omega
      case rel => exact ⟨0, _, _, _, _, _, _, _, _, _, Nat.zero_le _, rfl, M6.out, ST3.out, Nat.le_refl _⟩
     ·have b0 : (er == 0) = false := beq_false_of_ne he
      have HS2 := Lib.hid (HSK.out (.inr he))
      clear he hq hh hi hb hnb
      go_wp2_with fail
      go_roundg ((oLeft (mF g l) l).length * (n + 1) + (n - (k + 1)))
      case measure => have := HGG.out; omega
      case rel => exact ⟨k + 1, g, a, s, _, _, _, _, _, _, by omega, by go_num, R1.out, HS2.out, Nat.le_refl _⟩
   ·have HS2 := Lib.hid (HSK.out (.inl rfl))
    clear hW
    go_wp2_with fail
    go_roundg ((oLeft (mF g l) l).length * (n + 1) + (n - (k + 1)))
    case measure => have := HGG.out; omega
    case rel => exact ⟨k + 1, g, a, s, _, _, _, _, _, _, by omega, by go_num, R.out, HS2.out, Nat.le_refl _⟩
  ·obtain rfl : k = n := by omega
   have HE : Hid (sTake s0.heard l = a ∧ sAll s0 l = s) := Lib.hid (by have h := ST.out; rw [HNN.out] at h; exact h.none)
   obtain ⟨⟨c0, c1⟩, -⟩ := st2_cells R.out.sb
   obtain ⟨ra, rn, rc, ra', rn', rc', hr⟩ := R.out.res
   obtain ⟨⟨r0, r1⟩, f0, f1⟩ := st2_cells hr
   have TW : Hid (Two wr (w.heap.size + 1)) := Lib.hid ⟨_, _, _, _, _, _, _, hr⟩
   have X5 := Lib.hid (seq_int_but TW.out (st2_but wr (w.heap.size + 1) (.slice ha hm hc) (.slice ia im ic)) R.out.box.h)
   have I5 := Lib.hid (seq_item_but TW.out (st2_but wr (w.heap.size + 1) (.slice ha hm hc) (.slice ia im ic)) R.out.box.i)
   have A5 := Lib.hid (seq_txn_but TW.out (st2_but wr (w.heap.size + 1) (.slice ha hm hc) (.slice ia im ic)) R.out.taken.own.seq)
   have LZ := Lib.hid ((R.out.low.setCell (p := ⟨w.heap.size + 1, 0, none⟩) (by show w.heap.size ≤ w.heap.size + 1; omega) (.slice ha hm hc)).setCell (p := ⟨w.heap.size + 1, 1, none⟩) (by show w.heap.size ≤ w.heap.size + 1; omega) (.slice ia im ic))
   have DZ := Lib.hid (st2_cells (st2_heap hr (.slice ha hm hc) (.slice ia im ic))).1
   clear hr
   go_wp2_with fail
   obtain ⟨z0, z1⟩ := DZ.out
   refine bodyPost_ret (v := .tuple #[.agg #[.slice ha hm hc, .slice ia im ic], .slice ta a.length tc]) (by simp [results, Tryz.results20, go_sem, z0, z1]) rfl ?_
   rw [HE.out.1, HE.out.2]
   exact ⟨_, _, _, _, _, _, _, _, _, rfl, X5.out, I5.out, A5.out, LZ.out⟩
end Go.Proofs.YtpnpomocjkmncaaGreat
