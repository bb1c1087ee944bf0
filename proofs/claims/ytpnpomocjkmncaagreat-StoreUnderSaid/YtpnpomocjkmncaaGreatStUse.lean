/- What the program's own Under and All of stores leave. (Written by gen-un.py.) The laws' own function awake (stage 15); what the laws look at of stores and transactions. -/
import Derived.Test.YtpnpomocjkmncaaGreatStBh
import Derived.Test.YtpnpomocjkmncaaGreatStFm
import Derived.Test.YtpnpomocjkmncaaGreatOrTk
import Derived.Test.YtpnpomocjkmncaaGreatIKeyF
import Derived.Test.YtpnpomocjkmncaaGreatStore
import Derived.Deep.RegionHeld3
import Derived.Test.YtpnpomocjkmncaaGreatStSnd
import Derived.Test.YtpnpomocjkmncaaGreatTxUses
import Derived.Test.YtpnpomocjkmncaaGreatRefTxF2
import Derived.Test.YtpnpomocjkmncaaGreatStMaths
import Derived.Deep.Cut
import Derived.Deep.DeepCutAuto
import Derived.Shelf.Abstract
namespace Go.Proofs.YtpnpomocjkmncaaGreat
open Go.RowKit Plain
set_option linter.unusedVariables false

structure UnAt (w : World) (ha : Option Addr) (hn hc : Nat) (ia : Option Addr) (im ic : Nat) (u : World) : Prop where
 low : Below w.heap.size w u
 sb : u.heap[w.heap.size]? = some (.cells #[.slice ha hn hc, .slice ia im ic] 26 (0, 0))
 rb : ∃ a n c a' n' c', u.heap[w.heap.size + 1]? = some (.cells #[.slice a n c, .slice a' n' c'] 26 (0, 0))
section
variable {w u u' : World} {ha : Option Addr} {hn hc : Nat} {ia : Option Addr} {im ic : Nat}
theorem UnAt.below (k : UnAt w ha hn hc ia im ic u) (hb : Below u.heap.size u u') : UnAt w ha hn hc ia im ic u' := by
 have lt : ∀ {i : Nat} {o : Obj}, u.heap[i]? = some o → u'.heap[i]? = some o := fun {i o} h => (hb.block i (Array.getElem?_eq_some_iff.1 h).1).trans h
 obtain ⟨a, n, c, a', n', c', hr⟩ := k.rb
 exact ⟨k.low.trans (hb.mono k.low.size), lt k.sb, a, n, c, a', n', c', lt hr⟩
theorem UnAt.two (k : UnAt w ha hn hc ia im ic u) : Two u (w.heap.size + 1) := by
 obtain ⟨a, n, c, a', n', c', hr⟩ := k.rb
 exact ⟨a, n, c, a', n', c', _, hr⟩
theorem UnAt.set (k : UnAt w ha hn hc ia im ic u) (a : Option Addr) (n c : Nat) (a' : Option Addr) (n' c' : Nat) : UnAt w ha hn hc ia im ic ((u.setCell ⟨w.heap.size + 1, 0, none⟩ (.slice a n c)).setCell ⟨w.heap.size + 1, 1, none⟩ (.slice a' n' c')) := by
 have hb := st2_but u (w.heap.size + 1) (.slice a n c) (.slice a' n' c')
 obtain ⟨b, m, d, b', m', d', hr⟩ := k.rb
 exact ⟨(k.low.setCell (by show w.heap.size ≤ w.heap.size + 1; omega) _).setCell (by show w.heap.size ≤ w.heap.size + 1; omega) _, (hb.block _ (Array.getElem?_eq_some_iff.1 k.sb).1 (by omega)).trans k.sb, a, n, c, a', n', c', st2_heap hr _ _⟩
theorem UnAt.res (k : UnAt w ha hn hc ia im ic u) : ∃ a n c a' n' c', u.cell? ⟨w.heap.size + 1, 0, none⟩ = some (.slice a n c) ∧ u.cell? ⟨w.heap.size + 1, 1, none⟩ = some (.slice a' n' c') ∧ u.frozen? ⟨w.heap.size + 1, 0, none⟩ = false ∧ u.frozen? ⟨w.heap.size + 1, 1, none⟩ = false := by
 obtain ⟨a, n, c, a', n', c', hr⟩ := k.rb
 obtain ⟨⟨h0, h1⟩, h2, h3⟩ := st2_cells hr
 exact ⟨a, n, c, a', n', c', h0, h1, h2, h3⟩
theorem UnAt.done (k : UnAt w ha hn hc ia im ic u) (x y : Value) : ((u.setCell ⟨w.heap.size + 1, 0, none⟩ x).setCell ⟨w.heap.size + 1, 1, none⟩ y).cell? ⟨w.heap.size + 1, 0, none⟩ = some x ∧ ((u.setCell ⟨w.heap.size + 1, 0, none⟩ x).setCell ⟨w.heap.size + 1, 1, none⟩ y).cell? ⟨w.heap.size + 1, 1, none⟩ = some y := by
 obtain ⟨a, n, c, a', n', c', hr⟩ := k.rb
 exact (st2_cells (st2_heap hr x y)).1
theorem unat_new (w : World) (ha : Option Addr) (hn hc : Nat) (ia : Option Addr) (im ic : Nat) : UnAt w ha hn hc ia im ic ((w.alloc (.cells #[.slice ha hn hc, .slice ia im ic] 26)).alloc (.cells #[.slice none 0 0, .slice none 0 0] 26)) := by
 have z1 : (w.alloc (.cells #[.slice ha hn hc, .slice ia im ic] 26)).heap.size = w.heap.size + 1 := by simp
 have b1 : Below (w.heap.size + 1) (w.alloc (.cells #[.slice ha hn hc, .slice ia im ic] 26)) ((w.alloc (.cells #[.slice ha hn hc, .slice ia im ic] 26)).alloc (.cells #[.slice none 0 0, .slice none 0 0] 26)) := (Below.refl _ _).alloc (by simp) _
 have h1 := heap_alloc_new w (.cells #[.slice ha hn hc, .slice ia im ic] 26)
 have h2 := heap_alloc_new (w.alloc (.cells #[.slice ha hn hc, .slice ia im ic] 26)) (.cells #[.slice none 0 0, .slice none 0 0] 26)
 rw [z1] at h2
 exact ⟨((Below.refl _ _).alloc (Nat.le_refl _) _).alloc (by simp) _, (b1.block _ (by omega)).trans h1, _, _, _, _, _, _, h2⟩
end
set_option maxRecDepth 100000 in
set_option maxHeartbeats 8000000 in
theorem stUnder_any {v zv : Value} {s : PStore} {zs : List Txt} {w : World} (hs : IsStore w v s) (hz : SeqT w zv zs) (hl : s.heard.length ≤ 1000000) (hi : s.items.length ≤ 1000000) (hzl : zs.length ≤ 1000000) : Calls Tryz.prog 21 #[v, zv] w (GivesSt w ⟨s.heard, iunder s.items zs⟩) := by
 obtain ⟨ha, hn, hc, ia, im, ic, rfl, h1, h2⟩ := hs.slices
 have DA := Lib.hid (unat_new w ha hn hc ia im ic)
 have KE : Hid (∀ u, UnAt w ha hn hc ia im ic u → UnAt w ha hn hc ia im ic u ∧ u.cell? ⟨w.heap.size, 0, none⟩ = some (.slice ha hn hc) ∧ u.cell? ⟨w.heap.size, 1, none⟩ = some (.slice ia im ic)) := Lib.hid (fun u k => ⟨k, (st2_cells k.sb).1⟩)
 have KC := Lib.hid (fun u (k : UnAt w ha hn hc ia im ic u) => tclone_any (h1.below k.low) hl)
 have KU := Lib.hid (fun u (k : UnAt w ha hn hc ia im ic u) => iunder_any (h2.below k.low) (hz.below k.low) hi hzl)
 obtain ⟨za, zc, rfl, -, -, -, -⟩ := hz.parts
 clear hs hz hl hi hzl h1 h2
 generalize iunder s.items zs = ui at *
 generalize zs.length = zn at *
 obtain ⟨hd, hhd⟩ : ∃ h, h = s.heard := ⟨_, rfl⟩
 rw [← hhd] at KC ⊢
 clear hhd
 go_enter Tryz.func21, Tryz.ntmps21
 go_upto_region 1 with fail
 generalize ((w.alloc (.cells #[.slice ha hn hc, .slice ia im ic] 26)).alloc (.cells #[.slice none 0 0, .slice none 0 0] 26)) = w0 at *
 refine wp_region_held_drew (S := fun u' => UnAt w ha hn hc ia im ic u' ∧ u'.cell? ⟨w.heap.size, 0, none⟩ = some (.slice ha hn hc) ∧ u'.cell? ⟨w.heap.size, 1, none⟩ = some (.slice ia im ic)) (by kernel_rfl) ?_ (fun hHeld => ?_)
 ·(exact KE.out _ (DA.out.below (Below.refl _ _).drew))
 simp only [List.size_toArray, List.length_cons, List.length_nil, Nat.zero_add, Nat.reduceAdd]
 refine tkB (i := 0) hHeld ?_
 refine tkB (i := 1) hHeld ?_
 refine tkB (i := 3) hHeld ?_
 refine tkB (i := 4) hHeld ?_
 refine tkB (i := 5) hHeld ?_
 refine wpAnyH_ready (rs := [2]) (by kernel_rfl) (by simp) ?_
 refine AllReadyH.cons rfl (fun K hK => ?_) AllReadyH.nil
 go_simp
 refine (KC.out _ hHeld.1).mono ?_
 rintro e s1 ⟨va, rfl, ho, hb⟩
 have N1 := Lib.hid ho.seq
 obtain ⟨na, nc, rfl, -⟩ := ho.parts
 clear ho
 refine hK.out _ _ (KE.out _ (hHeld.1.below hb)) (fun hHeld => ?_)
 clear hK K hb
 refine wpAnyH_ready (rs := [6]) (by kernel_rfl) (by simp) ?_
 refine AllReadyH.cons rfl (fun K hK => ?_) AllReadyH.nil
 go_simp
 refine (KU.out _ hHeld.1).mono ?_
 rintro e s2 ⟨vb, rfl, ho, hb⟩
 have N2 := Lib.hid (N1.out.below hb)
 have I2 := Lib.hid ho.seq
 obtain ⟨ba, bc, rfl, -⟩ := ho.parts
 clear ho N1
 refine hK.out _ _ (KE.out _ (hHeld.1.below hb)) (fun hHeld => ?_)
 clear hK K hb
 refine tkB (i := 7) hHeld ?_
 obtain ⟨ra, rn, rc, ra', rn', rc', q0, q1, f0, f1⟩ := hHeld.1.res
 have DZ := Lib.hid (hHeld.1.done (.slice na hd.length nc) (.slice ba ui.length bc))
 have TW := Lib.hid hHeld.1.two
 have N5 := Lib.hid (seq_int_but TW.out (st2_but _ _ (.slice na hd.length nc) (.slice ba ui.length bc)) N2.out)
 have I5 := Lib.hid (seq_item_but TW.out (st2_but _ _ (.slice na hd.length nc) (.slice ba ui.length bc)) I2.out)
 refine wpAnyH_ready (rs := [8]) (by kernel_rfl) (by simp) ?_
 refine AllReadyH.cons rfl (fun K hK => ?_) AllReadyH.nil
 go_simp
 refine hK.out _ _ (KE.out _ (hHeld.1.set na hd.length nc ba ui.length bc)) (fun hHeld => ?_)
 clear hK K q0 q1 f0 f1
 refine wpAnyH_done (by kernel_rfl) ?_ _
 have LZ := Lib.hid hHeld.1.low
 clear hHeld
 obtain ⟨z0, z1⟩ := DZ.out
 go_wp2_with fail
 refine bodyPost_ret (v := .agg #[.slice na hd.length nc, .slice ba ui.length bc]) (by simp [results, Tryz.results21, go_sem, z0, z1]) rfl ?_
 exact ⟨_, _, _, _, _, _, rfl, N5.out, I5.out, LZ.out⟩
set_option maxRecDepth 100000 in
set_option maxHeartbeats 8000000 in
theorem stAllP_any {v lv : Value} {s : PStore} {l : List PTxn} {w : World} (hs : IsStore w v s) (hlv : SeqE LTxn w lv l) (hl : s.heard.length ≤ 1000000) (hi : s.items.length ≤ 90000) (hd : ∀ x ∈ s.items, dotOk x.dot) (hn : l.length ≤ 100) (hf : ∀ t ∈ l, FitB t) : Calls Tryz.prog 19 #[v, lv] w (GivesStT w (sAll s l) (sTake s.heard l)) := by
 obtain ⟨ha, hm, hc, ia, im, ic, rfl, h1, h2⟩ := hs.slices
 have DA := Lib.hid (unat_new w ha hm hc ia im ic)
 have KE : Hid (∀ u, UnAt w ha hm hc ia im ic u → UnAt w ha hm hc ia im ic u ∧ u.cell? ⟨w.heap.size, 0, none⟩ = some (.slice ha hm hc) ∧ u.cell? ⟨w.heap.size, 1, none⟩ = some (.slice ia im ic)) := Lib.hid (fun u k => ⟨k, (st2_cells k.sb).1⟩)
 have HR : Hid (sAll s l = ⟨oEnd s.heard (sTake s.heard l), sBehind s.items (sTake s.heard l)⟩) := Lib.hid (pstore_ext (sAll_heard s l) (sAll_items s l))
 have KF := Lib.hid (fun u (k : UnAt w ha hm hc ia im ic u) => stFormed_any (hlv.below k.low) (by omega) (fun t ht => (hf t ht).tx))
 have HFW : Hid (∀ t ∈ sForm l, FitW t) := Lib.hid (fun t ht => by have h := (hf t (sForm_mem.1 ht).1).tx; exact ⟨by have := h.deps; omega, by have := h.effs; omega, fun e he => by have := h.drops e he; omega, h.ok⟩)
 have HFL : Hid ((sForm l).length ≤ 1000000) := Lib.hid (by have := sForm_len l; omega)
 have KT := Lib.hid (fun u fv (k : UnAt w ha hm hc ia im ic u) (hs : SeqE LTxn u fv (sForm l)) => takeP_any (seqI_of (h1.below k.low)) hs HFL.out HFW.out hl)
 have KB := Lib.hid (fun u av (k : UnAt w ha hm hc ia im ic u) (hs : SeqE LTxn u av (sTake s.heard l)) => stBehind_any (h2.below k.low) hs (by omega) (by have := sTake_len s.heard l; omega) (fun t ht => hf t (sTake_in ht)) hd)
 have HTK : Hid (oTake s.heard (sForm l) = sTake s.heard l) := Lib.hid rfl
 rw [HTK.out] at KT
 obtain ⟨la, lc, rfl, -, -, -, -⟩ := hlv.parts
 rw [HR.out]
 clear hs hlv hl hi hd hf hn h1 h2 HR HTK HFW HFL
 generalize sBehind s.items (sTake s.heard l) = bi at *
 generalize oEnd s.heard (sTake s.heard l) = eh at *
 generalize sTake s.heard l = tk at *
 generalize sForm l = fl at *
 generalize l.length = ln at *
 go_enter Tryz.func19, Tryz.ntmps19
 go_upto_region 1 with fail
 generalize ((w.alloc (.cells #[.slice ha hm hc, .slice ia im ic] 26)).alloc (.cells #[.slice none 0 0, .slice none 0 0] 26)) = w0 at *
 refine wp_region_held_drew (S := fun u' => UnAt w ha hm hc ia im ic u' ∧ u'.cell? ⟨w.heap.size, 0, none⟩ = some (.slice ha hm hc) ∧ u'.cell? ⟨w.heap.size, 1, none⟩ = some (.slice ia im ic)) (by kernel_rfl) ?_ (fun hHeld => ?_)
 ·(exact KE.out _ (DA.out.below (Below.refl _ _).drew))
 simp only [List.size_toArray, List.length_cons, List.length_nil, Nat.zero_add, Nat.reduceAdd]
 refine tkB (i := 0) hHeld ?_
 refine tkB (i := 1) hHeld ?_
 refine tkB (i := 2) hHeld ?_
 refine wpAnyH_ready (rs := [3]) (by kernel_rfl) (by simp) ?_
 refine AllReadyH.cons rfl (fun K hK => ?_) AllReadyH.nil
 go_simp
 refine (KF.out _ hHeld.1).mono ?_
 rintro e s1 ⟨va, rfl, ho, hb⟩
 have F1 := Lib.hid ho.seq
 obtain ⟨na, nc, rfl, -⟩ := ho.parts
 clear ho
 refine hK.out _ _ (KE.out _ (hHeld.1.below hb)) (fun hHeld => ?_)
 clear hK K hb
 refine wpAnyH_ready (rs := [4]) (by kernel_rfl) (by simp) ?_
 refine AllReadyH.cons rfl (fun K hK => ?_) AllReadyH.nil
 go_simp
 refine (KT.out _ _ hHeld.1 F1.out).mono ?_
 rintro e s2 ⟨av, xv, rfl, ha2, hx2, hb⟩
 have A2 := Lib.hid ha2
 have X2 := Lib.hid hx2
 obtain ⟨aa, ac, rfl, -, -, -, -⟩ := ha2.parts
 obtain ⟨xa, xc, rfl, -, -, -, -⟩ := hx2.parts
 clear ha2 hx2 F1
 refine hK.out _ _ (KE.out _ (hHeld.1.below hb)) (fun hHeld => ?_)
 clear hK K hb
 refine tkB (i := 5) hHeld ?_
 refine tkB (i := 6) hHeld ?_
 refine tkB (i := 7) hHeld ?_
 refine tkB (i := 8) hHeld ?_
 refine tkB (i := 9) hHeld ?_
 refine wpAnyH_done (by kernel_rfl) ?_ _
 have D2 := Lib.hid hHeld.1
 clear hHeld DA
 obtain ⟨c0, c1⟩ := (st2_cells D2.out.sb).1
 have K2 := KB.out _ _ D2.out A2.out
 go_wp2_with fail
 refine K2.mono ?_
 rintro e s3 ⟨vb, rfl, ho, hb⟩
 have D3 := Lib.hid (D2.out.below hb)
 have A3 := Lib.hid (A2.out.below hb)
 have X3 := Lib.hid (X2.out.below hb)
 have I3 := Lib.hid ho.seq
 obtain ⟨ba, bc, rfl, -⟩ := ho.parts
 clear ho hb K2 c0 c1 D2 A2 X2
 obtain ⟨ra, rn, rc, ra', rn', rc', q0, q1, f0, f1⟩ := D3.out.res
 have DZ := Lib.hid (D3.out.done (.slice xa eh.length xc) (.slice ba bi.length bc))
 have TW := Lib.hid D3.out.two
 have N5 := Lib.hid (seq_int_but TW.out (st2_but _ _ (.slice xa eh.length xc) (.slice ba bi.length bc)) X3.out)
 have I5 := Lib.hid (seq_item_but TW.out (st2_but _ _ (.slice xa eh.length xc) (.slice ba bi.length bc)) I3.out)
 have A5 := Lib.hid (seq_txn_but TW.out (st2_but _ _ (.slice xa eh.length xc) (.slice ba bi.length bc)) A3.out)
 have LZ := Lib.hid (D3.out.set xa eh.length xc ba bi.length bc).low
 go_wp2_with fail
 obtain ⟨z0, z1⟩ := DZ.out
 refine bodyPost_ret (v := .tuple #[.agg #[.slice xa eh.length xc, .slice ba bi.length bc], .slice aa tk.length ac]) (by simp [results, Tryz.results19, go_sem, z0, z1]) rfl ?_
 exact ⟨_, _, _, _, _, _, _, _, _, rfl, N5.out, I5.out, A5.out, LZ.out⟩
end Go.Proofs.YtpnpomocjkmncaaGreat
namespace Go.Proofs.YtpnpomocjkmncaaGreat
open Go.RowKit Plain
set_option linter.unusedVariables false

def putE : PEff := ⟨0, [97], [], 2, [120], 0, []⟩
def putT (n : Int) : PTxn := ⟨n, 1, [], [putE]⟩
def putI (n : Int) : PItem := ⟨[97], [], 2, [120], 0, ⟨n, 1, 0⟩⟩
theorem put_take : sTake [] [putT 1, putT 0] = [putT 1, putT 0] := by decide +kernel
theorem put_all : sAll ⟨[], []⟩ [putT 1, putT 0] = ⟨[1, 1], [putI 0, putI 1]⟩ := by decide +kernel
theorem put_sound : soundB ⟨[1, 1], [putI 0, putI 1]⟩ = true := by decide +kernel
theorem put_fit : ∀ t ∈ [putT 1, putT 0], FitB t := by
 intro t ht
 have key : ∀ n : Int, (n = 1 ∨ n = 0) → FitB (putT n) := fun n hn => by
  refine ⟨⟨by simp [putT], by simp [putT], fun e he => ?_, ⟨?_, by show (Lit.int .i64 1).wf = true; decide, fun m hm => by simp [putT] at hm, fun e he => ?_⟩⟩, by simp [putT], fun e he => ?_⟩
  ·rw [List.mem_singleton.1 (show e ∈ [putE] from he)]; simp [putE]
  ·rcases hn with rfl | rfl
   ·show (Lit.int .i64 1).wf = true; decide
   ·show (Lit.int .i64 0).wf = true; decide
  ·rw [List.mem_singleton.1 (show e ∈ [putE] from he)]
   exact ⟨by decide, by decide, by decide, fun d hd => by simp [putE] at hd, by decide, by decide, by decide⟩
  ·rw [List.mem_singleton.1 (show e ∈ [putE] from he)]; simp [putE]
 simp only [List.mem_cons, List.not_mem_nil, or_false] at ht
 rcases ht with rfl | rfl
 ·exact key 1 (.inl rfl)
 ·exact key 0 (.inr rfl)
theorem put_dots : ∀ x ∈ [putI 0, putI 1], dotOk x.dot := by
 intro x hx
 simp only [List.mem_cons, List.not_mem_nil, or_false] at hx
 rcases hx with rfl | rfl
 ·exact ⟨by decide, by decide, by decide⟩
 ·exact ⟨by decide, by decide, by decide⟩
theorem put_eff (W : World) : Sq LEff (fun b => b = W.heap.size) (W.alloc (.cells #[.int .i64 0, .string ⟨#[97]⟩, .string ⟨#[]⟩, .int .i64 2, .string ⟨#[120]⟩, .int .i64 0, .slice none 0 0] 59)) (.slice (some ⟨W.heap.size, 0, none⟩) 1 1) [putE] := by
 refine ⟨_, 1, cellsEf putE (.slice none 0 0), rfl, Nat.le_refl _, by unfold maxLen; simp, (by simp), Rows.of_one ⟨_, rfl, Sq.nil _ _⟩, fun _ => ⟨_, 0, rfl, rfl, fun i u' hu => ?_⟩⟩
 rw [Nat.zero_add]
 have := World.cell?_alloc_new W #[.int .i64 0, .string ⟨#[97]⟩, .string ⟨#[]⟩, .int .i64 2, .string ⟨#[120]⟩, .int .i64 0, .slice none 0 0] 59 i
 rw [this, ← Array.getElem?_toList]
 exact hu
def GivesPutT (W : World) (n : Int) (e : Ending) (w' : World) : Prop := ∃ g, e = .returned (.agg #[.int .i64 n, .int .i64 1, .slice none 0 0, .slice (some ⟨g, 0, none⟩) 1 1]) ∧ SeqE LEff w' (.slice (some ⟨g, 0, none⟩) 1 1) [putE] ∧ Below W.heap.size W w'
set_option maxRecDepth 100000 in
set_option maxHeartbeats 4000000 in
theorem put_any (n : Int) (W : World) : Calls Tryz.prog 28 #[.int .i64 n] W (GivesPutT W n) := by
 have RA : Hid ((W.alloc (.cells #[.int .i64 0, .int .i64 0, .slice none 0 0, .slice none 0 0] 30)).heap[W.heap.size]? = some (.cells #[.int .i64 0, .int .i64 0, .slice none 0 0, .slice none 0 0] 30 (0, 0))) := Lib.hid (heap_alloc_new W _)
 have GA := Lib.hid ((Below.refl W.heap.size W).alloc (Nat.le_refl _) (.cells #[.int .i64 0, .int .i64 0, .slice none 0 0, .slice none 0 0] 30))
 have ZA : Hid ((W.alloc (.cells #[.int .i64 0, .int .i64 0, .slice none 0 0, .slice none 0 0] 30)).heap.size = W.heap.size + 1) := Lib.hid (by simp)
 go_enter Tryz.func28, Tryz.ntmps28
 go_upto_region 1 with fail
 generalize (W.alloc (.cells #[.int .i64 0, .int .i64 0, .slice none 0 0, .slice none 0 0] 30)) = wa at *
 have EB := Lib.hid (put_eff wa)
 have BB : Hid (Below wa.heap.size wa (wa.alloc (.cells #[.int .i64 0, .string ⟨#[97]⟩, .string ⟨#[]⟩, .int .i64 2, .string ⟨#[120]⟩, .int .i64 0, .slice none 0 0] 59))) := Lib.hid ((Below.refl _ _).alloc (Nat.le_refl _) _)
 have RB := Lib.hid ((BB.out.block W.heap.size (by rw [ZA.out]; omega)).trans RA.out)
 have FC := Lib.hid (st4_cells (st4_block (v0 := .int .i64 n) (v1 := .int .i64 1) (v2 := .slice none 0 0) (v3 := .slice (some ⟨wa.heap.size, 0, none⟩) 1 1) RB.out)).1
 have FB := Lib.hid (st4_below (v0 := .int .i64 n) (v1 := .int .i64 1) (v2 := .slice none 0 0) (v3 := .slice (some ⟨wa.heap.size, 0, none⟩) 1 1) (GA.out.trans (BB.out.mono GA.out.size)) (Nat.le_refl W.heap.size))
 have FT := Lib.hid (st4_bareB (wa.alloc (.cells #[.int .i64 0, .string ⟨#[97]⟩, .string ⟨#[]⟩, .int .i64 2, .string ⟨#[120]⟩, .int .i64 0, .slice none 0 0] 59)) W.heap.size (.int .i64 n) (.int .i64 1) (.slice none 0 0) (.slice (some ⟨wa.heap.size, 0, none⟩) 1 1))
 have FE := Lib.hid ((EB.out.agree fun b hb => FT.out.block b (by rw [hb]; simp) (by rw [hb, ZA.out]; omega)).mono fun b hb => (by rw [show b = wa.heap.size from hb]; exact Nat.lt_of_lt_of_le (by simp) FT.out.size : b < (st4 (wa.alloc (.cells #[.int .i64 0, .string ⟨#[97]⟩, .string ⟨#[]⟩, .int .i64 2, .string ⟨#[120]⟩, .int .i64 0, .slice none 0 0] 59)) W.heap.size (.int .i64 n) (.int .i64 1) (.slice none 0 0) (.slice (some ⟨wa.heap.size, 0, none⟩) 1 1)).heap.size))
 obtain ⟨⟨y0, y1, y2, y3⟩, f0, f1, f2, f3⟩ := st4_cells RB.out
 clear FT EB BB RB
 unfold st4 at FC FB FE
 go_wp2_with fail
 obtain ⟨z0, z1, z2, z3⟩ := FC.out
 refine bodyPost_ret (v := .agg #[.int .i64 n, .int .i64 1, .slice none 0 0, .slice (some ⟨wa.heap.size, 0, none⟩) 1 1]) (by simp [results, Tryz.results28, go_sem, z0, z1, z2, z3]) rfl ?_
 exact ⟨_, rfl, FE.out, FB.out⟩
theorem put_two {W : World} {g1 g0 : Nat} (h1 : SeqE LEff W (.slice (some ⟨g1, 0, none⟩) 1 1) [putE]) (h0 : SeqE LEff W (.slice (some ⟨g0, 0, none⟩) 1 1) [putE]) :
  SeqE LTxn (W.alloc (.cells #[.int .i64 1, .int .i64 1, .slice none 0 0, .slice (some ⟨g1, 0, none⟩) 1 1, .int .i64 0, .int .i64 1, .slice none 0 0, .slice (some ⟨g0, 0, none⟩) 1 1] 30)) (.slice (some ⟨W.heap.size, 0, none⟩) 2 2) [putT 1, putT 0] :=
 SeqE.lit (L := LTxn) W #[.int .i64 1, .int .i64 1, .slice none 0 0, .slice (some ⟨g1, 0, none⟩) 1 1, .int .i64 0, .int .i64 1, .slice none 0 0, .slice (some ⟨g0, 0, none⟩) 1 1] [putT 1, putT 0]
  ((Rows.of_one (L := LTxn) (vs := cellsTx (putT 1) (.slice none 0 0) (.slice (some ⟨g1, 0, none⟩) 1 1)) ⟨_, _, rfl, SeqE.nil _, h1⟩).append (Rows.of_one (L := LTxn) (vs := cellsTx (putT 0) (.slice none 0 0) (.slice (some ⟨g0, 0, none⟩) 1 1)) ⟨_, _, rfl, SeqE.nil _, h0⟩)) (by simp)
set_option maxRecDepth 100000 in
set_option maxHeartbeats 8000000 in
theorem stawake_any (w : World) : Calls Tryz.prog 8 #[] w (GivesB w true) := by
 have KP := Lib.hid (fun n W => put_any n W)
 have eg : ∀ args w, (callFunc 28 args).run Tryz.prog w = .ok (.enter 28 args) w := enters_of Tryz.func28 (by kernel_rfl) rfl
 go_enter Tryz.func8, Tryz.ntmps8
 have G0 := Lib.hid (Below.refl w.heap.size w)
 have HT := put_take
 have HA := put_all
 have HTA := Lib.hid HT
 have HAA := Lib.hid HA
 clear HT HA
 go_upto_region 3 with (first
  | (go_at_fn 28; refine (KP.out _ _).mono ?_; rintro e w1 ⟨g1, rfl, h1, hb⟩; have E1 := Lib.hid h1; have G1 := Lib.hid hb; clear h1 hb G0)
  | (go_at_fn 28; refine (KP.out _ _).mono ?_; rintro e w2 ⟨g0, rfl, h0, hb⟩; have PT := Lib.hid (put_two (E1.out.below hb) h0); have G2 := Lib.hid (G1.out.trans (hb.mono G1.out.size)); have B2 : Hid (Below w2.heap.size w2 (w2.alloc (.cells #[.int .i64 1, .int .i64 1, .slice none 0 0, .slice (some ⟨g1, 0, none⟩) 1 1, .int .i64 0, .int .i64 1, .slice none 0 0, .slice (some ⟨g0, 0, none⟩) 1 1] 30))) := Lib.hid ((Below.refl _ _).alloc (Nat.le_refl _) _); have KA := Lib.hid (stAllP_any (s := ⟨[], []⟩) ⟨_, _, rfl, SeqE.nil _, SeqE.nil _⟩ PT.out (by simp) (by simp) (fun x hx => absurd hx (by simp)) (by simp) put_fit); rw [HTA.out, HAA.out] at KA; clear h0 hb G1 E1 KP eg)
  | (go_at_call 19; refine KA.out.mono ?_; rintro e w3 ⟨ha, hn, hc, ia, im, ic, ta, tn, tc, rfl, hh, hi, ht, hb⟩; have SB := Lib.hid (stbox_new (s := ⟨[1, 1], [putI 0, putI 1]⟩) hh hi); have G3 := Lib.hid (G2.out.trans ((B2.out.trans (hb.mono B2.out.size)).mono G2.out.size)); have B3 : Hid (Below w3.heap.size w3 (w3.alloc (.cells #[.slice ha hn hc, .slice ia im ic] 26))) := Lib.hid ((Below.refl _ _).alloc (Nat.le_refl _) _); have DT := Lib.hid ht.dims.1; have DI := Lib.hid hi.dims.1; clear hh hi ht hb KA))
 obtain rfl : 2 = tn := DT.out
 obtain rfl : 2 = im := DI.out
 generalize (w3.alloc (.cells #[.slice ha hn hc, .slice ia 2 ic] 26)) = w4 at *
 have G4 := Lib.hid (G3.out.trans (B3.out.mono G3.out.size))
 generalize w3.heap.size = g at *
 obtain ⟨ib, io, icc, hv, L1, L2, -, hc'⟩ := items_spot SB.out.i (by simp)
 simp only [List.length_cons, List.length_nil, Nat.zero_add, Nat.reduceAdd, Value.slice.injEq] at hv L1
 obtain ⟨rfl, -, rfl⟩ := hv
 have c5 : w4.cell? ⟨ib, io + 5, none⟩ = some (.int .i64 0) := by
  have := (hc' 0 (by simp)).c5
  rw [Nat.zero_mul, Nat.add_zero] at this
  exact this
 have KS := Lib.hid (stSound_any SB.out.is (by simp) (by simp) put_dots true put_sound)
 obtain ⟨c0, c1⟩ := SB.out.c
 have k1 : (2 : Int) ≤ ic := by omega
 have k2 : (ic : Int) ≤ 9223372036854775807 := by omega
 clear hc' B3 G3
 go_wp2_with fail
 refine KS.out.mono ?_
 rintro e w5 ⟨rfl, hb⟩
 have G5 := Lib.hid (G4.out.trans (hb.mono G4.out.size))
 clear hb KS c0 c1 c5
 go_wp2_with fail
 go_ret
 exact ⟨rfl, G5.out⟩
end Go.Proofs.YtpnpomocjkmncaaGreat
