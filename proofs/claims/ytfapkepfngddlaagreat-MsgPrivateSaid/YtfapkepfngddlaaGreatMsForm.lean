/- What the program's own form and Put of messages leave. (Written by gen-msform.py.) -/
import Derived.Test.YtfapkepfngddlaaGreatMsPutP
import Derived.Test.YtfapkepfngddlaaGreatMsParts
import Derived.Test.YtfapkepfngddlaaGreatMsFmC
import Derived.Deep.RegionHeld3
import Derived.Deep.Cut
namespace Go.Proofs.YtfapkepfngddlaaGreat
open Go.RowKit Plain
set_option linter.unusedVariables false

theorem flag_in (b : Bool) : 0 ≤ flagN b ∧ flagN b ≤ 1 := by cases b <;> simp [flagN]
theorem ptexts_le {ns : List Txt} (h : ∀ n ∈ ns, n.length ≤ 16) : (ptexts ns).length ≤ 24 * ns.length := flatMap_len _ 24 ns fun n hn => by have := h n hn; rw [List.length_append, tbs_len]; have := form_len8 n.length (by omega); omega
theorem flat_take {α : Type} [Inhabited α] (f : α → Bytes) (c : Nat) (l : List α) (h : ∀ x ∈ l, (f x).length ≤ c) (k : Nat) : ((l.take k).flatMap f).length ≤ c * l.length :=
 Nat.le_trans (flatMap_len f c (l.take k) fun x hx => h x (List.mem_of_mem_take hx)) (Nat.mul_le_mul_left _ (by rw [List.length_take]; omega))
set_option maxRecDepth 100000 in
set_option maxHeartbeats 32000000 in
theorem mform_any {v : Value} {m : PMsg} {w : World} (hv : IsMsg w v m) (hf : mformedM m = true) (hn : mfits m) (hil : m.items.length ≤ 1000) (htl : m.txns.length ≤ 100) (hft : ∀ t ∈ m.txns, FitTx t) :
  Calls Tryz.prog 24 #[v] w (GivesO w.heap.size w (.slice none 0 0) (pmsg m)) := by
 obtain ⟨va, vn, vc, fa, fn, fc, za, zn, zc, na, nn, nc, ia, im, ic, la, ln, lc, rfl, H⟩ := hv.slices
 have F := mformedM_iff.1 hf
 have RK := Lib.hid (msg_kind F.uses)
 have RT := Lib.hid (show 0 ≤ m.ticket ∧ m.ticket ≤ 1073741824 from ⟨F.t0, F.t1⟩)
 have RF := Lib.hid (flag_in m.whole)
 have hba := (Below.refl w.heap.size w).alloc (Nat.le_refl _) (.cells #[.int .i64 m.kind, .int .i64 m.ticket, .bool m.whole, .slice va vn vc, .slice fa fn fc, .slice za zn zc, .slice na nn nc, .slice ia im ic, .slice la ln lc] 28)
 have X := Lib.hid (msbox_new H)
 have ZB : Hid (w.heap.size ≤ (w.alloc (.cells #[.int .i64 m.kind, .int .i64 m.ticket, .bool m.whole, .slice va vn vc, .slice fa fn fc, .slice za zn zc, .slice na nn nc, .slice ia im ic, .slice la ln lc] 28)).heap.size) := Lib.hid hba.size
 have ZS : Hid (w.heap.size < (w.alloc (.cells #[.int .i64 m.kind, .int .i64 m.ticket, .bool m.whole, .slice va vn vc, .slice fa fn fc, .slice za zn zc, .slice na nn nc, .slice ia im ic, .slice la ln lc] 28)).heap.size) := Lib.hid (by simp)
 have GW : Hid (Grow w.heap.size w (.slice none 0 0) (w.alloc (.cells #[.int .i64 m.kind, .int .i64 m.ticket, .bool m.whole, .slice va vn vc, .slice fa fn fc, .slice za zn zc, .slice na nn nc, .slice ia im ic, .slice la ln lc] 28)) (.slice none 0 0)) := Lib.hid ((Grow.refl _ w _).keep hba (Nat.le_refl _))
 have HBW : Hid (∀ W u, Grow w.heap.size (w.alloc (.cells #[.int .i64 m.kind, .int .i64 m.ticket, .bool m.whole, .slice va vn vc, .slice fa fn fc, .slice za zn zc, .slice na nn nc, .slice ia im ic, .slice la ln lc] 28)) (.slice none 0 0) W u → Below w.heap.size w W) := Lib.hid (fun W u h => hba.trans h.below)
 have VV := Lib.hid (mayV_parts F.vec)
 have VF := Lib.hid (mayV_parts F.from_)
 have VZ := Lib.hid (zoneB_parts F.zone)
 have VN := Lib.hid (zoneB_parts F.want)
 have HI := Lib.hid (fun x (hx : x ∈ m.items) => putI_of (mayI_parts (F.items x hx)).1 (hn.1 x hx))
 have HIL := Lib.hid (fun x (hx : x ∈ m.items) => (show (pitem x).length ≤ 144 from by rw [pitem_put]; exact item_len (mayI_parts (F.items x hx)).1))
 have HT := Lib.hid F.txns
 have HTL := Lib.hid (fun t (ht : t ∈ m.txns) => txn_small (F.txns t ht))
 have HFT := Lib.hid hft
 have D1 : Hid (m.vec.length = vn) := Lib.hid H.v.dims.1
 have D2 : Hid (m.from_.length = fn) := Lib.hid H.f.dims.1
 have D3 : Hid (m.zone.length = zn) := Lib.hid H.z.dims.1
 have D4 : Hid (m.want.length = nn) := Lib.hid H.n.dims.1
 have D5 : Hid (m.items.length = im) := Lib.hid H.i.dims.1
 have D6 : Hid (m.txns.length = ln) := Lib.hid H.l.dims.1
 have B5 : Hid (im ≤ ic ∧ ic ≤ 9223372036854775807) := Lib.hid H.i.dims.2
 have B6 : Hid (ln ≤ lc ∧ lc ≤ 9223372036854775807) := Lib.hid H.l.dims.2
 have SV : Hid (SeqE LInt w (.slice va vn vc) m.vec) := Lib.hid H.v
 have SF : Hid (SeqE LInt w (.slice fa fn fc) m.from_) := Lib.hid H.f
 have SZ : Hid (SeqE LStr w (.slice za zn zc) m.zone) := Lib.hid (str_ofT H.z)
 have SN : Hid (SeqE LStr w (.slice na nn nc) m.want) := Lib.hid (str_ofT H.n)
 have SI : Hid (SeqE LItem w (.slice ia im ic) m.items) := Lib.hid H.i
 have ST : Hid (SeqE LTxn w (.slice la ln lc) m.txns) := Lib.hid H.l
 have HPM : Hid (pmsg m = pnums [m.kind, m.ticket, flagN m.whole] ++ [m.vec, m.from_].flatMap pvec ++ [m.zone, m.want].flatMap pzone ++ pnums [(m.items.length : Int)] ++ m.items.flatMap pitem ++ pnums [(m.txns.length : Int)] ++ m.txns.flatMap txnC.put) := Lib.hid (by simp [pmsg, List.append_assoc])
 clear hv H F hf hn hba hft
 replace hil := Lib.hid hil
 replace htl := Lib.hid htl
 go_enter Tryz.func24, Tryz.ntmps24
 go_upto_region 1 with fail
 generalize (w.alloc (.cells #[.int .i64 m.kind, .int .i64 m.ticket, .bool m.whole, .slice va vn vc, .slice fa fn fc, .slice za zn zc, .slice na nn nc, .slice ia im ic, .slice la ln lc] 28)) = u0 at *
 have C0 := Lib.hid X.out.c
 have CT : Hid (∀ U u, Grow w.heap.size u0 (.slice none 0 0) U u → U.cell? ⟨w.heap.size, 0, none⟩ = some (.int .i64 m.kind) ∧ U.cell? ⟨w.heap.size, 1, none⟩ = some (.int .i64 m.ticket) ∧ U.cell? ⟨w.heap.size, 2, none⟩ = some (.bool m.whole) ∧ U.cell? ⟨w.heap.size, 3, none⟩ = some (.slice va vn vc) ∧ U.cell? ⟨w.heap.size, 4, none⟩ = some (.slice fa fn fc) ∧ U.cell? ⟨w.heap.size, 5, none⟩ = some (.slice za zn zc) ∧ U.cell? ⟨w.heap.size, 6, none⟩ = some (.slice na nn nc) ∧ U.cell? ⟨w.heap.size, 7, none⟩ = some (.slice ia im ic) ∧ U.cell? ⟨w.heap.size, 8, none⟩ = some (.slice la ln lc)) := Lib.hid (fun U u h => by
  have hb := h.kept w.heap.size ZS.out (by simp [Value.ownBlock])
  obtain ⟨c0, c1, c2, c3, c4, c5, c6, c7, c8⟩ := C0.out
  exact ⟨(World.cell?_of_block (a := ⟨w.heap.size, 0, none⟩) hb).trans c0, (World.cell?_of_block (a := ⟨w.heap.size, 1, none⟩) hb).trans c1, (World.cell?_of_block (a := ⟨w.heap.size, 2, none⟩) hb).trans c2, (World.cell?_of_block (a := ⟨w.heap.size, 3, none⟩) hb).trans c3, (World.cell?_of_block (a := ⟨w.heap.size, 4, none⟩) hb).trans c4, (World.cell?_of_block (a := ⟨w.heap.size, 5, none⟩) hb).trans c5, (World.cell?_of_block (a := ⟨w.heap.size, 6, none⟩) hb).trans c6, (World.cell?_of_block (a := ⟨w.heap.size, 7, none⟩) hb).trans c7, (World.cell?_of_block (a := ⟨w.heap.size, 8, none⟩) hb).trans c8⟩)
 have G0 := Lib.hid (Grow.refl w.heap.size u0 (.slice none 0 0))
 have GD : Hid (Grow w.heap.size u0 (.slice none 0 0) u0.drew (.slice none 0 0)) := Lib.hid (G0.out.keep (Below.refl _ _).drew ZB.out)
 have GA : Hid (Grow w.heap.size u0 (.slice none 0 0) ((u0.alloc (.cells #[.int .i64 m.kind, .int .i64 m.ticket, .int .i64 (flagN m.whole)] 3)).drew) (.slice none 0 0)) := Lib.hid (G0.out.keep ((Below.refl _ _).alloc (Nat.le_refl _) _).drew ZB.out)
 have C3 : Hid (∀ U u, Grow w.heap.size u0 (.slice none 0 0) U u → U.cell? ⟨w.heap.size, 0, none⟩ = some (.int .i64 m.kind) ∧ U.cell? ⟨w.heap.size, 1, none⟩ = some (.int .i64 m.ticket) ∧ U.cell? ⟨w.heap.size, 2, none⟩ = some (.bool m.whole)) := Lib.hid (fun U u h => ⟨(CT.out U u h).1, (CT.out U u h).2.1, (CT.out U u h).2.2.1⟩)
 have LL1 := pnums_len (ns := [m.kind, m.ticket, flagN m.whole]) (by intro n hn; simp at hn; have := RK.out; have := RT.out; have := RF.out; omega)
 simp only [List.length_cons, List.length_nil] at LL1
 have K1 : Hid (Calls Tryz.prog 58 #[.slice none 0 0, .slice (some ⟨u0.heap.size, 0, none⟩) 3 3] ((u0.alloc (.cells #[.int .i64 m.kind, .int .i64 m.ticket, .int .i64 (flagN m.whole)] 3)).drew) (GivesO w.heap.size ((u0.alloc (.cells #[.int .i64 m.kind, .int .i64 m.ticket, .int .i64 (flagN m.whole)] 3)).drew) (.slice none 0 0) ([] ++ pnums [m.kind, m.ticket, flagN m.whole]))) := Lib.hid (mpnums_any (By.Owns.nil _ _) (by have := ZB.out; simp; omega) (Sq.agree (lit_ints u0 #[.int .i64 m.kind, .int .i64 m.ticket, .int .i64 (flagN m.whole)] [m.kind, m.ticket, flagN m.whole] (.slice none 0 0) rfl (by simp) (by simp [Value.ownBlock])) (fun b _ => rfl)) (fun b hb => hb) (by intro n hn; simp at hn; have := RK.out; have := RT.out; have := RF.out; omega) (by simp))
 rw [List.nil_append] at K1
 refine wp_region_held_drew (S := fun u' => u'.cell? ⟨w.heap.size, 0, none⟩ = some (.int .i64 m.kind) ∧ u'.cell? ⟨w.heap.size, 1, none⟩ = some (.int .i64 m.ticket) ∧ u'.cell? ⟨w.heap.size, 2, none⟩ = some (.bool m.whole)) (by kernel_rfl) ?_ (fun hHeld => ?_)
 ·(exact C3.out _ _ GD.out)
 simp only [List.size_toArray, List.length_cons, List.length_nil, Nat.zero_add, Nat.reduceAdd]
 refine tkB (i := 0) hHeld ?_
 refine tkB (i := 1) hHeld ?_
 refine tkB (i := 2) hHeld ?_
 refine tkB (i := 3) hHeld ?_
 refine tkB (i := 4) hHeld ?_
 refine tkB (i := 5) hHeld ?_
 refine wpAnyH_ready (rs := [6]) (by kernel_rfl) (by simp) ?_
 refine AllReadyH.cons rfl (fun K hK => ?_) AllReadyH.nil
 go_simp
 refine (mflag_any _ _).mono ?_
 rintro e s1 ⟨rfl, rfl⟩
 refine hK.out _ _ hHeld (fun hHeld => ?_)
 clear hK K
 refine wpAnyH_ready (rs := [7]) (by kernel_rfl) (by simp) ?_
 refine AllReadyH.cons rfl (fun K hK => ?_) AllReadyH.nil
 go_simp
 refine hK.out _ _ (C3.out _ _ GA.out) (fun hHeld => ?_)
 clear hK K
 refine wpAnyH_ready (rs := [8]) (by kernel_rfl) (by simp) ?_
 refine AllReadyH.cons rfl (fun K hK => ?_) AllReadyH.nil
 go_simp
 refine K1.out.mono ?_
 rintro e u1 ⟨v', rfl, ho, hg⟩
 have G1 := Lib.hid (GA.out.trans hg)
 refine hK.out _ _ (C3.out _ _ G1.out) (fun hHeld => ?_)
 clear hK K
 obtain ⟨a1, c1, rfl, -, -, -, -⟩ := ho.parts
 have O1 := Lib.hid ho
 have YL : (pnums [m.kind, m.ticket, flagN m.whole]).length ≤ 24 := by omega
 clear ho hg K1 LL1
 generalize hn : (pnums [m.kind, m.ticket, flagN m.whole]).length = n1 at *
 generalize hY : pnums [m.kind, m.ticket, flagN m.whole] = Y1 at *
 have N1 : Hid (Y1.length ≤ 24) := Lib.hid (by rw [hn]; exact YL)
 have E1 := Lib.hid hY.symm
 clear hn hY YL
 refine tkB (i := 9) hHeld ?_
 refine wpAnyH_done (by kernel_rfl) ?_ _
 clear hHeld
 obtain ⟨e0, e1, e2, e3, e4, e5, e6, e7, e8⟩ := CT.out _ _ G1.out
 have GR1 : Hid (Grow w.heap.size u1 (.slice a1 n1 c1) (u1.alloc (.cells #[.slice va vn vc, .slice fa fn fc] 23)) (.slice a1 n1 c1)) := Lib.hid ((Grow.refl _ u1 _).keep ((Below.refl _ _).alloc (Nat.le_refl _) _) (by have := G1.out.size; have := ZB.out; omega))
 have OR1 := Lib.hid (O1.out.alloc (.cells #[.slice va vn vc, .slice fa fn fc] 23))
 have ZR1 : Hid (u1.heap.size < (u1.alloc (.cells #[.slice va vn vc, .slice fa fn fc] 23)).heap.size) := Lib.hid (by simp)
 have NR1 : Hid ((Value.slice a1 n1 c1).ownBlock ≠ some u1.heap.size) := Lib.hid (fun e => by have := (O1.out.lt _ e).2; omega)
 have CR0 : Hid ((u1.alloc (.cells #[.slice va vn vc, .slice fa fn fc] 23)).cell? ⟨u1.heap.size, 0, none⟩ = some (.slice va vn vc) ∧ (u1.alloc (.cells #[.slice va vn vc, .slice fa fn fc] 23)).cell? ⟨u1.heap.size, 1, none⟩ = some (.slice fa fn fc)) := Lib.hid ⟨by simp, by simp⟩
 go_upto_region 3 with fail
 clear e0 e1 e2 e3 e4 e5 e6 e7 e8
 generalize (u1.alloc (.cells #[.slice va vn vc, .slice fa fn fc] 23)) = r1 at *
 generalize hrb : u1.heap.size = rb1 at *
 clear hrb
 have CR1 : Hid (∀ U u, Grow w.heap.size r1 (.slice a1 n1 c1) U u → U.cell? ⟨rb1, 0, none⟩ = some (.slice va vn vc) ∧ U.cell? ⟨rb1, 1, none⟩ = some (.slice fa fn fc)) := Lib.hid (fun U u h => by
  have hb := h.kept rb1 ZR1.out NR1.out
  exact ⟨(World.cell?_of_block (a := ⟨rb1, 0, none⟩) hb).trans CR0.out.1, (World.cell?_of_block (a := ⟨rb1, 1, none⟩) hb).trans CR0.out.2⟩)
 clear CR0
 have GT1 := Lib.hid (fun U u (h : Grow w.heap.size r1 (.slice a1 n1 c1) U u) => (G1.out.trans GR1.out).trans h)
 have PS0 := Lib.hid (fun k (hk : k < [m.vec, m.from_].length) => flatMap_take pvec [m.vec, m.from_] (k := k) hk)
 obtain ⟨P, hP⟩ : ∃ P : Nat → Bytes, P = fun k => ([m.vec, m.from_].take k).flatMap pvec := ⟨_, rfl⟩
 have PS : Hid (∀ k, k < 2 → P (k + 1) = P k ++ pvec ([m.vec, m.from_].getD k default)) := Lib.hid (fun k hk => by rw [hP]; exact PS0.out k hk)
 have P0 : Hid (P 0 = []) := Lib.hid (by rw [hP]; rfl)
 have PN : Hid (P 2 = [m.vec, m.from_].flatMap pvec) := Lib.hid (by rw [hP]; rfl)
 have PL : Hid (∀ k, (P k).length ≤ 144) := Lib.hid (fun k => by
  rw [hP]
  refine Nat.le_trans (flat_take pvec 72 [m.vec, m.from_] (fun x hx => ?_) k) (by simp)
  simp only [List.mem_cons, List.not_mem_nil, or_false] at hx
  unfold pvec
  rw [List.length_append]
  rcases hx with rfl | rfl
  ·have h1 := pnums_len (ns := [((m.vec).length : Int)]) (by intro n hn; simp at hn; have := VV.out.1; omega)
   have h2 := pnums_len (ns := m.vec) (fun n h => by have := VV.out.2.2 n h; omega)
   have := VV.out.1
   simp only [List.length_cons, List.length_nil] at h1
   omega
  ·have h1 := pnums_len (ns := [((m.from_).length : Int)]) (by intro n hn; simp at hn; have := VF.out.1; omega)
   have h2 := pnums_len (ns := m.from_) (fun n h => by have := VF.out.2.2 n h; omega)
   have := VF.out.1
   simp only [List.length_cons, List.length_nil] at h1
   omega)
 clear hP PS0
 go_loopw [3, 29] (fun z i wr => ∃ k : Nat, k ≤ 2 ∧ i = .int .i64 k ∧ By.Owns w.heap.size wr z (Y1 ++ P k) ∧ Grow w.heap.size r1 (.slice a1 n1 c1) wr z) (fun _ i _ => 2 - (intOf i).toNat)
 case atStart => exact ⟨0, Nat.zero_le _, rfl, by rw [P0.out, List.append_nil]; exact OR1.out, Grow.refl _ _ _⟩
 case round =>
  obtain ⟨k, hk, rfl, ho, hg⟩ := hrel
  have HO := Lib.hid ho
  have HG := Lib.hid hg
  clear ho hg
  by_cases hlt : k < 2
  ·have PK := Lib.hid (PS.out k hlt)
   have LK := Lib.hid (PL.out k)
   have ZW : Hid (w.heap.size ≤ wr.heap.size) := Lib.hid (by have := (GT1.out _ _ HG.out).size; have := ZB.out; omega)
   obtain ⟨xa, xn, xc, xs, hcell, hseq, hxs, hx8, hxn, hxr⟩ : ∃ (xa : Option Addr) (xn xc : Nat) (xs : Ints), wr.cell? ⟨rb1, k, none⟩ = some (.slice xa xn xc) ∧ Sq LInt (· < w.heap.size) w (.slice xa xn xc) xs ∧ P (k + 1) = P k ++ pvec xs ∧ xs.length ≤ 8 ∧ xs.length = xn ∧ (∀ n ∈ xs, 0 ≤ n ∧ n ≤ 1073741824) := by
    have hc := CR1.out _ _ HG.out
    have hq : k = 0 ∨ k = 1 := by omega
    rcases hq with rfl | rfl
    ·exact ⟨_, _, _, _, hc.1, SV.out, PK.out, VV.out.1, D1.out, VV.out.2.2⟩
    ·exact ⟨_, _, _, _, hc.2, SF.out, PK.out, VF.out.1, D2.out, VF.out.2.2⟩
   have XS := Lib.hid hseq
   have XP := Lib.hid hxs
   have X8 : Hid (xn ≤ 8) := Lib.hid (by omega)
   have XR := Lib.hid hxr
   have XN := Lib.hid hxn
   clear hseq hxs hx8 hxr hxn PK
   obtain ⟨za', zc', rfl, -, -, -, -⟩ := HO.out.parts
   generalize hzl : (Y1 ++ P k).length = zl at *
   have ZL : Hid (zl ≤ 24 + 144) := Lib.hid (by rw [← hzl, List.length_append]; have := N1.out; have := LK.out; omega)
   generalize hYQ : Y1 ++ P k = YQ at *
   have EQ := Lib.hid hYQ.symm
   have LQ : Hid (YQ.length = zl) := Lib.hid hzl
   clear hzl hYQ LK
   have K5 : Hid (Calls Tryz.prog 58 #[.slice za' zl zc', .slice (some ⟨wr.heap.size, 0, none⟩) 1 1] (wr.alloc (.cells #[.int .i64 (xn : Int)] 3)) (GivesO w.heap.size (wr.alloc (.cells #[.int .i64 (xn : Int)] 3)) (.slice za' zl zc') (YQ ++ pnums [(xn : Int)]))) := Lib.hid (mpnums_any (HO.out.alloc _) (by have := ZW.out; simp; omega) (lit_ints wr #[.int .i64 (xn : Int)] [(xn : Int)] (.slice za' zl zc') rfl (by simp) (fun k hk => (HO.out.lt k hk).2)) (fun b hb => hb) (by intro n hn; simp at hn; have := X8.out; omega) (by have := ZL.out; have := LQ.out; simp; omega))
   have LL5 := pnums_len (ns := [(xn : Int)]) (by intro n hn; simp at hn; have := X8.out; omega)
   simp only [List.length_cons, List.length_nil] at LL5
   have k1 : (k : Int) < 2 := by omega
   go_wp2_with fail
   refine K5.out.mono ?_
   rintro e u5 ⟨v', rfl, ho, hg⟩
   have G5 := Lib.hid ((HG.out.keep ((Below.refl _ _).alloc (Nat.le_refl _) _) (by have := (GR1.out.size); have := G1.out.size; have := ZB.out; omega)).trans hg)
   obtain ⟨a5, c5, rfl, -, -, -, -⟩ := ho.parts
   have O5 := Lib.hid ho
   clear ho hg K5 hcell
   have YL : (YQ ++ pnums [(xn : Int)]).length ≤ 24 + 144 + 8 := by rw [List.length_append]; have := ZL.out; have := LQ.out; omega
   clear LL5
   generalize hn5 : (YQ ++ pnums [(xn : Int)]).length = n5 at *
   generalize hY5 : YQ ++ pnums [(xn : Int)] = Y5 at *
   have E5 := Lib.hid hY5.symm
   have N5 : Hid (Y5.length ≤ 24 + 144 + 8) := Lib.hid (by rw [hn5]; exact YL)
   clear hn5 hY5 YL
   have Z5 : Hid (w.heap.size ≤ u5.heap.size) := Lib.hid (by have := (GT1.out _ _ G5.out).size; have := ZB.out; omega)
   have K6 : Hid (Calls Tryz.prog 58 #[.slice a5 n5 c5, .slice xa xn xc] u5 (GivesO w.heap.size u5 (.slice a5 n5 c5) (Y5 ++ pnums xs))) := Lib.hid (mpnums_any O5.out Z5.out (Q := (· < w.heap.size)) (XS.out.agree fun b hb => (HBW.out _ _ (GT1.out _ _ G5.out)).block b hb) (fun b hb => ⟨by have := Z5.out; omega, fun e => by have := (O5.out.lt _ e).1; omega⟩) (fun n h => by have := XR.out n h; omega) (by have := N5.out; have := X8.out; have := XN.out; omega))
   go_wp2_with fail
   refine K6.out.mono ?_
   rintro e u6 ⟨v', rfl, ho, hg⟩
   have G6 := Lib.hid (G5.out.trans hg)
   obtain ⟨a6, c6, rfl, -, -, -, -⟩ := ho.parts
   have O6 := Lib.hid ho
   have EF : Hid (Y5 ++ pnums xs = Y1 ++ P (k + 1)) := Lib.hid (by rw [E5.out, EQ.out, XP.out]; unfold pvec; rw [XN.out]; simp only [List.append_assoc])
   clear ho hg K6
   generalize hn6 : (Y5 ++ pnums xs).length = n6 at *
   clear hn6
   go_wp2_with fail
   go_roundw
   case rel => exact ⟨k + 1, by omega, by go_num, by rw [← EF.out]; exact O6.out, G6.out⟩
   case measure => simp [intOf] <;> omega
  ·obtain rfl : k = 2 := by omega
   have k1 : ¬ ((2 : Nat) : Int) < 2 := by omega
   have O2 := HO
   have G2 := Lib.hid (GT1.out _ _ HG.out)
   obtain ⟨a2, c2, rfl, -, -, -, -⟩ := HO.out.parts
   have YL : (Y1 ++ P 2).length ≤ 168 := by rw [List.length_append]; have := N1.out; have := PL.out 2; omega
   rw [PN.out] at O2 G2 YL ⊢
   generalize hn : (Y1 ++ [m.vec, m.from_].flatMap pvec).length = n2 at *
   generalize hY : Y1 ++ [m.vec, m.from_].flatMap pvec = Y2 at *
   have E2 := Lib.hid hY.symm
   have N2 : Hid (Y2.length ≤ 168) := Lib.hid (by rw [hn]; exact YL)
   clear hn hY YL HO HG PS P0 PN PL
   generalize wr = u2 at *
   obtain ⟨e0, e1, e2, e3, e4, e5, e6, e7, e8⟩ := CT.out _ _ G2.out
   have GR2 : Hid (Grow w.heap.size u2 (.slice a2 n2 c2) (u2.alloc (.cells #[.slice za zn zc, .slice na nn nc] 24)) (.slice a2 n2 c2)) := Lib.hid ((Grow.refl _ u2 _).keep ((Below.refl _ _).alloc (Nat.le_refl _) _) (by have := G2.out.size; have := ZB.out; omega))
   have OR2 := Lib.hid (O2.out.alloc (.cells #[.slice za zn zc, .slice na nn nc] 24))
   have ZR2 : Hid (u2.heap.size < (u2.alloc (.cells #[.slice za zn zc, .slice na nn nc] 24)).heap.size) := Lib.hid (by simp)
   have NR2 : Hid ((Value.slice a2 n2 c2).ownBlock ≠ some u2.heap.size) := Lib.hid (fun e => by have := (O2.out.lt _ e).2; omega)
   have CR0 : Hid ((u2.alloc (.cells #[.slice za zn zc, .slice na nn nc] 24)).cell? ⟨u2.heap.size, 0, none⟩ = some (.slice za zn zc) ∧ (u2.alloc (.cells #[.slice za zn zc, .slice na nn nc] 24)).cell? ⟨u2.heap.size, 1, none⟩ = some (.slice na nn nc)) := Lib.hid ⟨by simp, by simp⟩
   go_upto_region 9 with fail
   clear e0 e1 e2 e3 e4 e5 e6 e7 e8
   generalize (u2.alloc (.cells #[.slice za zn zc, .slice na nn nc] 24)) = r2 at *
   generalize hrb : u2.heap.size = rb2 at *
   clear hrb
   have CR2 : Hid (∀ U u, Grow w.heap.size r2 (.slice a2 n2 c2) U u → U.cell? ⟨rb2, 0, none⟩ = some (.slice za zn zc) ∧ U.cell? ⟨rb2, 1, none⟩ = some (.slice na nn nc)) := Lib.hid (fun U u h => by
    have hb := h.kept rb2 ZR2.out NR2.out
    exact ⟨(World.cell?_of_block (a := ⟨rb2, 0, none⟩) hb).trans CR0.out.1, (World.cell?_of_block (a := ⟨rb2, 1, none⟩) hb).trans CR0.out.2⟩)
   clear CR0
   have GT2 := Lib.hid (fun U u (h : Grow w.heap.size r2 (.slice a2 n2 c2) U u) => (G2.out.trans GR2.out).trans h)
   have PS0 := Lib.hid (fun k (hk : k < [m.zone, m.want].length) => flatMap_take pzone [m.zone, m.want] (k := k) hk)
   obtain ⟨P, hP⟩ : ∃ P : Nat → Bytes, P = fun k => ([m.zone, m.want].take k).flatMap pzone := ⟨_, rfl⟩
   have PS : Hid (∀ k, k < 2 → P (k + 1) = P k ++ pzone ([m.zone, m.want].getD k default)) := Lib.hid (fun k hk => by rw [hP]; exact PS0.out k hk)
   have P0 : Hid (P 0 = []) := Lib.hid (by rw [hP]; rfl)
   have PN : Hid (P 2 = [m.zone, m.want].flatMap pzone) := Lib.hid (by rw [hP]; rfl)
   have PL : Hid (∀ k, (P k).length ≤ 400) := Lib.hid (fun k => by
    rw [hP]
    refine Nat.le_trans (flat_take pzone 200 [m.zone, m.want] (fun x hx => ?_) k) (by simp)
    simp only [List.mem_cons, List.not_mem_nil, or_false] at hx
    unfold pzone
    rw [List.length_append]
    rcases hx with rfl | rfl
    ·have h1 := pnums_len (ns := [((m.zone).length : Int)]) (by intro n hn; simp at hn; have := VZ.out.1; omega)
     have h2 := ptexts_le (ns := m.zone) (fun n h => by have := VZ.out.2 n h; omega)
     have := VZ.out.1
     simp only [List.length_cons, List.length_nil] at h1
     omega
    ·have h1 := pnums_len (ns := [((m.want).length : Int)]) (by intro n hn; simp at hn; have := VN.out.1; omega)
     have h2 := ptexts_le (ns := m.want) (fun n h => by have := VN.out.2 n h; omega)
     have := VN.out.1
     simp only [List.length_cons, List.length_nil] at h1
     omega)
   clear hP PS0
   go_loopw [3, 48] (fun z i wr => ∃ k : Nat, k ≤ 2 ∧ i = .int .i64 k ∧ By.Owns w.heap.size wr z (Y2 ++ P k) ∧ Grow w.heap.size r2 (.slice a2 n2 c2) wr z) (fun _ i _ => 2 - (intOf i).toNat)
   case atStart => exact ⟨0, Nat.zero_le _, rfl, by rw [P0.out, List.append_nil]; exact OR2.out, Grow.refl _ _ _⟩
   case round =>
    obtain ⟨k, hk, rfl, ho, hg⟩ := hrel
    have HO := Lib.hid ho
    have HG := Lib.hid hg
    clear ho hg
    by_cases hlt : k < 2
    ·have PK := Lib.hid (PS.out k hlt)
     have LK := Lib.hid (PL.out k)
     have ZW : Hid (w.heap.size ≤ wr.heap.size) := Lib.hid (by have := (GT2.out _ _ HG.out).size; have := ZB.out; omega)
     obtain ⟨xa, xn, xc, xs, hcell, hseq, hxs, hx8, hxn, hxr⟩ : ∃ (xa : Option Addr) (xn xc : Nat) (xs : List Txt), wr.cell? ⟨rb2, k, none⟩ = some (.slice xa xn xc) ∧ Sq LStr (· < w.heap.size) w (.slice xa xn xc) xs ∧ P (k + 1) = P k ++ pzone xs ∧ xs.length ≤ 8 ∧ xs.length = xn ∧ (∀ n ∈ xs, n.length ≤ 16) := by
      have hc := CR2.out _ _ HG.out
      have hq : k = 0 ∨ k = 1 := by omega
      rcases hq with rfl | rfl
      ·exact ⟨_, _, _, _, hc.1, SZ.out, PK.out, VZ.out.1, D3.out, VZ.out.2⟩
      ·exact ⟨_, _, _, _, hc.2, SN.out, PK.out, VN.out.1, D4.out, VN.out.2⟩
     have XS := Lib.hid hseq
     have XP := Lib.hid hxs
     have X8 : Hid (xn ≤ 8) := Lib.hid (by omega)
     have XR := Lib.hid hxr
     have XN := Lib.hid hxn
     clear hseq hxs hx8 hxr hxn PK
     obtain ⟨za', zc', rfl, -, -, -, -⟩ := HO.out.parts
     generalize hzl : (Y2 ++ P k).length = zl at *
     have ZL : Hid (zl ≤ 168 + 400) := Lib.hid (by rw [← hzl, List.length_append]; have := N2.out; have := LK.out; omega)
     generalize hYQ : Y2 ++ P k = YQ at *
     have EQ := Lib.hid hYQ.symm
     have LQ : Hid (YQ.length = zl) := Lib.hid hzl
     clear hzl hYQ LK
     have K5 : Hid (Calls Tryz.prog 58 #[.slice za' zl zc', .slice (some ⟨wr.heap.size, 0, none⟩) 1 1] (wr.alloc (.cells #[.int .i64 (xn : Int)] 3)) (GivesO w.heap.size (wr.alloc (.cells #[.int .i64 (xn : Int)] 3)) (.slice za' zl zc') (YQ ++ pnums [(xn : Int)]))) := Lib.hid (mpnums_any (HO.out.alloc _) (by have := ZW.out; simp; omega) (lit_ints wr #[.int .i64 (xn : Int)] [(xn : Int)] (.slice za' zl zc') rfl (by simp) (fun k hk => (HO.out.lt k hk).2)) (fun b hb => hb) (by intro n hn; simp at hn; have := X8.out; omega) (by have := ZL.out; have := LQ.out; simp; omega))
     have LL5 := pnums_len (ns := [(xn : Int)]) (by intro n hn; simp at hn; have := X8.out; omega)
     simp only [List.length_cons, List.length_nil] at LL5
     have k1 : (k : Int) < 2 := by omega
     go_wp2_with fail
     refine K5.out.mono ?_
     rintro e u5 ⟨v', rfl, ho, hg⟩
     have G5 := Lib.hid ((HG.out.keep ((Below.refl _ _).alloc (Nat.le_refl _) _) (by have := (GR2.out.size); have := G2.out.size; have := ZB.out; omega)).trans hg)
     obtain ⟨a5, c5, rfl, -, -, -, -⟩ := ho.parts
     have O5 := Lib.hid ho
     clear ho hg K5 hcell
     have YL : (YQ ++ pnums [(xn : Int)]).length ≤ 168 + 400 + 8 := by rw [List.length_append]; have := ZL.out; have := LQ.out; omega
     clear LL5
     generalize hn5 : (YQ ++ pnums [(xn : Int)]).length = n5 at *
     generalize hY5 : YQ ++ pnums [(xn : Int)] = Y5 at *
     have E5 := Lib.hid hY5.symm
     have N5 : Hid (Y5.length ≤ 168 + 400 + 8) := Lib.hid (by rw [hn5]; exact YL)
     clear hn5 hY5 YL
     have Z5 : Hid (w.heap.size ≤ u5.heap.size) := Lib.hid (by have := (GT2.out _ _ G5.out).size; have := ZB.out; omega)
     have K6 : Hid (Calls Tryz.prog 60 #[.slice a5 n5 c5, .slice xa xn xc] u5 (GivesO w.heap.size u5 (.slice a5 n5 c5) (Y5 ++ ptexts xs))) := Lib.hid (mptexts_any O5.out Z5.out (Q := (· < w.heap.size)) (XS.out.agree fun b hb => (HBW.out _ _ (GT2.out _ _ G5.out)).block b hb) (fun b hb => ⟨by have := Z5.out; omega, fun e => by have := (O5.out.lt _ e).1; omega⟩) (fun n h => by have := XR.out n h; omega) (by have := N5.out; have := X8.out; have := XN.out; omega))
     go_wp2_with fail
     refine K6.out.mono ?_
     rintro e u6 ⟨v', rfl, ho, hg⟩
     have G6 := Lib.hid (G5.out.trans hg)
     obtain ⟨a6, c6, rfl, -, -, -, -⟩ := ho.parts
     have O6 := Lib.hid ho
     have EF : Hid (Y5 ++ ptexts xs = Y2 ++ P (k + 1)) := Lib.hid (by rw [E5.out, EQ.out, XP.out]; unfold pzone; rw [XN.out]; simp only [List.append_assoc])
     clear ho hg K6
     generalize hn6 : (Y5 ++ ptexts xs).length = n6 at *
     clear hn6
     go_wp2_with fail
     go_roundw
     case rel => exact ⟨k + 1, by omega, by go_num, by rw [← EF.out]; exact O6.out, G6.out⟩
     case measure => simp [intOf] <;> omega
    ·obtain rfl : k = 2 := by omega
     have k1 : ¬ ((2 : Nat) : Int) < 2 := by omega
     have O3 := HO
     have G3 := Lib.hid (GT2.out _ _ HG.out)
     obtain ⟨a3, c3, rfl, -, -, -, -⟩ := HO.out.parts
     have YL : (Y2 ++ P 2).length ≤ 568 := by rw [List.length_append]; have := N2.out; have := PL.out 2; omega
     rw [PN.out] at O3 G3 YL ⊢
     generalize hn : (Y2 ++ [m.zone, m.want].flatMap pzone).length = n3 at *
     generalize hY : Y2 ++ [m.zone, m.want].flatMap pzone = Y3 at *
     have E3 := Lib.hid hY.symm
     have N3 : Hid (Y3.length ≤ 568) := Lib.hid (by rw [hn]; exact YL)
     clear hn hY YL HO HG PS P0 PN PL
     generalize wr = u3 at *
     obtain ⟨e0, e1, e2, e3, e4, e5, e6, e7, e8⟩ := CT.out _ _ G3.out
     have K4 : Hid (Calls Tryz.prog 58 #[.slice a3 n3 c3, .slice (some ⟨u3.heap.size, 0, none⟩) 1 1] (u3.alloc (.cells #[.int .i64 (im : Int)] 3)) (GivesO w.heap.size (u3.alloc (.cells #[.int .i64 (im : Int)] 3)) (.slice a3 n3 c3) (Y3 ++ pnums [(im : Int)]))) := Lib.hid (mpnums_any (O3.out.alloc _) (by have := G3.out.size; have := ZB.out; simp; omega) (lit_ints u3 #[.int .i64 (im : Int)] [(im : Int)] (.slice a3 n3 c3) rfl (by simp) (fun k hk => (O3.out.lt k hk).2)) (fun b hb => hb) (by intro n hn; simp at hn; have := hil.out; have := D5.out; omega) (by have := N3.out; simp; omega))
     have LL4 := pnums_len (ns := [(im : Int)]) (by intro n hn; simp at hn; have := hil.out; have := D5.out; omega)
     simp only [List.length_cons, List.length_nil] at LL4
     go_wp2_with fail
     refine K4.out.mono ?_
     rintro e u4 ⟨v', rfl, ho, hg⟩
     have G4 := Lib.hid ((G3.out.keep ((Below.refl _ _).alloc (Nat.le_refl _) _) ZB.out).trans hg)
     obtain ⟨a4, c4, rfl, -, -, -, -⟩ := ho.parts
     have O4 := Lib.hid ho
     clear ho hg K4 e0 e1 e2 e3 e4 e5 e6 e7 e8
     have YL : (Y3 ++ pnums [(im : Int)]).length ≤ 576 := by rw [List.length_append]; have := N3.out; omega
     clear LL4
     generalize hn : (Y3 ++ pnums [(im : Int)]).length = n4 at *
     generalize hY : Y3 ++ pnums [(im : Int)] = Y4 at *
     have E4 := Lib.hid hY.symm
     have N4 : Hid (Y4.length ≤ 576) := Lib.hid (by rw [hn]; exact YL)
     clear hn hY YL
     obtain ⟨e0, e1, e2, e3, e4, e5, e6, e7, e8⟩ := CT.out _ _ G4.out
     go_wp2_with fail
     clear e0 e1 e2 e3 e4 e5 e6 e7 e8

     have PS0 := Lib.hid (fun k (hk : k < m.items.length) => flatMap_take pitem m.items (k := k) hk)
     obtain ⟨P, hP⟩ : ∃ P : Nat → Bytes, P = fun k => (m.items.take k).flatMap pitem := ⟨_, rfl⟩
     have PS : Hid (∀ k, k < im → P (k + 1) = P k ++ pitem (m.items.getD k default)) := Lib.hid (fun k hk => by rw [hP]; exact PS0.out k (by rw [D5.out]; exact hk))
     have P0 : Hid (P 0 = []) := Lib.hid (by rw [hP]; rfl)
     have PN : Hid (P im = m.items.flatMap pitem) := Lib.hid (by rw [hP, ← D5.out]; show (m.items.take m.items.length).flatMap pitem = _; rw [List.take_length])
     have PL : Hid (∀ k, (P k).length ≤ 144000) := Lib.hid (fun k => by
      rw [hP]
      show ((m.items.take k).flatMap pitem).length ≤ 144000
      have h1 := flat_take pitem 144 m.items HIL.out k
      have h2 := hil.out
      omega)
     clear hP PS0
     go_loopw [3, 70] (fun z i wr => ∃ k : Nat, k ≤ im ∧ i = .int .i64 k ∧ By.Owns w.heap.size wr z (Y4 ++ P k) ∧ Grow w.heap.size u0 (.slice none 0 0) wr z) (fun _ i _ => im - (intOf i).toNat)
     case atStart => exact ⟨0, Nat.zero_le _, rfl, by rw [P0.out, List.append_nil]; exact O4.out, G4.out⟩
     case round =>
      obtain ⟨k, hk, rfl, ho, hg⟩ := hrel
      have HO := Lib.hid ho
      have HG := Lib.hid hg
      clear ho hg
      have kb : (im : Int) ≤ 1000 := by have := D5.out; have := hil.out; omega
      by_cases hlt : k < im
      ·have PK := Lib.hid (PS.out k hlt)
       have LK := Lib.hid (PL.out k)
       have BW := Lib.hid (HBW.out _ _ HG.out)
       have ZW : Hid (w.heap.size ≤ wr.heap.size) := Lib.hid (by have := HG.out.size; have := ZB.out; omega)
       have k1 : (k : Int) < im := by omega
       obtain ⟨za', zc', rfl, -, -, -, -⟩ := HO.out.parts
       generalize hzl : (Y4 ++ P k).length = zl at *
       have ZL : Hid (zl ≤ 576 + 144000) := Lib.hid (by rw [← hzl, List.length_append]; have := N4.out; have := LK.out; omega)
       generalize hYQ : Y4 ++ P k = YQ at *
       have EQ := Lib.hid hYQ.symm
       have LQ : Hid (YQ.length = zl) := Lib.hid hzl
       clear hzl hYQ LK
       obtain ⟨b, o, c, hv, -, -, -, hc⟩ := items_spot (SI.out.below BW.out) (by rw [D5.out]; omega)
       rw [D5.out] at hv
       simp only [Value.slice.injEq] at hv
       obtain ⟨rfl, -, rfl⟩ := hv
       obtain ⟨i0, i1, i2, i3, i4, i5, i6, i7⟩ := hc k (by rw [D5.out]; exact hlt)
       have PX := Lib.hid (HI.out _ (tmem_getD (l := m.items) (k := k) (by rw [D5.out]; exact hlt)))
       clear hc
       generalize m.items.getD k default = x at *
       have EB := Lib.hid (itemAt_box wr x)
       have OB := Lib.hid (HO.out.alloc (.cells #[.string (bt x.key), .string (bt x.field), .int .i64 x.kind, .string (bt x.elem), .int .i64 x.n, .int .i64 x.dot.node, .int .i64 x.dot.seq, .int .i64 x.dot.pos] 47))
       have GB := Lib.hid (HG.out.keep ((Below.refl _ _).alloc (Nat.le_refl _) (.cells #[.string (bt x.key), .string (bt x.field), .int .i64 x.kind, .string (bt x.elem), .int .i64 x.n, .int .i64 x.dot.node, .int .i64 x.dot.seq, .int .i64 x.dot.pos] 47)) ZB.out)
       go_upto_region 18 with fail
       clear i0 i1 i2 i3 i4 i5 i6 i7
       generalize (wr.alloc (.cells #[.string (bt x.key), .string (bt x.field), .int .i64 x.kind, .string (bt x.elem), .int .i64 x.n, .int .i64 x.dot.node, .int .i64 x.dot.seq, .int .i64 x.dot.pos] 47)) = wd at *
       obtain ⟨i0, i1, i2, i3, i4, i5, i6, i7⟩ := EB.out.zero
       have K7 := Lib.hid (mpitem_any OB.out (by have := GB.out.size; have := ZB.out; omega) PX.out (by have := ZL.out; have := LQ.out; omega))
       go_wp2_with fail
       refine K7.out.mono ?_
       rintro e u7 ⟨v', rfl, ho, hg⟩
       have G7 := Lib.hid (GB.out.trans hg)
       have O7 := Lib.hid ho
       obtain ⟨a7, c7, rfl, -, -, -, -⟩ := ho.parts
       have EF : Hid (YQ ++ pitem x = Y4 ++ P (k + 1)) := Lib.hid (by rw [EQ.out, PK.out, List.append_assoc])
       clear ho hg K7 i0 i1 i2 i3 i4 i5 i6 i7
       generalize hnn : (YQ ++ pitem x).length = n7 at *
       clear hnn
       go_wp2_with fail
       go_roundw
       case rel => exact ⟨k + 1, by omega, by go_num, by rw [← EF.out]; exact O7.out, G7.out⟩
       case measure => simp [intOf] <;> omega
      ·obtain rfl : im = k := by omega
       have O5 := HO
       have G5 := HG
       obtain ⟨a5, c5, rfl, -, -, -, -⟩ := HO.out.parts
       have YL : (Y4 ++ P im).length ≤ 144576 := by rw [List.length_append]; have := N4.out; have := PL.out im; omega
       rw [PN.out] at O5 G5 YL ⊢
       generalize hn : (Y4 ++ m.items.flatMap pitem).length = n5 at *
       generalize hY : Y4 ++ m.items.flatMap pitem = Y5 at *
       have E5 := Lib.hid hY.symm
       have N5 : Hid (Y5.length ≤ 144576) := Lib.hid (by rw [hn]; exact YL)
       clear hn hY YL HO HG PS P0 PN PL
       generalize wr = u5 at *
       obtain ⟨e0, e1, e2, e3, e4, e5, e6, e7, e8⟩ := CT.out _ _ G5.out
       have K6 : Hid (Calls Tryz.prog 58 #[.slice a5 n5 c5, .slice (some ⟨u5.heap.size, 0, none⟩) 1 1] (u5.alloc (.cells #[.int .i64 (ln : Int)] 3)) (GivesO w.heap.size (u5.alloc (.cells #[.int .i64 (ln : Int)] 3)) (.slice a5 n5 c5) (Y5 ++ pnums [(ln : Int)]))) := Lib.hid (mpnums_any (O5.out.alloc _) (by have := G5.out.size; have := ZB.out; simp; omega) (lit_ints u5 #[.int .i64 (ln : Int)] [(ln : Int)] (.slice a5 n5 c5) rfl (by simp) (fun k hk => (O5.out.lt k hk).2)) (fun b hb => hb) (by intro n hn; simp at hn; have := htl.out; have := D6.out; omega) (by have := N5.out; simp; omega))
       have LL6 := pnums_len (ns := [(ln : Int)]) (by intro n hn; simp at hn; have := htl.out; have := D6.out; omega)
       simp only [List.length_cons, List.length_nil] at LL6
       go_wp2_with fail
       refine K6.out.mono ?_
       rintro e u6 ⟨v', rfl, ho, hg⟩
       have G6 := Lib.hid ((G5.out.keep ((Below.refl _ _).alloc (Nat.le_refl _) _) ZB.out).trans hg)
       obtain ⟨a6, c6, rfl, -, -, -, -⟩ := ho.parts
       have O6 := Lib.hid ho
       clear ho hg K6 e0 e1 e2 e3 e4 e5 e6 e7 e8
       have YL : (Y5 ++ pnums [(ln : Int)]).length ≤ 144584 := by rw [List.length_append]; have := N5.out; omega
       clear LL6
       generalize hn : (Y5 ++ pnums [(ln : Int)]).length = n6 at *
       generalize hY : Y5 ++ pnums [(ln : Int)] = Y6 at *
       have E6 := Lib.hid hY.symm
       have N6 : Hid (Y6.length ≤ 144584) := Lib.hid (by rw [hn]; exact YL)
       clear hn hY YL
       obtain ⟨e0, e1, e2, e3, e4, e5, e6, e7, e8⟩ := CT.out _ _ G6.out
       go_wp2_with fail
       clear e0 e1 e2 e3 e4 e5 e6 e7 e8

       have PS0 := Lib.hid (fun k (hk : k < m.txns.length) => flatMap_take txnC.put m.txns (k := k) hk)
       obtain ⟨P, hP⟩ : ∃ P : Nat → Bytes, P = fun k => (m.txns.take k).flatMap txnC.put := ⟨_, rfl⟩
       have PS : Hid (∀ k, k < ln → P (k + 1) = P k ++ txnC.put (m.txns.getD k default)) := Lib.hid (fun k hk => by rw [hP]; exact PS0.out k (by rw [D6.out]; exact hk))
       have P0 : Hid (P 0 = []) := Lib.hid (by rw [hP]; rfl)
       have PN : Hid (P ln = m.txns.flatMap txnC.put) := Lib.hid (by rw [hP, ← D6.out]; show (m.txns.take m.txns.length).flatMap txnC.put = _; rw [List.take_length])
       have PL : Hid (∀ k, (P k).length ≤ 630000) := Lib.hid (fun k => by
        rw [hP]
        show ((m.txns.take k).flatMap txnC.put).length ≤ 630000
        have h1 := flat_take txnC.put 6300 m.txns HTL.out k
        have h2 := htl.out
        omega)
       clear hP PS0
       go_loopw [3, 87] (fun z i wr => ∃ k : Nat, k ≤ ln ∧ i = .int .i64 k ∧ By.Owns w.heap.size wr z (Y6 ++ P k) ∧ Grow w.heap.size u0 (.slice none 0 0) wr z) (fun _ i _ => ln - (intOf i).toNat)
       case atStart => exact ⟨0, Nat.zero_le _, rfl, by rw [P0.out, List.append_nil]; exact O6.out, G6.out⟩
       case round =>
        obtain ⟨k, hk, rfl, ho, hg⟩ := hrel
        have HO := Lib.hid ho
        have HG := Lib.hid hg
        clear ho hg
        have kb : (ln : Int) ≤ 1000 := by have := D6.out; have := htl.out; omega
        by_cases hlt : k < ln
        ·have PK := Lib.hid (PS.out k hlt)
         have LK := Lib.hid (PL.out k)
         have BW := Lib.hid (HBW.out _ _ HG.out)
         have ZW : Hid (w.heap.size ≤ wr.heap.size) := Lib.hid (by have := HG.out.size; have := ZB.out; omega)
         have k1 : (k : Int) < ln := by omega
         obtain ⟨za', zc', rfl, -, -, -, -⟩ := HO.out.parts
         generalize hzl : (Y6 ++ P k).length = zl at *
         have ZL : Hid (zl ≤ 144584 + 630000) := Lib.hid (by rw [← hzl, List.length_append]; have := N6.out; have := LK.out; omega)
         generalize hYQ : Y6 ++ P k = YQ at *
         have EQ := Lib.hid hYQ.symm
         have LQ : Hid (YQ.length = zl) := Lib.hid hzl
         clear hzl hYQ LK
         obtain ⟨b, o, c, hv, -, -, -, hc⟩ := txns_spot (ST.out.below BW.out) (by rw [D6.out]; omega)
         rw [D6.out] at hv
         simp only [Value.slice.injEq] at hv
         obtain ⟨rfl, -, rfl⟩ := hv
         obtain ⟨dv, ev, ⟨t0, t1, t2, t3⟩, hdv, hev⟩ := hc k (by rw [D6.out]; exact hlt)
         have MT := Lib.hid (tmem_getD (l := m.txns) (k := k) (by rw [D6.out]; exact hlt))
         have TF := Lib.hid (HT.out _ MT.out)
         have TX := Lib.hid (HFT.out _ MT.out)
         have TL := Lib.hid (HTL.out _ MT.out)
         clear hc MT
         generalize m.txns.getD k default = t at *
         obtain ⟨da, dc, hq1, -, -, -, hd2⟩ := hdv.parts
         obtain ⟨ea, ec, hq2, -, -, -, he2⟩ := hev.parts
         subst hq1 hq2
         generalize t.deps.length = dn at *
         generalize t.effs.length = en at *
         have hba := (Below.refl wr.heap.size wr).alloc (Nat.le_refl _) (.cells #[.int .i64 t.node, .int .i64 t.seq, .slice da dn dc, .slice ea en ec] 51)
         have TB := Lib.hid (txbox_new hd2 he2)
         have OB := Lib.hid (HO.out.alloc (.cells #[.int .i64 t.node, .int .i64 t.seq, .slice da dn dc, .slice ea en ec] 51))
         have GB := Lib.hid (HG.out.keep hba ZB.out)
         clear hdv hev hd2 he2 hba
         go_upto_region 24 with fail
         clear t0 t1 t2 t3
         generalize wr.heap.size = tb at *
         generalize (wr.alloc (.cells #[.int .i64 t.node, .int .i64 t.seq, .slice da dn dc, .slice ea en ec] 51)) = wd at *
         obtain ⟨y0, y1, y2, y3⟩ := TB.out.c
         have K7 := Lib.hid (txputP (By.Seq.nil wd) (by simp) TB.out.is TX.out)
         have GZ := Lib.hid GB.out.size
         go_upto_region 25 with (refine K7.out.mono ?_; intro e u7 hg; obtain ⟨v2, rfl, ho2⟩ := hg.1 TF.out; have hb2 := hg.2.2; obtain ⟨a2, c2', rfl, -, -, -, -⟩ := ho2.parts)
         rw [List.nil_append] at ho2
         have O7 := Lib.hid (OB.out.below hb2 (Nat.le_refl _))
         have G7 := Lib.hid (GB.out.keep hb2 ZB.out)
         have S7 := Lib.hid ho2.seq
         have EF : Hid (YQ ++ txnC.put t = Y6 ++ P (k + 1)) := Lib.hid (by rw [EQ.out, PK.out, List.append_assoc])
         clear hg ho2 hb2 K7 y0 y1 y2 y3
         generalize hfe : (txnC.put t).length = fl at *
         have FE := Lib.hid hfe
         clear hfe
         go_wp2_with (at_builtin; refine By.wpList_append_seq rfl (.tmp 96) (.tmp 97) rfl w.heap.size rfl O7.out rfl S7.out (by rw [LQ.out, FE.out]; have := ZL.out; have := TL.out; omega) (by have := G7.out.size; have := ZB.out; omega) ?_)
         intro v5 w5 ho5 hgr hat
         have O8 := Lib.hid ho5
         have G8 := Lib.hid (G7.out.app hgr hat (fun k hk => (O7.out.lt k hk).1) ZB.out)
         clear ho5 hgr hat
         go_wp2_with fail
         go_roundw
         case rel => exact ⟨k + 1, by omega, by go_num, by rw [← EF.out]; exact O8.out, G8.out⟩
         case measure => simp [intOf] <;> omega
        ·obtain rfl : ln = k := by omega
         have O7 := HO
         have G7 := HG
         obtain ⟨a7, c7, rfl, -, -, -, -⟩ := HO.out.parts
         have YL : (Y6 ++ P ln).length ≤ 774584 := by rw [List.length_append]; have := N6.out; have := PL.out ln; omega
         rw [PN.out] at O7 G7 YL ⊢
         generalize hn : (Y6 ++ m.txns.flatMap txnC.put).length = n7 at *
         generalize hY : Y6 ++ m.txns.flatMap txnC.put = Y7 at *
         have E7 := Lib.hid hY.symm
         have N7 : Hid (Y7.length ≤ 774584) := Lib.hid (by rw [hn]; exact YL)
         clear hn hY YL HO HG PS P0 PN PL
         generalize wr = u7 at *
         have OE : Hid (By.Owns w.heap.size u7 _ (pmsg m)) := Lib.hid (by
          have h := O7.out
          rw [E7.out, E6.out, E5.out, E4.out, E3.out, E2.out, E1.out] at h
          rw [HPM.out, D5.out, D6.out, E3.out, E2.out, E1.out]
          exact h)
         go_wp2_with fail
         go_ret
         exact ⟨_, rfl, OE.out, GW.out.trans G7.out⟩

def GivesMPut (w : World) (m : PMsg) (e : Ending) (w' : World) : Prop :=
 (mformedM m = true → ∃ v, e = .returned (.tuple #[v, .int .i64 0]) ∧ By.Owns w.heap.size w' v (pmsg m)) ∧ (mformedM m = false → e = .returned (.tuple #[.slice none 0 0, .int .i64 2])) ∧ Below w.heap.size w w'
set_option maxRecDepth 100000 in
set_option maxHeartbeats 4000000 in
theorem mputP {v : Value} {m : PMsg} {w : World} (hv : IsMsg w v m) (hm : MsFitP m) (hn : mfits m) (hil : m.items.length ≤ 1000) (htl : m.txns.length ≤ 100) : Calls Tryz.prog 10 #[v] w (GivesMPut w m) := by
 obtain ⟨va, vn, vc, fa, fn, fc, za, zn, zc, na, nn, nc, ia, im, ic, la, ln, lc, rfl, H⟩ := hv.slices
 have hba := (Below.refl w.heap.size w).alloc (Nat.le_refl _) (.cells #[.int .i64 m.kind, .int .i64 m.ticket, .bool m.whole, .slice va vn vc, .slice fa fn fc, .slice za zn zc, .slice na nn nc, .slice ia im ic, .slice la ln lc] 28)
 have X := Lib.hid (msbox_new H)
 have G0 := Lib.hid hba
 clear hv H hba
 go_enter Tryz.func10, Tryz.ntmps10
 go_upto_region 1 with fail
 generalize (w.alloc (.cells #[.int .i64 m.kind, .int .i64 m.ticket, .bool m.whole, .slice va vn vc, .slice fa fn fc, .slice za zn zc, .slice na nn nc, .slice ia im ic, .slice la ln lc] 28)) = w0 at *
 obtain ⟨c0, c1, c2, c3, c4, c5, c6, c7, c8⟩ := X.out.c
 have KF := Lib.hid (mformedP X.out.is hm _ rfl)
 have KP := Lib.hid (fun u (h : Below w0.heap.size w0 u) (hf : mformedM m = true) => mform_any (X.out.below h).is hf hn hil htl hm.t)
 have HC := Lib.hid (fun u (h : Below w0.heap.size w0 u) => (X.out.below h).c)
 cases hr : mformedM m with
 | false =>
  have HRR := Lib.hid hr
  rw [hr] at KF
  clear hr
  go_wp2_with fail
  refine KF.out.mono ?_
  rintro e w1 ⟨rfl, hb⟩
  have G1 := Lib.hid (G0.out.trans (hb.mono G0.out.size))
  clear hb KF KP c0 c1 c2 c3 c4 c5 c6 c7 c8
  go_wp2_with fail
  go_ret2
  exact ⟨fun h => absurd (HRR.out.symm.trans h) (by decide), fun _ => rfl, G1.out⟩
 | true =>
  have HRR := Lib.hid hr
  rw [hr] at KF
  clear hr
  go_wp2_with fail
  refine KF.out.mono ?_
  rintro e w1 ⟨rfl, hb⟩
  have B1 := Lib.hid hb
  have K1 := Lib.hid (KP.out w1 hb HRR.out)
  clear hb KF KP c0 c1 c2 c3 c4 c5 c6 c7 c8
  obtain ⟨c0, c1, c2, c3, c4, c5, c6, c7, c8⟩ := HC.out w1 B1.out
  generalize hbs : pmsg m = bs at *
  have HBS := Lib.hid hbs
  clear hbs
  go_wp2_with fail
  refine K1.out.mono ?_
  rintro e w2 ⟨v2, rfl, ho, hg⟩
  have B2 := Lib.hid (B1.out.trans (hg.below.mono B1.out.size))
  have O2 : Hid (By.Owns w.heap.size w2 v2 bs) := Lib.hid (ho.mono (Nat.le_trans G0.out.size B1.out.size))
  have G2 := Lib.hid (G0.out.trans (B2.out.mono G0.out.size))
  obtain ⟨a2, n2, rfl, -, -, -, -⟩ := ho.parts
  clear ho hg K1 c0 c1 c2 c3 c4 c5 c6 c7 c8
  go_wp2_with fail
  go_ret2
  exact ⟨fun _ => ⟨_, rfl, by rw [HBS.out]; exact O2.out⟩, fun h => absurd (HRR.out.symm.trans h) (by decide), G2.out⟩
end Go.Proofs.YtfapkepfngddlaaGreat
