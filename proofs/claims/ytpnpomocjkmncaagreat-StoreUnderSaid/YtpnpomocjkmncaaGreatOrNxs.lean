/- The program's own next. (Written by gen-nx.py.) The program's own hear. (Written by gen-hr.py.) -/
import Derived.Test.YtpnpomocjkmncaaGreatOrBoxs
namespace Go.Proofs.YtpnpomocjkmncaaGreat
open Go.RowKit Plain
set_option linter.unusedVariables false

theorem pop_place {hs ys : List Int} {H : List Nat} {x : Int} (h1 : hs.Perm (nums H)) (h2 : hs.Perm (x :: ys)) (h3 : ∀ y ∈ hs, x ≤ y) : ∃ (p : Nat) (H' : List Nat), x = (p : Int) ∧ H.Perm (p :: H') ∧ ys.Perm (nums H') ∧ ∀ j ∈ H', p ≤ j := by
 have hx : x ∈ nums H := h1.mem_iff.1 (h2.mem_iff.2 (by simp))
 obtain ⟨p, hp, rfl⟩ := List.mem_map.1 hx
 have hP := List.perm_cons_erase hp
 refine ⟨p, H.erase p, rfl, hP, ?_, fun j hj => ?_⟩
 ·have e1 : (nums H).Perm ((p : Int) :: nums (H.erase p)) := hP.map _
  exact ((h2.symm.trans h1).trans e1).cons_inv
 ·have hm : (j : Int) ∈ hs := h1.mem_iff.2 (List.mem_map.2 ⟨j, List.mem_of_mem_erase hj, rfl⟩)
  have := h3 _ hm
  omega
def NextTo (F : Nat → Prop) (B : Nat) (w : World) (g : Nat) (l : List PTxn) (v : Ints) (gm : List Bool) (Bh : Int → Int → List Nat) (e : Ending) (w' : World) : Prop :=
 (∃ (p : Nat) (F' : Nat → Prop) (H' : List Nat), e = .returned (.tuple #[.int .i64 (p : Int), .bool true]) ∧ p < l.length ∧ OWait l v gm (p :: H') Bh [] ∧ (∀ j ∈ H', p ≤ j) ∧ oReady v (otx l p) = true ∧ Wt F' B w' g l v H' Bh ∧ FTo F w F' w') ∨
 (∃ (F' : Nat → Prop), e = .returned (.tuple #[.int .i64 0, .bool false]) ∧ OWait l v gm [] Bh [] ∧ Wt F' B w' g l v [] Bh ∧ FTo F w F' w')
set_option maxRecDepth 100000 in
set_option maxHeartbeats 16000000 in
theorem next_any {F : Nat → Prop} {B : Nat} {w : World} {g : Nat} {l : List PTxn} {v : Ints} {H : List Nat} {Bh : Int → Int → List Nat} {gm : List Bool} (h : Wt F B w g l v H Bh) (ow : OWait l v gm H Bh []) (hl : l.length ≤ 1000000) (hf : ∀ t ∈ l, FitW t) (hvl : v.length ≤ 1000000) :
  Calls Tryz.prog 92 #[.pointer (some ⟨g, 0, none⟩)] w (NextTo F B w g l v gm Bh) := by
 have HW := Lib.hid h
 have OW := Lib.hid ow
 have HF := Lib.hid hf
 clear h ow hf
 go_enter Tryz.func92, Tryz.ntmps92
 go_wp2_with fail
 go_loopg [4] H.length (fun gg _ wr => ∃ (F' : Nat → Prop) (H' : List Nat), H'.length ≤ gg ∧ Aside (Wt F' B wr g l v H' Bh ∧ OWait l v gm H' Bh [] ∧ FTo F w F' wr))
 case atStart => exact ⟨F, H, Nat.le_refl _, HW.out, OW.out, FTo.refl _ _⟩
 case round =>
  obtain ⟨F1, H1, hgg, hrel⟩ := hrel
  obtain ⟨hW1, ow1, ft1⟩ := Aside.out hrel
  have HT1 := Lib.hid ft1
  have OW1 := Lib.hid ow1
  obtain ⟨lv, hv, rv, m, V, hs, h1⟩ := hW1
  have HW1 := Lib.hid h1
  obtain ⟨ra, rc, rfl, -, -, -, -⟩ := h1.hp.row.parts
  obtain ⟨⟨-, -, c2, -⟩, -, -⟩ := h1.hp.cell
  have hlen : hs.length = H1.length := by rw [h1.perm.length_eq, nums_len]
  obtain ⟨n, hn⟩ : ∃ n, hs.length = n := ⟨_, rfl⟩
  rw [hn] at c2 hlen
  have HN := Lib.hid hn
  have HLN := Lib.hid hlen
  have HLE : Hid (H1.length ≤ l.length) := Lib.hid (places_len2 ow1)
  have HGG := Lib.hid hgg
  clear hrel ow1 ft1 h1 hn
  cases n with
  | zero =>
   have hnil : H1 = [] := List.eq_nil_of_length_eq_zero HLN.out.symm
   subst hnil
   clear hlen hgg
   go_wp2_with (go_at_call 130; refine (hlen_any _ _ _ _).mono ?_; rintro e w2 ⟨rfl, rfl⟩)
   go_ret2
   exact .inr ⟨F1, rfl, OW1.out, HW1.out.is, HT1.out⟩
  | succ n =>
   have KP := Lib.hid (hpop_any HW1.out.hp HW1.out.heap n HN.out (by have := HLE.out; omega))
   rw [HN.out] at KP
   clear hlen hgg
   have tA := tassert
   go_upto_region 3 with (first
    | (go_at_call 130; refine (hlen_any _ _ _ _).mono ?_; rintro e w2 ⟨rfl, rfl⟩)
    | (go_at_call 131; refine KP.out.mono ?_; rintro e w2 ⟨x, rv2, ys, rfl, h2, i2, p2, q2, t2⟩; have R0 := Lib.hid (pop_place HW1.out.perm p2 q2); have T2 := Lib.hid (And.intro h2 (And.intro i2 t2)); clear h2 i2 p2 q2 t2 KP))
   obtain ⟨p, H2, rfl, r1, r2, r3⟩ := R0.out
   have R := Lib.hid (HW1.out.heaped T2.out.1 T2.out.2.1 r2 (by have Z := T2.out.2.2; rw [← HN.out] at Z; exact Z))
   have OW2 : Hid (OWait l v gm (p :: H2) Bh []) := Lib.hid (OW1.out.perm r1.symm)
   have R3 := Lib.hid r3
   have HL2 : Hid (H2.length + 1 = H1.length) := Lib.hid (by have := r1.length_eq; simp at this; omega)
   clear R0 r1 r2 r3 c2 tA
   have hp : p < l.length := (OW2.out.hH p (by simp)).1
   have h2 := R.out.1
   obtain ⟨lb, lo, lc, rfl, L1, L2, hc⟩ := txns_spotB h2.list h2.size (by omega)
   obtain ⟨da, dn, dc, ea, en, ec, TA, IT⟩ := hc p hp
   have hft := HF.out (otx l p) (by rw [otx_lt hp]; exact List.getElem_mem hp)
   obtain ⟨va, vc, rfl, -, -, -, SV⟩ := SeqE.parts (L := LInt) h2.vecS
   have SVI := Lib.hid (seqI_of SV)
   have KR := Lib.hid (fun u (hb : Below w2.heap.size w2 u) => oreadyP_any (SVI.out.below hb) (IT.below hb) hvl hft.deps hft.small)
   obtain ⟨⟨b0, b1, -, -⟩, -, -⟩ := h2.hp.cell
   have hgl := h2.hp.lt
   have HPP := Lib.hid hp
   obtain ⟨t, hT⟩ : ∃ t, t = otx l p := ⟨_, rfl⟩
   rw [← hT] at TA IT KR hft
   have HTT := Lib.hid hT
   obtain ⟨ln, hln⟩ : ∃ n, n = l.length := ⟨_, rfl⟩
   obtain ⟨vn, hvn⟩ : ∃ n, n = v.length := ⟨_, rfl⟩
   rw [← hln] at b0 L1 hp
   rw [← hvn] at b1 KR
   have KE : Hid (∀ u, Below w2.heap.size w2 u → Below w2.heap.size w2 u ∧ u.cell? ⟨g, 0, none⟩ = some (.slice (some ⟨lb, lo, none⟩) ln lc) ∧ u.cell? ⟨g, 1, none⟩ = some (.slice va vn vc) ∧ u.cell? ⟨lb, lo + p * 4, none⟩ = some (.int .i64 t.node) ∧ u.cell? ⟨lb, lo + p * 4 + 1, none⟩ = some (.int .i64 t.seq) ∧ u.cell? ⟨lb, lo + p * 4 + 2, none⟩ = some (.slice da dn dc) ∧ u.cell? ⟨lb, lo + p * 4 + 3, none⟩ = some (.slice ea en ec)) := Lib.hid (fun u hb => by
    have TB := TA.below hb TA.lt
    exact ⟨hb, (hb.cell (p := ⟨g, 0, none⟩) hgl).trans b0, (hb.cell (p := ⟨g, 1, none⟩) hgl).trans b1, TB.c0, TB.c1, TB.c2, TB.c3⟩)
   have L3 : (p : Int) < ln := by omega
   have L4 : (ln : Int) ≤ lc := by omega
   have L5 : (lc : Int) ≤ 9223372036854775807 := by omega
   clear TA IT hc hT hln hvn SV hft L1 L2 b0 b1 h2
   obtain ⟨r, hr⟩ : ∃ r, r = oReady v t := ⟨_, rfl⟩
   rw [← hr] at KR
   have HR := Lib.hid hr
   clear hr
   refine wp_region_held_drew (S := fun u' => Below w2.heap.size w2 u' ∧ u'.cell? ⟨g, 0, none⟩ = some (.slice (some ⟨lb, lo, none⟩) ln lc) ∧ u'.cell? ⟨g, 1, none⟩ = some (.slice va vn vc) ∧ u'.cell? ⟨lb, lo + p * 4, none⟩ = some (.int .i64 t.node) ∧ u'.cell? ⟨lb, lo + p * 4 + 1, none⟩ = some (.int .i64 t.seq) ∧ u'.cell? ⟨lb, lo + p * 4 + 2, none⟩ = some (.slice da dn dc) ∧ u'.cell? ⟨lb, lo + p * 4 + 3, none⟩ = some (.slice ea en ec)) (by kernel_rfl) ?_ (fun hHeld => ?_)
   ·(exact KE.out _ (Below.refl _ _).drew)
   simp only [List.size_toArray, List.length_cons, List.length_nil, Nat.zero_add, Nat.reduceAdd]
   refine tkB (i := 0) hHeld ?_
   refine tkB (i := 1) hHeld ?_
   refine tkB (i := 2) hHeld ?_
   refine tkB (i := 3) hHeld ?_
   refine tkB (i := 4) hHeld ?_
   refine tkB (i := 5) hHeld ?_
   refine tkB (i := 6) hHeld ?_
   refine tkB (i := 7) hHeld ?_
   refine tkB (i := 8) hHeld ?_
   refine tkB (i := 9) hHeld ?_
   refine tkB (i := 10) hHeld ?_
   refine wpAnyH_ready (rs := [11]) (by kernel_rfl) (by simp) ?_
   refine AllReadyH.cons rfl (fun K hK => ?_) AllReadyH.nil
   go_simp
   refine (KR.out _ hHeld.1).mono ?_
   rintro e s1 ⟨rfl, hb⟩
   refine hK.out _ _ (KE.out _ (holdC hHeld hb)) (fun hHeld => ?_)
   clear hK K hb
   refine wpAnyH_done (by kernel_rfl) ?_ _
   have GZ : Hid (Below w2.heap.size w2 _) := Lib.hid hHeld.1
   clear hHeld
   cases r
   ·go_wp2_with fail
    have hr2 : ¬ oReady v (otx l p) = true := by rw [← HTT.out, ← HR.out]; simp
    have hsm : TSmall (otx l p) := by rw [otx_lt HPP.out]; exact (HF.out _ (List.getElem_mem HPP.out)).small
    go_roundg H2.length
    case measure => have := HL2.out; have := HGG.out; omega
    case rel => exact ⟨_, H2, Nat.le_refl _, (R.out.1.below GZ.out).is, OW2.out.drop hsm hr2, HT1.out.trans (R.out.2.trans (FTo.of GZ.out))⟩
   ·go_wp2_with fail
    go_ret2
    exact .inl ⟨p, _, H2, rfl, HPP.out, OW2.out, R3.out, by rw [← HTT.out, ← HR.out], (R.out.1.below GZ.out).is, HT1.out.trans (R.out.2.trans (FTo.of GZ.out))⟩
end Go.Proofs.YtpnpomocjkmncaaGreat
namespace Go.Proofs.YtpnpomocjkmncaaGreat
open Go.RowKit Plain
set_option linter.unusedVariables false

theorem oNext_len (v : Ints) (t : PTxn) : (oNext v t).length ≤ max v.length 8 := by
 unfold oNext
 split
 ·rename_i h
  have h1 := (oValid_iff.1 h).1
  unfold withN
  have := laid_len (withF v t.node.toNat t.seq) (max v.length (t.node.toNat + 1))
  omega
 ·unfold trim
  have := laid_len (says v) v.length
  omega
def HearTo (F : Nat → Prop) (B : Nat) (w : World) (g : Nat) (l : List PTxn) (v : Ints) (gm : List Bool) (p : Nat) (e : Ending) (w' : World) : Prop :=
 e = .returned (.tuple #[]) ∧ ∃ F' H' Bh', Wt F' B w' g l (oNext v (otx l p)) H' Bh' ∧ OWait l (oNext v (otx l p)) (gm.set p true) H' Bh' [] ∧ FTo F w F' w'
set_option maxRecDepth 100000 in
set_option maxHeartbeats 16000000 in
theorem hear_any {F : Nat → Prop} {B : Nat} {w : World} {g : Nat} {l : List PTxn} {v : Ints} {H : List Nat} {Bh : Int → Int → List Nat} {gm : List Bool} {p : Nat} {tv : Value} (h : Wt F B w g l v H Bh) (ow : OWait l v gm (p :: H) Bh []) (hr : oReady v (otx l p) = true) (ht : IsTxn w tv (otx l p)) (hl : l.length ≤ 1000000) (hf : ∀ t ∈ l, FitW t) (hvl : v.length ≤ 1000000) :
  Calls Tryz.prog 94 #[.pointer (some ⟨g, 0, none⟩), tv] w (HearTo F B w g l v gm p) := by
 obtain ⟨lv, hv, rv, m, V, hs, h⟩ := h
 obtain ⟨da, dn, dc, ea, en, ec, rfl, k1, k2⟩ := ht.parts
 have hp : p < l.length := (ow.hH p (by simp)).1
 have hok : txnOk (otx l p) := (hf (otx l p) (by rw [otx_lt hp]; exact List.getElem_mem hp)).ok
 have HOK : Hid (dotOk ⟨(otx l p).node, (otx l p).seq, 0⟩) := Lib.hid ⟨hok.1, hok.2.1, wf0⟩
 have OW1 := Lib.hid (fun Q hQ => ow.take (Q := Q) hr hQ)
 have HNL : Hid ((oNext v (otx l p)).length ≤ 1000000) := Lib.hid (by have := oNext_len v (otx l p); omega)
 have KB := Lib.hid (txbox_new k1 k2)
 have hb := (Below.refl w.heap.size w).alloc (Nat.le_refl _) (.cells #[.int .i64 (otx l p).node, .int .i64 (otx l p).seq, .slice da dn dc, .slice ea en ec] 30)
 have BX := Lib.hid (heap_alloc_new w (.cells #[.int .i64 (otx l p).node, .int .i64 (otx l p).seq, .slice da dn dc, .slice ea en ec] 30))
 have HF := Lib.hid hf
 have HT : Hid (∀ x, x = otx l p → oNext v x = oNext v (otx l p)) := Lib.hid (fun x e => by rw [e])
 obtain ⟨t, hT⟩ : ∃ t, t = otx l p := ⟨_, rfl⟩
 rw [← hT] at k1 k2 KB hb OW1 HNL HOK BX ⊢
 have HTT := Lib.hid hT
 have HB := Lib.hid hb
 have HW := Lib.hid (h.below hb)
 have HGL := Lib.hid h.hp.lt
 have HRR := Lib.hid hr
 clear h ow hr ht hf k1 k2 hb hok HT hT
 go_enter Tryz.func94, Tryz.ntmps94
 go_upto_region 1 with fail
 generalize (w.alloc (.cells #[.int .i64 t.node, .int .i64 t.seq, .slice da dn dc, .slice ea en ec] 30)) = wb at *
 obtain ⟨va, vc, rfl, -, -, -, SV⟩ := SeqE.parts (L := LInt) HW.out.vecS
 have SVI := Lib.hid (seqI_of SV)
 have KN := Lib.hid (onextP_any (SVI.out.below (Below.refl _ _).drew) (KB.out.below (Below.refl _ _).drew).is hvl)
 obtain ⟨⟨-, b1, -, -⟩, -, -⟩ := HW.out.hp.cell
 obtain ⟨c0, c1, c2, c3⟩ := KB.out.c
 obtain ⟨nv, hnv⟩ : ∃ x, x = oNext v t := ⟨_, rfl⟩
 have HNV := Lib.hid hnv
 rw [← hnv] at KN OW1 HNL
 have HXS : Hid (∀ (w1 : World), Below wb.heap.size wb w1 → ∀ x, (w1.setCell ⟨g, 1, none⟩ x).heap[w.heap.size]? = some (.cells #[.int .i64 t.node, .int .i64 t.seq, .slice da dn dc, .slice ea en ec] 30 (0, 0))) := Lib.hid (fun w1 W1 x => (Below.heap_setCell _ _ _ _ (by show w.heap.size ≠ g; have := HGL.out; omega)).trans ((W1.block _ (by have := (Array.getElem?_eq_some_iff.1 BX.out).1; exact this)).trans BX.out))
 clear SV hnv
 go_cut [13] (fun s13 wx => ∃ hv', WtAt F B wx g l nv H Bh lv hv' rv m V hs ∧ FTo F w F wx ∧ wx.heap[w.heap.size]? = some (.cells #[.int .i64 t.node, .int .i64 t.seq, .slice da dn dc, .slice ea en ec] 30 (0, 0)))
 case first =>
  go_region_law ((first
   | (go_simp; go_at_call 37; refine KN.out.mono ?_; rintro e w1 ⟨hv', rfl, ho, hb1⟩; have W1 : Below wb.heap.size wb w1 := (Below.refl _ _).drew.trans hb1; have HH := Lib.hid (HW.out.heard W1 ho); have TB := Lib.hid (HXS.out w1 W1); obtain ⟨⟨-, y1, -, -⟩, y2, -⟩ := (HW.out.below W1).hp.cell; obtain ⟨ya, yc, rfl, -, -, -, -⟩ := ho.parts)))
  all_goals (go_wp2_with fail; go_meet; exact ⟨_, HH.out.1, (FTo.of HB.out).trans HH.out.2, TB.out _⟩)
 case rest =>
  obtain ⟨hv', h1, ft1, bx⟩ := hcut
  have H1 := Lib.hid h1
  have FT1 := Lib.hid ft1
  have HB0 := Lib.hid bx
  have c0 : wc.cell? ⟨w.heap.size, 0, none⟩ = some (.int .i64 t.node) := cell_of_row _ _ 0 _ _ _ bx
  have c1 : wc.cell? ⟨w.heap.size, 1, none⟩ = some (.int .i64 t.seq) := cell_of_row _ _ 1 _ _ _ bx
  have c2 : wc.cell? ⟨w.heap.size, 2, none⟩ = some (.slice da dn dc) := cell_of_row _ _ 2 _ _ _ bx
  have c3 : wc.cell? ⟨w.heap.size, 3, none⟩ = some (.slice ea en ec) := cell_of_row _ _ 3 _ _ _ bx
  clear h1 ft1 bx KN SVI b1 HXS HW
  go_upto_region 3 with (go_at_call 35; refine txdotP.mono ?_; rintro e w2 ⟨rfl, hb2⟩; have H2 := Lib.hid hb2; have GD := Lib.hid (heap_alloc_new w2 (.cells #[.int .i64 t.node, .int .i64 t.seq, .int .i64 0] 62)); have BD : Hid (Below wc.heap.size wc (w2.alloc (.cells #[.int .i64 t.node, .int .i64 t.seq, .int .i64 0] 62))) := Lib.hid (hb2.alloc hb2.size _); clear hb2)
  generalize hgd : w2.heap.size = gd at *
  generalize (w2.alloc (.cells #[.int .i64 t.node, .int .i64 t.seq, .int .i64 0] 62)) = wd at *
  have H3 := Lib.hid (H1.out.below BD.out)
  have q0 : wd.cell? ⟨gd, 0, none⟩ = some (.int .i64 t.node) := cell_of_row _ _ 0 _ _ _ GD.out
  have q1 : wd.cell? ⟨gd, 1, none⟩ = some (.int .i64 t.seq) := cell_of_row _ _ 1 _ _ _ GD.out
  have q2 : wd.cell? ⟨gd, 2, none⟩ = some (.int .i64 0) := cell_of_row _ _ 2 _ _ _ GD.out
  clear c0 c1 c2 c3 hgd H1
  obtain ⟨va, vc, rfl, -, -, -, SV⟩ := SeqE.parts (L := LInt) H3.out.vecS
  have SVI := Lib.hid (seqI_of SV)
  have KH := Lib.hid (fun u (hb : Below wd.heap.size wd u) => vc_has_any (SVI.out.below hb) t.node t.seq 0)
  obtain ⟨⟨-, b1, -, -⟩, -, -⟩ := H3.out.hp.cell
  have hgl := H3.out.hp.lt
  have hdl : gd < wd.heap.size := (Array.getElem?_eq_some_iff.1 GD.out).1
  obtain ⟨vn, hvn⟩ : ∃ n, n = nv.length := ⟨_, rfl⟩
  rw [← hvn] at b1 KH
  obtain ⟨r, hr⟩ : ∃ r, r = (decide (1 ≤ t.seq) && decide (t.seq ≤ saysI nv t.node)) := ⟨_, rfl⟩
  rw [← hr] at KH
  have HR : Hid (r = true ↔ oHas nv t.node t.seq) := Lib.hid (by rw [hr, Bool.and_eq_true, decide_eq_true_iff, decide_eq_true_iff]; exact Iff.rfl)
  have KE : Hid (∀ u, Below wd.heap.size wd u → Below wd.heap.size wd u ∧ u.cell? ⟨g, 1, none⟩ = some (.slice va vn vc) ∧ u.cell? ⟨gd, 0, none⟩ = some (.int .i64 t.node) ∧ u.cell? ⟨gd, 1, none⟩ = some (.int .i64 t.seq) ∧ u.cell? ⟨gd, 2, none⟩ = some (.int .i64 0)) := Lib.hid (fun u hb => ⟨hb, (hb.cell (p := ⟨g, 1, none⟩) hgl).trans b1, (hb.cell (p := ⟨gd, 0, none⟩) hdl).trans q0, (hb.cell (p := ⟨gd, 1, none⟩) hdl).trans q1, (hb.cell (p := ⟨gd, 2, none⟩) hdl).trans q2⟩)
  clear SV SVI b1 hgl hdl hvn hr q0 q1 q2
  refine wp_region_held_drew (S := fun u' => Below wd.heap.size wd u' ∧ u'.cell? ⟨g, 1, none⟩ = some (.slice va vn vc) ∧ u'.cell? ⟨gd, 0, none⟩ = some (.int .i64 t.node) ∧ u'.cell? ⟨gd, 1, none⟩ = some (.int .i64 t.seq) ∧ u'.cell? ⟨gd, 2, none⟩ = some (.int .i64 0)) (by kernel_rfl) ?_ (fun hHeld => ?_)
  ·(exact KE.out _ (Below.refl _ _).drew)
  simp only [List.size_toArray, List.length_cons, List.length_nil, Nat.zero_add, Nat.reduceAdd]
  refine tkB (i := 0) hHeld ?_
  refine tkB (i := 1) hHeld ?_
  refine tkB (i := 2) hHeld ?_
  refine tkB (i := 3) hHeld ?_
  refine tkB (i := 4) hHeld ?_
  refine wpAnyH_ready (rs := [5]) (by kernel_rfl) (by simp) ?_
  refine AllReadyH.cons rfl (fun K hK => ?_) AllReadyH.nil
  go_simp
  refine (KH.out _ hHeld.1).mono ?_
  rintro e s1 ⟨rfl, hb⟩
  refine hK.out _ _ (KE.out _ (holdC hHeld hb)) (fun hHeld => ?_)
  clear hK K hb
  refine tkB (i := 6) hHeld ?_
  refine wpAnyH_done (by kernel_rfl) ?_ _
  have GZ : Hid (Below wd.heap.size wd _) := Lib.hid hHeld.1
  have FZ : Hid (FTo F w F _) := Lib.hid (FT1.out.trans ((FTo.of BD.out).trans (FTo.of hHeld.1)))
  have H4 := Lib.hid (H3.out.below hHeld.1)
  have D4 := Lib.hid ((hHeld.1.block gd (Array.getElem?_eq_some_iff.1 GD.out).1).trans GD.out)
  clear hHeld KH KE
  cases r
  ·have hno : ¬ oHas nv t.node t.seq := fun e => by have := HR.out.2 e; cases this
   have OW2 := Lib.hid (OW1.out [] (.inr ⟨hno, rfl⟩))
   clear hno
   go_wp2_with fail
   (try simp only [Exit.inBlock, Exit.then])
   refine bodyPost_ret (results_none rfl _ _ _) rfl ?_
   refine ⟨rfl, F, H, Bh, ?_, ?_, FZ.out⟩
   ·rw [← HTT.out, ← HNV.out]; exact H4.out.is
   ·rw [← HTT.out, ← HNV.out]; exact OW2.out
  ·have hyes : oHas nv t.node t.seq := HR.out.1 rfl
   have HY := Lib.hid hyes
   have OW2 := Lib.hid (OW1.out (Bh t.node t.seq) (.inl ⟨hyes, rfl⟩))
   clear hyes
   have HD0 := HOK.out
   obtain ⟨ra, rc, hV, R1, R2, hro, -⟩ := (H4.out.rows ⟨t.node, t.seq, 0⟩).parts
   have hrow : rowOf Bh ⟨t.node, t.seq, 0⟩ = nums (Bh t.node t.seq) := by unfold rowOf; rw [if_pos rfl]
   obtain ⟨Q, hQ⟩ : ∃ Q, Q = Bh t.node t.seq := ⟨_, rfl⟩
   rw [← hQ] at hrow OW2
   rw [hrow] at hV R1
   have LK : Hid (∀ k, (Instr.lookup 109 (.map (some m)) (.agg #[.int .i64 t.node, .int .i64 t.seq, .int .i64 0]) false).run Tryz.prog (s1.drewN k) = .ok (V ⟨t.node, t.seq, 0⟩) (s1.drewN k)) := Lib.hid (fun k => MapAt.look (w := s1.drewN k) (d := ⟨t.node, t.seq, 0⟩) (H4.out.map.below (below_drewN (Below.refl _ _) k)) HD0)
   rw [hV, nums_len] at LK
   obtain ⟨n, hn⟩ : ∃ n, n = Q.length := ⟨_, rfl⟩
   rw [← hn] at LK
   have lk := LK.out
   have HV0 : Hid (V ⟨t.node, t.seq, 0⟩ = .slice ra n rc) := Lib.hid (by rw [hV, nums_len, hn])
   have HS0 : Hid (SeqI s1 (.slice ra n rc) (nums Q)) := Lib.hid (by have := hro.seq; rw [hrow] at this; rw [← HV0.out, hV]; exact this)
   have HNN := Lib.hid hn
   have HND : Hid (n ≤ 1000000) := Lib.hid (by have h1 := places_len (List.nodup_append.1 OW2.out.nd).2.1 (fun j hj => (OW2.out.hQ j hj).1); omega)
   have R3 : (n : Int) ≤ rc := by rw [nums_len, ← hn] at R1; omega
   have R4 : (rc : Int) ≤ 9223372036854775807 := by have : maxLen = 9223372036854775807 := rfl; omega
   have lk0 := lk 0
   obtain ⟨⟨-, -, -, b3⟩, -, -⟩ := H4.out.hp.cell
   have q0 : s1.cell? ⟨gd, 0, none⟩ = some (.int .i64 t.node) := cell_of_row _ _ 0 _ _ _ D4.out
   have q1 : s1.cell? ⟨gd, 1, none⟩ = some (.int .i64 t.seq) := cell_of_row _ _ 1 _ _ _ D4.out
   have q2 : s1.cell? ⟨gd, 2, none⟩ = some (.int .i64 0) := cell_of_row _ _ 2 _ _ _ D4.out
   clear hV R1 R2 hro hrow hQ hn HD0 LK
   go_upto_region 4 with fail
   go_quiet (fail)
   clear b3 q0 q1 q2 lk lk0
   have H5 := Lib.hid (H4.out.below (below_drewN (Below.refl _ _) nq))
   have F5 := Lib.hid (FZ.out.trans (FTo.of (F := F) (below_drewN (Below.refl _ _) nq)))
   have S5 := Lib.hid (HS0.out.drawn nq)
   generalize s1.drewN nq = s2 at *
   go_wp2_with fail
   go_loopw [32] (fun i wr => ∃ (k : Nat), k ≤ n ∧ i = .int .i64 k ∧ Aside (∃ F' H' Bh' rv' V' hs', WtAt F' B wr g l nv H' Bh' lv (.slice va nv.length vc) rv' m V' hs' ∧ OWait l nv (gm.set p true) H' Bh' (Q.drop k) ∧ FTo F w F' wr ∧ RowsStay nv V s2 V' wr)) (fun i _ => n - (intOf i).toNat)
   case atStart => exact ⟨0, Nat.zero_le _, rfl, F, H, Bh, rv, V, hs, H5.out, by rw [List.drop_zero]; exact OW2.out, F5.out, RowsStay.refl _ _ _⟩
   case round =>
    obtain ⟨k, hk, rfl, hrel⟩ := hrel
    obtain ⟨F6, H6, B6, rv6, V6, hs6, w6, o6, f6, y6⟩ := Aside.out hrel
    have W6 := Lib.hid w6
    have O6 := Lib.hid o6
    have T6 := Lib.hid f6
    have Y6 := Lib.hid y6
    clear hrel w6 o6 f6 y6
    by_cases hlt : k < n
    ·have hqk : k < Q.length := by rw [← HNN.out]; exact hlt
     obtain ⟨rb, ro, cap, hsl, -, -, -, hcell⟩ := S5.out.spot (by rw [nums_len]; omega)
     simp only [Value.slice.injEq] at hsl
     obtain ⟨rfl, -, rfl⟩ := hsl
     have hst := (Y6.out ⟨t.node, t.seq, 0⟩ HY.out).2 rb (by rw [HV0.out]; rfl)
     have ce : wr.cell? ⟨rb, ro + k, none⟩ = some (.int .i64 (Q[k] : Int)) := by
      rw [World.cell?_of_block (a := ⟨rb, ro + k, none⟩) hst, hcell k (by rw [nums_len]; exact hqk)]
      unfold nums
      simp [List.getD, hqk]
     have KW := Lib.hid (wait_any (p := Q[k]) (Q := Q.drop (k + 1)) W6.out (by have := O6.out; rw [List.drop_eq_getElem_cons hqk] at this; exact this) hl HF.out HNL.out)
     have hk1 : (k : Int) < n := by omega
     generalize Q[k] = qk at *
     clear hst hcell hqk
     go_wp2_with (go_at_call 91; refine KW.out.mono ?_; rintro e w7 ⟨rfl, F7, H7, B7, rv7, V7, hs7, w7', o7, f7, y7⟩; have R7 := Lib.hid (And.intro w7' (And.intro o7 (And.intro (T6.out.trans f7) (Y6.out.trans y7)))); clear w7' o7 f7 y7 KW)
     go_roundw
     case rel => exact ⟨k + 1, by omega, by go_num, F7, H7, B7, rv7, V7, hs7, R7.out⟩
     case measure => simp [intOf]; omega
    ·obtain rfl : k = n := by omega
     go_wp2_with fail
     go_end0
     refine ⟨rfl, F6, H6, B6, ?_, ?_, T6.out⟩
     ·rw [← HTT.out, ← HNV.out]; exact W6.out.is
     ·rw [← HTT.out, ← HNV.out]; have := O6.out; rw [HNN.out, List.drop_length] at this; exact this
end Go.Proofs.YtpnpomocjkmncaaGreat
