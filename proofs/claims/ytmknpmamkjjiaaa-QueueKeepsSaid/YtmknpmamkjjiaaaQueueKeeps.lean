/-
  For any number and any script the law QueueKeeps answers true: what waits is transactions of one node, one number after the other, within the bound; what was heard, from the first on, waits no more. No condition.
  (The frame was written by the guide's proof-skeleton.mjs, turned for queues; the walk is ours.)
-/
import Derived.Test.YtmknpmamkjjiaaaRows
import Derived.WalkKit
import Derived.ProofKit
import Derived.OpenShut
import Derived.ShutString
import Derived.ChangeOld
import Derived.Below
import Derived.Test.YtmknpmamkjjiaaaQuOps
import Derived.Test.YtmknpmamkjjiaaaTxIns
import Derived.Deep.RegionHeld3
import Derived.Deep.DeepCutAuto
import Derived.Deep.Cut
namespace Go.Proofs.Ytmknpmamkjjiaaa.queueKeeps
open Go.ChangeShapes Go.WideShapes Go.ChangeAt Go.RowKit
open Go.ChangeMaps (open_string shut_string)
set_option linter.unusedVariables false

theorem own : ownKnob Try.prog.godebug = none := by kernel_rfl
theorem laidOut : laidOutB Try.prog = true := by kernel_rfl

open Plain

set_option maxRecDepth 100000 in
theorem open1 {H : Type} {enc : TypeId × Value → H} {W : World} {r : Reach} {b : Nat} {v : Value} {d : DataW H} {p : List MemPlace} (hv : Value.okWide Try.prog W r b 22 v) (h : DataW.Trod enc Try.prog W 0 (fun _ => true) true 22 v d p) : IsQOps W v := qops_of_trod hv h
set_option maxRecDepth 100000 in
set_option maxHeartbeats 64000000 in
theorem walk (mo : Int) (v1 : Value) (w : World) (w0 : (Lit.int .i64 mo).wf = true) (w1 : IsQOps w v1) :
    Calls Try.prog 3 #[.int .i64 mo, v1] w fun e w' => e = .returned (.bool true) ∧ Below w.heap.size w w' := by
  obtain ⟨ops, hv, hok⟩ := w1
  obtain ⟨a, cap, rfl, g1, g2, -, hs⟩ := hv.parts
  obtain ⟨n, hN⟩ : ∃ n, ops.length = n := ⟨_, rfl⟩
  rw [hN] at g1 hs ⊢
  have LN := Lib.hid hN
  have OS := Lib.hid hs
  have OK := Lib.hid hok
  have n1 : (n : Int) ≤ cap := by omega
  have n2 : (cap : Int) ≤ 9223372036854775807 := by omega
  have KN := Lib.hid (fun u => qunew_any mo u)
  clear hv hok hs hN g1 g2 w0
  go_enter Try.func3, Try.ntmps3
  go_wp2_with fail
  refine (quawake_any _).mono ?_
  rintro e u1 ⟨rfl, hb1⟩
  have G1 := Lib.hid hb1
  have K1 := Lib.hid (KN.out u1)
  clear hb1 KN
  by_cases hbad : mo < 0 ∨ 16 < mo
  · have hE := (qNew_bad hbad).2
    rw [hE] at K1
    have bne : ((1 : Int) != 0) = true := by decide
    go_wp2_with fail
    refine K1.out.mono ?_
    rintro e u2 ⟨va, vn, vc, rfl, -, -, hb⟩
    have G2 := Lib.hid ((G1.out.trans (hb.mono G1.out.size)).alloc (Nat.le_trans G1.out.size hb.size) (.cells #[.int .i64 (qNew mo).most, .slice va vn vc] 26))
    clear hb K1 hE
    by_cases h1 : mo < 0
    · go_wp2_with fail
      go_ret
      exact ⟨rfl, G2.out⟩
    · have h2 : 16 < mo := by omega
      go_wp2_with fail
      go_ret
      exact ⟨rfl, G2.out⟩
  have hE := qNew_ok (m := mo) (by omega) (by omega)
  rw [hE.2] at K1
  have bne : ((0 : Int) != 0) = false := by decide
  go_wp2_with fail
  refine K1.out.mono ?_
  rintro e u2 ⟨va, vn, vc, rfl, hn, ho, hb⟩
  have N0 : Hid (QkAt w u2.heap.size mo ⟨mo, []⟩ va vn vc (u2.alloc (.cells #[.int .i64 (qNew mo).most, .slice va vn vc] 26))) := Lib.hid (by
    rw [hE.1] at hn ho ⊢
    have hq : IsQueue u2 (.agg #[.int .i64 mo, .slice va vn vc]) ⟨mo, []⟩ := ⟨va, vn, vc, rfl, hn.symm, ho.newSq.mono fun b h => h.2⟩
    exact ⟨quvar_new (q := ⟨mo, []⟩) hq, (G1.out.trans (hb.mono G1.out.size)).alloc (Nat.le_trans G1.out.size hb.size) _, Nat.le_trans G1.out.size hb.size, QChain.nil, rfl, by show (0 : Int) ≤ mo; omega, fun t h => by cases h⟩)
  have m0 : 0 ≤ mo := by omega
  have m16 : mo ≤ 16 := by omega
  clear hn ho hb K1 G1 hE hbad
  go_upto_region 6 with fail
  generalize (u2.alloc (.cells #[.int .i64 (qNew mo).most, .slice va vn vc] 26)) = u3 at *
  generalize u2.heap.size = g at *
  clear u2
  go_wp2_with fail
  go_loopg [7] n (fun gg iv wr => ∃ (k : Nat) (q : PQueue) (qa : Option Addr) (qn qc : Nat), k ≤ n ∧ iv = .int .i64 k ∧ Aside (QkAt w g mo q qa qn qc wr ∧ n - k ≤ gg))
  case atStart => exact ⟨0, _, _, _, _, Nat.zero_le _, rfl, N0.out, Nat.le_refl _⟩
  clear N0
  case round =>
    obtain ⟨k, q, qa, qn, qc, hk, rfl, hrel⟩ := hrel
    obtain ⟨hQ, hgg⟩ := Aside.out hrel
    have QK := Lib.hid hQ
    have HGG := Lib.hid hgg
    clear hrel hQ hgg
    by_cases hin : k < n ∧ k < 40
    rotate_left
    · by_cases hkn : k < n
      · have h1 : (k : Int) < n := by omega
        have h2 : ¬ (k : Int) < 40 := by omega
        clear hin hkn
        go_wp2_with fail
        go_ret
        exact ⟨rfl, QK.out.low⟩
      · have h1 : ¬ (k : Int) < n := by omega
        clear hin hkn
        go_wp2_with fail
        go_ret
        exact ⟨rfl, QK.out.low⟩
    obtain ⟨hkn, hk40⟩ := hin
    have k1 : (k : Int) < n := by omega
    have k2 : (k : Int) < 40 := by omega
    obtain ⟨lb, lo, rfl, hc⟩ := qops_at OS.out (by omega)
    obtain ⟨da, dn, dc, ea, en, ec, hW⟩ := hc k hkn
    have HT := Lib.hid (fun u (hb : Below w.heap.size w u) => (hW u hb).2)
    obtain ⟨x0, x1, x2, x3, x4, x5⟩ := (hW wr QK.out.low).1
    have OX : Hid (qopOk (qop ops k)) := Lib.hid (OK.out _ (by unfold qop; have := LN.out; rw [show ops.getD k default = ops[k]'(by omega) by simp [List.getD, List.getElem?_eq_getElem (show k < ops.length by omega)]]; exact List.getElem_mem _))
    clear hc hW hk40
    generalize (qop ops k).hears = he at *
    generalize hnn : (qop ops k).n = nn at *
    generalize htt : (qop ops k).t = t at *
    have OT : Hid (txnOk t) := Lib.hid (by rw [← htt]; exact OX.out.2)
    clear hnn htt OX
    have hb := (Below.refl wr.heap.size wr).alloc (Nat.le_refl _) (.cells #[.bool he, .int .i64 nn, .int .i64 t.node, .int .i64 t.seq, .slice da dn dc, .slice ea en ec] 36)
    have B6 := Lib.hid (heap_alloc_new wr (.cells #[.bool he, .int .i64 nn, .int .i64 t.node, .int .i64 t.seq, .slice da dn dc, .slice ea en ec] 36))
    have Q1 := Lib.hid (QK.out.below hb)
    have GL : Hid (g < wr.heap.size) := Lib.hid QK.out.v.box.lt
    clear hb QK
    go_upto_region 10 with fail
    clear x0 x1 x2 x3 x4 x5
    generalize (wr.alloc (.cells #[.bool he, .int .i64 nn, .int .i64 t.node, .int .i64 t.seq, .slice da dn dc, .slice ea en ec] 36)) = wA at *
    generalize wr.heap.size = g6 at *
    clear wr
    obtain ⟨sh, hsh⟩ : ∃ b, shortTx [t] = b := ⟨_, rfl⟩
    have HSH := Lib.hid hsh
    have hb1 := (Below.refl wA.heap.size wA).alloc (Nat.le_refl _) (.cells #[.int .i64 t.node, .int .i64 t.seq, .slice da dn dc, .slice ea en ec] 34)
    have Q2 := Lib.hid (Q1.out.below hb1)
    have B7 := Lib.hid ((hb1.block g6 (Array.getElem?_eq_some_iff.1 B6.out).1).trans B6.out)
    have KS := Lib.hid (rshortTx_any (one_txnV (HT.out wA Q1.out.low)) sh hsh)
    obtain ⟨c0, c1, c2, c3, c4, c5⟩ := st6_cells B6.out
    clear hb1 hsh
    go_wp2_with fail
    generalize (wA.alloc (.cells #[.int .i64 t.node, .int .i64 t.seq, .slice da dn dc, .slice ea en ec] 34)) = wB at *
    refine KS.out.mono ?_
    rintro e wC ⟨rfl, hb⟩
    have Q3 := Lib.hid (Q2.out.below hb)
    have B8 := Lib.hid ((hb.block g6 (Array.getElem?_eq_some_iff.1 B7.out).1).trans B7.out)
    clear hb Q1 Q2 B6 B7 KS c0 c1 c2 c3 c4 c5
    cases sh with
    | false =>
      go_wp2_with fail
      go_ret
      exact ⟨rfl, Q3.out.low⟩
    | true =>
    have FT := Lib.hid (fitTx_of HSH.out OT.out)
    obtain ⟨c0, c1, c2, c3, c4, c5⟩ := st6_cells B8.out
    obtain ⟨⟨d0, d1⟩, f0, f1⟩ := Q3.out.v.box.c
    obtain ⟨hl1, hl2, hl3⟩ := Q3.out.dims
    have q1 : (qn : Int) ≤ qc := by omega
    have q2 : (qc : Int) ≤ 9223372036854775807 := by omega
    have qmo : (qn : Int) ≤ mo := by have := Q3.out.le; omega
    have LQ := Lib.hid hl1
    clear hl1 hl2 hl3 HSH
    go_upto_if 52 with fail
    go_cut [9, 10, 11, 12] (fun s9 s10 s11 s12 wx => ∃ (q' : PQueue) (qa' : Option Addr) (qn' qc' : Nat), QkAt w g mo q' qa' qn' qc' wx)
    case first =>
      cases he with
      | true =>
        by_cases z1 : qn = 0
        · subst z1
          go_wp2_with fail
          go_roundg (n - (k + 1))
          case measure => have := HGG.out; omega
          case rel => exact ⟨k + 1, q, qa, 0, qc, by omega, by go_num, Q3.out, Nat.le_refl _⟩
        have e1 : ((qn : Int) == 0) = false := by simp; omega
        by_cases z2 : nn < 0
        · skip
          go_wp2_with fail
          go_roundg (n - (k + 1))
          case measure => have := HGG.out; omega
          case rel => exact ⟨k + 1, q, qa, qn, qc, by omega, by go_num, Q3.out, Nat.le_refl _⟩
        by_cases z3 : (qn : Int) < nn
        · skip
          go_wp2_with fail
          go_roundg (n - (k + 1))
          case measure => have := HGG.out; omega
          case rel => exact ⟨k + 1, q, qa, qn, qc, by omega, by go_num, Q3.out, Nat.le_refl _⟩
        obtain ⟨h, rfl⟩ : ∃ h : Nat, nn = h := ⟨nn.toNat, by omega⟩
        obtain ⟨b, o, rfl, hbl, hc'⟩ := txns_atQ (fun b h => h.1) Q3.out.v.sq (by omega)
        obtain ⟨pa, pn, pc, ra, rn, rc, hW⟩ := hc' 0 (by omega)
        have HC : Hid (∀ u, Below wC.heap.size wC u → u.cell? ⟨b, o, none⟩ = some (.int .i64 (otx q.list 0).node) ∧ u.cell? ⟨b, o + 1, none⟩ = some (.int .i64 (otx q.list 0).seq)) := Lib.hid (fun u hb => by
          obtain ⟨h0, h1, -, -⟩ := (hW u hb).1
          simp only [Nat.zero_mul, Nat.add_zero] at h0 h1
          exact ⟨h0, h1⟩)
        have FM := Lib.hid (qFormed_node (Q3.out.ch.form _ (show otx q.list 0 ∈ q.list by rw [otx_lt (by have := LQ.out; omega)]; exact List.getElem_mem _)))
        obtain ⟨hnd, hn7, hs1, hs2⟩ := FM.out
        obtain ⟨x0, x1⟩ := HC.out wC (Below.refl _ _)
        have HCH := Lib.hid (fun v hv => Q3.out.ch.heard v h (by have := LQ.out; omega) hv)
        clear hW hc'
        generalize otx q.list 0 = t0 at *
        obtain ⟨nd, hnd2⟩ : ∃ nd : Nat, t0.node = nd := ⟨t0.node.toNat, by omega⟩
        rw [hnd2] at x0 HC HCH FM
        have HND := Lib.hid hnd2
        clear hnd hn7 hnd2 z2
        generalize t0.seq = sq at *
        have nd8 : nd ≤ 7 := by have := FM.out; omega
        have wr1 : IntKind.i64.wrap ((nd : Int) + 1) = ((nd + 1 : Nat) : Int) := by rw [show (nd : Int) + 1 = ((nd + 1 : Nat) : Int) by omega]; exact qwrap (by omega)
        have wr2 : IntKind.i64.wrap (sq - 1) = sq - 1 := seq_wrap hs1 (by omega)
        have wr3 : IntKind.i64.wrap (sq - 1 + (h : Int)) = sq - 1 + h := by
          rw [show sq - 1 + (h : Int) = (((sq - 1 + h).toNat : Nat) : Int) by omega]
          exact qwrap (by omega)
        go_wp2_with (at_make; refine wpList_makeI rfl (.tmp 71) rfl ((nd + 1 : Nat) : Int) (nd + 1) (by first | rfl | (show Value.int _ _ = _; rw [wr1])) rfl (by omega) ?_)
        intro wD ho hb
        have Q4 := Lib.hid (Q3.out.below hb)
        have B9 := Lib.hid ((hb.block g6 (Array.getElem?_eq_some_iff.1 B8.out).1).trans B8.out)
        have HC2 := Lib.hid (fun u (hb2 : Below wD.heap.size wD u) => HC.out u (hb.trans (hb2.mono hb.size)))
        have O1 := Lib.hid ho
        have GV : Hid (g < wC.heap.size) := Lib.hid Q3.out.v.box.lt
        have HBL : Hid (b < wC.heap.size) := Lib.hid hbl
        have GVL : Hid (w.heap.size ≤ wC.heap.size) := Lib.hid Q3.out.low.size
        have Q3Q := Lib.hid Q3.out.v
        have SQ3 : Hid (Sq LTxn (fun x => x < wC.heap.size ∧ x ≠ g) wC (.slice (some ⟨b, o, none⟩) qn qc) q.list) := Lib.hid Q3.out.v.sq
        have HBD := Lib.hid (fun x (hx : x < wC.heap.size) => hb.block x hx)
        have GVD : Hid (wC.heap.size ≤ wD.heap.size) := Lib.hid hb.size
        have G6 : Hid (g6 < wC.heap.size) := Lib.hid (Array.getElem?_eq_some_iff.1 B8.out).1
        clear hb ho HC hbl c0 c1 c2 c3 c4 c5 d0 d1 f0 f1 x0 x1
        generalize wC.heap.size = gv at *
        go_upto_region 16 with fail
        have KE : Hid (∀ u, Below w.heap.size w u → (∀ b, b < gv → u.heap[b]? = wD.heap[b]?) → Below w.heap.size w u ∧ (u.cell? ⟨g, 0, none⟩ = some (.int .i64 q.most) ∧ u.cell? ⟨g, 1, none⟩ = some (.slice (some ⟨b, o, none⟩) qn qc)) ∧ u.cell? ⟨g6, 1, none⟩ = some (.int .i64 (h : Int)) ∧ u.cell? ⟨b, o, none⟩ = some (.int .i64 (nd : Int)) ∧ u.cell? ⟨b, o + 1, none⟩ = some (.int .i64 sq)) := Lib.hid (fun u hl hb => ⟨hl, (Q4.out.v.box.eq (hb g GV.out)).c.1, by
          have h1 := (hb g6 G6.out).trans B9.out
          exact (st6_cells h1).2.1, by
          obtain ⟨h1, h2⟩ := HC2.out wD (Below.refl _ _)
          exact ⟨(World.cell?_of_block (a := ⟨b, o, none⟩) (hb b HBL.out)).trans h1, (World.cell?_of_block (a := ⟨b, o + 1, none⟩) (hb b HBL.out)).trans h2⟩⟩)
        have OS2 := Lib.hid (O1.out.set nd (sq - 1 + h))
        have LD : Hid (Below w.heap.size w wD.drew) := Lib.hid (Q4.out.low.trans ((Below.refl _ _).drew.mono Q4.out.low.size))
        have hnl : (nd : Int) < ((nd + 1 : Nat) : Int) := by omega
        have hq0 : 0 < qn := by omega
        have hnl2 : (nd : Int) < (nd : Int) + 1 := by omega
        have hcel := O1.out.cell nd (by simp)
        have hfr := O1.out.free nd
        refine wp_region_held_drew (S := fun u' => Below w.heap.size w u' ∧ (u'.cell? ⟨g, 0, none⟩ = some (.int .i64 q.most) ∧ u'.cell? ⟨g, 1, none⟩ = some (.slice (some ⟨b, o, none⟩) qn qc)) ∧ u'.cell? ⟨g6, 1, none⟩ = some (.int .i64 (h : Int)) ∧ u'.cell? ⟨b, o, none⟩ = some (.int .i64 (nd : Int)) ∧ u'.cell? ⟨b, o + 1, none⟩ = some (.int .i64 sq)) (by kernel_rfl) ?_ (fun hHeld => ?_)
        · (exact KE.out _ LD.out (fun b h => rfl))
        simp only [List.size_toArray, List.length_cons, List.length_nil, Nat.zero_add, Nat.reduceAdd]
        refine tkB (i := 0) hHeld ?_
        refine tkB (i := 1) hHeld ?_
        refine tkB (i := 2) hHeld ?_
        refine tkB (i := 3) hHeld ?_
        refine tkB (i := 4) hHeld ?_
        refine tkB (i := 5) hHeld ?_
        refine tkB (i := 6) hHeld ?_
        refine tkB (i := 7) hHeld ?_
        refine tkB (i := 8) hHeld ?_
        refine tkB (i := 9) hHeld ?_
        refine tkB (i := 10) hHeld ?_
        refine tkB (i := 11) hHeld ?_
        refine tkB (i := 12) hHeld ?_
        refine tkB (i := 13) hHeld ?_
        refine tkB (i := 14) hHeld ?_
        refine tkB (i := 15) hHeld ?_
        refine wpAnyH_ready (rs := [16]) (by kernel_rfl) (by simp) ?_
        refine AllReadyH.cons rfl (fun K hK => ?_) AllReadyH.nil
        go_simp
        have hlow0 : Below w.heap.size w (wD.setCell ⟨gv, nd, none⟩ (.int .i64 (sq - 1 + h))) := Q4.out.low.setCell (show w.heap.size ≤ gv from GVL.out) _
        have hlow : Below w.heap.size w (wD.setCell ⟨gv, nd, none⟩ (.int .i64 (sq - 1 + h))).drew := hlow0.trans ((Below.refl _ _).drew.mono hlow0.size)
        clear hlow0
        refine hK.out _ _ (KE.out _ hlow (fun x h => (Below.heap_setCell _ _ _ _ (show x ≠ gv from Nat.ne_of_lt h)).trans rfl)) (fun hHeld => ?_)
        clear hK K
        refine wpAnyH_done (by kernel_rfl) ?_ _
        clear hHeld
        have Q5 : Hid (QkAt w g mo q (some ⟨b, o, none⟩) qn qc (wD.setCell ⟨gv, nd, none⟩ (.int .i64 (sq - 1 + h))).drew) := Lib.hid (by
          have hk : ∀ x, x ≠ gv → (wD.setCell ⟨gv, nd, none⟩ (.int .i64 (sq - 1 + h))).drew.heap[x]? = wD.heap[x]? := fun x hx => (Below.heap_setCell _ _ _ _ hx).trans rfl
          have hg := GV.out
          exact ⟨⟨Q3Q.out.box.eq ((hk g (by omega)).trans (HBD.out g hg)), Q3Q.out.len, (SQ3.out.agree fun x k => (hk x (by have := k.1; omega)).trans (HBD.out x k.1)).mono fun x k => ⟨by have h2 := k.1; have h3 := GVD.out; simp [World.setCell]; omega, k.2⟩⟩, hlow, Q4.out.gl, Q4.out.ch, Q4.out.most, Q4.out.le, Q4.out.fit⟩)
        have OX5 : Hid (SeqI (wD.setCell ⟨gv, nd, none⟩ (.int .i64 (sq - 1 + h))).drew (.slice (some ⟨gv, 0, none⟩) (nd + 1) (nd + 1)) ((List.replicate (nd + 1) (0 : Int)).set nd (sq - 1 + h))) := Lib.hid (OwnsI.seq ((OwnsI.set O1.out nd (sq - 1 + h)).below (Below.refl _ _).drew (Nat.le_refl _)))
        have B10 : Hid (((wD.setCell ⟨gv, nd, none⟩ (.int .i64 (sq - 1 + h))).drew).heap[g6]? = some (.cells #[.bool true, .int .i64 (h : Int), .int .i64 t.node, .int .i64 t.seq, .slice da dn dc, .slice ea en ec] 36 (0, 0))) := Lib.hid ((Below.heap_setCell _ _ _ _ (by have := G6.out; show g6 ≠ gv; omega)).trans B9.out)
        have HH := HCH.out ((List.replicate (nd + 1) (0 : Int)).set nd (sq - 1 + h)) (fun _ => (quVec nd (sq - 1 + h) (by have := FM.out; omega)))
        have HX := Lib.hid HH
        clear HH hlow hcel hfr OS2 LD KE Q4 O1 B9 HC2
        generalize (wD.setCell ⟨gv, nd, none⟩ (.int .i64 (sq - 1 + h))).drew = wE at *
        generalize ((List.replicate (nd + 1) (0 : Int)).set nd (sq - 1 + h)) = xv at *
        have K7 := Lib.hid (quheardQ Q5.out.v.is OX5.out ⟨by have := LQ.out; have := Q5.out.le; omega, Q5.out.fit⟩)
        obtain ⟨⟨d0, d1⟩, f0, f1⟩ := Q5.out.v.box.c
        go_upto_region 18 with (go_at_call 8; refine K7.out.mono ?_; rintro e wF ⟨ha, hn, hc, rfl, -, hs, hb⟩; have B11 := Lib.hid ((hb.block g6 (Array.getElem?_eq_some_iff.1 B10.out).1).trans B10.out); have Q6 := Lib.hid (Q5.out.below hb); have S6 := Lib.hid (hs.mono fun x k => (⟨k.2, by have := Q5.out.v.box.lt; have := k.1; omega⟩ : x < wF.heap.size ∧ x ≠ g)); clear hb hs K7 Q5 OX5 B10 d0 d1 f0 f1; obtain ⟨⟨d0, d1⟩, f0, f1⟩ := Q6.out.v.box.c)
        have HL : Hid ((qHeard q xv).list = q.list.drop h) := Lib.hid HX.out
        have HN5 : Hid ((qHeard q xv).list.length = qn - h) := Lib.hid (by rw [HL.out, List.length_drop, LQ.out])
        obtain ⟨a5, c5, e5⟩ := dims_sq S6.out
        simp only [Value.slice.injEq] at e5
        obtain ⟨-, e5, -⟩ := e5
        obtain rfl : hn = qn - h := e5.trans HN5.out
        have V7 := Lib.hid (Q6.out.v.put (q' := qHeard q xv) HN5.out S6.out)
        have Q7 : Hid (QkAt w g mo (qHeard q xv) ha (qn - h) hc ((wF.setCell ⟨g, 0, none⟩ (.int .i64 (qHeard q xv).most)).setCell ⟨g, 1, none⟩ (.slice ha (qn - h) hc))) := Lib.hid ⟨V7.out, (Q6.out.low.setCell Q6.out.gl _).setCell Q6.out.gl _, Q6.out.gl, by rw [HL.out]; exact Q6.out.ch.drop h, Q6.out.most, by have := HN5.out; have := LQ.out; have := Q6.out.le; omega, fun t ht => Q6.out.fit t (qLeft_in ht)⟩
        have B12 : Hid (((wF.setCell ⟨g, 0, none⟩ (.int .i64 (qHeard q xv).most)).setCell ⟨g, 1, none⟩ (.slice ha (qn - h) hc)).heap[g6]? = some (.cells #[.bool true, .int .i64 (h : Int), .int .i64 t.node, .int .i64 t.seq, .slice da dn dc, .slice ea en ec] 36 (0, 0))) := Lib.hid ((Below.heap_setCell _ _ _ _ (by have := GL.out; show g6 ≠ g; omega)).trans ((Below.heap_setCell _ _ _ _ (by have := GL.out; show g6 ≠ g; omega)).trans B11.out))
        clear Q6 S6 V7 d0 d1 f0 f1 HX HCH B11
        generalize ((wF.setCell ⟨g, 0, none⟩ (.int .i64 (qHeard q xv).most)).setCell ⟨g, 1, none⟩ (.slice ha (qn - h) hc)) = wG at *
        have wr4 : IntKind.i64.wrap ((qn : Int) - (h : Int)) = ((qn - h : Nat) : Int) := by rw [show (qn : Int) - (h : Int) = ((qn - h : Nat) : Int) by omega]; exact qwrap (by omega)
        have bn8 : (((qn - h : Nat) : Int) != ((qn - h : Nat) : Int)) = false := by simp
        obtain ⟨⟨d0, d1⟩, -⟩ := Q7.out.v.box.c
        obtain ⟨c0, c1, -⟩ := st6_cells B12.out
        go_wp2_with fail
        go_meet
        exact ⟨_, _, _, _, Q7.out⟩
      | false =>
        have K7 := Lib.hid (qupush_any Q3.out.v.is (HT.out wC Q3.out.low) (by have := LQ.out; omega) Q3.out.fit FT.out)
        by_cases e0 : qErr q t = 0
        · have HZ := Lib.hid (qErr_zero e0)
          rw [e0] at K7
          have HP : Hid (qPush q t = ⟨q.most, q.list ++ [t]⟩) := Lib.hid (qErr_ok HZ.out.1 HZ.out.2.1 HZ.out.2.2).2
          rw [HP.out] at K7
          have bz : ((0 : Int) == 0) = true := by decide
          go_upto_region 21 with (go_at_call 9; refine K7.out.mono ?_; rintro e wF ⟨ha, hn, hc, rfl, hnl, ho, hb⟩; have Q6 := Lib.hid (Q3.out.below hb); have S6 := Lib.hid ho.newSq; have Z6 := Lib.hid hb.size; have N6 := Lib.hid hnl; clear hb ho hnl K7 d0 d1 f0 f1)
          have hbx := (Below.refl wF.heap.size wF).alloc (Nat.le_refl _) (.cells #[.int .i64 q.most, .slice ha hn hc] 26)
          have Q7 := Lib.hid (Q6.out.below hbx)
          have S7 := Lib.hid ((Sq.agree S6.out fun b k => hbx.block b k.2).mono fun b k => (⟨Nat.lt_of_lt_of_le k.2 hbx.size, by have := Q3.out.v.box.lt; have := k.1; omega⟩ : b < (wF.alloc (.cells #[.int .i64 q.most, .slice ha hn hc] 26)).heap.size ∧ b ≠ g))
          have X7 := Lib.hid (qubox_new wF q.most ha hn hc)
          clear hbx Q6 S6 Z6
          generalize (wF.alloc (.cells #[.int .i64 q.most, .slice ha hn hc] 26)) = wH at *
          generalize wF.heap.size = g11 at *
          obtain ⟨⟨y0, y1⟩, -⟩ := X7.out.c
          obtain ⟨⟨d0, d1⟩, f0, f1⟩ := Q7.out.v.box.c
          have V8 := Lib.hid (Q7.out.v.put (q' := ⟨q.most, q.list ++ [t]⟩) N6.out S7.out)
          obtain rfl : hn = qn + 1 := by rw [← N6.out, List.length_append, LQ.out]; rfl
          have Q8 : Hid (QkAt w g mo ⟨q.most, q.list ++ [t]⟩ ha (qn + 1) hc ((wH.setCell ⟨g, 0, none⟩ (.int .i64 q.most)).setCell ⟨g, 1, none⟩ (.slice ha (qn + 1) hc))) := Lib.hid ⟨V8.out, (Q7.out.low.setCell Q7.out.gl _).setCell Q7.out.gl _, Q7.out.gl, Q7.out.ch.push HZ.out.1 HZ.out.2.1, Q7.out.most, by have := HZ.out.2.2; have := Q7.out.most; show ((q.list ++ [t]).length : Int) ≤ mo; rw [List.length_append]; simp; omega, fun x hx => by
            rcases List.mem_append.1 hx with h | h
            · exact Q7.out.fit x h
            · rw [List.mem_singleton.1 h]; exact FT.out⟩
          clear Q7 S7 V8 X7
          go_upto_region 23 with fail
          clear d0 d1 f0 f1 y0 y1
          generalize ((wH.setCell ⟨g, 0, none⟩ (.int .i64 q.most)).setCell ⟨g, 1, none⟩ (.slice ha (qn + 1) hc)) = wG at *
          have wr4 : IntKind.i64.wrap ((qn : Int) + 1) = ((qn + 1 : Nat) : Int) := by rw [show (qn : Int) + 1 = ((qn + 1 : Nat) : Int) by omega]; exact qwrap (by omega)
          have bn8 : (((qn + 1 : Nat) : Int) != ((qn + 1 : Nat) : Int)) = false := by simp
          obtain ⟨⟨d0, d1⟩, -⟩ := Q8.out.v.box.c
          go_wp2_with fail
          go_meet
          exact ⟨_, _, _, _, Q8.out⟩
        · have bz : (qErr q t == 0) = false := by simp [e0]
          go_wp2_with (go_at_call 9; refine K7.out.mono ?_; rintro e wF ⟨ha, hn, hc, rfl, hnl, ho, hb⟩; have Q6 := Lib.hid ((Q3.out.below hb).below ((Below.refl wF.heap.size wF).alloc (Nat.le_refl _) (.cells #[.int .i64 (qPush q t).most, .slice ha hn hc] 26))); clear hb ho hnl K7 d0 d1 f0 f1)
          go_meet
          exact ⟨_, _, _, _, Q6.out⟩
    case rest =>
      clear Q3 B8 LQ FT HT OT c0 c1 c2 c3 c4 c5 d0 d1 f0 f1 q1 q2 qmo
      obtain ⟨p, pa, pn, pc, hQ⟩ := hcut
      have QR := Lib.hid hQ
      obtain ⟨hl1, hl2, hl3⟩ := hQ.dims
      have r1 : (pn : Int) ≤ pc := by omega
      have r2 : (pc : Int) ≤ 9223372036854775807 := by omega
      have r3 : ¬ mo < (pn : Int) := by have := hQ.le; omega
      have r4 : pn ≤ 16 := by omega
      have LP := Lib.hid hl1
      clear hQ hl1 hl2 hl3
      obtain ⟨⟨d0, d1⟩, -⟩ := QR.out.v.box.c
      go_wp2_with fail
      clear d0 d1
      go_loopg [13] pn (fun g2 jv wo => ∃ (j : Nat), 1 ≤ j ∧ jv = .int .i64 j ∧ Aside (QkAt w g mo p pa pn pc wo ∧ pn - j ≤ g2))
      case atStart => exact ⟨1, Nat.le_refl _, rfl, QR.out, by omega⟩
      case round =>
        clear QR
        obtain ⟨j, hj1, rfl, hrel2⟩ := hrel
        obtain ⟨hQ, hg2⟩ := Aside.out hrel2
        have QR := Lib.hid hQ
        have HG2 := Lib.hid hg2
        clear hrel2 hQ hg2
        obtain ⟨⟨d0, d1⟩, -⟩ := QR.out.v.box.c
        by_cases hjp : j < pn
        rotate_left
        · have s1 : ¬ (j : Int) < pn := by omega
          go_wp2_with fail
          go_roundg (n - (k + 1))
          case measure => have := HGG.out; omega
          case rel => exact ⟨k + 1, p, pa, pn, pc, by omega, by go_num, QR.out, Nat.le_refl _⟩
        have s1 : (j : Int) < pn := by omega
        have s2 : 0 < pn := by omega
        obtain ⟨b, o, rfl, hbl, hc'⟩ := txns_atQ (fun b h => h.1) QR.out.v.sq (by omega)
        obtain ⟨pa0, pn0, pc0, ra0, rn0, rc0, hW0⟩ := hc' 0 (by omega)
        obtain ⟨pa1, pn1, pc1, ra1, rn1, rc1, hW1⟩ := hc' j hjp
        have FM := Lib.hid (qFormed_node (QR.out.ch.form _ (show otx p.list 0 ∈ p.list by rw [otx_lt (by have := LP.out; omega)]; exact List.getElem_mem _)))
        have HX : Hid (∀ u, Below wr.heap.size wr u → (u.cell? ⟨b, o, none⟩ = some (.int .i64 (otx p.list 0).node) ∧ u.cell? ⟨b, o + 1, none⟩ = some (.int .i64 (otx p.list 0).seq)) ∧ u.cell? ⟨b, o + j * 4, none⟩ = some (.int .i64 (otx p.list 0).node) ∧ u.cell? ⟨b, o + j * 4 + 1, none⟩ = some (.int .i64 ((otx p.list 0).seq + j))) := Lib.hid (fun u hb => by
          obtain ⟨h0, h1, -, -⟩ := (hW0 u hb).1
          obtain ⟨k0, k1, -, -⟩ := (hW1 u hb).1
          simp only [Nat.zero_mul, Nat.add_zero] at h0 h1
          rw [QR.out.ch.node j (by rw [LP.out]; exact hjp)] at k0
          rw [QR.out.ch.seq j (by rw [LP.out]; exact hjp)] at k1
          exact ⟨⟨h0, h1⟩, k0, k1⟩)
        clear hW0 hW1 hc' hbl
        generalize (otx p.list 0).node = nd at *
        generalize (otx p.list 0).seq = sq at *
        have wr5 : IntKind.i64.wrap (sq + (j : Int)) = sq + j := by
          have := FM.out
          rw [show sq + (j : Int) = (((sq + j).toNat : Nat) : Int) by omega]
          exact qwrap (by omega)
        have bq1 : (nd != nd) = false := by simp
        have bq2 : (sq + (j : Int) != sq + (j : Int)) = false := by simp
        go_upto_region 30 with fail
        clear d0 d1
        have KE : Hid (∀ u, Below wr.heap.size wr u → Below wr.heap.size wr u ∧ (u.cell? ⟨g, 0, none⟩ = some (.int .i64 p.most) ∧ u.cell? ⟨g, 1, none⟩ = some (.slice (some ⟨b, o, none⟩) pn pc)) ∧ (u.cell? ⟨b, o, none⟩ = some (.int .i64 nd) ∧ u.cell? ⟨b, o + 1, none⟩ = some (.int .i64 sq)) ∧ u.cell? ⟨b, o + j * 4, none⟩ = some (.int .i64 nd) ∧ u.cell? ⟨b, o + j * 4 + 1, none⟩ = some (.int .i64 (sq + j))) := Lib.hid (fun u hb => ⟨hb, (QR.out.v.below hb).box.c.1, HX.out u hb⟩)
        refine wp_region_held_drew (S := fun u' => Below wr.heap.size wr u' ∧ (u'.cell? ⟨g, 0, none⟩ = some (.int .i64 p.most) ∧ u'.cell? ⟨g, 1, none⟩ = some (.slice (some ⟨b, o, none⟩) pn pc)) ∧ (u'.cell? ⟨b, o, none⟩ = some (.int .i64 nd) ∧ u'.cell? ⟨b, o + 1, none⟩ = some (.int .i64 sq)) ∧ u'.cell? ⟨b, o + j * 4, none⟩ = some (.int .i64 nd) ∧ u'.cell? ⟨b, o + j * 4 + 1, none⟩ = some (.int .i64 (sq + j))) (by kernel_rfl) ?_ (fun hHeld => ?_)
        · (exact KE.out _ (Below.refl _ _).drew)
        simp only [List.size_toArray, List.length_cons, List.length_nil, Nat.zero_add, Nat.reduceAdd]
        refine tkB (i := 0) hHeld ?_
        refine tkB (i := 1) hHeld ?_
        refine tkB (i := 2) hHeld ?_
        refine tkB (i := 3) hHeld ?_
        refine tkB (i := 4) hHeld ?_
        refine tkB (i := 5) hHeld ?_
        refine tkB (i := 6) hHeld ?_
        refine tkB (i := 7) hHeld ?_
        refine tkB (i := 8) hHeld ?_
        refine tkB (i := 9) hHeld ?_
        refine tkB (i := 10) hHeld ?_
        refine tkB (i := 11) hHeld ?_
        refine tkB (i := 12) hHeld ?_
        refine tkB (i := 13) hHeld ?_
        refine tkB (i := 14) hHeld ?_
        refine tkB (i := 15) hHeld ?_
        refine tkB (i := 16) hHeld ?_
        refine tkB (i := 17) hHeld ?_
        refine tkB (i := 18) hHeld ?_
        refine tkB (i := 19) hHeld ?_
        refine tkB (i := 20) hHeld ?_
        refine tkB (i := 21) hHeld ?_
        refine tkB (i := 22) hHeld ?_
        refine tkB (i := 23) hHeld ?_
        refine tkB (i := 24) hHeld ?_
        refine tkB (i := 25) hHeld ?_
        refine tkB (i := 26) hHeld ?_
        refine tkB (i := 27) hHeld ?_
        refine wpAnyH_done (by kernel_rfl) ?_ _
        have Q9 := Lib.hid (QR.out.below hHeld.1)
        clear hHeld KE HX QR
        go_wp2_with fail
        go_roundg (pn - (j + 1))
        case measure => have := HG2.out; omega
        case rel => exact ⟨j + 1, by omega, by go_num, Q9.out, Nat.le_refl _⟩

set_option maxRecDepth 100000 in
theorem lifted (os : Os) (started : os.Started) (H : Type) (enc : TypeId × Value → H) :
    ReturnsInHanded {} Try.checked os 3 .any (Rows.queueKeepsSpec.pre6 enc Try.prog Try.f3 Rows.queueKeepsRow.domain false) (Rows.queueKeepsSpec.post enc Try.prog Try.f3 false true false false) := by
  refine returnsInHanded_of_change (C := Try.checked) own started (by kernel_rfl) Try.func3
    (ChangeSpec.witness6 (enc := enc) (C := Try.checked) false ⟨#[], #[.int .i64 0, .slice none 0 0], []⟩ 8 (by kernel_rfl) (by kernel_rfl) (by kernel_rfl) (by kernel_rfl)) ?_
  intro W base args ds gs before hval0 hW hcnd _
  have hval : ∀ (j : Nat) t v, Try.f3.params[j]? = some t → args[j]? = some v → Value.okWide Try.prog W .any base t v := hval0
  have hW' := hW
  obtain ⟨p, q, hA0, hV, rfl, hfz, hnd⟩ := hW
  have hA : DataW.TrodAll enc Try.prog W 0 (fun _ => true) true Try.f3.params.toList args.toList ds p := hA0
  rw [Try.params3] at hA hval
  obtain ⟨v0, vs0, d0, ds0, p0, q0, hargs, rfl, rfl, h0, r0⟩ := trodAll_cons hA
  obtain ⟨v1, vs1, d1, ds1, p1, q1, rfl, rfl, rfl, h1, r1⟩ := trodAll_cons r0
  obtain ⟨rfl, rfl, rfl⟩ := trodAll_nil r1
  obtain rfl : args = #[v0, v1] := by cases args; simp_all
  obtain ⟨rfl, rfl⟩ := trodVars_none hV
  obtain ⟨a0, rfl, rfl, rfl, w0⟩ := open_int Try.underlying3 (hval 0 3 v0 rfl rfl) h0
  have k1 := h1
  have lt1 : ∀ x ∈ p1, x.block < W.heap.size := by obtain ⟨m, hm⟩ := k1; exact DataW.trod_lt m _ _ _ hm
  have w1 := open1 (hval 1 22 v1 rfl rfl) h1
  clear hA0 hval0
  refine (walk a0 v1 W w0 w1).mono fun e W' ⟨he, bel⟩ => ?_
  subst he
  exact ⟨_, rfl, _, _, _, [], _, [], hW', trodAll_mk1 (shut_bool Try.underlying4 _), (trodAll_cons_mk (shut_int Try.underlying3 w0) (trodAll_cons_mk (Below.trod laidOut (by kernel_rfl) (of_decide_eq_true (by kernel_rfl)) k1 bel lt1) trodAll_mk0)), rfl, bel.frame _, fun h => by cases h⟩

theorem over : Rows.queueKeepsRow.holds Try.pinned (OpenSpec.ofChange Rows.queueKeepsSpec) :=
  OpenClaim.holds_of_wide 3 Try.f3 rfl rfl rfl rfl rfl rfl rfl ⟨rfl, rfl, rfl, rfl, rfl⟩ rfl rfl rfl rfl rfl (by kernel_rfl) Try.func3 (by kernel_rfl)
    (of_decide_eq_true (by kernel_rfl)) (by unfold Func.isWrapper; first | (rw [if_pos (by decide +kernel)]; kernel_rfl) | (rw [if_neg (by decide +kernel)]; exact ⟨rfl, rfl⟩))
    (fun os started H enc _ => lifted os started H enc)

/-- the given statement -/
theorem proved : Rows.QueueKeepsSaid := over
#print axioms proved
end Go.Proofs.Ytmknpmamkjjiaaa.queueKeeps
