/- Take: the document's own, by marks. (Written by gen-rtk.py.) Order's contracts as the walks call them; the laws' own function awake. What the program's own Prune of a past leaves. (Written by gen-prog.py.) -/
import Derived.Test.YtajfliemmfdnhaaGreatOrChns
import Derived.Test.YtajfliemmfdnhaaGreatRefTxF2
import Derived.Test.YtajfliemmfdnhaaGreatPaBox
import Derived.Test.YtajfliemmfdnhaaGreatPaEnd
import Derived.Test.YtajfliemmfdnhaaGreatPaSin
import Derived.Test.YtajfliemmfdnhaaGreatVcAll
import Derived.Deep.RegionHeld3
import Derived.Deep.DeepCutAuto
namespace Go.Proofs.YtajfliemmfdnhaaGreat
open Go.RowKit Plain
set_option linter.unusedVariables false

def OwnsB (B : Nat) (w : World) (v : Value) (xs : List Bool) : Prop := w.ownsRow B 4 1 v xs.length (xs.map Value.bool)
theorem getD_mapB (xs : List Bool) (j : Nat) (hj : j < xs.length) : (xs.map Value.bool)[j]? = some (Value.bool (gone xs j)) := by
 unfold gone
 simp [List.getD, List.getElem?_eq_getElem hj]
theorem OwnsB.lt {B : Nat} {w : World} {v : Value} {xs : List Bool} (h : OwnsB B w v xs) : ∀ k, v.ownBlock = some k → B ≤ k ∧ k < w.heap.size := World.ownsRow.lt h
theorem OwnsB.cell {B : Nat} {w : World} {g n cap : Nat} {xs : List Bool} (h : OwnsB B w (.slice (some ⟨g, 0, none⟩) n cap) xs) (hn : xs.length = n) (j : Nat) (hj : j < n) : w.cell? ⟨g, j, none⟩ = some (Value.bool (gone xs j)) := by
 have h' : w.ownsRow B 4 1 (.slice (some ⟨g, 0, none⟩) n cap) n (xs.map Value.bool) := by unfold OwnsB at h; rw [hn] at h; exact h
 rw [World.ownsRow.cellAt h' j (by omega), getD_mapB xs j (by omega)]
def VecOk (w wr : World) (v : Value) (u : Ints) : Prop := SeqI w v u ∨ OwnsI w.heap.size wr v u
theorem VecOk.seq {w wr : World} {v : Value} {u : Ints} (h : VecOk w wr v u) (hb : Below w.heap.size w wr) : SeqI wr v u := h.elim (fun h => h.below hb) fun h => h.seq
end Go.Proofs.YtajfliemmfdnhaaGreat
namespace Go.Proofs.YtajfliemmfdnhaaGreat
open Go.RowKit Plain
set_option linter.unusedVariables false

theorem oEnd_len : ∀ (a : List PTxn) (v : Ints), (oEnd v a).length ≤ max v.length 8
 | [], v => by show v.length ≤ _; omega
 | t :: a, v => by
  have h1 := oEnd_len a (oNext v t)
  have h2 := oNext_len v t
  show (oEnd (oNext v t) a).length ≤ _
  omega
theorem row_ints {w : World} {a : Option Addr} {n c : Nat} {z : List Int} (h : IsRow .i64 w a n c z) : ∃ xs : Ints, SeqI w (.slice a n c) xs ∧ xs.length = n ∧ n ≤ c := row_seqI h
end Go.Proofs.YtajfliemmfdnhaaGreat
namespace Go.Proofs.YtajfliemmfdnhaaGreat
open Go.RowKit Plain
set_option linter.unusedVariables false


set_option maxRecDepth 100000 in
set_option maxHeartbeats 16000000 in
theorem prune_any {v tv : Value} {p : PPast} {tw : Ints} {w : World} (hp : IsPast w v p) (ht : SeqI w tv tw) (hl : p.floor.length ≤ 1000) (hn : p.list.length ≤ 1000000) (hf : ∀ x ∈ p.list, FitTx x) (htl : tw.length ≤ 1000) :
  Calls Tryz.prog 17 #[v, tv] w (GivesPa w (pPrune p tw)) := by
 obtain ⟨fa, fn, fc, la, ln, lc, rfl, h1, h2⟩ := hp.slices
 have DA := Lib.hid (prat_new w fa fn fc la ln lc)
 have EL : Hid ((pEnd p).length ≤ 1000000) := Lib.hid (by
  have e1 := oEnd_len p.list p.floor
  have e2 := trim_len (oEnd p.floor p.list)
  unfold pEnd
  omega)
 have ML : Hid ((meet tw (pEnd p)).length ≤ 1000000) := Lib.hid (by have := meet_len tw (pEnd p); omega)
 have KE : Hid (∀ u, PrAt w fa fn fc la ln lc u → PrAt w fa fn fc la ln lc u ∧ u.cell? ⟨w.heap.size, 0, none⟩ = some (.slice fa fn fc) ∧ u.cell? ⟨w.heap.size, 1, none⟩ = some (.slice la ln lc)) := Lib.hid (fun u k => ⟨k, (st2_cells k.sb).1⟩)
 have KD := Lib.hid (fun u (k : PrAt w fa fn fc la ln lc u) => paend_any (p := p) ⟨_, _, rfl, h1.below k.low, h2.below k.low⟩ (by omega) hn)
 have KM := Lib.hid (fun u ev (k : PrAt w fa fn fc la ln lc u) (he : SeqI u ev (pEnd p)) => vc_meet_any (ht.below k.low) he (by omega) EL.out)
 have KJ : Hid (∀ u ev, PrAt w fa fn fc la ln lc u → SeqI u ev (meet tw (pEnd p)) → Calls Tryz.prog 44 #[.slice fa fn fc, ev] u (MadeI u (pFloor p tw))) := Lib.hid (fun u ev k he => vc_join_any (seqI_of (h1.below k.low)) he (by omega) ML.out)
 have KU := Lib.hid (fun u ev (k : PrAt w fa fn fc la ln lc u) (he : SeqI u ev (pFloor p tw)) => unheard_any (h2.below k.low) he hn hf)
 obtain ⟨ta, tc, rfl, -⟩ := ht.parts
 have HR : Hid (pPrune p tw = ⟨pFloor p tw, pLeft p.list (pFloor p tw)⟩) := Lib.hid rfl
 rw [HR.out]
 clear hp ht hl hn hf htl h1 h2 EL ML HR
 generalize pLeft p.list (pFloor p tw) = ll at *
 generalize pFloor p tw = pf at *
 generalize meet tw (pEnd p) = me at *
 generalize pEnd p = pe at *
 generalize tw.length = tn at *
 go_enter Tryz.func17, Tryz.ntmps17
 go_upto_region 1 with fail
 generalize ((w.alloc (.cells #[.slice fa fn fc, .slice la ln lc] 26)).alloc (.cells #[.slice none 0 0, .slice none 0 0] 26)) = w0 at *
 refine wp_region_held_drew (S := fun u' => PrAt w fa fn fc la ln lc u' ∧ u'.cell? ⟨w.heap.size, 0, none⟩ = some (.slice fa fn fc) ∧ u'.cell? ⟨w.heap.size, 1, none⟩ = some (.slice la ln lc)) (by kernel_rfl) ?_ (fun hHeld => ?_)
 ·(exact KE.out _ (DA.out.below (Below.refl _ _).drew))
 simp only [List.size_toArray, List.length_cons, List.length_nil, Nat.zero_add, Nat.reduceAdd]
 refine tkB (i := 0) hHeld ?_
 refine tkB (i := 1) hHeld ?_
 refine tkB (i := 2) hHeld ?_
 refine tkB (i := 3) hHeld ?_
 refine wpAnyH_ready (rs := [4]) (by kernel_rfl) (by simp) ?_
 refine AllReadyH.cons rfl (fun K hK => ?_) AllReadyH.nil
 go_simp
 refine (KD.out _ hHeld.1).mono ?_
 rintro e s1 ⟨v1, rfl, ho, hb⟩; have S1 := Lib.hid ho.seq; obtain ⟨a1, c1, rfl, -, -, -, -⟩ := ho.parts; clear ho
 refine hK.out _ _ (KE.out _ (hHeld.1.below hb)) (fun hHeld => ?_)
 clear hK K hb
 refine wpAnyH_ready (rs := [5]) (by kernel_rfl) (by simp) ?_
 refine AllReadyH.cons rfl (fun K hK => ?_) AllReadyH.nil
 go_simp
 refine (KM.out _ _ hHeld.1 S1.out).mono ?_
 rintro e s2 ⟨v2, rfl, ho, hb⟩; have S2 := Lib.hid ho.seq; obtain ⟨a2, c2, rfl, -, -, -, -⟩ := ho.parts; clear ho S1
 refine hK.out _ _ (KE.out _ (hHeld.1.below hb)) (fun hHeld => ?_)
 clear hK K hb
 refine wpAnyH_ready (rs := [6]) (by kernel_rfl) (by simp) ?_
 refine AllReadyH.cons rfl (fun K hK => ?_) AllReadyH.nil
 go_simp
 refine (KJ.out _ _ hHeld.1 S2.out).mono ?_
 rintro e s3 ⟨v3, rfl, ho, hb⟩; have S3 := Lib.hid (ho.newI hHeld.1.low.size); obtain ⟨a3, c3, rfl, -, -, -, -⟩ := ho.parts; clear ho S2
 refine hK.out _ _ (KE.out _ (hHeld.1.below hb)) (fun hHeld => ?_)
 clear hK K hb
 refine tkB (i := 7) hHeld ?_
 refine wpAnyH_done (by kernel_rfl) ?_ _
 have D3 := Lib.hid hHeld.1
 clear hHeld KE KD KM KJ DA
 obtain ⟨c0, c1⟩ := (st2_cells D3.out.sb).1
 obtain ⟨fl3, hfl3⟩ : ∃ n, n = pf.length := ⟨_, rfl⟩
 rw [← hfl3] at S3 ⊢
 clear hfl3
 have K4 := Lib.hid (KU.out _ _ D3.out (seqI_of S3.out.new))
 have W3 : Hid (w.heap.size ≤ _) := Lib.hid D3.out.low.size
 go_wp2_with fail
 refine K4.out.mono ?_
 rintro e w4 ⟨a4, n4, c4, rfl, ho, hb⟩
 have D4 := Lib.hid (D3.out.below hb)
 have S4 := Lib.hid (S3.out.later hb)
 have L4 : Hid (Sq LTxn (fun b => w.heap.size ≤ b ∧ b < w4.heap.size) w4 (.slice a4 n4 c4) ll) := Lib.hid (ho.mono fun b h => ⟨Nat.le_trans W3.out h.1, h.2⟩)
 clear ho hb K4 KU D3 S3 W3 c0 c1
 obtain ⟨ra, rn, rc, ra', rn', rc', q0, q1, f0, f1⟩ := D4.out.res
 have DZ := Lib.hid (D4.out.done (.slice a3 fl3 c3) (.slice a4 n4 c4))
 have TW := Lib.hid D4.out.two
 have N5 := Lib.hid (Sq.set2 (st2_but _ _ (.slice a3 fl3 c3) (.slice a4 n4 c4)) (int_no2 TW.out S4.out))
 have I5 := Lib.hid (Sq.set2 (st2_but _ _ (.slice a3 fl3 c3) (.slice a4 n4 c4)) (txn_no2 TW.out L4.out))
 have LZ := Lib.hid ((D4.out.set a3 fl3 c3 a4 n4 c4).low)
 go_wp2_with fail
 obtain ⟨z0, z1⟩ := DZ.out
 refine bodyPost_ret (v := .agg #[.slice a3 fl3 c3, .slice a4 n4 c4]) (by simp [results, Tryz.results17, go_sem, z0, z1]) rfl ?_
 exact ⟨_, _, _, _, _, _, rfl, N5.out, I5.out, LZ.out⟩
end Go.Proofs.YtajfliemmfdnhaaGreat
