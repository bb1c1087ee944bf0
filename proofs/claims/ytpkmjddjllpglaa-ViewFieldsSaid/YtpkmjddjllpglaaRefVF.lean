/- What the document's own Field of fields leaves. (Written by gen-reff.py.) -/
import Derived.Test.YtpkmjddjllpglaaRefVS
import Derived.Test.YtpkmjddjllpglaaNmRef
namespace Go.Proofs.Ytpkmjddjllpglaa
open Go.RowKit Plain
set_option linter.unusedVariables false

/-- texts read the same when a cell that holds none is stored into -/
theorem SeqT.setOther {w : World} {v u x : Value} {xs : List Txt} {a : Addr} (h : SeqT w v xs) (hc : w.cell? a = some u) (hu : ∀ s, u ≠ .string s) : SeqT (w.setCell a x) v xs := by
  obtain ⟨p, cap, rfl, h1, h2, h0, h3⟩ := h
  refine ⟨p, cap, rfl, h1, h2, h0, fun hp => ?_⟩
  obtain ⟨b, off, rfl, g⟩ := h3 hp
  refine ⟨b, off, rfl, fun j hj => ?_⟩
  rw [World.cell?_setCell_other _ _ _ _ (fun e => by
    have := g j hj
    rw [← e] at this
    rw [hc] at this
    exact hu _ (Option.some.inj this))]
  exact g j hj
/-- four cells that were stored into, one behind the other -/
def set4 (w : World) (g : Nat) (v0 v1 v2 v3 : Value) : World := (((w.setCell ⟨g, 0, none⟩ v0).setCell ⟨g, 1, none⟩ v1).setCell ⟨g, 2, none⟩ v2).setCell ⟨g, 3, none⟩ v3
theorem set4_cells {w : World} {g : Nat} {z0 z1 z2 z3 v0 v1 v2 v3 : Value} (h0 : w.cell? ⟨g, 0, none⟩ = some z0) (h1 : w.cell? ⟨g, 1, none⟩ = some z1) (h2 : w.cell? ⟨g, 2, none⟩ = some z2) (h3 : w.cell? ⟨g, 3, none⟩ = some z3) :
    (set4 w g v0 v1 v2 v3).cell? ⟨g, 0, none⟩ = some v0 ∧ (set4 w g v0 v1 v2 v3).cell? ⟨g, 1, none⟩ = some v1 ∧ (set4 w g v0 v1 v2 v3).cell? ⟨g, 2, none⟩ = some v2 ∧ (set4 w g v0 v1 v2 v3).cell? ⟨g, 3, none⟩ = some v3 := by
  have ne : ∀ (W : World) (i j : Nat) (u : Value), i ≠ j → (W.setCell ⟨g, j, none⟩ u).cell? ⟨g, i, none⟩ = W.cell? ⟨g, i, none⟩ := fun W i j u h => World.cell?_setCell_other _ _ _ _ (by simp <;> exact h)
  unfold set4
  refine ⟨?_, ?_, ?_, ?_⟩
  · rw [ne _ 0 3 _ (by decide), ne _ 0 2 _ (by decide), ne _ 0 1 _ (by decide)]
    exact World.cell?_setCell_same _ _ _ h0
  · rw [ne _ 1 3 _ (by decide), ne _ 1 2 _ (by decide)]
    exact World.cell?_setCell_same _ _ _ ((ne _ 1 0 _ (by decide)).trans h1)
  · rw [ne _ 2 3 _ (by decide)]
    exact World.cell?_setCell_same _ _ _ (((ne _ 2 1 _ (by decide)).trans (ne _ 2 0 _ (by decide))).trans h2)
  · exact World.cell?_setCell_same _ _ _ ((((ne _ 3 2 _ (by decide)).trans (ne _ 3 1 _ (by decide))).trans (ne _ 3 0 _ (by decide))).trans h3)
theorem set4_seq {w : World} {g : Nat} {z0 z1 z2 z3 v0 v1 v2 v3 v : Value} {xs : List Txt} (h : SeqT w v xs) (h0 : w.cell? ⟨g, 0, none⟩ = some z0) (h1 : w.cell? ⟨g, 1, none⟩ = some z1) (h2 : w.cell? ⟨g, 2, none⟩ = some z2) (h3 : w.cell? ⟨g, 3, none⟩ = some z3)
    (n0 : ∀ s, z0 ≠ .string s) (n1 : ∀ s, z1 ≠ .string s) (n2 : ∀ s, z2 ≠ .string s) (n3 : ∀ s, z3 ≠ .string s) : SeqT (set4 w g v0 v1 v2 v3) v xs := by
  have ne : ∀ (W : World) (i j : Nat) (u : Value), i ≠ j → (W.setCell ⟨g, j, none⟩ u).cell? ⟨g, i, none⟩ = W.cell? ⟨g, i, none⟩ := fun W i j u h => World.cell?_setCell_other _ _ _ _ (by simp <;> exact h)
  unfold set4
  refine SeqT.setOther (u := z3) (SeqT.setOther (u := z2) (SeqT.setOther (u := z1) (h.setOther h0 n0) ?_ n1) ?_ n2) ?_ n3
  · exact (ne _ 1 0 _ (by decide)).trans h1
  · exact ((ne _ 2 1 _ (by decide)).trans (ne _ 2 0 _ (by decide))).trans h2
  · exact (((ne _ 3 2 _ (by decide)).trans (ne _ 3 1 _ (by decide))).trans (ne _ 3 0 _ (by decide))).trans h3
theorem set4_below {B : Nat} {w u : World} {g : Nat} {v0 v1 v2 v3 : Value} (h : Below B w u) (hg : B ≤ g) : Below B w (set4 u g v0 v1 v2 v3) := (((h.setCell hg _).setCell hg _).setCell hg _).setCell hg _
theorem upto_all_of {α : Type} {p : PItem → Bool} {f : PItem → α} {l : List PItem} {n : Nat} (h : l.length = n) : upto p f l n = (l.filter p).map f := by rw [← h, upto_all]

set_option maxRecDepth 100000 in
set_option maxHeartbeats 8000000 in
/-- Field -/
theorem rvfield_any (key field : Txt) {v : Value} {l : List PItem} {w : World} (hv : SeqE LItem w v l) (hn : l.length ≤ 100000) (hf : ∀ x ∈ l, Nm.Plain.fits x.n) :
    Calls Try.prog 13 #[v, .string (bt key), .string (bt field)] w (GivesV w (vfield l key field)) := by
  have PY0 := Lib.hid (fun k (hk : k < l.length) h => upto_yes hk (ofKind key field 3) (fun x => x.n) h)
  have P00 := Lib.hid (upto_zero (ofKind key field 3) (fun x => x.n) l)
  have PN0 := Lib.hid (fun k (hk : k < l.length) h => upto_no hk (ofKind key field 3) (fun x => x.n) h)
  have PA := Lib.hid (upto_all (ofKind key field 3) (fun x => x.n) l)
  have HL0 : Hid (∀ k, (upto (ofKind key field 3) (fun x => x.n) l k).length ≤ 100000) := Lib.hid (fun k => Nat.le_trans (upto_len _ _ _ _) hn)
  have KT := Lib.hid (fun (W : World) (u : Value) (h : SeqE LI64 W u (vcounts l key field)) => Nm.refTot_seq (nm_of h) (by have := vcounts_len l key field; omega) (fun n hn => by
    unfold vcounts at hn
    obtain ⟨x, hx, rfl⟩ := List.mem_map.1 hn
    exact hf x (List.mem_filter.1 hx).1))
  have KX1 := Lib.hid (fun (W : World) (h : Below w.heap.size w W) => rvtexts_any key field 1 (hv.below h) hn)
  have KX2 := Lib.hid (fun (W : World) (h : Below w.heap.size w W) => rvtexts_any key field 2 (hv.below h) hn)
  have HVF : Hid (vfield l key field = ⟨vtexts l key field 1, vtexts l key field 2, Nm.Plain.sumV (Nm.Plain.tot (vcounts l key field)), decide (¬ Nm.Plain.fits (Nm.Plain.tot (vcounts l key field)))⟩) := Lib.hid rfl
  rw [HVF.out]
  have HPA : Hid (upto (ofKind key field 3) (fun x => x.n) l l.length = vcounts l key field) := Lib.hid (by rw [upto_all]; rfl)
  clear PA HVF
  obtain ⟨a, cap, rfl, g1, g2, g0, h⟩ := hv.parts
  have HS := Lib.hid h
  clear hv h g0 hf
  obtain ⟨n, hN⟩ : ∃ n, l.length = n := ⟨_, rfl⟩
  rw [hN] at g1 hn HS PY0 PN0 HPA KX1 KX2 ⊢
  have LN := Lib.hid hN
  clear hN
  generalize upto (ofKind key field 3) (fun x => x.n) l = P at *
  generalize vcounts l key field = VC at *
  generalize vtexts l key field 1 = T1 at *
  generalize vtexts l key field 2 = T2 at *
  have hsV : Hid (Nm.Plain.fits (Nm.Plain.tot VC) → Nm.Plain.sumE (Nm.Plain.tot VC) = 0) := Lib.hid (fun h => by unfold Nm.Plain.sumE; rw [if_pos h])
  have hsN : Hid (¬ Nm.Plain.fits (Nm.Plain.tot VC) → Nm.Plain.sumE (Nm.Plain.tot VC) = 5) := Lib.hid (fun h => by unfold Nm.Plain.sumE; rw [if_neg h])
  generalize Nm.Plain.sumV (Nm.Plain.tot VC) = sV at *
  generalize Nm.Plain.sumE (Nm.Plain.tot VC) = sE at *
  generalize Nm.Plain.tot VC = TT at *
  have HB1 : Hid (Below w.heap.size w (w.alloc (.cells #[.slice none 0 0, .slice none 0 0, .int .i64 0, .bool false] 25))) := Lib.hid ((Below.refl _ _).alloc (Nat.le_refl _) _)
  have Z1 : Hid ((w.alloc (.cells #[.slice none 0 0, .slice none 0 0, .int .i64 0, .bool false] 25)).heap.size = w.heap.size + 1) := Lib.hid (by simp)
  have C1 : Hid ((w.alloc (.cells #[.slice none 0 0, .slice none 0 0, .int .i64 0, .bool false] 25)).heap[w.heap.size]? = some (.cells #[.slice none 0 0, .slice none 0 0, .int .i64 0, .bool false] 25 (0, 0))) := Lib.hid (heap_alloc_new w _)
  go_enter Try.func13, Try.ntmps13
  go_upto_region 1 with fail
  generalize (w.alloc (.cells #[.slice none 0 0, .slice none 0 0, .int .i64 0, .bool false] 25)) = w1 at *
  go_wp2_with fail
  go_loopw [7, 8] (fun z i wr => ∃ k : Nat, k ≤ n ∧ i = .int .i64 k ∧ OwnE LI64 w1.heap.size wr z (P k) ∧ Below w1.heap.size w1 wr) (fun _ i _ => n - (intOf i).toNat)
  case atStart => exact ⟨0, Nat.zero_le _, rfl, by rw [P00.out]; exact OwnE.nil _ _, Below.refl _ _⟩
  case round =>
    obtain ⟨k, hk, rfl, ho, hb⟩ := hrel
    have HO := Lib.hid ho
    have HB := Lib.hid hb
    have HBW : Hid (Below w.heap.size w wr) := Lib.hid (HB1.out.trans (hb.mono HB1.out.size))
    have HL := Lib.hid (HL0.out k)
    clear ho hb
    by_cases hlt : k < n
    · have PY := Lib.hid (PY0.out k hlt)
      have PN := Lib.hid (PN0.out k hlt)
      obtain ⟨b, o, c, hv, -, -, -, hc⟩ := items_spot (HS.out.below HBW.out) (by rw [LN.out]; omega)
      rw [LN.out] at hv
      simp only [Value.slice.injEq] at hv
      obtain ⟨rfl, -, rfl⟩ := hv
      obtain ⟨c0, c1, c2, c3, c4, c5, c6, c7⟩ := hc k (by rw [LN.out]; exact hlt)
      clear hc
      have t1 := text_eq (l.getD k default).key key
      have t2 := text_eq (l.getD k default).field field
      generalize l.getD k default = x at *
      by_cases h1 : x.key = key
      rotate_left
      · rw [decide_eq_false h1] at t1
        have HX := Lib.hid (PN.out (kind_no1 h1))
        clear h1
        go_wp2_with fail
        go_roundw
        case rel => exact ⟨k + 1, by omega, by go_num, by rw [HX.out]; exact HO.out, HB.out⟩
        case measure => simp [intOf]; omega
      rw [decide_eq_true h1] at t1
      by_cases h2 : x.field = field
      rotate_left
      · rw [decide_eq_false h2] at t2
        have HX := Lib.hid (PN.out (kind_no2 h2))
        clear h1 h2
        go_wp2_with fail
        go_roundw
        case rel => exact ⟨k + 1, by omega, by go_num, by rw [HX.out]; exact HO.out, HB.out⟩
        case measure => simp [intOf]; omega
      rw [decide_eq_true h2] at t2
      by_cases h3 : x.kind = 3
      rotate_left
      · have t3 : (x.kind == 3) = false := beq_false_of_ne h3
        have HX := Lib.hid (PN.out (kind_no3 h3))
        clear h1 h2 h3
        go_wp2_with fail
        go_roundw
        case rel => exact ⟨k + 1, by omega, by go_num, by rw [HX.out]; exact HO.out, HB.out⟩
        case measure => simp [intOf]; omega
      have t3 : (x.kind == 3) = true := beq_iff_eq.2 h3
      have HX := Lib.hid (PY.out (kind_yes h1 h2 h3))
      clear h1 h2 h3
      have S1 := Lib.hid (fun (W : World) => one_i64 W x.n)
      go_wp2_with (at_builtin; refine wpList_append_el LI64 rfl (.tmp 41) (.tmp 47) rfl w1.heap.size rfl (HO.out.alloc _) rfl (S1.out _) (fun _ _ h => h) (by have := HL.out; simp at *; omega) (by have := HB.out.size; simp; omega) ?_)
      intro v' w2 ho' hgr _
      have O2 := Lib.hid ho'
      rw [← HX.out] at O2
      have G2 : Hid (Below w1.heap.size w1 w2) := Lib.hid ((HB.out.alloc HB.out.size _).grown hgr (by have := HB.out.size; simp; omega) (fun j hj => (HO.out.lt j hj).1))
      clear ho' hgr
      go_wp2_with fail
      go_roundw
      case rel => exact ⟨k + 1, by omega, by go_num, O2.out, G2.out⟩
      case measure => simp [intOf]; omega
    · obtain rfl : k = n := by omega
      rw [HPA.out] at HO
      have K := KT.out wr _ HO.out.seq
      obtain ⟨a2, c2, rfl, -⟩ := HO.out.parts
      clear HO HL
      go_wp2_with fail
      refine K.mono ?_
      rintro e w2 ⟨rfl, hb⟩
      have B2 := Lib.hid (HB.out.trans (hb.mono HB.out.size))
      have G2 := Lib.hid (HB1.out.trans (B2.out.mono HB1.out.size))
      clear hb K
      have K1 := KX1.out w2 G2.out
      go_wp2_with fail
      refine K1.mono ?_
      rintro e w3 ⟨v3, rfl, hs, hb⟩
      have B3 := Lib.hid (B2.out.trans (hb.mono B2.out.size))
      have G3 := Lib.hid (HB1.out.trans (B3.out.mono HB1.out.size))
      have S3 := Lib.hid hs
      obtain ⟨a3, c3, rfl, -⟩ := hs.parts
      clear hs hb K1
      have K2 := KX2.out w3 G3.out
      generalize T1.length = m1 at *
      go_wp2_with fail
      refine K2.mono ?_
      rintro e w4 ⟨v4, rfl, hs, hb⟩
      have B4 := Lib.hid (B3.out.trans (hb.mono B3.out.size))
      have G4 := Lib.hid (HB1.out.trans (B4.out.mono HB1.out.size))
      replace S3 := Lib.hid (S3.out.below hb)
      have S4 := Lib.hid hs
      obtain ⟨a4, c4, rfl, -⟩ := hs.parts
      clear hs hb K2
      generalize T2.length = m2 at *
      have CB := (B4.out.block w.heap.size (by rw [Z1.out]; omega)).trans C1.out
      have z0 := cell_of_row w4 w.heap.size 0 _ _ _ CB
      have z1 := cell_of_row w4 w.heap.size 1 _ _ _ CB
      have z2 := cell_of_row w4 w.heap.size 2 _ _ _ CB
      have z3 := cell_of_row w4 w.heap.size 3 _ _ _ CB
      have f0 : w4.frozen? ⟨w.heap.size, 0, none⟩ = false := by unfold World.frozen?; rw [CB]; simp
      have f1 : w4.frozen? ⟨w.heap.size, 1, none⟩ = false := by unfold World.frozen?; rw [CB]; simp
      have f2 : w4.frozen? ⟨w.heap.size, 2, none⟩ = false := by unfold World.frozen?; rw [CB]; simp
      have f3 : w4.frozen? ⟨w.heap.size, 3, none⟩ = false := by unfold World.frozen?; rw [CB]; simp
      simp only [List.getElem?_toArray, List.getElem?_cons_zero, List.getElem?_cons_succ] at z0 z1 z2 z3
      have FIN : Hid (∀ ov : Bool, (set4 w4 w.heap.size (.slice a3 m1 c3) (.slice a4 m2 c4) (.int .i64 sV) (.bool ov)).cell? ⟨w.heap.size, 0, none⟩ = some (.slice a3 m1 c3) ∧ (set4 w4 w.heap.size (.slice a3 m1 c3) (.slice a4 m2 c4) (.int .i64 sV) (.bool ov)).cell? ⟨w.heap.size, 1, none⟩ = some (.slice a4 m2 c4) ∧ (set4 w4 w.heap.size (.slice a3 m1 c3) (.slice a4 m2 c4) (.int .i64 sV) (.bool ov)).cell? ⟨w.heap.size, 2, none⟩ = some (.int .i64 sV) ∧ (set4 w4 w.heap.size (.slice a3 m1 c3) (.slice a4 m2 c4) (.int .i64 sV) (.bool ov)).cell? ⟨w.heap.size, 3, none⟩ = some (.bool ov)) := Lib.hid (fun ov => set4_cells z0 z1 z2 z3)
      have SQ3 : Hid (∀ ov : Bool, SeqT (set4 w4 w.heap.size (.slice a3 m1 c3) (.slice a4 m2 c4) (.int .i64 sV) (.bool ov)) (.slice a3 m1 c3) T1) := Lib.hid (fun ov => set4_seq S3.out z0 z1 z2 z3 (fun s h => by cases h) (fun s h => by cases h) (fun s h => by cases h) (fun s h => by cases h))
      have SQ4 : Hid (∀ ov : Bool, SeqT (set4 w4 w.heap.size (.slice a3 m1 c3) (.slice a4 m2 c4) (.int .i64 sV) (.bool ov)) (.slice a4 m2 c4) T2) := Lib.hid (fun ov => set4_seq S4.out z0 z1 z2 z3 (fun s h => by cases h) (fun s h => by cases h) (fun s h => by cases h) (fun s h => by cases h))
      have GQ : Hid (∀ ov : Bool, Below w.heap.size w (set4 w4 w.heap.size (.slice a3 m1 c3) (.slice a4 m2 c4) (.int .i64 sV) (.bool ov))) := Lib.hid (fun ov => set4_below G4.out (Nat.le_refl _))
      clear CB
      by_cases hfit : Nm.Plain.fits TT
      · have e5 := hsV.out hfit
        subst e5
        have hd : decide (¬ Nm.Plain.fits TT) = false := by simp [hfit]
        have HD := Lib.hid hd
        clear hd hfit
        go_wp2_with fail
        obtain ⟨q0, q1, q2, q3⟩ := FIN.out false
        unfold set4 at q0 q1 q2 q3
        refine bodyPost_ret (v := .agg #[.slice a3 m1 c3, .slice a4 m2 c4, .int .i64 sV, .bool false]) (by simp [results, Try.results13, go_sem, q0, q1, q2, q3]) rfl ⟨_, rfl, ⟨a3, m1, c3, a4, m2, c4, by rw [HD.out], SQ3.out false, SQ4.out false⟩, GQ.out false⟩
      · have e5 := hsN.out hfit
        subst e5
        have hd : decide (¬ Nm.Plain.fits TT) = true := by simp [hfit]
        have HD := Lib.hid hd
        clear hd hfit
        go_wp2_with fail
        obtain ⟨q0, q1, q2, q3⟩ := FIN.out true
        unfold set4 at q0 q1 q2 q3
        refine bodyPost_ret (v := .agg #[.slice a3 m1 c3, .slice a4 m2 c4, .int .i64 sV, .bool true]) (by simp [results, Try.results13, go_sem, q0, q1, q2, q3]) rfl ⟨_, rfl, ⟨a3, m1, c3, a4, m2, c4, by rw [HD.out], SQ3.out true, SQ4.out true⟩, GQ.out true⟩
end Go.Proofs.Ytpkmjddjllpglaa
