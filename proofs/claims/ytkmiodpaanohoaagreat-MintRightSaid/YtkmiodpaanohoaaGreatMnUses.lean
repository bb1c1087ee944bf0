/- What the document's own SameDots and stage 12's laws' own functions leave: usual, later, awake. (Written by gen-use.py.) The contracts of stage 12's walks: usual, Make, and what was made of usual items handed on to Do, Right, Norm, Field. -/
import Derived.Test.YtkmiodpaanohoaaGreatMnCons
import Derived.Test.YtkmiodpaanohoaaGreatRefEs
import Derived.Deep.QuietTactic
import Derived.Deep.Cut
namespace Go.Proofs.YtkmiodpaanohoaaGreat
open Go.RowKit Plain
set_option linter.unusedVariables false


theorem usual1_no {node seq : Int} {x : PItem} (h : formedB x = false) : usual1 node seq x = false := by unfold usual1; rw [h]; rfl
theorem usual1_node {node seq : Int} {x : PItem} (h : formedB x = true) (g : ¬ x.dot.node = node) : usual1 node seq x = true := by unfold usual1; rw [h, decide_eq_false g]; rfl
theorem usual1_seq {node seq : Int} {x : PItem} (h : formedB x = true) (g : ¬ seq ≤ x.dot.seq) : usual1 node seq x = true := by unfold usual1; rw [h, decide_eq_false g, Bool.and_false]; rfl
theorem usual1_both {node seq : Int} {x : PItem} (g : x.dot.node = node) (k : seq ≤ x.dot.seq) : usual1 node seq x = false := by unfold usual1; rw [decide_eq_true g, decide_eq_true k]; cases formedB x <;> rfl
theorem all_of_getD {α : Type} [Inhabited α] {p : α → Bool} {l : List α} (h : ∀ j, j < l.length → p (l.getD j default) = true) : l.all p = true := by
  rw [List.all_eq_true]
  intro x hx
  obtain ⟨j, hj, rfl⟩ := List.getElem_of_mem hx
  have := h j hj
  simpa [List.getD, List.getElem?_eq_getElem hj] using this
theorem all_not_getD {α : Type} [Inhabited α] {p : α → Bool} {l : List α} {j : Nat} (hj : j < l.length) (h : p (l.getD j default) = false) : l.all p = false := by
  rw [List.all_eq_false]
  refine ⟨l[j], List.getElem_mem hj, ?_⟩
  have e : l.getD j default = l[j] := by simp [List.getD, List.getElem?_eq_getElem hj]
  rw [e] at h
  rw [h]
  decide
set_option maxRecDepth 100000 in
set_option maxHeartbeats 4000000 in
/-- usual -/
theorem usual_any (node seq : Int) {u : Value} {l : List PItem} {w : World} (hu : SeqE LItem w u l) (hk : ∀ x ∈ l, itemOk x) :
    Calls Tryz.prog 5 #[u, .int .i64 node, .int .i64 seq] w (GivesB w (shortI l && usualB l node seq)) := by
  have HR : Hid (usualB l node seq = (decide (inorm l = l) && l.all (usual1 node seq))) := Lib.hid rfl
  rw [HR.out]
  obtain ⟨r, hr⟩ : ∃ r, (shortI l && (decide (inorm l = l) && l.all (usual1 node seq))) = r := ⟨_, rfl⟩
  rw [hr]
  have RR := Lib.hid hr
  have HF := Lib.hid (fun j (hj : j < l.length) h => all_not_getD (p := usual1 node seq) hj h)
  have HT := Lib.hid (fun h => all_of_getD (p := usual1 node seq) (l := l) h)
  have KF := Lib.hid (fun (h : shortI l = true) => (⟨by have := (shortI_iff.1 h).1; omega, fun x hx => (hk x hx).2.2.1⟩ : l.length ≤ 1000000 ∧ ∀ x ∈ l, dotOk x.dot))
  obtain ⟨a, cap, rfl, g1, g2, g0, h⟩ := hu.parts
  have HS := Lib.hid h
  obtain ⟨n, hN⟩ : ∃ n, l.length = n := ⟨_, rfl⟩
  rw [hN] at HS g1 HF HT ⊢
  have LN := Lib.hid hN
  clear hu h g0 hN HR hr hk
  go_enter Tryz.func5, Tryz.ntmps5
  cases hA : shortI l with
  | false =>
    obtain rfl : r = false := by rw [← RR.out, hA]; rfl
    have K := rshortIB HS.out hA
    clear RR HF HT KF hA
    go_wp2_with fail
    refine K.mono ?_
    rintro e w2 ⟨rfl, hb⟩
    have B2 := Lib.hid hb
    clear hb K
    go_wp2_with fail
    go_ret
    exact ⟨rfl, B2.out⟩
  | true =>
    rw [hA, Bool.true_and] at RR
    have K := rshortIB HS.out hA
    have KF' := Lib.hid (KF.out hA)
    clear hA KF
    go_wp2_with fail
    refine K.mono ?_
    rintro e w2 ⟨rfl, hb⟩
    have B2 := Lib.hid hb
    have K2 := inorm_any (HS.out.below B2.out) KF'.out.1 KF'.out.2
    clear hb K
    obtain ⟨m, hm⟩ : ∃ m, (inorm l).length = m := ⟨_, rfl⟩
    have LM := Lib.hid hm
    clear hm
    go_wp2_with fail
    refine K2.mono ?_
    rintro e w3 ⟨v3, rfl, ho, hb⟩
    have B3 := Lib.hid (B2.out.trans (hb.mono B2.out.size))
    have S3 := ho.seq
    obtain ⟨a3, c3, rfl, -⟩ := S3.parts
    rw [LM.out] at S3 ⊢
    have K3 := rsameIR S3 (HS.out.below B3.out) rfl
    clear hb ho K2 S3
    cases hC : decide (inorm l = l) with
    | false =>
      obtain rfl : r = false := by rw [← RR.out, hC]; rfl
      rw [hC] at K3
      clear RR HF HT hC
      go_wp2_with fail
      refine K3.mono ?_
      rintro e w4 ⟨rfl, hb⟩
      have B4 := Lib.hid (B3.out.trans (hb.mono B3.out.size))
      clear hb K3
      go_wp2_with fail
      go_ret
      exact ⟨rfl, B4.out⟩
    | true =>
      rw [hC] at K3 RR
      rw [Bool.true_and] at RR
      clear hC
      go_wp2_with fail
      refine K3.mono ?_
      rintro e w4 ⟨rfl, hb⟩
      have B4 := Lib.hid (B3.out.trans (hb.mono B3.out.size))
      clear hb K3 B3 B2
      go_wp2_with fail
      go_loopw [7] (fun i wr => ∃ k : Nat, k ≤ n ∧ i = .int .i64 k ∧ (∀ j, j < k → usual1 node seq (l.getD j default) = true) ∧ Below w.heap.size w wr) (fun i _ => n - (intOf i).toNat)
      case atStart => exact ⟨0, Nat.zero_le _, rfl, fun j hj => absurd hj (by omega), B4.out⟩
      case round =>
        obtain ⟨k, hk, rfl, hall, hb⟩ := hrel
        have HA := Lib.hid hall
        have HB := Lib.hid hb
        clear hall hb
        by_cases hlt : k < n
        · obtain ⟨b, o, c, hv, -, -, -, hc⟩ := items_spot (HS.out.below HB.out) (by rw [LN.out]; omega)
          rw [LN.out] at hv
          simp only [Value.slice.injEq] at hv
          obtain ⟨rfl, -, rfl⟩ := hv
          have IX := Lib.hid (hc k (by rw [LN.out]; exact hlt))
          have HFK := Lib.hid (HF.out k hlt)
          have HX : Hid (usual1 node seq (l.getD k default) = true → ∀ j, j < k + 1 → usual1 node seq (l.getD j default) = true) := Lib.hid (fun h j hj => by
            by_cases e : j = k
            · rw [e]; exact h
            · exact HA.out j (by omega))
          clear hc
          generalize l.getD k default = x at *
          have K := iformed_any x wr
          unfold itv tv at K
          obtain ⟨c0, c1, c2, c3, c4, c5, c6, c7⟩ := IX.out
          cases hf : formedB x with
          | false =>
            have HU := HFK.out (usual1_no hf)
            obtain rfl : r = false := by rw [← RR.out]; exact HU
            rw [hf] at K
            clear HU RR HFK HX hf
            go_wp2_with fail
            refine K.mono ?_
            rintro e w5 ⟨rfl, hb⟩
            have B5 := Lib.hid (HB.out.trans (hb.mono HB.out.size))
            clear hb K
            go_wp2_with fail
            go_ret
            exact ⟨rfl, B5.out⟩
          | true =>
            rw [hf] at K
            go_wp2_with fail
            refine K.mono ?_
            rintro e w5 ⟨rfl, hb⟩
            have B5 := Lib.hid (HB.out.trans (hb.mono HB.out.size))
            have IX5 := IX.out.below hb IX.out.lt
            clear hb K c0 c1 c2 c3 c4 c5 c6 c7
            obtain ⟨c0, c1, c2, c3, c4, c5, c6, c7⟩ := IX5
            by_cases h1 : x.dot.node = node
            · have e1 : (x.dot.node == node) = true := beq_iff_eq.2 h1
              by_cases h2 : seq ≤ x.dot.seq
              · have HU := HFK.out (usual1_both h1 h2)
                obtain rfl : r = false := by rw [← RR.out]; exact HU
                clear HU RR HFK HX hf h1
                go_wp2_with fail
                go_ret
                exact ⟨rfl, B5.out⟩
              · have HU := Lib.hid (HX.out (usual1_seq hf h2))
                clear RR HFK HX hf h1
                go_wp2_with fail
                go_roundw
                case rel => exact ⟨k + 1, by omega, by go_num, HU.out, B5.out⟩
                case measure => simp [intOf]; omega
            · have e1 : (x.dot.node == node) = false := beq_false_of_ne h1
              have HU := Lib.hid (HX.out (usual1_node hf h1))
              clear RR HFK HX hf h1
              go_wp2_with fail
              go_roundw
              case rel => exact ⟨k + 1, by omega, by go_num, HU.out, B5.out⟩
              case measure => simp [intOf]; omega
        · obtain rfl : k = n := by omega
          obtain rfl : r = true := by rw [← RR.out]; exact HT.out HA.out
          clear RR HF HT
          go_wp2_with fail
          go_ret
          exact ⟨rfl, HB.out⟩

def sameF (p q : PReq) : Bool := decide (p.key = q.key) && decide (p.field = q.field)
theorem later_no {l : List PReq} {k : Nat} (h : ∀ t, k < t → t < l.length → sameF (l.getD t default) (l.getD k default) = false) : laterB l k = false := by
  unfold laterB
  rw [List.any_eq_false]
  intro x hx
  obtain ⟨j, hj, rfl⟩ := List.getElem_of_mem hx
  rw [List.length_drop] at hj
  rw [List.getElem_drop]
  have := h (k + 1 + j) (by omega) (by omega)
  unfold sameF at this
  rw [show l.getD (k + 1 + j) default = l[k + 1 + j] by simp [List.getD, List.getElem?_eq_getElem (show k + 1 + j < l.length by omega)]] at this
  rw [this]
  decide
theorem later_yes {l : List PReq} {k t : Nat} (h1 : k < t) (h2 : t < l.length) (h : sameF (l.getD t default) (l.getD k default) = true) : laterB l k = true := by
  unfold laterB
  rw [List.any_eq_true]
  refine ⟨l[t], ?_, ?_⟩
  · rw [List.mem_drop_iff_getElem]
    exact ⟨t - (k + 1), by omega, by congr 1; omega⟩
  · unfold sameF at h
    rwa [show l.getD t default = l[t] by simp [List.getD, List.getElem?_eq_getElem h2]] at h
def mnQ : PReq := ⟨1, [97], [], [120], 0⟩
def mnI : PReq := ⟨4, [97], [], [], 1⟩
def mnE0 : PEff := ⟨0, [97], [], 1, [120], 0, []⟩
def mnE1 : PEff := ⟨1, [97], [], 1, [120], 0, [⟨1, 1, 0⟩]⟩
theorem mn_make : mmake [] 1 1 [mnQ, mnQ] = (0, [mnE0, mnE1]) := by decide +kernel
theorem mn_formed : reqB mnI = true := by decide +kernel
theorem mn_fit : FitM 1 [] [mnQ, mnQ] := ⟨by simp, fun x hx => absurd hx (by simp), fun q hq => by
  simp only [List.mem_cons, List.not_mem_nil, or_false] at hq
  rcases hq with rfl | rfl <;> exact ⟨by decide, by decide, by decide, by decide, by decide⟩, .inl List.nodup_nil⟩
theorem mn_lit (w : World) : SeqE LReq (w.alloc (.cells #[.int .i64 1, .string ⟨#[97]⟩, .string ⟨#[]⟩, .string ⟨#[120]⟩, .int .i64 0, .int .i64 1, .string ⟨#[97]⟩, .string ⟨#[]⟩, .string ⟨#[120]⟩, .int .i64 0] 41)) (.slice (some ⟨w.heap.size, 0, none⟩) 2 2) [mnQ, mnQ] := two_reqs w mnQ mnQ
theorem mn_dot (w : World) : SeqE LDot (w.alloc (.cells #[.int .i64 1, .int .i64 1, .int .i64 0] 36)) (.slice (some ⟨w.heap.size, 0, none⟩) 1 1) [⟨1, 1, 0⟩] :=
  SeqE.one (L := LDot) (w := w) (vs := cellsDt ⟨1, 1, 0⟩) (x := ⟨1, 1, 0⟩) rfl #[.int .i64 1, .int .i64 1, .int .i64 0] rfl
set_option maxRecDepth 100000 in
set_option maxHeartbeats 4000000 in
/-- awake -/
theorem mnawake_any (w : World) : Calls Tryz.prog 4 #[] w (GivesB w true) := by
  have KM : Hid (Calls Tryz.prog 6 #[.slice none 0 0, .int .i64 1, .int .i64 1, .slice (some ⟨w.heap.size, 0, none⟩) 2 2] (w.alloc (.cells #[.int .i64 1, .string ⟨#[97]⟩, .string ⟨#[]⟩, .string ⟨#[120]⟩, .int .i64 0, .int .i64 1, .string ⟨#[97]⟩, .string ⟨#[]⟩, .string ⟨#[120]⟩, .int .i64 0] 41)) (GivesM (w.alloc (.cells #[.int .i64 1, .string ⟨#[97]⟩, .string ⟨#[]⟩, .string ⟨#[120]⟩, .int .i64 0, .int .i64 1, .string ⟨#[97]⟩, .string ⟨#[]⟩, .string ⟨#[120]⟩, .int .i64 0] 41)) (0, [mnE0, mnE1]))) := Lib.hid (by
    have := mmakeP_any (seq := 1) (SeqE.nil _) (mn_lit w) mn_fit (by decide) (by decide)
    rw [mn_make] at this
    exact this)
  have G1 := Lib.hid ((Below.refl w.heap.size w).alloc (Nat.le_refl _) (.cells #[.int .i64 1, .string ⟨#[97]⟩, .string ⟨#[]⟩, .string ⟨#[120]⟩, .int .i64 0, .int .i64 1, .string ⟨#[97]⟩, .string ⟨#[]⟩, .string ⟨#[120]⟩, .int .i64 0] 41))
  go_enter Tryz.func4, Tryz.ntmps4
  go_wp2_with fail
  refine KM.out.mono ?_
  rintro e w2 ⟨v, rfl, hv, hb⟩
  have G2 := Lib.hid (G1.out.trans (hb.mono G1.out.size))
  clear hb KM G1
  obtain ⟨b, o, c, rfl, g1, g2, -, hc⟩ := effs_spot hv (by simp)
  obtain ⟨dv, EA, SD⟩ := hc 1 (by simp)
  have EAH := Lib.hid EA
  have SDH := Lib.hid SD
  clear hv hc EA SD
  obtain ⟨c0, c1, c2, c3, c4, c5, c6⟩ := EAH.out
  clear c0 c1 c2 c3 c4 c5
  simp only [Nat.one_mul, Nat.add_assoc, Nat.reduceAdd] at c6
  have g1' : (2 : Int) ≤ c := by
    have h : 2 ≤ c := by simpa using g1
    omega
  have e1 : ([mnE0, mnE1] : List PEff).length = 2 := rfl
  rw [e1]
  obtain ⟨da, dn, dc, rfl⟩ : ∃ a n c, dv = .slice a n c := by obtain ⟨a, c, h, -⟩ := SDH.out.parts; exact ⟨a, _, c, h⟩
  have KS := Lib.hid (rsameDR (SDH.out.below ((Below.refl w2.heap.size w2).alloc (Nat.le_refl _) (.cells #[.int .i64 1, .int .i64 1, .int .i64 0] 36))) (mn_dot w2) (decide_eq_true rfl))
  have G3 := Lib.hid (G2.out.alloc G2.out.size (.cells #[.int .i64 1, .int .i64 1, .int .i64 0] 36))
  go_wp2_with fail
  refine KS.out.mono ?_
  rintro e w3 ⟨rfl, hb⟩
  have G4 := Lib.hid (G3.out.trans (hb.mono G3.out.size))
  have KF := mformedP_any mnI w3
  rw [mn_formed] at KF
  clear hb KS G2 G3 c6
  go_wp2_with fail
  refine (show Calls Tryz.prog 13 #[.agg #[.int .i64 4, .string ⟨#[97]⟩, .string ⟨#[]⟩, .string ⟨#[]⟩, .int .i64 1]] w3 (GivesB w3 true) from KF).mono ?_
  rintro e w4 ⟨rfl, hb⟩
  have G5 := Lib.hid (G4.out.trans (hb.mono G4.out.size))
  clear hb KF
  go_wp2_with fail
  go_ret
  exact ⟨rfl, G5.out⟩
end Go.Proofs.YtkmiodpaanohoaaGreat
namespace Go.Proofs.YtkmiodpaanohoaaGreat
open Go.RowKit Plain
set_option linter.unusedVariables false

theorem usualR {node seq : Int} {u : Value} {l : List PItem} {w : World} {r : Bool} (hu : SeqE LItem w u l) (hk : ∀ x ∈ l, itemOk x) (e : (shortI l && usualB l node seq) = r) : Calls Tryz.prog 5 #[u, .int .i64 node, .int .i64 seq] w (GivesB w r) := by
  rw [← e]
  exact usual_any node seq hu hk
theorem usual_parts {node seq : Int} {l : List PItem} (e : (shortI l && usualB l node seq) = true) : l.length ≤ 100 ∧ usualB l node seq = true := by
  rw [Bool.and_eq_true] at e
  exact ⟨by have := (shortI_iff.1 e.1).1; omega, e.2⟩
theorem fitM_of {node seq : Int} {s : List PItem} {l : List PReq} (e : (shortI s && usualB s node seq) = true) (hk : ∀ x ∈ s, itemOk x) (hq : ∀ q ∈ l, reqOk q) : FitM node s l :=
  ⟨(usual_parts e).1, hk, hq, .inl (DotsOnce.of (usual_of (usual_parts e).2).ris (usual_of (usual_parts e).2).apart)⟩
/-- what the walks ask of effects that were made of usual items -/
structure MadeOk (node seq : Int) (s : List PItem) (effs : List PEff) : Prop where
  fitI : FitI s
  small : SmallE effs
  ok : effsOk node seq effs
  next : FitI (edo node seq s effs)
  fitV : FitV (edo node seq s effs)
theorem madeOk_of {node seq : Int} {s : List PItem} {l : List PReq} (e : (shortI s && usualB s node seq) = true) (hk : ∀ x ∈ s, itemOk x) (h : (mmake s node seq l).1 = 0) : MadeOk node seq s (mmake s node seq l).2 := by
  obtain ⟨h1, h2⟩ := usual_parts e
  obtain ⟨r1, r2, -, -⟩ := make_right h2 h
  have h8 := (mmake_ok h).2.1
  have hs : SmallE (mmake s node seq l).2 := ⟨by omega, fun x hx => by have := (right_parts r1 hx).1; omega⟩
  have hok : effsOk node seq (mmake s node seq l).2 := fun x hx => ⟨dotOk_of (right_parts r1 hx).2.1, fun d hd => dotOk_of ((right_parts r1 hx).2.2 d hd)⟩
  have hd : ∀ x ∈ s, dotOk x.dot := fun x hx => (hk x hx).2.2.1
  have hl := edo_len node seq (mmake s node seq l).2 s
  have hl60 : s.length ≤ 60 := by
    rw [Bool.and_eq_true] at e
    exact (shortI_iff.1 e.1).1
  refine ⟨⟨by omega, hd⟩, hs, hok, fitI_do ⟨by omega, hd⟩ hs hok, ⟨by omega, fun x hx => ?_⟩⟩
  rcases edo_mem hx with k | k
  · exact fits_of (hk x k).2.1
  · obtain ⟨y, hy, rfl⟩ := own_dot k
    exact make_fits h y hy
theorem inormS2 {u : Value} {xs : List PItem} {w : World} (hu : SeqE LItem w u xs) (hx : FitI xs) : Calls Tryz.prog 10 #[u] w (GivesS LItem w (inorm xs)) := (inorm_any hu (by have := hx.1; omega) hx.2).mono fun _ _ h => h.gives
theorem mmakeR {node seq : Int} {u v : Value} {s : List PItem} {l : List PReq} {w : World} {a : Int × List PEff} (hu : SeqE LItem w u s) (hv : SeqE LReq w v l) (hf : FitM node s l) (hn : (Lit.int .i64 node).wf = true) (hs : (Lit.int .i64 seq).wf = true) (e : mmake s node seq l = a) :
    Calls Tryz.prog 6 #[u, .int .i64 node, .int .i64 seq, v] w (GivesM w a) := by
  rw [← e]
  exact mmakeP_any hu hv hf hn hs
theorem fitV_items {l : List PItem} (h : l.length ≤ 100) (q : ∀ x ∈ l, itemOk x) : FitV l := ⟨h, fun x hx => fits_of (q x hx).2.1⟩
/-- the variable that holds a request -/
structure ReqBox (g : Nat) (x : PReq) (u : World) : Prop where
  c : u.cell? ⟨g, 0, none⟩ = some (.int .i64 x.op) ∧ u.cell? ⟨g, 1, none⟩ = some (.string (bt x.key)) ∧ u.cell? ⟨g, 2, none⟩ = some (.string (bt x.field)) ∧ u.cell? ⟨g, 3, none⟩ = some (.string (bt x.elem)) ∧ u.cell? ⟨g, 4, none⟩ = some (.int .i64 x.n)
theorem ReqBox.below {g : Nat} {x : PReq} {u u' : World} (k : ReqBox g x u) (hb : Below u.heap.size u u') : ReqBox g x u' := by
  have c : ∀ {a : Addr} {v : Value}, u.cell? a = some v → u'.cell? a = some v := fun g => (hb.cell (World.block_lt_of_cell? u _ g)).trans g
  obtain ⟨h0, h1, h2, h3, h4⟩ := k.c
  exact ⟨c h0, c h1, c h2, c h3, c h4⟩
/-- the variable that holds a field -/
structure ValBox (g : Nat) (a1 : Option Addr) (n1 c1 : Nat) (a2 : Option Addr) (n2 c2 : Nat) (t : Int) (o : Bool) (u : World) : Prop where
  c : u.cell? ⟨g, 0, none⟩ = some (.slice a1 n1 c1) ∧ u.cell? ⟨g, 1, none⟩ = some (.slice a2 n2 c2) ∧ u.cell? ⟨g, 2, none⟩ = some (.int .i64 t) ∧ u.cell? ⟨g, 3, none⟩ = some (.bool o)
theorem ValBox.below {g : Nat} {a1 : Option Addr} {n1 c1 : Nat} {a2 : Option Addr} {n2 c2 : Nat} {t : Int} {o : Bool} {u u' : World} (k : ValBox g a1 n1 c1 a2 n2 c2 t o u) (hb : Below u.heap.size u u') : ValBox g a1 n1 c1 a2 n2 c2 t o u' := by
  have c : ∀ {a : Addr} {v : Value}, u.cell? a = some v → u'.cell? a = some v := fun g => (hb.cell (World.block_lt_of_cell? u _ g)).trans g
  obtain ⟨h0, h1, h2, h3⟩ := k.c
  exact ⟨c h0, c h1, c h2, c h3⟩
theorem formedR {q : PReq} {w : World} {r : Bool} (e : reqB q = r) : Calls Tryz.prog 13 #[.agg #[.int .i64 q.op, .string (bt q.key), .string (bt q.field), .string (bt q.elem), .int .i64 q.n]] w (GivesB w r) := by
  rw [← e]
  exact mformedP_any q w
theorem GivesM.none {w : World} {a : Int × List PEff} {e : Ending} {w' : World} (h : GivesM w a e w') (h2 : a.2 = []) : ∃ p c, e = .returned (.tuple #[.slice p 0 c, .int .i64 a.1]) ∧ Below w.heap.size w w' := by
  obtain ⟨v, rfl, hv, hb⟩ := h
  rw [h2] at hv
  obtain ⟨p, c, rfl, -⟩ := hv.parts
  exact ⟨p, c, rfl, hb⟩
theorem SeqE.empty_iff {α : Type} {L : El α} {w : World} {a : Option Addr} {n c : Nat} {xs : List α} (h : SeqE L w (.slice a n c) xs) : n = xs.length := by
  obtain ⟨a', c', hv, -⟩ := h.parts
  simp only [Value.slice.injEq] at hv
  exact hv.2.1
end Go.Proofs.YtkmiodpaanohoaaGreat
