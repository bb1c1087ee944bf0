/- The program's own lacking: whom a transaction waits for. -/
import Derived.Test.YtlpcpbangmonaaaOrCon
import Derived.Test.YtlpcpbangmonaaaISets
import Derived.BigQuiet
import Derived.Deep.QuietTactic
namespace Go.Proofs.Ytlpcpbangmonaaa
open Go.RowKit Plain
set_option linter.unusedVariables false

def GivesLack (w : World) (v : Ints) (t : PTxn) (e : Ending) (w' : World) : Prop :=
  ∃ n s b, e = .returned (.tuple #[.agg #[.int .i64 n, .int .i64 s, .int .i64 0], .bool b]) ∧ (b = true → LackOk v t n s ∧ dotOk ⟨n, s, 0⟩) ∧ (b = false → OClear v t) ∧ Below w.heap.size w w'
theorem oPrev_wf (s : Int) : (Lit.int .i64 (oPrev s)).wf = true := by
  unfold oPrev
  simp [Lit.wf, IntKind.min, IntKind.max, IntKind.wrap, IntKind.signed, IntKind.bits]
  omega
theorem wf0 : (Lit.int .i64 0).wf = true := by decide
theorem says_wf {d : Ints} (h : ∀ n ∈ d, intOk n) (k : Nat) : (Lit.int .i64 (says d k)).wf = true := by
  unfold says
  by_cases c : k < d.length
  · have := i64_in (h d[k] (List.getElem_mem c))
    have e : d.getD k 0 = d[k] := by simp [List.getD, c]
    rw [e]
    simp only [Lit.wf, IntKind.min, IntKind.max, IntKind.signed, IntKind.bits, decide_eq_true_iff, Bool.and_eq_true]
    simp
    omega
  · rw [getD_end d k (by omega)]
    decide
theorem free_of {w : World} {g : Nat} {cs : Array Value} {t : TypeId} (h : w.heap[g]? = some (.cells cs t (0, 0))) (i : Nat) : w.frozen? ⟨g, i, none⟩ = false := by
  unfold World.frozen?; rw [h]; simp
/-- three stores into a variable of three cells -/
theorem st3q {w : World} {g : Nat} {z0 z1 z2 : Value} {t : TypeId} (h : w.heap[g]? = some (.cells #[z0, z1, z2] t (0, 0))) :
    (∀ a, (w.setCell ⟨g, 0, none⟩ a).cell? ⟨g, 0, none⟩ = some a) ∧ (∀ a b, ((w.setCell ⟨g, 0, none⟩ a).setCell ⟨g, 1, none⟩ b).cell? ⟨g, 1, none⟩ = some b) ∧ (∀ a b c, (((w.setCell ⟨g, 0, none⟩ a).setCell ⟨g, 1, none⟩ b).setCell ⟨g, 2, none⟩ c).cell? ⟨g, 2, none⟩ = some c) := by
  have h1 := fun a => heap_setCell_same _ g 0 _ _ a h
  have h2 := fun a b => heap_setCell_same _ g 1 _ _ b (h1 a)
  have h3 := fun a b c => heap_setCell_same _ g 2 _ _ c (h2 a b)
  exact ⟨fun a => by simp [World.cell?, h1 a], fun a b => by simp [World.cell?, h2 a b], fun a b c => by simp [World.cell?, h3 a b c]⟩
set_option maxRecDepth 100000 in
set_option maxHeartbeats 4000000 in
/-- lacking -/
theorem lacking_any {vv tv : Value} {xs : Ints} {t : PTxn} {w : World} (hv : SeqI w vv xs) (ht : IsTxn w tv t) (hd : t.deps.length ≤ 1000000) (hok : intOk t.node ∧ ∀ n ∈ t.deps, intOk n) :
    Calls Try.prog 45 #[vv, tv] w (GivesLack w xs t) := by
  obtain ⟨da, dn, dc, ea, en, ec, rfl, k1, k2⟩ := ht.parts
  obtain ⟨av, cv, rfl, -, -, -, hv'⟩ := hv.parts
  have KB := txbox_new k1 k2
  have hb1 := (Below.refl (w.alloc (.cells #[.int .i64 t.node, .int .i64 t.seq, .slice da dn dc, .slice ea en ec] 27)).heap.size (w.alloc (.cells #[.int .i64 t.node, .int .i64 t.seq, .slice da dn dc, .slice ea en ec] 27))).alloc (Nat.le_refl _) (.cells #[.int .i64 0, .int .i64 0, .int .i64 0] 73)
  have hb := (Below.refl w.heap.size w).alloc (Nat.le_refl _) (.cells #[.int .i64 t.node, .int .i64 t.seq, .slice da dn dc, .slice ea en ec] 27)
  have hB := hb.trans (hb1.mono (by simp))
  have HV := Lib.hid (hv'.below hB)
  have KX := Lib.hid (KB.below hb1)
  have HB := Lib.hid hB
  have D0 : Hid (((w.alloc (.cells #[.int .i64 t.node, .int .i64 t.seq, .slice da dn dc, .slice ea en ec] 27)).alloc (.cells #[.int .i64 0, .int .i64 0, .int .i64 0] 73)).heap[w.heap.size + 1]? = some (.cells #[.int .i64 0, .int .i64 0, .int .i64 0] 73 (0, 0))) := Lib.hid (by have := heap_alloc_new (w.alloc (.cells #[.int .i64 t.node, .int .i64 t.seq, .slice da dn dc, .slice ea en ec] 27)) (.cells #[.int .i64 0, .int .i64 0, .int .i64 0] 73); simpa using this)
  have HDM := Lib.hid k1.dims
  have WP := Lib.hid (oPrev_wf t.seq)
  have WS := Lib.hid (fun k => says_wf hok.2 k)
  have WN := Lib.hid hok.1
  have HDL := Lib.hid hd
  have e1 : IntKind.i64.wrap (t.seq - 1) = oPrev t.seq := rfl
  have HL : Hid (saysI xs t.node < oPrev t.seq → LackOk xs t t.node (oPrev t.seq)) := Lib.hid (fun h => .inl ⟨rfl, rfl, h⟩)
  have HC : Hid (¬ saysI xs t.node < oPrev t.seq → (∀ j, j < t.deps.length → says t.deps j ≤ says xs j) → OClear xs t) := Lib.hid (fun h1 h2 => ⟨Int.not_lt.1 h1, within_of h2⟩)
  have HK : Hid (∀ k : Nat, says xs k < says t.deps k → LackOk xs t k (says t.deps k)) := Lib.hid (fun k h => .inr ⟨k, rfl, rfl, h⟩)
  clear KB hb1 hb hB hv ht hv' k1 k2 hok hd
  go_enter Try.func45, Try.ntmps45
  go_upto_region 1 with fail
  generalize ((w.alloc (.cells #[.int .i64 t.node, .int .i64 t.seq, .slice da dn dc, .slice ea en ec] 27)).alloc (.cells #[.int .i64 0, .int .i64 0, .int .i64 0] 73)) = wb at *
  have KA := Lib.hid (fun n => vc_at_any (HV.out.drawn n) t.node)
  obtain ⟨c0, c1, c2, -⟩ := KX.out.c
  have t0 : wb.cell? ⟨w.heap.size + 1, 0, none⟩ = some (.int .i64 0) := cell_of_row _ _ 0 _ _ _ D0.out
  have t1 : wb.cell? ⟨w.heap.size + 1, 1, none⟩ = some (.int .i64 0) := cell_of_row _ _ 1 _ _ _ D0.out
  have t2 : wb.cell? ⟨w.heap.size + 1, 2, none⟩ = some (.int .i64 0) := cell_of_row _ _ 2 _ _ _ D0.out
  have f0 := free_of D0.out 0
  have f1 := free_of D0.out 1
  have f2 := free_of D0.out 2
  have hE1 := e1
  generalize oPrev t.seq = ps at *
  generalize saysI xs t.node = sn at *
  generalize xs.length = nv at *
  by_cases h1 : sn < ps
  · have LK := Lib.hid (HL.out h1)
    have d1 : decide (sn < ps) = true := decide_eq_true h1
    clear HL HC HK hE1
    go_quiet ((go_at_call 34; exact quiet_left (KA.out _)))
    have DQ : Hid ((wb.drewN nq).heap[w.heap.size + 1]? = some (.cells #[.int .i64 0, .int .i64 0, .int .i64 0] 73 (0, 0))) := Lib.hid D0.out
    go_wp2_with fail
    obtain ⟨q0, q1, q2⟩ := st3q DQ.out
    refine bodyPost_ret (v := .tuple #[.agg #[.int .i64 t.node, .int .i64 ps, .int .i64 0], .bool true]) (by simp [results, Try.results45, go_sem, q0, q1, q2]) rfl ⟨_, _, _, rfl, fun _ => ⟨LK.out, WN.out, WP.out, wf0⟩, (fun h => nomatch h), ?_⟩
    exact (((below_drewN HB.out _).setCell (by simp) _).setCell (by simp) _).setCell (by simp) _
  · have LC := Lib.hid (HC.out h1)
    have HH1 := Lib.hid h1
    have d1 : decide (sn < ps) = false := decide_eq_false h1
    clear HL HC hE1
    go_quiet ((go_at_call 34; exact quiet_left (KA.out _)))
    obtain ⟨m, hm⟩ : ∃ m, m = dn := ⟨_, rfl⟩
    have KX2 := Lib.hid (TxBox.below KX.out (below_drewN (Below.refl _ _) nq))
    have HV2 := Lib.hid (HV.out.drawn nq)
    have DQ : Hid ((wb.drewN nq).heap[w.heap.size + 1]? = some (.cells #[.int .i64 0, .int .i64 0, .int .i64 0] 73 (0, 0))) := Lib.hid D0.out
    have HB2 := Lib.hid (below_drewN HB.out nq)
    clear c0 c1 c2 t0 t1 t2 f0 f1 f2 KX HV D0 HB KA hm
    generalize wb.drewN nq = wc at *
    obtain ⟨c0, c1, c2, -⟩ := KX2.out.c
    have t0 : wc.cell? ⟨w.heap.size + 1, 0, none⟩ = some (.int .i64 0) := cell_of_row _ _ 0 _ _ _ DQ.out
    have t1 : wc.cell? ⟨w.heap.size + 1, 1, none⟩ = some (.int .i64 0) := cell_of_row _ _ 1 _ _ _ DQ.out
    have t2 : wc.cell? ⟨w.heap.size + 1, 2, none⟩ = some (.int .i64 0) := cell_of_row _ _ 2 _ _ _ DQ.out
    have f0 := free_of DQ.out 0
    have f1 := free_of DQ.out 1
    have f2 := free_of DQ.out 2
    have HDN : dn ≤ 1000000 := by have := HDL.out; rw [HDM.out.1] at this; exact this
    go_wp2_with fail
    go_loopw [25] (fun i wr => ∃ k : Nat, k ≤ dn ∧ i = .int .i64 k ∧ (∀ j, j < k → says t.deps j ≤ says xs j) ∧ wr = wc) (fun i _ => dn - (intOf i).toNat)
    case atStart => exact ⟨0, Nat.zero_le _, rfl, fun j hj => absurd hj (by omega), rfl⟩
    case round =>
      obtain ⟨k, hk, rfl, hall, rfl⟩ := hrel
      have HALL := Lib.hid hall
      clear hall
      by_cases hlt : k < dn
      · have K1 := Lib.hid (vc_at_any (seqI_of KX2.out.d) (k : Int))
        have K2 := Lib.hid (vc_at_any HV2.out (k : Int))
        rw [saysI_nat] at K1 K2
        have LK := Lib.hid (HK.out k)
        have WSK := Lib.hid (WS.out k)
        have WKK := Lib.hid (show (Lit.int .i64 (k : Int)).wf = true from wf_small (by omega) (by omega))
        have HAN : Hid (¬ says xs k < says t.deps k → ∀ j, j < k + 1 → says t.deps j ≤ says xs j) := Lib.hid (fun h j hj => by
          by_cases e : j = k
          · rw [e]; exact Int.not_lt.1 h
          · exact HALL.out j (by omega))
        generalize says t.deps k = sd at *
        generalize says xs k = sx at *
        by_cases h2 : sx < sd
        · have d2 : decide (sx < sd) = true := decide_eq_true h2
          have LK2 := Lib.hid (LK.out h2)
          go_wp2_with (first
            | (go_at_call_of 34 (Value.slice da dn dc); refine K1.out.mono ?_; rintro e w2 ⟨rfl, rfl⟩)
            | (go_at_call_of 34 (Value.slice av nv cv); refine K2.out.mono ?_; rintro e w2 ⟨rfl, rfl⟩))
          obtain ⟨q0, q1, q2⟩ := st3q DQ.out
          refine bodyPost_ret (v := .tuple #[.agg #[.int .i64 k, .int .i64 sd, .int .i64 0], .bool true]) (by simp [results, Try.results45, go_sem, q0, q1, q2]) rfl ⟨_, _, _, rfl, fun _ => ⟨LK2.out, WKK.out, WSK.out, wf0⟩, (fun h => nomatch h), ?_⟩
          exact ((HB2.out.setCell (by simp) _).setCell (by simp) _).setCell (by simp) _
        · have d2 : decide (sx < sd) = false := decide_eq_false h2
          have HA2 := Lib.hid (HAN.out h2)
          go_wp2_with (first
            | (go_at_call_of 34 (Value.slice da dn dc); refine K1.out.mono ?_; rintro e w2 ⟨rfl, rfl⟩)
            | (go_at_call_of 34 (Value.slice av nv cv); refine K2.out.mono ?_; rintro e w2 ⟨rfl, rfl⟩))
          exact ⟨⟨k + 1, by omega, by go_num, HA2.out, trivial⟩, by simp [intOf]; omega⟩
      · obtain rfl : k = dn := by omega
        have LC2 := Lib.hid (LC.out (by rw [HDM.out.1]; exact HALL.out))
        go_wp2_with fail
        obtain ⟨q0, q1, q2⟩ := st3q DQ.out
        refine bodyPost_ret (v := .tuple #[.agg #[.int .i64 0, .int .i64 0, .int .i64 0], .bool false]) (by simp [results, Try.results45, go_sem, q0, q1, q2]) rfl ⟨_, _, _, rfl, (fun h => nomatch h), fun _ => LC2.out, ?_⟩
        exact ((HB2.out.setCell (by simp) _).setCell (by simp) _).setCell (by simp) _
end Go.Proofs.Ytlpcpbangmonaaa
