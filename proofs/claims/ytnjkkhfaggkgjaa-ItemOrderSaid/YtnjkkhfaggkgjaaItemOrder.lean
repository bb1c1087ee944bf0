/-
  For any list of items the law ItemOrder answers true: a list in its one form stands in order, has each dot once, and is the same in it again; turned about, it comes to the same. No condition.
  (The frame was written by the guide's proof-skeleton.mjs, turned for slices of items; the walk is ours.)
-/
import Derived.Test.YtnjkkhfaggkgjaaRows
import Derived.WalkKit
import Derived.ProofKit
import Derived.OpenShut
import Derived.ShutString
import Derived.ChangeOld
import Derived.Below
import Derived.Test.YtnjkkhfaggkgjaaAwakeI
namespace Go.Proofs.Ytnjkkhfaggkgjaa.itemOrder
open Go.ChangeShapes Go.WideShapes Go.ChangeAt Go.RowKit
open Go.ChangeMaps (open_string shut_string)
set_option linter.unusedVariables false

theorem own : ownKnob Try.prog.godebug = none := by kernel_rfl
theorem laidOut : laidOutB Try.prog = true := by kernel_rfl

open Plain

set_option maxRecDepth 100000 in
theorem open0 {H : Type} {enc : TypeId × Value → H} {W : World} {r : Reach} {b : Nat} {v : Value} {d : DataW H} {p : List MemPlace} (hv : Value.okWide Try.prog W r b 22 v) (h : DataW.Trod enc Try.prog W 0 (fun _ => true) true 22 v d p) : IsItems W v := items_of_trod hv h

set_option maxRecDepth 100000 in
set_option maxHeartbeats 16000000 in
theorem walk (v0 : Value) (w : World) (w0 : IsItems w v0) :
    Calls Try.prog 4 #[v0] w fun e w' => e = .returned (.bool true) ∧ Below w.heap.size w w' := by
  obtain ⟨xs, s0, q0⟩ := w0
  have Q0 := Lib.hid q0
  clear q0
  have Sx := Lib.hid s0
  clear s0
  have G := Lib.hid (Below.refl w.heap.size w)
  go_enter Try.func4, Try.ntmps4
  go_wp2_with fail
  refine (awake_any _).mono ?_
  rintro e u2 ⟨rfl, hb⟩
  replace Sx := Lib.hid (Sx.out.below hb)
  replace G := Lib.hid (G.out.trans (hb.mono G.out.size))
  clear hb
  cases hA : shortI xs with
  | false =>
    go_wp2_with fail
    refine (rshortR Sx.out hA).mono ?_
    rintro e u3 ⟨rfl, hb⟩
    replace Sx := Lib.hid (Sx.out.below hb)
    replace G := Lib.hid (G.out.trans (hb.mono G.out.size))
    clear hb
    go_wp2_with fail
    go_ret
    exact ⟨rfl, G.out⟩
  | true =>
    go_wp2_with fail
    refine (rshortR Sx.out hA).mono ?_
    rintro e u4 ⟨rfl, hb⟩
    replace Sx := Lib.hid (Sx.out.below hb)
    replace G := Lib.hid (G.out.trans (hb.mono G.out.size))
    clear hb
    have Mx := Lib.hid (smallI_of hA Q0.out)
    clear hA
    go_wp2_with fail
    refine (inormS Sx.out Mx.out).mono ?_
    rintro e u5 ⟨v5, rfl, hs, hb⟩
    replace Sx := Lib.hid (Sx.out.below hb)
    replace G := Lib.hid (G.out.trans (hb.mono G.out.size))
    have Sn := Lib.hid hs
    clear hs hb
    have MN := Lib.hid (smallI_norm Mx.out)
    have HII := Lib.hid (inorm_inorm xs)
    have HBK := Lib.hid (inorm_back xs)
    have HRI := Lib.hid (ris_inorm xs)
    have HOD : Hid (∀ k j, j < k → k < (inorm xs).length → lessB ((inorm xs).getD j default) ((inorm xs).getD k default) = true ∧ ¬ ((inorm xs).getD k default).dot = ((inorm xs).getD j default).dot) := Lib.hid (fun k j hj hk => by
      have h1 := (ris_inorm xs).at hj (getD_at (show j < (inorm xs).length by omega)) (getD_at hk)
      exact ⟨decide_eq_true h1, fun e => sto_item.ne h1 (apart_inorm xs _ (mem_def hk) _ (mem_def (by omega)) e).symm⟩)
    generalize inorm xs = M at *
    obtain ⟨am, cm, hvm, -, -, -, hm⟩ := Sn.out.parts
    subst hvm
    obtain ⟨m, em⟩ : ∃ n, M.length = n := ⟨_, rfl⟩
    replace Sn := Lib.hid hm
    rw [em] at Sn ⊢
    have Nm := Lib.hid em
    clear hm em
    have hm200 := MN.out.1
    rw [Nm.out] at hm200
    go_wp2_with fail
    go_loopw [4, 5] (fun i _ wr => ∃ k : Nat, k ≤ m ∧ i = .int .i64 k ∧ Below w.heap.size w wr ∧ SeqE LItem wr (.slice am m cm) M ∧ SeqE LItem wr v0 xs) (fun i _ _ => m - (intOf i).toNat)
    case atStart => exact ⟨0, Nat.zero_le _, rfl, G.out, Sn.out, Sx.out⟩
    case round =>
      clear G Sn Sx
      obtain ⟨k, hk, rfl, hb, hs, hx⟩ := hrel
      have G := Lib.hid hb
      have Sn := Lib.hid hs
      have Sx := Lib.hid hx
      clear hb hs hx
      rename World => wo
      by_cases hlt : k < m
      · go_wp2_with fail
        go_loopw [5] (fun i wr => ∃ j : Nat, j ≤ k ∧ i = .int .i64 j ∧ Below w.heap.size w wr ∧ SeqE LItem wr (.slice am m cm) M ∧ SeqE LItem wr v0 xs) (fun i _ => k - (intOf i).toNat)
        case atStart => exact ⟨0, Nat.zero_le _, rfl, G.out, Sn.out, Sx.out⟩
        case round =>
          clear G Sn Sx
          obtain ⟨j, hj, rfl, hb, hs, hx⟩ := hrel
          have G := Lib.hid hb
          have Sn := Lib.hid hs
          have Sx := Lib.hid hx
          clear hb hs hx
          by_cases hjl : j < k
          · have hjm : j < m := by omega
            obtain ⟨b, o, c, hv, -, -, -, hc⟩ := items_spot Sn.out (by rw [Nm.out]; omega)
            rw [Nm.out] at hv
            simp only [Value.slice.injEq] at hv
            obtain ⟨rfl, -, rfl⟩ := hv
            have IY := Lib.hid (hc j (by rw [Nm.out]; omega))
            have IX := Lib.hid (hc k (by rw [Nm.out]; exact hlt))
            obtain ⟨hl, hd⟩ := HOD.out k j hjl (by rw [Nm.out]; exact hlt)
            clear hc
            generalize M.getD j default = y at *
            generalize M.getD k default = x at *
            have hq := eql_dot x.dot y.dot
            rw [decide_eq_false hd] at hq
            have KL := Lib.hid (fun (W : World) => ilessR (w := W) hl)
            clear hl hd
            have KE : Hid (∀ u, Below wr.heap.size wr u → Below wr.heap.size wr u ∧ (u.cell? ⟨b, o + j * 8, none⟩ = some (.string (bt y.key)) ∧ u.cell? ⟨b, o + j * 8 + 1, none⟩ = some (.string (bt y.field)) ∧ u.cell? ⟨b, o + j * 8 + 2, none⟩ = some (.int .i64 y.kind) ∧ u.cell? ⟨b, o + j * 8 + 3, none⟩ = some (.string (bt y.elem)) ∧ u.cell? ⟨b, o + j * 8 + 4, none⟩ = some (.int .i64 y.n) ∧ u.cell? ⟨b, o + j * 8 + 5, none⟩ = some (.int .i64 y.dot.node) ∧ u.cell? ⟨b, o + j * 8 + 6, none⟩ = some (.int .i64 y.dot.seq) ∧ u.cell? ⟨b, o + j * 8 + 7, none⟩ = some (.int .i64 y.dot.pos)) ∧ (u.cell? ⟨b, o + k * 8, none⟩ = some (.string (bt x.key)) ∧ u.cell? ⟨b, o + k * 8 + 1, none⟩ = some (.string (bt x.field)) ∧ u.cell? ⟨b, o + k * 8 + 2, none⟩ = some (.int .i64 x.kind) ∧ u.cell? ⟨b, o + k * 8 + 3, none⟩ = some (.string (bt x.elem)) ∧ u.cell? ⟨b, o + k * 8 + 4, none⟩ = some (.int .i64 x.n) ∧ u.cell? ⟨b, o + k * 8 + 5, none⟩ = some (.int .i64 x.dot.node) ∧ u.cell? ⟨b, o + k * 8 + 6, none⟩ = some (.int .i64 x.dot.seq) ∧ u.cell? ⟨b, o + k * 8 + 7, none⟩ = some (.int .i64 x.dot.pos))) := Lib.hid (fun u hu => ⟨hu, by
              obtain ⟨c0, c1, c2, c3, c4, c5, c6, c7⟩ := IY.out.below hu IY.out.lt
              obtain ⟨d0, d1, d2, d3, d4, d5, d6, d7⟩ := IX.out.below hu IX.out.lt
              exact ⟨⟨c0, c1, c2, c3, c4, c5, c6, c7⟩, ⟨d0, d1, d2, d3, d4, d5, d6, d7⟩⟩⟩)
            go_wp2_with fail
            go_region_held3 (fun u => Below wr.heap.size wr u ∧ (u.cell? ⟨b, o + j * 8, none⟩ = some (.string (bt y.key)) ∧ u.cell? ⟨b, o + j * 8 + 1, none⟩ = some (.string (bt y.field)) ∧ u.cell? ⟨b, o + j * 8 + 2, none⟩ = some (.int .i64 y.kind) ∧ u.cell? ⟨b, o + j * 8 + 3, none⟩ = some (.string (bt y.elem)) ∧ u.cell? ⟨b, o + j * 8 + 4, none⟩ = some (.int .i64 y.n) ∧ u.cell? ⟨b, o + j * 8 + 5, none⟩ = some (.int .i64 y.dot.node) ∧ u.cell? ⟨b, o + j * 8 + 6, none⟩ = some (.int .i64 y.dot.seq) ∧ u.cell? ⟨b, o + j * 8 + 7, none⟩ = some (.int .i64 y.dot.pos)) ∧ (u.cell? ⟨b, o + k * 8, none⟩ = some (.string (bt x.key)) ∧ u.cell? ⟨b, o + k * 8 + 1, none⟩ = some (.string (bt x.field)) ∧ u.cell? ⟨b, o + k * 8 + 2, none⟩ = some (.int .i64 x.kind) ∧ u.cell? ⟨b, o + k * 8 + 3, none⟩ = some (.string (bt x.elem)) ∧ u.cell? ⟨b, o + k * 8 + 4, none⟩ = some (.int .i64 x.n) ∧ u.cell? ⟨b, o + k * 8 + 5, none⟩ = some (.int .i64 x.dot.node) ∧ u.cell? ⟨b, o + k * 8 + 6, none⟩ = some (.int .i64 x.dot.seq) ∧ u.cell? ⟨b, o + k * 8 + 7, none⟩ = some (.int .i64 x.dot.pos)))
              (first | (exact KE.out _ (Below.refl _ _).drew) | (exact KE.out _ (holdC (by assumption) hb)))
              ((go_at_call 27; refine (KL.out _).mono ?_; rintro e s1 ⟨rfl, hb⟩; have hbu := holdC (by assumption) hb))
            have G2 := Lib.hid (G.out.trans (hbu.mono G.out.size))
            have Sn2 := Lib.hid (Sn.out.below hbu)
            have Sx2 := Lib.hid (Sx.out.below hbu)
            clear hbu hb
            go_wp2_with fail
            go_roundw
            case rel => exact ⟨j + 1, by omega, by go_num, G2.out, Sn2.out, Sx2.out⟩
            case measure => simp [intOf]; omega
          · obtain rfl : j = k := by omega
            go_wp2_with fail
            go_roundw
            case rel => exact ⟨j + 1, by omega, by go_num, G.out, Sn.out, Sx.out⟩
            case measure => simp [intOf]; omega
      · obtain rfl : k = m := by omega
        obtain ⟨ax, cx, hvx, g1, g2, -, hxs⟩ := Sx.out.parts
        subst hvx
        have Sx3 := Lib.hid hxs
        obtain ⟨n, hN⟩ : ∃ n, xs.length = n := ⟨_, rfl⟩
        rw [hN] at Sx3 g1
        have Nn := Lib.hid hN
        have hn := Mx.out.1
        rw [hN] at hn
        rw [hN]
        clear hN hxs Sx
        have HD0 : Hid ((xs.drop n).reverse = []) := Lib.hid (by rw [List.drop_eq_nil_of_le (by rw [Nn.out]; exact Nat.le_refl _)]; rfl)
        have HDN : Hid (∀ p, p < xs.length → (xs.drop p).reverse = (xs.drop (p + 1)).reverse ++ [xs.getD p default]) := Lib.hid (fun p hp => by
          rw [List.drop_eq_getElem_cons hp, List.reverse_cons]
          simp [List.getD, List.getElem?_eq_getElem hp])
        have i0 : IntKind.i64.wrap ((n : Int) - 1) = (n : Int) - 1 := IntWalk.i64_in _ (by omega)
        go_wp2_with fail
        go_loopw [6, 7] (fun o i wr => ∃ p : Nat, p ≤ n ∧ i = .int .i64 ((p : Int) - 1) ∧ OwnE LItem wo.heap.size wr o (xs.drop p).reverse ∧ Below wo.heap.size wo wr) (fun _ i _ => (intOf i + 1).toNat)
        case atStart => exact ⟨n, Nat.le_refl _, rfl, by rw [HD0.out]; exact OwnE.nil _ _, Below.refl _ _⟩
        case round =>
          obtain ⟨p, hp, rfl, ho, hb⟩ := hrel
          have HO := Lib.hid ho
          have HB := Lib.hid hb
          clear ho hb
          by_cases hp0 : 0 < p
          · obtain ⟨q, rfl⟩ : ∃ q, p = q + 1 := ⟨p - 1, by omega⟩
            have HQ : Hid (q < xs.length) := Lib.hid (by rw [Nn.out]; omega)
            obtain ⟨b, o, c, hv, -, -, -, hc⟩ := items_spot (Sx3.out.below HB.out) (by rw [Nn.out]; omega)
            rw [Nn.out] at hv
            simp only [Value.slice.injEq] at hv
            obtain ⟨rfl, -, rfl⟩ := hv
            obtain ⟨c0, c1, c2, c3, c4, c5, c6, c7⟩ := hc q HQ.out
            have HDQ := Lib.hid (HDN.out q HQ.out)
            have X1 := Lib.hid (fun (W : World) => one_item W (xs.getD q default))
            have HLQ : Hid ((xs.drop (q + 1)).reverse.length ≤ 200) := Lib.hid (by rw [List.length_reverse, List.length_drop, Nn.out]; omega)
            clear hc
            generalize xs.getD q default = x at *
            have e1 : (((q + 1 : Nat) : Int) - 1) = (q : Int) := by omega
            rw [e1]
            have i1 : IntKind.i64.wrap ((q : Int) - 1) = (q : Int) - 1 := IntWalk.i64_in _ (by omega)
            have i2 : (0 : Int) ≤ (q : Int) := by omega
            go_wp2_with (at_builtin; refine wpList_append_el LItem rfl (.tmp 56) (.tmp 61) rfl wo.heap.size rfl (HO.out.alloc _) rfl (X1.out _) (fun _ _ h => h) (by have := HLQ.out; simp at *; omega) (by have := HB.out.size; simp; omega) ?_)
            intro v' w1 ho' hgr _
            have O2 := Lib.hid ho'
            have G2 : Hid (Below wo.heap.size wo w1) := Lib.hid ((HB.out.alloc HB.out.size _).grown hgr (by have := HB.out.size; simp; omega) (fun j hj => (HO.out.lt j hj).1))
            clear ho' hgr
            rw [← HDQ.out] at O2
            go_wp2_with fail
            go_roundw
            case rel => exact ⟨q, by omega, by go_num, O2.out, G2.out⟩
            case measure => simp [intOf]
          · obtain rfl : p = 0 := by omega
            have i3 : ¬ (0 : Int) ≤ ((0 : Nat) : Int) - 1 := by omega
            replace G := Lib.hid (G.out.trans (HB.out.mono G.out.size))
            replace Sn := Lib.hid (Sn.out.below HB.out)
            have SB := Lib.hid (show SeqE LItem wr _ xs.reverse from HO.out.seq)
            have MB := Lib.hid (smallI_back Mx.out)
            clear HO HB Sx3 HD0 HDN
            go_wp2_with fail
            refine (inormS Sn.out MN.out).mono ?_
            rintro e u6 ⟨v6, rfl, hs, hb⟩
            replace Sn := Lib.hid (Sn.out.below hb)
            replace SB := Lib.hid (SB.out.below hb)
            replace G := Lib.hid (G.out.trans (hb.mono G.out.size))
            have Sp := Lib.hid hs
            clear hs hb
            rw [HII.out] at Sp
            go_wp2_with fail
            refine (rsame_eq Sp.out Sn.out rfl).mono ?_
            rintro e u7 ⟨rfl, hb⟩
            replace Sn := Lib.hid (Sn.out.below hb)
            replace SB := Lib.hid (SB.out.below hb)
            replace Sp := Lib.hid (Sp.out.below hb)
            replace G := Lib.hid (G.out.trans (hb.mono G.out.size))
            clear hb
            go_wp2_with fail
            refine (inormS SB.out MB.out).mono ?_
            rintro e u8 ⟨v8, rfl, hs, hb⟩
            replace Sn := Lib.hid (Sn.out.below hb)
            replace SB := Lib.hid (SB.out.below hb)
            replace Sp := Lib.hid (Sp.out.below hb)
            replace G := Lib.hid (G.out.trans (hb.mono G.out.size))
            have Sq := Lib.hid hs
            clear hs hb
            rw [HBK.out] at Sq
            go_wp2_with fail
            refine (rsame_eq Sq.out Sn.out rfl).mono ?_
            rintro e u9 ⟨rfl, hb⟩
            replace Sn := Lib.hid (Sn.out.below hb)
            replace SB := Lib.hid (SB.out.below hb)
            replace Sp := Lib.hid (Sp.out.below hb)
            replace Sq := Lib.hid (Sq.out.below hb)
            replace G := Lib.hid (G.out.trans (hb.mono G.out.size))
            clear hb
            go_wp2_with fail
            go_ret
            exact ⟨rfl, G.out⟩

set_option maxRecDepth 100000 in
theorem lifted (os : Os) (started : os.Started) (H : Type) (enc : TypeId × Value → H) :
    ReturnsInHanded {} Try.checked os 4 .any (Rows.itemOrderSpec.pre6 enc Try.prog Try.f4 Rows.itemOrderRow.domain false) (Rows.itemOrderSpec.post enc Try.prog Try.f4 false true false false) := by
  refine returnsInHanded_of_change (C := Try.checked) own started (by kernel_rfl) Try.func4
    (ChangeSpec.witness6 (enc := enc) (C := Try.checked) false ⟨#[], #[.slice none 0 0], []⟩ 8 (by kernel_rfl) (by kernel_rfl) (by kernel_rfl) (by kernel_rfl)) ?_
  intro W base args ds gs before hval0 hW hcnd _
  have hval : ∀ (j : Nat) t v, Try.f4.params[j]? = some t → args[j]? = some v → Value.okWide Try.prog W .any base t v := hval0
  have hW' := hW
  obtain ⟨p, q, hA0, hV, rfl, hfz, hnd⟩ := hW
  have hA : DataW.TrodAll enc Try.prog W 0 (fun _ => true) true Try.f4.params.toList args.toList ds p := hA0
  rw [Try.params4] at hA hval
  obtain ⟨v0, vs0, d0, ds0, p0, q0, hargs, rfl, rfl, h0, r0⟩ := trodAll_cons hA
  obtain ⟨rfl, rfl, rfl⟩ := trodAll_nil r0
  obtain rfl : args = #[v0] := by cases args; simp_all
  obtain ⟨rfl, rfl⟩ := trodVars_none hV
  have k0 := h0
  have lt0 : ∀ x ∈ p0, x.block < W.heap.size := by obtain ⟨m, hm⟩ := k0; exact DataW.trod_lt m _ _ _ hm
  have w0 := open0 (hval 0 22 v0 rfl rfl) h0
  clear hA0 hval0
  refine (walk v0 W w0).mono fun e W' ⟨he, bel⟩ => ?_
  subst he
  exact ⟨_, rfl, _, _, _, [], _, [], hW', trodAll_mk1 (shut_bool Try.underlying4 _), (trodAll_cons_mk (Below.trod laidOut (by kernel_rfl) (of_decide_eq_true (by kernel_rfl)) k0 bel lt0) trodAll_mk0), rfl, bel.frame _, fun h => by cases h⟩

theorem over : Rows.itemOrderRow.holds Try.pinned (OpenSpec.ofChange Rows.itemOrderSpec) :=
  OpenClaim.holds_of_wide 4 Try.f4 rfl rfl rfl rfl rfl rfl rfl ⟨rfl, rfl, rfl, rfl, rfl⟩ rfl rfl rfl rfl rfl (by kernel_rfl) Try.func4 (by kernel_rfl)
    (of_decide_eq_true (by kernel_rfl)) (by unfold Func.isWrapper; first | (rw [if_pos (by decide +kernel)]; kernel_rfl) | (rw [if_neg (by decide +kernel)]; exact ⟨rfl, rfl⟩))
    (fun os started H enc _ => lifted os started H enc)

/-- the given statement -/
theorem proved : Rows.ItemOrderSaid := over
#print axioms proved
end Go.Proofs.Ytnjkkhfaggkgjaa.itemOrder
