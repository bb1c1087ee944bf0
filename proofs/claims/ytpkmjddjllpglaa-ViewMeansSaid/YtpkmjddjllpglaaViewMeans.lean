/-
  For any items, any two texts and any number the law ViewMeans answers true: a field hangs on its key's items alone, in whatever order they stand. No condition.
  (The frame was written by the guide's proof-skeleton.mjs, turned for slices of items and for fields; the walk is ours.)
-/
import Derived.Test.YtpkmjddjllpglaaRows
import Derived.WalkKit
import Derived.ProofKit
import Derived.OpenShut
import Derived.ShutString
import Derived.ChangeOld
import Derived.Below
import Derived.Test.YtpkmjddjllpglaaVwAny
namespace Go.Proofs.Ytpkmjddjllpglaa.viewMeans
open Go.ChangeShapes Go.WideShapes Go.ChangeAt Go.RowKit
open Go.ChangeMaps (open_string shut_string)
set_option linter.unusedVariables false

theorem own : ownKnob Try.prog.godebug = none := by kernel_rfl
theorem laidOut : laidOutB Try.prog = true := by kernel_rfl

open Plain

set_option maxRecDepth 100000 in
theorem open0 {H : Type} {enc : TypeId × Value → H} {W : World} {r : Reach} {b : Nat} {v : Value} {d : DataW H} {p : List MemPlace} (hv : Value.okWide Try.prog W r b 22 v) (h : DataW.Trod enc Try.prog W 0 (fun _ => true) true 22 v d p) : IsItems W v := items_of_trod hv h

set_option maxRecDepth 100000 in
set_option maxHeartbeats 16000000 in
theorem walk (v0 : Value) (t1 : ByteArray) (t2 : ByteArray) (x3 : Int) (w : World) (w0 : IsItems w v0) (w1 : t1.size ≤ maxLen) (w2 : t2.size ≤ maxLen) (w3 : (Lit.int .i64 x3).wf = true) :
    Calls Try.prog 4 #[v0, .string t1, .string t2, .int .i64 x3] w fun e w' => e = .returned (.bool true) ∧ Below w.heap.size w w' := by
  obtain ⟨l, s0, q0⟩ := w0
  have Q0 := Lib.hid q0
  have Sl := Lib.hid s0
  clear s0 q0
  obtain ⟨key, hx1⟩ : ∃ k, t1 = bt k := ⟨tx t1, rfl⟩
  subst hx1
  clear w1
  obtain ⟨field, hx2⟩ : ∃ k, t2 = bt k := ⟨tx t2, rfl⟩
  subst hx2
  clear w2
  have G := Lib.hid (Below.refl w.heap.size w)
  obtain ⟨an, cn, hvn, gn1, gn2, -, hn⟩ := Sl.out.parts
  subst hvn
  obtain ⟨n, en⟩ : ∃ n, l.length = n := ⟨_, rfl⟩
  replace Sl := Lib.hid hn
  rw [en] at Sl gn1 ⊢
  have Nn := Lib.hid en
  clear hn en
  go_enter Try.func4, Try.ntmps4
  go_wp2_with fail
  refine (awake_any _).mono ?_
  rintro e u2 ⟨rfl, hb⟩
  replace Sl := Lib.hid (Sl.out.below hb)
  replace G := Lib.hid (G.out.trans (hb.mono G.out.size))
  clear hb
  cases hA : shortI l with
  | false =>
    go_wp2_with fail
    refine (rshortIB Sl.out hA).mono ?_
    rintro e u3 ⟨rfl, hb⟩
    replace Sl := Lib.hid (Sl.out.below hb)
    replace G := Lib.hid (G.out.trans (hb.mono G.out.size))
    clear hb
    go_wp2_with fail
    go_ret
    exact ⟨rfl, G.out⟩
  | true =>
    go_wp2_with fail
    refine (rshortIB Sl.out hA).mono ?_
    rintro e u3 ⟨rfl, hb⟩
    replace Sl := Lib.hid (Sl.out.below hb)
    replace G := Lib.hid (G.out.trans (hb.mono G.out.size))
    clear hb
    have MX := Lib.hid (fitV_of hA Q0.out)
    clear hA
    have hn100 := MX.out.1
    rw [Nn.out] at hn100
    obtain ⟨r, hr, hrl⟩ : ∃ r : Nat, (0 < n → (IntKind.u64.wrap x3).tmod n = (r : Int)) ∧ (0 < n → r < n) := by
      by_cases h : 0 < n
      · obtain ⟨r, h1, h2⟩ := turn_rem x3 n h
        exact ⟨r, fun _ => h1, fun _ => h2⟩
      · exact ⟨0, fun k => absurd k h, fun k => absurd k h⟩
    have HR := Lib.hid hr
    have HRL := Lib.hid hrl
    have MT := Lib.hid (fitV_turned MX.out r)
    have MO := Lib.hid (fitV_of_key MX.out key)
    have HVT := Lib.hid (vfield_turned l r key field)
    have HVO := Lib.hid (vfield_of l key field)
    have HFT := Lib.hid (vfields_turned l r key)
    have HTN : Hid (∀ k, k < n → (turned l r).take (k + 1) = (turned l r).take k ++ [l.getD ((k + r) % n) default]) := Lib.hid (fun k hk => by
      have := turned_next l r k (by rw [Nn.out]; exact hrl (by omega)) (by rw [Nn.out]; exact hk)
      rw [Nn.out] at this
      exact this)
    have HTL : Hid (∀ k, ((turned l r).take k).length ≤ 100) := Lib.hid (fun k => by have h1 := turned_len l r; rw [Nn.out] at h1; rw [List.length_take]; omega)
    have HTA : Hid ((turned l r).take n = turned l r) := Lib.hid (List.take_of_length_le (by rw [turned_len, Nn.out]; exact Nat.le_refl _))
    have HT0 : Hid ((turned l r).take 0 = []) := Lib.hid rfl
    clear hr hrl
    generalize turned l r = T at *
    obtain ⟨P, hP⟩ : ∃ P : Nat → List PItem, (fun k => T.take k) = P := ⟨_, rfl⟩
    have HP : Hid (∀ k, T.take k = P k) := Lib.hid (fun k => congrFun hP k)
    clear hP
    go_wp2_with fail
    go_loopw [9, 10] (fun z i wr => ∃ k : Nat, k ≤ n ∧ i = .int .i64 k ∧ OwnE LItem u3.heap.size wr z (P k) ∧ Below u3.heap.size u3 wr) (fun _ i _ => n - (intOf i).toNat)
    case atStart => exact ⟨0, Nat.zero_le _, rfl, by rw [← HP.out, HT0.out]; exact OwnE.nil _ _, Below.refl _ _⟩
    case round =>
      obtain ⟨k, hk, rfl, ho, hb⟩ := hrel
      have HO := Lib.hid ho
      have HB := Lib.hid hb
      clear ho hb
      by_cases hlt : k < n
      · have hr := HR.out (by omega)
        have hmod : (k + r) % n < n := Nat.mod_lt _ (by omega)
        obtain ⟨b, o, c, hv, -, -, -, hc⟩ := items_spot (Sl.out.below HB.out) (by rw [Nn.out]; omega)
        rw [Nn.out] at hv
        simp only [Value.slice.injEq] at hv
        obtain ⟨rfl, -, rfl⟩ := hv
        obtain ⟨c0, c1, c2, c3, c4, c5, c6, c7⟩ := hc ((k + r) % n) (by rw [Nn.out]; exact hmod)
        have HNX : Hid (P (k + 1) = P k ++ [l.getD ((k + r) % n) default]) := Lib.hid (by rw [← HP.out, ← HP.out]; exact HTN.out k hlt)
        have HLK : Hid ((P k).length ≤ 100) := Lib.hid (by rw [← HP.out]; exact HTL.out k)
        have X1 := Lib.hid (fun (W : World) => one_item W (l.getD ((k + r) % n) default))
        clear hc
        generalize l.getD ((k + r) % n) default = x at *
        have hi1 : 0 ≤ ((k : Int) + r) % n := Int.emod_nonneg _ (by omega)
        have hi2 : ((k : Int) + r) % n < n := Int.emod_lt_of_pos _ (by omega)
        have hrn : (r : Int) < n := by have := HRL.out (by omega); omega
        go_wp2_with (at_builtin; refine wpList_append_el LItem rfl (.tmp 23) (.tmp 39) rfl u3.heap.size rfl (HO.out.alloc _) rfl (X1.out _) (fun _ _ h => h) (by have := HLK.out; simp at *; omega) (by have := HB.out.size; simp; omega) ?_)
        intro v' w1 ho' hgr _
        have O2 := Lib.hid ho'
        have G2 : Hid (Below u3.heap.size u3 w1) := Lib.hid ((HB.out.alloc HB.out.size _).grown hgr (by have := HB.out.size; simp; omega) (fun j hj => (HO.out.lt j hj).1))
        rw [← HNX.out] at O2
        clear ho' hgr c0 c1 c2 c3 c4 c5 c6 c7 hr
        go_wp2_with fail
        go_roundw
        case rel => exact ⟨k + 1, by omega, by go_num, O2.out, G2.out⟩
        case measure => simp [intOf]; omega
      · obtain rfl : k = n := by omega
        have HO2 : Hid (SeqE LItem wr _ T) := Lib.hid (by have := HO.out.seq; rw [← HP.out, HTA.out] at this; exact this)
        clear HTN HTL HT0 HTA HP HR HRL
        replace Sl := Lib.hid (Sl.out.below HB.out)
        replace G := Lib.hid (G.out.trans (HB.out.mono G.out.size))
        have K0 := vfieldS key field Sl.out MX.out
        have K6 := Lib.hid (fun (W : World) (v : Value) (h : SeqE LItem W v l) => vfieldsS key h MX.out)
        generalize vfield l key field = p at *
        generalize vfields l key = F at *
        obtain ⟨aT, cT, hvT, -, -, -, hsT⟩ := HO2.out.parts
        subst hvT
        replace HO2 := Lib.hid hsT
        clear hsT HO
        generalize T.length = nT at *
        go_wp2_with fail
        refine K0.mono ?_
        rintro e w2 ⟨v2, rfl, hv2, hb⟩
        have G2 := Lib.hid (G.out.trans (hb.mono G.out.size))
        have Sl2 := Lib.hid (Sl.out.below hb)
        have ST2 := Lib.hid (HO2.out.below hb)
        clear hb K0 G Sl HO2
        obtain ⟨b1, n1, c1, b2, n2, c2, hv', s1, s2⟩ := hv2
        have IV : Hid (∀ W, Below w2.heap.size w2 W → IsVal W (.agg #[.slice b1 n1 c1, .slice b2 n2 c2, .int .i64 p.total, .bool p.over]) p) := Lib.hid (fun W h => ⟨b1, n1, c1, b2, n2, c2, rfl, s1.below h, s2.below h⟩)
        subst hv'
        clear s1 s2
        generalize p.total = pt at *
        generalize p.over = po at *
        have B3 := (Below.refl w2.heap.size w2).alloc (Nat.le_refl _) (.cells #[.slice b1 n1 c1, .slice b2 n2 c2, .int .i64 pt, .bool po] 25)
        have C3 : Hid (∀ W, Below (w2.alloc (.cells #[.slice b1 n1 c1, .slice b2 n2 c2, .int .i64 pt, .bool po] 25)).heap.size (w2.alloc (.cells #[.slice b1 n1 c1, .slice b2 n2 c2, .int .i64 pt, .bool po] 25)) W → (W.cell? ⟨w2.heap.size, 0, none⟩ = some (.slice b1 n1 c1) ∧ W.cell? ⟨w2.heap.size, 1, none⟩ = some (.slice b2 n2 c2) ∧ W.cell? ⟨w2.heap.size, 2, none⟩ = some (.int .i64 pt) ∧ W.cell? ⟨w2.heap.size, 3, none⟩ = some (.bool po))) := Lib.hid (fun W hb => by
          have c : ∀ {a : Addr} {v : Value}, (w2.alloc (.cells #[.slice b1 n1 c1, .slice b2 n2 c2, .int .i64 pt, .bool po] 25)).cell? a = some v → W.cell? a = some v := fun g => (hb.cell (World.block_lt_of_cell? _ _ g)).trans g
          exact ⟨c (World.cell?_alloc_new w2 _ _ 0), c (World.cell?_alloc_new w2 _ _ 1), c (World.cell?_alloc_new w2 _ _ 2), c (World.cell?_alloc_new w2 _ _ 3)⟩)
        have G3 : Hid (Below w.heap.size w (w2.alloc (.cells #[.slice b1 n1 c1, .slice b2 n2 c2, .int .i64 pt, .bool po] 25))) := Lib.hid (G2.out.trans (B3.mono G2.out.size))
        have H3 : Hid (Below w2.heap.size w2 (w2.alloc (.cells #[.slice b1 n1 c1, .slice b2 n2 c2, .int .i64 pt, .bool po] 25))) := Lib.hid B3
        clear B3
        go_upto_region 11 with fail
        generalize (w2.alloc (.cells #[.slice b1 n1 c1, .slice b2 n2 c2, .int .i64 pt, .bool po] 25)) = w3 at *
        have SL3 := Lib.hid (Sl2.out.below H3.out)
        have ST3 := Lib.hid (ST2.out.below H3.out)
        have IV3 : Hid (∀ W, Below w3.heap.size w3 W → IsVal W (.agg #[.slice b1 n1 c1, .slice b2 n2 c2, .int .i64 pt, .bool po]) p) := Lib.hid (fun W h => IV.out W (H3.out.trans (h.mono H3.out.size)))
        have KE : Hid (∀ u, Below w3.heap.size w3 u → Below w3.heap.size w3 u ∧ (u.cell? ⟨w2.heap.size, 0, none⟩ = some (.slice b1 n1 c1) ∧ u.cell? ⟨w2.heap.size, 1, none⟩ = some (.slice b2 n2 c2) ∧ u.cell? ⟨w2.heap.size, 2, none⟩ = some (.int .i64 pt) ∧ u.cell? ⟨w2.heap.size, 3, none⟩ = some (.bool po))) := Lib.hid (fun u hu => ⟨hu, C3.out u hu⟩)
        have K1 := Lib.hid (fun (W : World) (h : Below w3.heap.size w3 W) => (vfieldS key field (ST3.out.below h) MT.out : Calls _ _ _ W _))
        rw [HVT.out] at K1
        have K3 := Lib.hid (fun (W : World) (h : Below w3.heap.size w3 W) => iofG (s := key) (SL3.out.below h) MX.out)
        have K4 := Lib.hid (fun (W : World) (v : Value) (h : SeqE LItem W v (iof l key)) => vfieldS key field h MO.out)
        rw [HVO.out] at K4
        have K7 := Lib.hid (fun (W : World) (h : Below w3.heap.size w3 W) => vfieldsS key (ST3.out.below h) MT.out)
        rw [HFT.out] at K7
        go_region_held3 (fun u => Below w3.heap.size w3 u ∧ (u.cell? ⟨w2.heap.size, 0, none⟩ = some (.slice b1 n1 c1) ∧ u.cell? ⟨w2.heap.size, 1, none⟩ = some (.slice b2 n2 c2) ∧ u.cell? ⟨w2.heap.size, 2, none⟩ = some (.int .i64 pt) ∧ u.cell? ⟨w2.heap.size, 3, none⟩ = some (.bool po)))
          (first | (exact KE.out _ (Below.refl _ _).drew) | (exact KE.out _ (holdC (by assumption) hb)))
          (first
            | (go_at_call 11; (with_reducible refine (K1.out _ (by assumption : _ ∧ _).1).mono ?_); rintro e s1 ⟨y1, rfl, hy1, hb⟩)
            | (go_at_call 17; (with_reducible refine (vsameB (IV3.out _ (by assumption : _ ∧ _).1) hy1 (decide_eq_true rfl)).mono ?_); rintro e s2 ⟨rfl, hb⟩)
            | (go_at_call 20; (with_reducible refine (K3.out _ (by assumption : _ ∧ _).1).mono ?_); rintro e s3 ⟨y3, rfl, hy3, hb⟩)
            | (go_at_call 11; (with_reducible refine (K4.out _ _ hy3).mono ?_); rintro e s4 ⟨y4, rfl, hy4, hb⟩)
            | (go_at_call 17; (with_reducible refine (vsameB (IV3.out _ (by assumption : _ ∧ _).1) hy4 (decide_eq_true rfl)).mono ?_); rintro e s5 ⟨rfl, hb⟩)
            | (go_at_call 15; (with_reducible refine (K6.out _ _ (SL3.out.below (by assumption : _ ∧ _).1)).mono ?_); rintro e s6 ⟨y6, rfl, hy6, hb⟩)
            | (go_at_call 15; (with_reducible refine (K7.out _ (by assumption : _ ∧ _).1).mono ?_); rintro e s7 ⟨y7, rfl, hy7, hb⟩)
            | (go_at_call 14; (with_reducible refine (rsameTB (hy6.below hb) hy7 (decide_eq_true rfl)).mono ?_); rintro e s8 ⟨rfl, hb⟩))
        go_wp2_with fail
        have HH := (by assumption : _ ∧ _)
        go_ret
        exact ⟨rfl, G3.out.trans (HH.1.mono G3.out.size)⟩

set_option maxRecDepth 100000 in
theorem lifted (os : Os) (started : os.Started) (H : Type) (enc : TypeId × Value → H) :
    ReturnsInHanded {} Try.checked os 4 .any (Rows.viewMeansSpec.pre6 enc Try.prog Try.f4 Rows.viewMeansRow.domain false) (Rows.viewMeansSpec.post enc Try.prog Try.f4 false true false false) := by
  refine returnsInHanded_of_change (C := Try.checked) own started (by kernel_rfl) Try.func4
    (ChangeSpec.witness6 (enc := enc) (C := Try.checked) false ⟨#[], #[.slice none 0 0, .string ByteArray.empty, .string ByteArray.empty, .int .i64 0], []⟩ 8 (by kernel_rfl) (by kernel_rfl) (by kernel_rfl) (by kernel_rfl)) ?_
  intro W base args ds gs before hval0 hW hcnd _
  have hval : ∀ (j : Nat) t v, Try.f4.params[j]? = some t → args[j]? = some v → Value.okWide Try.prog W .any base t v := hval0
  have hW' := hW
  obtain ⟨p, q, hA0, hV, rfl, hfz, hnd⟩ := hW
  have hA : DataW.TrodAll enc Try.prog W 0 (fun _ => true) true Try.f4.params.toList args.toList ds p := hA0
  rw [Try.params4] at hA hval
  obtain ⟨v0, vs0, d0, ds0, p0, q0, hargs, rfl, rfl, h0, r0⟩ := trodAll_cons hA
  obtain ⟨v1, vs1, d1, ds1, p1, q1, rfl, rfl, rfl, h1, r1⟩ := trodAll_cons r0
  obtain ⟨v2, vs2, d2, ds2, p2, q2, rfl, rfl, rfl, h2, r2⟩ := trodAll_cons r1
  obtain ⟨v3, vs3, d3, ds3, p3, q3, rfl, rfl, rfl, h3, r3⟩ := trodAll_cons r2
  obtain ⟨rfl, rfl, rfl⟩ := trodAll_nil r3
  obtain rfl : args = #[v0, v1, v2, v3] := by cases args; simp_all
  obtain ⟨rfl, rfl⟩ := trodVars_none hV
  have k0 := h0
  have lt0 : ∀ x ∈ p0, x.block < W.heap.size := by obtain ⟨m, hm⟩ := k0; exact DataW.trod_lt m _ _ _ hm
  have w0 := open0 (hval 0 22 v0 rfl rfl) h0
  obtain ⟨a1, rfl, rfl, rfl, w1⟩ := open_string Try.underlying9 (hval 1 9 v1 rfl rfl) h1
  obtain ⟨a2, rfl, rfl, rfl, w2⟩ := open_string Try.underlying9 (hval 2 9 v2 rfl rfl) h2
  obtain ⟨a3, rfl, rfl, rfl, w3⟩ := open_int Try.underlying3 (hval 3 3 v3 rfl rfl) h3
  clear hA0 hval0
  refine (walk v0 a1 a2 a3 W w0 w1 w2 w3).mono fun e W' ⟨he, bel⟩ => ?_
  subst he
  exact ⟨_, rfl, _, _, _, [], _, [], hW', trodAll_mk1 (shut_bool Try.underlying4 _), (trodAll_cons_mk (Below.trod laidOut (by kernel_rfl) (of_decide_eq_true (by kernel_rfl)) k0 bel lt0) (trodAll_cons_mk (shut_string Try.underlying9 w1) (trodAll_cons_mk (shut_string Try.underlying9 w2) (trodAll_cons_mk (shut_int Try.underlying3 w3) trodAll_mk0)))), rfl, bel.frame _, fun h => by cases h⟩

theorem over : Rows.viewMeansRow.holds Try.pinned (OpenSpec.ofChange Rows.viewMeansSpec) :=
  OpenClaim.holds_of_wide 4 Try.f4 rfl rfl rfl rfl rfl rfl rfl ⟨rfl, rfl, rfl, rfl, rfl⟩ rfl rfl rfl rfl rfl (by kernel_rfl) Try.func4 (by kernel_rfl)
    (of_decide_eq_true (by kernel_rfl)) (by unfold Func.isWrapper; first | (rw [if_pos (by decide +kernel)]; kernel_rfl) | (rw [if_neg (by decide +kernel)]; exact ⟨rfl, rfl⟩))
    (fun os started H enc _ => lifted os started H enc)

/-- the given statement -/
theorem proved : Rows.ViewMeansSaid := over
#print axioms proved
end Go.Proofs.Ytpkmjddjllpglaa.viewMeans
