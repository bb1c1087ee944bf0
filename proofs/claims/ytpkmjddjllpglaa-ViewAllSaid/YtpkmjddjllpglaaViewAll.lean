/-
  For any items, any two texts and any two fields the law ViewAll answers true: any items' fields are the document's; any two fields are held against each other as it says. No condition.
  (The frame was written by the guide's proof-skeleton.mjs, turned for slices of items and for fields; the walk is ours.)
-/
import Derived.Test.YtpkmjddjllpglaaRows
import Derived.WalkKit
import Derived.ProofKit
import Derived.OpenShut
import Derived.ShutString
import Derived.ChangeOld
import Derived.Below
import Derived.Test.YtpkmjddjllpglaaVwAny
namespace Go.Proofs.Ytpkmjddjllpglaa.viewAll
open Go.ChangeShapes Go.WideShapes Go.ChangeAt Go.RowKit
open Go.ChangeMaps (open_string shut_string)
set_option linter.unusedVariables false

theorem own : ownKnob Try.prog.godebug = none := by kernel_rfl
theorem laidOut : laidOutB Try.prog = true := by kernel_rfl

open Plain

set_option maxRecDepth 100000 in
theorem open0 {H : Type} {enc : TypeId × Value → H} {W : World} {r : Reach} {b : Nat} {v : Value} {d : DataW H} {p : List MemPlace} (hv : Value.okWide Try.prog W r b 22 v) (h : DataW.Trod enc Try.prog W 0 (fun _ => true) true 22 v d p) : IsItems W v := items_of_trod hv h
set_option maxRecDepth 100000 in
theorem open3 {H : Type} {enc : TypeId × Value → H} {W : World} {r : Reach} {b : Nat} {v : Value} {d : DataW H} {p : List MemPlace} (hv : Value.okWide Try.prog W r b 25 v) (h : DataW.Trod enc Try.prog W 0 (fun _ => true) true 25 v d p) : IsValA W v := val_of_trod hv h
set_option maxRecDepth 100000 in
theorem open4 {H : Type} {enc : TypeId × Value → H} {W : World} {r : Reach} {b : Nat} {v : Value} {d : DataW H} {p : List MemPlace} (hv : Value.okWide Try.prog W r b 25 v) (h : DataW.Trod enc Try.prog W 0 (fun _ => true) true 25 v d p) : IsValA W v := val_of_trod hv h

set_option maxRecDepth 100000 in
set_option maxHeartbeats 16000000 in
theorem walk (v0 : Value) (t1 : ByteArray) (t2 : ByteArray) (v3 : Value) (v4 : Value) (w : World) (w0 : IsItems w v0) (w1 : t1.size ≤ maxLen) (w2 : t2.size ≤ maxLen) (w3 : IsValA w v3) (w4 : IsValA w v4) :
    Calls Try.prog 3 #[v0, .string t1, .string t2, v3, v4] w fun e w' => e = .returned (.bool true) ∧ Below w.heap.size w w' := by
  obtain ⟨l, s0, q0⟩ := w0
  have Q0 := Lib.hid q0
  have Sl := Lib.hid s0
  clear s0 q0
  obtain ⟨key, hx1⟩ : ∃ k, t1 = bt k := ⟨tx t1, rfl⟩
  subst hx1
  clear w1
  obtain ⟨field, hx2⟩ : ∃ k, t2 = bt k := ⟨tx t2, rfl⟩
  subst hx2
  clear w2
  obtain ⟨p, hp⟩ := w3
  obtain ⟨q, hq⟩ := w4
  have IA := Lib.hid hp
  have IB := Lib.hid hq
  clear hp hq
  have G0 := Lib.hid (Below.refl w.heap.size w)
  obtain ⟨an, cn, hvn, gn1, gn2, -, hn⟩ := Sl.out.parts
  subst hvn
  obtain ⟨n, en⟩ : ∃ n, l.length = n := ⟨_, rfl⟩
  replace Sl := Lib.hid hn
  rw [en] at Sl gn1 ⊢
  have Nn := Lib.hid en
  clear hn en
  obtain ⟨a1, n1, c1, a2, n2, c2, hv3, sa1, sa2⟩ := IA.out
  obtain ⟨b1, m1, d1, b2, m2, d2, hv4, sb1, sb2⟩ := IB.out
  subst hv3
  subst hv4
  have CB := Lib.hid (vboxes_new w a1 n1 c1 a2 n2 c2 p b1 m1 d1 b2 m2 d2 q)
  have G : Hid (Below w.heap.size w ((w.alloc (.cells #[.slice a1 n1 c1, .slice a2 n2 c2, .int .i64 p.total, .bool p.over] 25)).alloc (.cells #[.slice b1 m1 d1, .slice b2 m2 d2, .int .i64 q.total, .bool q.over] 25))) := Lib.hid (((Below.refl _ _).alloc (Nat.le_refl _) _).alloc (by simp) _)
  replace Sl := Lib.hid (Sl.out.below G.out)
  have SA1 := Lib.hid (sa1.below G.out)
  have SA2 := Lib.hid (sa2.below G.out)
  have SB1 := Lib.hid (sb1.below G.out)
  have SB2 := Lib.hid (sb2.below G.out)
  clear sa1 sa2 sb1 sb2 G0
  replace IA := Lib.hid (IA.out.below G.out)
  replace IB := Lib.hid (IB.out.below G.out)
  go_enter Try.func3, Try.ntmps3
  go_upto_region 1 with fail
  generalize ((w.alloc (.cells #[.slice a1 n1 c1, .slice a2 n2 c2, .int .i64 p.total, .bool p.over] 25)).alloc (.cells #[.slice b1 m1 d1, .slice b2 m2 d2, .int .i64 q.total, .bool q.over] 25)) = wB at *
  go_wp2_with fail
  refine (awake_any _).mono ?_
  rintro e u2 ⟨rfl, hb⟩
  replace Sl := Lib.hid (Sl.out.below hb)
  replace CB := Lib.hid (CB.out.below hb)
  replace SA1 := Lib.hid (SA1.out.below hb)
  replace SA2 := Lib.hid (SA2.out.below hb)
  replace SB1 := Lib.hid (SB1.out.below hb)
  replace SB2 := Lib.hid (SB2.out.below hb)
  replace IA := Lib.hid (IA.out.below hb)
  replace IB := Lib.hid (IB.out.below hb)
  replace G := Lib.hid (G.out.trans (hb.mono G.out.size))
  clear hb
  cases hA : shortI l with
  | false =>
    obtain ⟨⟨x0, x1, x2, x3⟩, ⟨y0, y1, y2, y3⟩⟩ := CB.out
    go_wp2_with fail
    refine (rshortIB Sl.out hA).mono ?_
    rintro e u3 ⟨rfl, hb⟩
    replace Sl := Lib.hid (Sl.out.below hb)
    replace CB := Lib.hid (CB.out.below hb)
    replace SA1 := Lib.hid (SA1.out.below hb)
    replace SA2 := Lib.hid (SA2.out.below hb)
    replace SB1 := Lib.hid (SB1.out.below hb)
    replace SB2 := Lib.hid (SB2.out.below hb)
    replace IA := Lib.hid (IA.out.below hb)
    replace IB := Lib.hid (IB.out.below hb)
    replace G := Lib.hid (G.out.trans (hb.mono G.out.size))
    clear hb
    clear x0 x1 x2 x3 y0 y1 y2 y3
    go_wp2_with fail
    go_ret
    exact ⟨rfl, G.out⟩
  | true =>
    obtain ⟨⟨x0, x1, x2, x3⟩, ⟨y0, y1, y2, y3⟩⟩ := CB.out
    go_wp2_with fail
    refine (rshortIB Sl.out hA).mono ?_
    rintro e u3 ⟨rfl, hb⟩
    replace Sl := Lib.hid (Sl.out.below hb)
    replace CB := Lib.hid (CB.out.below hb)
    replace SA1 := Lib.hid (SA1.out.below hb)
    replace SA2 := Lib.hid (SA2.out.below hb)
    replace SB1 := Lib.hid (SB1.out.below hb)
    replace SB2 := Lib.hid (SB2.out.below hb)
    replace IA := Lib.hid (IA.out.below hb)
    replace IB := Lib.hid (IB.out.below hb)
    replace G := Lib.hid (G.out.trans (hb.mono G.out.size))
    clear hb
    clear x0 x1 x2 x3 y0 y1 y2 y3
    have MX := Lib.hid (fitV_of hA Q0.out)
    clear hA
    cases hA : shortB p.elems with
    | false =>
      obtain ⟨⟨x0, x1, x2, x3⟩, ⟨y0, y1, y2, y3⟩⟩ := CB.out
      go_wp2_with fail
      refine (rshortTB SA1.out hA).mono ?_
      rintro e u4 ⟨rfl, hb⟩
      replace Sl := Lib.hid (Sl.out.below hb)
      replace CB := Lib.hid (CB.out.below hb)
      replace SA1 := Lib.hid (SA1.out.below hb)
      replace SA2 := Lib.hid (SA2.out.below hb)
      replace SB1 := Lib.hid (SB1.out.below hb)
      replace SB2 := Lib.hid (SB2.out.below hb)
      replace IA := Lib.hid (IA.out.below hb)
      replace IB := Lib.hid (IB.out.below hb)
      replace G := Lib.hid (G.out.trans (hb.mono G.out.size))
      clear hb
      clear x0 x1 x2 x3 y0 y1 y2 y3
      go_wp2_with fail
      go_ret
      exact ⟨rfl, G.out⟩
    | true =>
      obtain ⟨⟨x0, x1, x2, x3⟩, ⟨y0, y1, y2, y3⟩⟩ := CB.out
      go_wp2_with fail
      refine (rshortTB SA1.out hA).mono ?_
      rintro e u4 ⟨rfl, hb⟩
      replace Sl := Lib.hid (Sl.out.below hb)
      replace CB := Lib.hid (CB.out.below hb)
      replace SA1 := Lib.hid (SA1.out.below hb)
      replace SA2 := Lib.hid (SA2.out.below hb)
      replace SB1 := Lib.hid (SB1.out.below hb)
      replace SB2 := Lib.hid (SB2.out.below hb)
      replace IA := Lib.hid (IA.out.below hb)
      replace IB := Lib.hid (IB.out.below hb)
      replace G := Lib.hid (G.out.trans (hb.mono G.out.size))
      clear hb
      clear x0 x1 x2 x3 y0 y1 y2 y3
      clear hA
      cases hA : shortB p.regs with
      | false =>
        obtain ⟨⟨x0, x1, x2, x3⟩, ⟨y0, y1, y2, y3⟩⟩ := CB.out
        go_wp2_with fail
        refine (rshortTB SA2.out hA).mono ?_
        rintro e u5 ⟨rfl, hb⟩
        replace Sl := Lib.hid (Sl.out.below hb)
        replace CB := Lib.hid (CB.out.below hb)
        replace SA1 := Lib.hid (SA1.out.below hb)
        replace SA2 := Lib.hid (SA2.out.below hb)
        replace SB1 := Lib.hid (SB1.out.below hb)
        replace SB2 := Lib.hid (SB2.out.below hb)
        replace IA := Lib.hid (IA.out.below hb)
        replace IB := Lib.hid (IB.out.below hb)
        replace G := Lib.hid (G.out.trans (hb.mono G.out.size))
        clear hb
        clear x0 x1 x2 x3 y0 y1 y2 y3
        go_wp2_with fail
        go_ret
        exact ⟨rfl, G.out⟩
      | true =>
        obtain ⟨⟨x0, x1, x2, x3⟩, ⟨y0, y1, y2, y3⟩⟩ := CB.out
        go_wp2_with fail
        refine (rshortTB SA2.out hA).mono ?_
        rintro e u5 ⟨rfl, hb⟩
        replace Sl := Lib.hid (Sl.out.below hb)
        replace CB := Lib.hid (CB.out.below hb)
        replace SA1 := Lib.hid (SA1.out.below hb)
        replace SA2 := Lib.hid (SA2.out.below hb)
        replace SB1 := Lib.hid (SB1.out.below hb)
        replace SB2 := Lib.hid (SB2.out.below hb)
        replace IA := Lib.hid (IA.out.below hb)
        replace IB := Lib.hid (IB.out.below hb)
        replace G := Lib.hid (G.out.trans (hb.mono G.out.size))
        clear hb
        clear x0 x1 x2 x3 y0 y1 y2 y3
        clear hA
        cases hA : shortB q.elems with
        | false =>
          obtain ⟨⟨x0, x1, x2, x3⟩, ⟨y0, y1, y2, y3⟩⟩ := CB.out
          go_wp2_with fail
          refine (rshortTB SB1.out hA).mono ?_
          rintro e u6 ⟨rfl, hb⟩
          replace Sl := Lib.hid (Sl.out.below hb)
          replace CB := Lib.hid (CB.out.below hb)
          replace SA1 := Lib.hid (SA1.out.below hb)
          replace SA2 := Lib.hid (SA2.out.below hb)
          replace SB1 := Lib.hid (SB1.out.below hb)
          replace SB2 := Lib.hid (SB2.out.below hb)
          replace IA := Lib.hid (IA.out.below hb)
          replace IB := Lib.hid (IB.out.below hb)
          replace G := Lib.hid (G.out.trans (hb.mono G.out.size))
          clear hb
          clear x0 x1 x2 x3 y0 y1 y2 y3
          go_wp2_with fail
          go_ret
          exact ⟨rfl, G.out⟩
        | true =>
          obtain ⟨⟨x0, x1, x2, x3⟩, ⟨y0, y1, y2, y3⟩⟩ := CB.out
          go_wp2_with fail
          refine (rshortTB SB1.out hA).mono ?_
          rintro e u6 ⟨rfl, hb⟩
          replace Sl := Lib.hid (Sl.out.below hb)
          replace CB := Lib.hid (CB.out.below hb)
          replace SA1 := Lib.hid (SA1.out.below hb)
          replace SA2 := Lib.hid (SA2.out.below hb)
          replace SB1 := Lib.hid (SB1.out.below hb)
          replace SB2 := Lib.hid (SB2.out.below hb)
          replace IA := Lib.hid (IA.out.below hb)
          replace IB := Lib.hid (IB.out.below hb)
          replace G := Lib.hid (G.out.trans (hb.mono G.out.size))
          clear hb
          clear x0 x1 x2 x3 y0 y1 y2 y3
          clear hA
          cases hA : shortB q.regs with
          | false =>
            obtain ⟨⟨x0, x1, x2, x3⟩, ⟨y0, y1, y2, y3⟩⟩ := CB.out
            go_wp2_with fail
            refine (rshortTB SB2.out hA).mono ?_
            rintro e u7 ⟨rfl, hb⟩
            replace Sl := Lib.hid (Sl.out.below hb)
            replace CB := Lib.hid (CB.out.below hb)
            replace SA1 := Lib.hid (SA1.out.below hb)
            replace SA2 := Lib.hid (SA2.out.below hb)
            replace SB1 := Lib.hid (SB1.out.below hb)
            replace SB2 := Lib.hid (SB2.out.below hb)
            replace IA := Lib.hid (IA.out.below hb)
            replace IB := Lib.hid (IB.out.below hb)
            replace G := Lib.hid (G.out.trans (hb.mono G.out.size))
            clear hb
            clear x0 x1 x2 x3 y0 y1 y2 y3
            go_wp2_with fail
            go_ret
            exact ⟨rfl, G.out⟩
          | true =>
            obtain ⟨⟨x0, x1, x2, x3⟩, ⟨y0, y1, y2, y3⟩⟩ := CB.out
            go_wp2_with fail
            refine (rshortTB SB2.out hA).mono ?_
            rintro e u7 ⟨rfl, hb⟩
            replace Sl := Lib.hid (Sl.out.below hb)
            replace CB := Lib.hid (CB.out.below hb)
            replace SA1 := Lib.hid (SA1.out.below hb)
            replace SA2 := Lib.hid (SA2.out.below hb)
            replace SB1 := Lib.hid (SB1.out.below hb)
            replace SB2 := Lib.hid (SB2.out.below hb)
            replace IA := Lib.hid (IA.out.below hb)
            replace IB := Lib.hid (IB.out.below hb)
            replace G := Lib.hid (G.out.trans (hb.mono G.out.size))
            clear hb
            clear x0 x1 x2 x3 y0 y1 y2 y3
            clear hA
            go_wp2_with fail
            refine (rcopyG Sl.out MX.out).mono ?_
            rintro e u8 ⟨v8, rfl, hs, hb⟩
            replace Sl := Lib.hid (Sl.out.below hb)
            replace CB := Lib.hid (CB.out.below hb)
            replace SA1 := Lib.hid (SA1.out.below hb)
            replace SA2 := Lib.hid (SA2.out.below hb)
            replace SB1 := Lib.hid (SB1.out.below hb)
            replace SB2 := Lib.hid (SB2.out.below hb)
            replace IA := Lib.hid (IA.out.below hb)
            replace IB := Lib.hid (IB.out.below hb)
            replace G := Lib.hid (G.out.trans (hb.mono G.out.size))
            have Sm := Lib.hid hs
            obtain ⟨am, cm, hvm, -, -, -, -⟩ := Sm.out.parts
            subst hvm
            clear hs hb
            have K0 := vfieldS key field Sm.out MX.out
            have K1a := Lib.hid (fun (W : World) (v : Value) (h : SeqE LItem W v l) => rvfield_any key field h (by have := MX.out.1; omega) MX.out.2)
            have K3a := Lib.hid (fun (W : World) (v : Value) (h : SeqE LItem W v l) => vfieldsS key h MX.out)
            have K4a := Lib.hid (fun (W : World) (v : Value) (h : SeqE LItem W v l) => rvfields_any key h (by have := MX.out.1; omega))
            generalize vfield l key field = P at *
            generalize vfields l key = F at *
            go_wp2_with fail
            refine K0.mono ?_
            rintro e w2 ⟨v2, rfl, hv2, hb⟩
            replace Sl := Lib.hid (Sl.out.below hb)
            replace CB := Lib.hid (CB.out.below hb)
            replace SA1 := Lib.hid (SA1.out.below hb)
            replace SA2 := Lib.hid (SA2.out.below hb)
            replace SB1 := Lib.hid (SB1.out.below hb)
            replace SB2 := Lib.hid (SB2.out.below hb)
            replace IA := Lib.hid (IA.out.below hb)
            replace IB := Lib.hid (IB.out.below hb)
            replace Sm := Lib.hid (Sm.out.below hb)
            replace G := Lib.hid (G.out.trans (hb.mono G.out.size))
            clear hb K0 SA1 SA2 SB1 SB2
            obtain ⟨e1, k1, f1, e2, k2, f2, hv', s1, s2⟩ := hv2
            have IV : Hid (∀ W, Below w2.heap.size w2 W → IsVal W (.agg #[.slice e1 k1 f1, .slice e2 k2 f2, .int .i64 P.total, .bool P.over]) P) := Lib.hid (fun W h => ⟨e1, k1, f1, e2, k2, f2, rfl, s1.below h, s2.below h⟩)
            subst hv'
            clear s1 s2
            generalize P.total = pt at *
            generalize P.over = po at *
            have B3 := (Below.refl w2.heap.size w2).alloc (Nat.le_refl _) (.cells #[.slice e1 k1 f1, .slice e2 k2 f2, .int .i64 pt, .bool po] 25)
            have C3 : Hid (∀ W, Below (w2.alloc (.cells #[.slice e1 k1 f1, .slice e2 k2 f2, .int .i64 pt, .bool po] 25)).heap.size (w2.alloc (.cells #[.slice e1 k1 f1, .slice e2 k2 f2, .int .i64 pt, .bool po] 25)) W → (W.cell? ⟨w2.heap.size, 0, none⟩ = some (.slice e1 k1 f1) ∧ W.cell? ⟨w2.heap.size, 1, none⟩ = some (.slice e2 k2 f2) ∧ W.cell? ⟨w2.heap.size, 2, none⟩ = some (.int .i64 pt) ∧ W.cell? ⟨w2.heap.size, 3, none⟩ = some (.bool po))) := Lib.hid (fun W hb => by
              have c : ∀ {a : Addr} {v : Value}, (w2.alloc (.cells #[.slice e1 k1 f1, .slice e2 k2 f2, .int .i64 pt, .bool po] 25)).cell? a = some v → W.cell? a = some v := fun g => (hb.cell (World.block_lt_of_cell? _ _ g)).trans g
              exact ⟨c (World.cell?_alloc_new w2 _ _ 0), c (World.cell?_alloc_new w2 _ _ 1), c (World.cell?_alloc_new w2 _ _ 2), c (World.cell?_alloc_new w2 _ _ 3)⟩)
            replace G : Hid (Below w.heap.size w (w2.alloc (.cells #[.slice e1 k1 f1, .slice e2 k2 f2, .int .i64 pt, .bool po] 25))) := Lib.hid (G.out.trans (B3.mono G.out.size))
            replace CB := Lib.hid (CB.out.below B3)
            replace Sl := Lib.hid (Sl.out.below B3)
            replace Sm := Lib.hid (Sm.out.below B3)
            replace IA := Lib.hid (IA.out.below B3)
            replace IB := Lib.hid (IB.out.below B3)
            have IV3a := Lib.hid B3
            clear B3
            go_upto_region 7 with fail
            generalize (w2.alloc (.cells #[.slice e1 k1 f1, .slice e2 k2 f2, .int .i64 pt, .bool po] 25)) = w3 at *
            have IV3 : Hid (∀ W, Below w3.heap.size w3 W → IsVal W (.agg #[.slice e1 k1 f1, .slice e2 k2 f2, .int .i64 pt, .bool po]) P) := Lib.hid (fun W h => IV.out W (IV3a.out.trans (h.mono IV3a.out.size)))
            have KE : Hid (∀ u, Below w3.heap.size w3 u → Below w3.heap.size w3 u ∧ (u.cell? ⟨w.heap.size, 0, none⟩ = some (.slice a1 n1 c1) ∧ u.cell? ⟨w.heap.size, 1, none⟩ = some (.slice a2 n2 c2) ∧ u.cell? ⟨w.heap.size, 2, none⟩ = some (.int .i64 p.total) ∧ u.cell? ⟨w.heap.size, 3, none⟩ = some (.bool p.over)) ∧ (u.cell? ⟨w.heap.size + 1, 0, none⟩ = some (.slice b1 m1 d1) ∧ u.cell? ⟨w.heap.size + 1, 1, none⟩ = some (.slice b2 m2 d2) ∧ u.cell? ⟨w.heap.size + 1, 2, none⟩ = some (.int .i64 q.total) ∧ u.cell? ⟨w.heap.size + 1, 3, none⟩ = some (.bool q.over)) ∧ (u.cell? ⟨w2.heap.size, 0, none⟩ = some (.slice e1 k1 f1) ∧ u.cell? ⟨w2.heap.size, 1, none⟩ = some (.slice e2 k2 f2) ∧ u.cell? ⟨w2.heap.size, 2, none⟩ = some (.int .i64 pt) ∧ u.cell? ⟨w2.heap.size, 3, none⟩ = some (.bool po))) := Lib.hid (fun u hu => ⟨hu, (CB.out.below hu).x, (CB.out.below hu).y, C3.out u hu⟩)
            have K1 := Lib.hid (fun (W : World) (h : Below w3.heap.size w3 W) => K1a.out W _ (Sl.out.below h))
            have K3 := Lib.hid (fun (W : World) (h : Below w3.heap.size w3 W) => K3a.out W _ (Sm.out.below h))
            have K4 := Lib.hid (fun (W : World) (h : Below w3.heap.size w3 W) => K4a.out W _ (Sl.out.below h))
            have K6 := Lib.hid (fun (W : World) (h : Below w3.heap.size w3 W) => vsameB (IA.out.below h) (IB.out.below h) rfl)
            have K7 := Lib.hid (fun (W : World) (h : Below w3.heap.size w3 W) => rvsameB (IA.out.below h) (IB.out.below h) rfl)
            have K8 := Lib.hid (fun (W : World) (h : Below w3.heap.size w3 W) => vemptyB (IA.out.below h) rfl)
            have K9 : Hid (∀ W, Below w3.heap.size w3 W → Calls _ _ _ W (GivesB W (vempty p))) := Lib.hid (fun (W : World) (h : Below w3.heap.size w3 W) => rvsameB (IA.out.below h) (val_zero W) rfl)
            have K10 := Lib.hid (fun (W : World) (h : Below w3.heap.size w3 W) => rsameIR (Sm.out.below h) (Sl.out.below h) (decide_eq_true rfl))
            generalize decide (p = q) = rab at *
            generalize vempty p = rem at *
            generalize p.total = ptot at *
            generalize p.over = pov at *
            generalize q.total = qtot at *
            generalize q.over = qov at *
            go_region_held3 (fun u => Below w3.heap.size w3 u ∧ (u.cell? ⟨w.heap.size, 0, none⟩ = some (.slice a1 n1 c1) ∧ u.cell? ⟨w.heap.size, 1, none⟩ = some (.slice a2 n2 c2) ∧ u.cell? ⟨w.heap.size, 2, none⟩ = some (.int .i64 ptot) ∧ u.cell? ⟨w.heap.size, 3, none⟩ = some (.bool pov)) ∧ (u.cell? ⟨w.heap.size + 1, 0, none⟩ = some (.slice b1 m1 d1) ∧ u.cell? ⟨w.heap.size + 1, 1, none⟩ = some (.slice b2 m2 d2) ∧ u.cell? ⟨w.heap.size + 1, 2, none⟩ = some (.int .i64 qtot) ∧ u.cell? ⟨w.heap.size + 1, 3, none⟩ = some (.bool qov)) ∧ (u.cell? ⟨w2.heap.size, 0, none⟩ = some (.slice e1 k1 f1) ∧ u.cell? ⟨w2.heap.size, 1, none⟩ = some (.slice e2 k2 f2) ∧ u.cell? ⟨w2.heap.size, 2, none⟩ = some (.int .i64 pt) ∧ u.cell? ⟨w2.heap.size, 3, none⟩ = some (.bool po)))
              (first | (exact KE.out _ (Below.refl _ _).drew) | (exact KE.out _ (holdC (by assumption) hb)))
              (first
                | (go_at_call 13; (with_reducible refine (K1.out _ (by assumption : _ ∧ _).1).mono ?_); rintro e s1 ⟨y1, rfl, hy1, hb⟩)
                | (go_at_call 12; (with_reducible refine (rvsameB (IV3.out _ (by assumption : _ ∧ _).1) hy1 (decide_eq_true rfl)).mono ?_); rintro e s2 ⟨rfl, hb⟩)
                | (go_at_call 15; (with_reducible refine (K3.out _ (by assumption : _ ∧ _).1).mono ?_); rintro e s3 ⟨y3, rfl, hy3, hb⟩)
                | (go_at_call 16; (with_reducible refine (K4.out _ (by assumption : _ ∧ _).1).mono ?_); rintro e s4 ⟨y4, rfl, hy4, hb⟩)
                | (go_at_call 14; (with_reducible refine (rsameTB (hy3.below hb) hy4 (decide_eq_true rfl)).mono ?_); rintro e s5 ⟨rfl, hb⟩)
                | (go_at_call 17; (with_reducible refine (K6.out _ (by assumption : _ ∧ _).1).mono ?_); rintro e s6 ⟨rfl, hb⟩)
                | (go_at_call 12; (with_reducible refine (K7.out _ (by assumption : _ ∧ _).1).mono ?_); rintro e s7 ⟨rfl, hb⟩)
                | (go_at_call 18; (with_reducible refine (K8.out _ (by assumption : _ ∧ _).1).mono ?_); rintro e s8 ⟨rfl, hb⟩)
                | (go_at_call 12; (with_reducible refine (K9.out _ (by assumption : _ ∧ _).1).mono ?_); rintro e s9 ⟨rfl, hb⟩)
                | (go_at_call 19; (with_reducible refine (K10.out _ (by assumption : _ ∧ _).1).mono ?_); rintro e s10 ⟨rfl, hb⟩))
            go_wp2_with fail
            have HH := (by assumption : _ ∧ _)
            go_ret
            exact ⟨rfl, G.out.trans (HH.1.mono G.out.size)⟩

set_option maxRecDepth 100000 in
theorem lifted (os : Os) (started : os.Started) (H : Type) (enc : TypeId × Value → H) :
    ReturnsInHanded {} Try.checked os 3 .any (Rows.viewAllSpec.pre6 enc Try.prog Try.f3 Rows.viewAllRow.domain false) (Rows.viewAllSpec.post enc Try.prog Try.f3 false true false false) := by
  refine returnsInHanded_of_change (C := Try.checked) own started (by kernel_rfl) Try.func3
    (ChangeSpec.witness6 (enc := enc) (C := Try.checked) false ⟨#[], #[.slice none 0 0, .string ByteArray.empty, .string ByteArray.empty, .agg #[.slice none 0 0, .slice none 0 0, .int .i64 0, .bool false], .agg #[.slice none 0 0, .slice none 0 0, .int .i64 0, .bool false]], []⟩ 8 (by kernel_rfl) (by kernel_rfl) (by kernel_rfl) (by kernel_rfl)) ?_
  intro W base args ds gs before hval0 hW hcnd _
  have hval : ∀ (j : Nat) t v, Try.f3.params[j]? = some t → args[j]? = some v → Value.okWide Try.prog W .any base t v := hval0
  have hW' := hW
  obtain ⟨p, q, hA0, hV, rfl, hfz, hnd⟩ := hW
  have hA : DataW.TrodAll enc Try.prog W 0 (fun _ => true) true Try.f3.params.toList args.toList ds p := hA0
  rw [Try.params3] at hA hval
  obtain ⟨v0, vs0, d0, ds0, p0, q0, hargs, rfl, rfl, h0, r0⟩ := trodAll_cons hA
  obtain ⟨v1, vs1, d1, ds1, p1, q1, rfl, rfl, rfl, h1, r1⟩ := trodAll_cons r0
  obtain ⟨v2, vs2, d2, ds2, p2, q2, rfl, rfl, rfl, h2, r2⟩ := trodAll_cons r1
  obtain ⟨v3, vs3, d3, ds3, p3, q3, rfl, rfl, rfl, h3, r3⟩ := trodAll_cons r2
  obtain ⟨v4, vs4, d4, ds4, p4, q4, rfl, rfl, rfl, h4, r4⟩ := trodAll_cons r3
  obtain ⟨rfl, rfl, rfl⟩ := trodAll_nil r4
  obtain rfl : args = #[v0, v1, v2, v3, v4] := by cases args; simp_all
  obtain ⟨rfl, rfl⟩ := trodVars_none hV
  have k0 := h0
  have lt0 : ∀ x ∈ p0, x.block < W.heap.size := by obtain ⟨m, hm⟩ := k0; exact DataW.trod_lt m _ _ _ hm
  have w0 := open0 (hval 0 22 v0 rfl rfl) h0
  obtain ⟨a1, rfl, rfl, rfl, w1⟩ := open_string Try.underlying9 (hval 1 9 v1 rfl rfl) h1
  obtain ⟨a2, rfl, rfl, rfl, w2⟩ := open_string Try.underlying9 (hval 2 9 v2 rfl rfl) h2
  have k3 := h3
  have lt3 : ∀ x ∈ p3, x.block < W.heap.size := by obtain ⟨m, hm⟩ := k3; exact DataW.trod_lt m _ _ _ hm
  have w3 := open3 (hval 3 25 v3 rfl rfl) h3
  have k4 := h4
  have lt4 : ∀ x ∈ p4, x.block < W.heap.size := by obtain ⟨m, hm⟩ := k4; exact DataW.trod_lt m _ _ _ hm
  have w4 := open4 (hval 4 25 v4 rfl rfl) h4
  clear hA0 hval0
  refine (walk v0 a1 a2 v3 v4 W w0 w1 w2 w3 w4).mono fun e W' ⟨he, bel⟩ => ?_
  subst he
  exact ⟨_, rfl, _, _, _, [], _, [], hW', trodAll_mk1 (shut_bool Try.underlying4 _), (trodAll_cons_mk (Below.trod laidOut (by kernel_rfl) (of_decide_eq_true (by kernel_rfl)) k0 bel lt0) (trodAll_cons_mk (shut_string Try.underlying9 w1) (trodAll_cons_mk (shut_string Try.underlying9 w2) (trodAll_cons_mk (Below.trod laidOut (by kernel_rfl) (of_decide_eq_true (by kernel_rfl)) k3 bel lt3) (trodAll_cons_mk (Below.trod laidOut (by kernel_rfl) (of_decide_eq_true (by kernel_rfl)) k4 bel lt4) trodAll_mk0))))), rfl, bel.frame _, fun h => by cases h⟩

theorem over : Rows.viewAllRow.holds Try.pinned (OpenSpec.ofChange Rows.viewAllSpec) :=
  OpenClaim.holds_of_wide 3 Try.f3 rfl rfl rfl rfl rfl rfl rfl ⟨rfl, rfl, rfl, rfl, rfl⟩ rfl rfl rfl rfl rfl (by kernel_rfl) Try.func3 (by kernel_rfl)
    (of_decide_eq_true (by kernel_rfl)) (by unfold Func.isWrapper; first | (rw [if_pos (by decide +kernel)]; kernel_rfl) | (rw [if_neg (by decide +kernel)]; exact ⟨rfl, rfl⟩))
    (fun os started H enc _ => lifted os started H enc)

/-- the given statement -/
theorem proved : Rows.ViewAllSaid := over
#print axioms proved
end Go.Proofs.Ytpkmjddjllpglaa.viewAll
