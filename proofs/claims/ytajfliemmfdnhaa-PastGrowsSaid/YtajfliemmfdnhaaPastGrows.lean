/-
  For any past, any transaction and any vector the law PastGrows answers true: what is kept is there for whoever has not heard it, and for nobody else. No condition.
  (The frame was written by the guide's proof-skeleton.mjs, turned for pasts; the walk is ours.)
-/
import Derived.Test.YtajfliemmfdnhaaRows
import Derived.WalkKit
import Derived.ProofKit
import Derived.OpenShut
import Derived.ShutString
import Derived.ChangeOld
import Derived.Below
import Derived.Test.YtajfliemmfdnhaaPaUse
import Derived.Test.YtajfliemmfdnhaaPaClo
import Derived.Test.YtajfliemmfdnhaaPaPru
import Derived.Test.YtajfliemmfdnhaaVcAll
import Derived.Deep.RegionHeld3
import Derived.Deep.DeepCutAuto
import Derived.Test.YtajfliemmfdnhaaTxIns
namespace Go.Proofs.Ytajfliemmfdnhaa.pastGrows
open Go.ChangeShapes Go.WideShapes Go.ChangeAt Go.RowKit
open Go.ChangeMaps (open_string shut_string)
set_option linter.unusedVariables false

theorem own : ownKnob Try.prog.godebug = none := by kernel_rfl
theorem laidOut : laidOutB Try.prog = true := by kernel_rfl

open Plain

set_option maxRecDepth 100000 in
theorem open0 {H : Type} {enc : TypeId × Value → H} {W : World} {r : Reach} {b : Nat} {v : Value} {d : DataW H} {p : List MemPlace} (hv : Value.okWide Try.prog W r b 26 v) (h : DataW.Trod enc Try.prog W 0 (fun _ => true) true 26 v d p) : IsPastA W v := past_of_trod hv h
set_option maxRecDepth 100000 in
theorem open1 {H : Type} {enc : TypeId × Value → H} {W : World} {r : Reach} {b : Nat} {v : Value} {d : DataW H} {p : List MemPlace} (hv : Value.okWide Try.prog W r b 38 v) (h : DataW.Trod enc Try.prog W 0 (fun _ => true) true 38 v d p) : IsTxnA W v := txn_of_trod hv h

set_option maxRecDepth 100000 in
set_option maxHeartbeats 32000000 in
theorem walk (v0 : Value) (v1 : Value) (a2 : Option Addr) (n2 : Nat) (c2 : Nat) (z2 : List Int) (w : World) (w0 : IsPastA w v0) (w1 : IsTxnA w v1) (w2 : IsRow .i64 w a2 n2 c2 z2) :
    Calls Try.prog 5 #[v0, v1, .slice a2 n2 c2] w fun e w' => e = .returned (.bool true) ∧ Below w.heap.size w w' := by
  obtain ⟨p, hp, hok⟩ := w0
  obtain ⟨fa, fn, fc, la, ln, lc, hv0, h1, h2⟩ := hp.slices
  subst hv0
  have OKP := Lib.hid hok
  obtain ⟨t, ht, okt⟩ := w1
  obtain ⟨da, dn, dc, ea, en, ec, hv1, k1, k2⟩ := ht.parts
  subst hv1
  have OKT := Lib.hid okt
  have b1 := (Below.refl w.heap.size w).alloc (Nat.le_refl _) (.cells #[.slice fa fn fc, .slice la ln lc] 26)
  have b2 := (Below.refl (w.alloc (.cells #[.slice fa fn fc, .slice la ln lc] 26)).heap.size (w.alloc (.cells #[.slice fa fn fc, .slice la ln lc] 26))).alloc (Nat.le_refl _) (.cells #[.int .i64 t.node, .int .i64 t.seq, .slice da dn dc, .slice ea en ec] 38)
  have hb := b1.trans (b2.mono b1.size)
  have PB := Lib.hid ((pabox_new (p := p) h1 h2).below b2)
  have TB : Hid (TxBox (w.heap.size + 1) t da dn dc ea en ec ((w.alloc (.cells #[.slice fa fn fc, .slice la ln lc] 26)).alloc (.cells #[.int .i64 t.node, .int .i64 t.seq, .slice da dn dc, .slice ea en ec] 38))) := Lib.hid (by have h := txbox_new (t := t) (w := w.alloc (.cells #[.slice fa fn fc, .slice la ln lc] 26)) (k1.below b1) (k2.below b1); rwa [show (w.alloc (.cells #[.slice fa fn fc, .slice la ln lc] 26)).heap.size = w.heap.size + 1 by simp] at h)
  have HFN := Lib.hid h1.dims
  have HLN := Lib.hid h2.dims
  obtain ⟨v, sv, lv, cv⟩ := row_ints w2
  have SV := Lib.hid (sv.below hb)
  have LSV := Lib.hid lv
  clear w2 sv lv
  clear ht okt k1 k2 b1 b2
  have G := Lib.hid hb
  clear hp hok hb h1 h2
  go_enter Try.func5, Try.ntmps5
  go_upto_region 1 with fail
  generalize ((w.alloc (.cells #[.slice fa fn fc, .slice la ln lc] 26)).alloc (.cells #[.int .i64 t.node, .int .i64 t.seq, .slice da dn dc, .slice ea en ec] 38)) = wB at *
  generalize hg0 : w.heap.size = g0 at PB TB ⊢
  go_wp2_with fail
  refine (paawake_any _).mono ?_
  rintro e u3 ⟨rfl, hb⟩
  replace PB := Lib.hid (PB.out.below hb)
  replace TB := Lib.hid (TB.out.below hb)
  replace SV := Lib.hid (SV.out.below hb)
  replace G := Lib.hid (G.out.trans (hb.mono G.out.size))
  clear hb
  obtain ⟨sa, hsa⟩ : ∃ b, b = paShort p := ⟨_, rfl⟩
  have Hsa := Lib.hid hsa
  clear hsa
  obtain ⟨x0a, x0b⟩ := PB.out.c
  have K := Lib.hid (paShortR PB.out.is sa Hsa.out.symm)
  cases sa
  · go_wp2_with fail
    refine (K.out).mono ?_
    rintro e u4 ⟨rfl, hb⟩
    clear K
    replace PB := Lib.hid (PB.out.below hb)
    replace TB := Lib.hid (TB.out.below hb)
    replace SV := Lib.hid (SV.out.below hb)
    replace G := Lib.hid (G.out.trans (hb.mono G.out.size))
    clear hb
    clear x0a x0b
    go_wp2_with fail
    go_ret
    first | exact ⟨rfl, G.out⟩ | exact ⟨rfl, hg0 ▸ G.out⟩
  go_wp2_with fail
  refine (K.out).mono ?_
  rintro e u4 ⟨rfl, hb⟩
  clear K
  replace PB := Lib.hid (PB.out.below hb)
  replace TB := Lib.hid (TB.out.below hb)
  replace SV := Lib.hid (SV.out.below hb)
  replace G := Lib.hid (G.out.trans (hb.mono G.out.size))
  clear hb
  clear x0a x0b
  have FP := Lib.hid (pafit_of Hsa.out.symm OKP.out)
  have FL1 : Hid (p.floor.length ≤ 1000) := Lib.hid (by have := FP.out.floor; omega)
  have FL2 : Hid (p.floor.length ≤ 1000000) := Lib.hid (by have := FP.out.floor; omega)
  have FL3 : Hid (p.list.length ≤ 1000000) := Lib.hid (by have := FP.out.list; omega)
  obtain ⟨y0a, y0b, y0c, y0d⟩ := TB.out.c
  have HD0 := Lib.hid TB.out.d
  have HE0 := Lib.hid TB.out.e
  have B1 := Lib.hid ((Below.refl u4.heap.size u4).alloc (Nat.le_refl _) (.cells #[.int .i64 t.node, .int .i64 t.seq, .slice da dn dc, .slice ea en ec] 38))
  have A1 := Lib.hid (one_txn (t := t) HD0.out HE0.out)
  obtain ⟨sb, hsb⟩ : ∃ b, b = shortTx [t] := ⟨_, rfl⟩
  have Hsb := Lib.hid hsb
  clear hsb HD0 HE0
  have K := Lib.hid (rshortTx_any A1.out sb Hsb.out.symm)
  clear A1
  go_wp2_with fail
  clear y0a y0b y0c y0d
  have hb := B1.out
  clear B1
  generalize (u4.alloc (.cells #[.int .i64 t.node, .int .i64 t.seq, .slice da dn dc, .slice ea en ec] 38)) = uA at *
  replace PB := Lib.hid (PB.out.below hb)
  replace TB := Lib.hid (TB.out.below hb)
  replace SV := Lib.hid (SV.out.below hb)
  replace G := Lib.hid (G.out.trans (hb.mono G.out.size))
  clear hb
  cases sb
  · refine (K.out).mono ?_
    rintro e u5 ⟨rfl, hb⟩
    clear K
    replace PB := Lib.hid (PB.out.below hb)
    replace TB := Lib.hid (TB.out.below hb)
    replace SV := Lib.hid (SV.out.below hb)
    replace G := Lib.hid (G.out.trans (hb.mono G.out.size))
    clear hb
    go_wp2_with fail
    go_ret
    first | exact ⟨rfl, G.out⟩ | exact ⟨rfl, hg0 ▸ G.out⟩
  refine (K.out).mono ?_
  rintro e u5 ⟨rfl, hb⟩
  clear K
  replace PB := Lib.hid (PB.out.below hb)
  replace TB := Lib.hid (TB.out.below hb)
  replace SV := Lib.hid (SV.out.below hb)
  replace G := Lib.hid (G.out.trans (hb.mono G.out.size))
  clear hb
  have FT := Lib.hid (fitTx_of Hsb.out.symm OKT.out)
  by_cases h60 : 60 < n2
  · have i60 : (60 : Int) < (n2 : Int) := by omega
    go_wp2_with fail
    go_ret
    first | exact ⟨rfl, G.out⟩ | exact ⟨rfl, hg0 ▸ G.out⟩
  have i60 : ¬ (60 : Int) < (n2 : Int) := by omega
  have HV60 : Hid (v.length ≤ 60) := Lib.hid (by have := LSV.out; omega)
  obtain ⟨x0a, x0b⟩ := PB.out.c
  obtain ⟨y1a, y1b, y1c, y1d⟩ := TB.out.c
  have K := Lib.hid (pakeep_any PB.out.is TB.out.is FL1.out FL3.out FP.out.fit FT.out)
  go_upto_region 6 with (go_at_call 23; refine K.out.mono ?_; rintro e u6 ⟨qa, qn, qc, ma, mn, mc, rfl, hf, hl, hb⟩; have QB := Lib.hid (pabox_new (p := pKeep p t) hf.new hl.new); have QD := Lib.hid hl.new.dims; replace hb := hb.trans (((Below.refl u6.heap.size u6).alloc (Nat.le_refl _) (.cells #[.slice qa qn qc, .slice ma mn mc] 26)).mono hb.size); replace PB := Lib.hid (PB.out.below hb); replace TB := Lib.hid (TB.out.below hb); replace SV := Lib.hid (SV.out.below hb); replace G := Lib.hid (G.out.trans (hb.mono G.out.size)); clear hb hf hl K x0a x0b y1a y1b y1c y1d)
  generalize (u6.alloc (.cells #[.slice qa qn qc, .slice ma mn mc] 26)) = u7 at *
  generalize u6.heap.size = g1 at QB ⊢
  by_cases he : pErr p t = 0
  rotate_left
  · have EN : Hid (mn = 0) := Lib.hid (by have h1 := QD.out.1; unfold pKeep at h1; rw [if_neg he] at h1; exact h1.symm)
    obtain rfl := EN.out
    have bne : ((pErr p t) != 0) = true := bne_iff_ne.2 he
    generalize pErr p t = er at *
    obtain ⟨x0a, x0b⟩ := QB.out.c
    go_wp2_with fail
    go_ret
    first | exact ⟨rfl, G.out⟩ | exact ⟨rfl, hg0 ▸ G.out⟩
  rw [he]
  have EK : Hid (pKeep p t = ⟨p.floor, p.list ++ [t]⟩) := Lib.hid (by unfold pKeep; rw [if_pos he])
  clear he
  rw [EK.out] at QB QD
  have HQL : Hid ((⟨p.floor, p.list ++ [t]⟩ : PPast).list.length ≤ 1000000) := Lib.hid (by have := FP.out.list; simp; omega)
  have HQF : Hid (∀ x ∈ (⟨p.floor, p.list ++ [t]⟩ : PPast).list, FitTx x) := Lib.hid (fun x hx => by
    rcases List.mem_append.1 hx with h | h
    · exact FP.out.fit x h
    · rw [List.mem_singleton.1 h]; exact FT.out)
  have SL2 : Hid (sinceErr ⟨p.floor, p.list ++ [t]⟩ v = sinceErr p v) := Lib.hid rfl
  have SQ2 : Hid (sinceList ⟨p.floor, p.list ++ [t]⟩ v = if Plain.within p.floor v then pLeft (p.list ++ [t]) v else []) := Lib.hid rfl
  have SQ1 : Hid (sinceList p v = if Plain.within p.floor v then pLeft p.list v else []) := Lib.hid rfl
  have SE1 : Hid (sinceErr p v = if Plain.within p.floor v then 0 else 14) := Lib.hid rfl
  obtain ⟨x0a, x0b⟩ := PB.out.c
  have K := Lib.hid (since_any PB.out.is SV.out FL2.out FL3.out FP.out.fit)
  go_wp2_with fail
  refine (K.out).mono ?_
  rintro e u8 ⟨A1a, A1n, A1c, rfl, ho, hb⟩
  have A1 := Lib.hid ho.new
  clear ho K
  replace PB := Lib.hid (PB.out.below hb)
  replace TB := Lib.hid (TB.out.below hb)
  replace SV := Lib.hid (SV.out.below hb)
  replace QB := Lib.hid (QB.out.below hb)
  replace G := Lib.hid (G.out.trans (hb.mono G.out.size))
  clear hb
  clear x0a x0b
  obtain ⟨x0a, x0b⟩ := QB.out.c
  have K := Lib.hid (since_any QB.out.is SV.out FL2.out HQL.out HQF.out)
  go_wp2_with fail
  refine (K.out).mono ?_
  rintro e u9 ⟨A2a, A2n, A2c, rfl, ho, hb⟩
  have A2 := Lib.hid ho.new
  clear ho K
  replace PB := Lib.hid (PB.out.below hb)
  replace TB := Lib.hid (TB.out.below hb)
  replace SV := Lib.hid (SV.out.below hb)
  replace QB := Lib.hid (QB.out.below hb)
  replace A1 := Lib.hid (A1.out.below hb)
  replace G := Lib.hid (G.out.trans (hb.mono G.out.size))
  clear hb
  clear x0a x0b
  rw [SL2.out]
  rw [SQ1.out] at A1
  rw [SQ2.out] at A2
  rw [SE1.out]
  clear SL2 SQ1 SQ2 SE1
  generalize Plain.within p.floor v = fb at *
  cases fb
  · simp only [Bool.false_eq_true, if_false] at *
    go_wp2_with fail
    go_ret
    first | exact ⟨rfl, G.out⟩ | exact ⟨rfl, hg0 ▸ G.out⟩
  simp only [if_true] at *
  obtain ⟨hb8, hh8⟩ : ∃ b, b = pHeard v t := ⟨_, rfl⟩
  have HB8 := Lib.hid hh8
  clear hh8
  have LL : Hid ((pLeft p.list v).length ≤ 1000000) := Lib.hid (by have := pLeft_len p.list v; have := FL3.out; omega)
  have K : Hid (∀ u, SeqI u (.slice a2 n2 c2) v → Calls Try.prog 24 #[.slice a2 n2 c2, .agg #[.int .i64 t.node, .int .i64 t.seq, .int .i64 0]] u (GivesB u hb8)) := Lib.hid (fun u hs => by rw [HB8.out]; exact vc_has_any hs t.node t.seq 0)
  obtain ⟨y0a, y0b, y0c, y0d⟩ := TB.out.c
  cases hb8
  rotate_left
  · go_wp2_with fail
    refine (K.out _ SV.out).mono ?_
    rintro e u10 ⟨rfl, hb⟩
    clear K
    replace PB := Lib.hid (PB.out.below hb)
    replace TB := Lib.hid (TB.out.below hb)
    replace SV := Lib.hid (SV.out.below hb)
    replace QB := Lib.hid (QB.out.below hb)
    replace A1 := Lib.hid (A1.out.below hb)
    replace A2 := Lib.hid (A2.out.below hb)
    replace G := Lib.hid (G.out.trans (hb.mono G.out.size))
    clear hb
    clear y0a y0b y0c y0d
    rw [pLeft_snoc, ← HB8.out, if_pos rfl] at A2
    have K := Lib.hid (sameAllR A1.out A2.out LL.out true (decide_eq_true rfl))
    go_wp2_with fail
    refine (K.out).mono ?_
    rintro e u11 ⟨rfl, hb⟩
    clear K
    replace PB := Lib.hid (PB.out.below hb)
    replace TB := Lib.hid (TB.out.below hb)
    replace SV := Lib.hid (SV.out.below hb)
    replace QB := Lib.hid (QB.out.below hb)
    replace A1 := Lib.hid (A1.out.below hb)
    replace A2 := Lib.hid (A2.out.below hb)
    replace G := Lib.hid (G.out.trans (hb.mono G.out.size))
    clear hb
    go_wp2_with fail
    go_ret
    first | exact ⟨rfl, G.out⟩ | exact ⟨rfl, hg0 ▸ G.out⟩
  go_wp2_with fail
  refine (K.out _ SV.out).mono ?_
  rintro e u10 ⟨rfl, hb⟩
  clear K
  replace PB := Lib.hid (PB.out.below hb)
  replace TB := Lib.hid (TB.out.below hb)
  replace SV := Lib.hid (SV.out.below hb)
  replace QB := Lib.hid (QB.out.below hb)
  replace A1 := Lib.hid (A1.out.below hb)
  replace A2 := Lib.hid (A2.out.below hb)
  replace G := Lib.hid (G.out.trans (hb.mono G.out.size))
  clear hb
  clear y0a y0b y0c y0d
  rw [pLeft_snoc, ← HB8.out, if_neg (by decide)] at A2
  generalize pLeft p.list v = l at *
  have D1 := Lib.hid A1.out.dims
  have D2 := Lib.hid A2.out.dims
  have hm : A2n = A1n + 1 := by have h1 := D1.out.1; have h2 := D2.out.1; simp at h2; omega
  have HM := Lib.hid hm
  obtain ⟨bb, bo, bcp, hbv, -, -, -, hbc⟩ := txns_spot A2.out (by simp)
  simp only [Value.slice.injEq] at hbv
  obtain ⟨hba, -, hbcp⟩ := hbv
  subst hba hbcp
  obtain ⟨xv, yv, TA, sx, sy⟩ := hbc A1n (by have := D1.out.1; simp; omega)
  rw [show (l ++ [t]).getD A1n default = t by have := D1.out.1; subst this; simp] at TA sx sy
  obtain ⟨xa, xc, rfl, -⟩ := sx.parts
  obtain ⟨ya, yc, rfl, -⟩ := sy.parts
  have TX := Lib.hid TA
  have SX := Lib.hid sx
  have SY := Lib.hid sy
  clear hbc TA sx sy
  obtain ⟨xn, hxn⟩ : ∃ n, n = t.deps.length := ⟨_, rfl⟩
  obtain ⟨yn, hyn⟩ : ∃ n, n = t.effs.length := ⟨_, rfl⟩
  rw [← hxn] at TX SX
  rw [← hyn] at TX SY
  clear hxn hyn
  have i1 : (0 : Int) ≤ (A1n : Int) := by omega
  have i2 : (A1n : Int) ≤ (A2c : Int) := by have := D2.out; omega
  have hw5 : IntKind.i64.wrap ((A1n : Int) + 1) = (A2n : Int) := by have := D2.out; rw [i64_small _ (by omega)]; omega
  have i4 : (A1n : Int) < (A2n : Int) := by omega
  clear hm
  have i5 : (A2c : Int) ≤ 9223372036854775807 := by have := D2.out; omega
  have i6 : (A1n : Int) + 1 ≤ (A2c : Int) := by have := D2.out; omega
  have TF : Hid (SeqE LTxn u10 (.slice (some ⟨bb, bo, none⟩) A1n A2c) l) := Lib.hid (by have h := A2.out.first A1n (by omega); rwa [show (l ++ [t]).take A1n = l by have := D1.out.1; subst this; simp] at h)
  have K1 := Lib.hid (fun u (hb : Below u10.heap.size u10 u) => sameAllR (TF.out.below hb) (A1.out.below hb) (by rw [D1.out.1]; have := LL.out; have := D1.out.1; omega) true (decide_eq_true rfl))
  have K2 := Lib.hid (fun u (hb : Below u10.heap.size u10 u) => rsameTx (p := t) (q := t) ⟨_, _, rfl, SX.out.below hb, SY.out.below hb⟩ (TB.out.below hb).is true (decide_eq_true rfl))
  go_upto_region 14 with fail
  have KE : Hid (∀ u, Below u10.heap.size u10 u → Below u10.heap.size u10 u ∧ (u.cell? ⟨bb, bo + A1n * 4, none⟩ = some (.int .i64 t.node) ∧ u.cell? ⟨bb, bo + A1n * 4 + 1, none⟩ = some (.int .i64 t.seq) ∧ u.cell? ⟨bb, bo + A1n * 4 + 2, none⟩ = some (.slice xa xn xc) ∧ u.cell? ⟨bb, bo + A1n * 4 + 3, none⟩ = some (.slice ya yn yc)) ∧ u.cell? ⟨g0 + 1, 0, none⟩ = some (.int .i64 t.node) ∧ u.cell? ⟨g0 + 1, 1, none⟩ = some (.int .i64 t.seq) ∧ u.cell? ⟨g0 + 1, 2, none⟩ = some (.slice da dn dc) ∧ u.cell? ⟨g0 + 1, 3, none⟩ = some (.slice ea en ec)) := Lib.hid (fun u hb => ⟨hb, by have h := TX.out.below hb TX.out.lt; exact ⟨h.c0, h.c1, h.c2, h.c3⟩, (TB.out.below hb).c⟩)
  refine wp_region_held_drew (S := fun u' => Below u10.heap.size u10 u' ∧ (u'.cell? ⟨bb, bo + A1n * 4, none⟩ = some (.int .i64 t.node) ∧ u'.cell? ⟨bb, bo + A1n * 4 + 1, none⟩ = some (.int .i64 t.seq) ∧ u'.cell? ⟨bb, bo + A1n * 4 + 2, none⟩ = some (.slice xa xn xc) ∧ u'.cell? ⟨bb, bo + A1n * 4 + 3, none⟩ = some (.slice ya yn yc)) ∧ u'.cell? ⟨g0 + 1, 0, none⟩ = some (.int .i64 t.node) ∧ u'.cell? ⟨g0 + 1, 1, none⟩ = some (.int .i64 t.seq) ∧ u'.cell? ⟨g0 + 1, 2, none⟩ = some (.slice da dn dc) ∧ u'.cell? ⟨g0 + 1, 3, none⟩ = some (.slice ea en ec)) (by kernel_rfl) ?_ (fun hHeld => ?_)
  · (exact KE.out _ (Below.refl _ _).drew)
  simp only [List.size_toArray, List.length_cons, List.length_nil, Nat.zero_add, Nat.reduceAdd]
  refine tkB (i := 0) hHeld ?_
  refine tkB (i := 1) hHeld ?_
  refine tkB (i := 2) hHeld ?_
  refine tkB (i := 3) hHeld ?_
  refine tkB (i := 4) hHeld ?_
  refine tkB (i := 5) hHeld ?_
  refine tkB (i := 6) hHeld ?_
  refine tkB (i := 7) hHeld ?_
  refine tkB (i := 8) hHeld ?_
  refine tkB (i := 9) hHeld ?_
  refine tkB (i := 10) hHeld ?_
  refine tkB (i := 11) hHeld ?_
  refine wpAnyH_ready (rs := [12]) (by kernel_rfl) (by simp) ?_
  refine AllReadyH.cons rfl (fun K hK => ?_) AllReadyH.nil
  go_simp
  refine (K1.out _ hHeld.1).mono ?_
  rintro e t1 ⟨rfl, hb⟩
  refine hK.out _ _ (KE.out _ (holdC hHeld hb)) (fun hHeld => ?_)
  clear hK K hb
  refine tkB (i := 13) hHeld ?_
  refine tkB (i := 14) hHeld ?_
  refine tkB (i := 15) hHeld ?_
  refine tkB (i := 16) hHeld ?_
  refine tkB (i := 17) hHeld ?_
  refine tkB (i := 18) hHeld ?_
  refine tkB (i := 19) hHeld ?_
  refine tkB (i := 20) hHeld ?_
  refine wpAnyH_ready (rs := [21]) (by kernel_rfl) (by simp) ?_
  refine AllReadyH.cons rfl (fun K hK => ?_) AllReadyH.nil
  go_simp
  refine (K2.out _ hHeld.1).mono ?_
  rintro e t2 ⟨rfl, hb⟩
  refine hK.out _ _ (KE.out _ (holdC hHeld hb)) (fun hHeld => ?_)
  clear hK K hb
  refine tkB (i := 22) hHeld ?_
  refine tkB (i := 23) hHeld ?_
  refine wpAnyH_done (by kernel_rfl) ?_ _
  have hb := hHeld.1
  clear hHeld KE
  replace PB := Lib.hid (PB.out.below hb)
  replace TB := Lib.hid (TB.out.below hb)
  replace SV := Lib.hid (SV.out.below hb)
  replace G := Lib.hid (G.out.trans (hb.mono G.out.size))
  clear hb
  go_wp2_with fail
  go_ret
  first | exact ⟨rfl, G.out⟩ | exact ⟨rfl, hg0 ▸ G.out⟩

set_option maxRecDepth 100000 in
theorem lifted (os : Os) (started : os.Started) (H : Type) (enc : TypeId × Value → H) :
    ReturnsInHanded {} Try.checked os 5 .any (Rows.pastGrowsSpec.pre6 enc Try.prog Try.f5 Rows.pastGrowsRow.domain false) (Rows.pastGrowsSpec.post enc Try.prog Try.f5 false true false false) := by
  refine returnsInHanded_of_change (C := Try.checked) own started (by kernel_rfl) Try.func5
    (ChangeSpec.witness6 (enc := enc) (C := Try.checked) false ⟨#[], #[.agg #[.slice none 0 0, .slice none 0 0], .agg #[.int .i64 0, .int .i64 0, .slice none 0 0, .slice none 0 0], .slice none 0 0], []⟩ 8 (by kernel_rfl) (by kernel_rfl) (by kernel_rfl) (by kernel_rfl)) ?_
  intro W base args ds gs before hval0 hW hcnd _
  have hval : ∀ (j : Nat) t v, Try.f5.params[j]? = some t → args[j]? = some v → Value.okWide Try.prog W .any base t v := hval0
  have hW' := hW
  obtain ⟨p, q, hA0, hV, rfl, hfz, hnd⟩ := hW
  have hA : DataW.TrodAll enc Try.prog W 0 (fun _ => true) true Try.f5.params.toList args.toList ds p := hA0
  rw [Try.params5] at hA hval
  obtain ⟨v0, vs0, d0, ds0, p0, q0, hargs, rfl, rfl, h0, r0⟩ := trodAll_cons hA
  obtain ⟨v1, vs1, d1, ds1, p1, q1, rfl, rfl, rfl, h1, r1⟩ := trodAll_cons r0
  obtain ⟨v2, vs2, d2, ds2, p2, q2, rfl, rfl, rfl, h2, r2⟩ := trodAll_cons r1
  obtain ⟨rfl, rfl, rfl⟩ := trodAll_nil r2
  obtain rfl : args = #[v0, v1, v2] := by cases args; simp_all
  obtain ⟨rfl, rfl⟩ := trodVars_none hV
  have k0 := h0
  have lt0 : ∀ x ∈ p0, x.block < W.heap.size := by obtain ⟨m, hm⟩ := k0; exact DataW.trod_lt m _ _ _ hm
  have w0 := open0 (hval 0 26 v0 rfl rfl) h0
  have k1 := h1
  have lt1 : ∀ x ∈ p1, x.block < W.heap.size := by obtain ⟨m, hm⟩ := k1; exact DataW.trod_lt m _ _ _ hm
  have w1 := open1 (hval 1 38 v1 rfl rfl) h1
  obtain ⟨a2, len2, cap2, rfl⟩ := okWide_slice Try.underlying23 (hval 2 23 v2 rfl rfl)
  have k2 := h2
  have lt2 : ∀ x ∈ p2, x.block < W.heap.size := by obtain ⟨m, hm⟩ := k2; exact DataW.trod_lt m _ _ _ hm
  obtain ⟨z2, w2⟩ : ∃ zs, IsRow .i64 W a2 len2 cap2 zs := by
    obtain ⟨fuel, hf⟩ := h2
    rcases open_ints Try.underlying23 Try.underlying3 (by kernel_rfl) hf with ⟨hcs, _⟩ | ⟨x, l, c, zs, hcs, _, hl, hm, hz, _, hcell, hwz⟩
    · simp [Value.cells] at hcs
      obtain ⟨rfl, rfl, rfl⟩ := hcs
      exact ⟨[], .inl ⟨rfl, rfl, rfl, rfl⟩⟩
    · simp [Value.cells] at hcs
      obtain ⟨rfl, rfl, rfl⟩ := hcs
      exact ⟨zs, .inr ⟨_, rfl, hl, hm, by simpa using hz, hcell, hwz⟩⟩
  clear hA0 hval0
  refine (walk v0 v1 a2 len2 cap2 z2 W w0 w1 w2).mono fun e W' ⟨he, bel⟩ => ?_
  subst he
  exact ⟨_, rfl, _, _, _, [], _, [], hW', trodAll_mk1 (shut_bool Try.underlying4 _), (trodAll_cons_mk (Below.trod laidOut (by kernel_rfl) (of_decide_eq_true (by kernel_rfl)) k0 bel lt0) (trodAll_cons_mk (Below.trod laidOut (by kernel_rfl) (of_decide_eq_true (by kernel_rfl)) k1 bel lt1) (trodAll_cons_mk (Below.trod laidOut (by kernel_rfl) (of_decide_eq_true (by kernel_rfl)) k2 bel lt2) trodAll_mk0))), rfl, bel.frame _, fun h => by cases h⟩

theorem over : Rows.pastGrowsRow.holds Try.pinned (OpenSpec.ofChange Rows.pastGrowsSpec) :=
  OpenClaim.holds_of_wide 5 Try.f5 rfl rfl rfl rfl rfl rfl rfl ⟨rfl, rfl, rfl, rfl, rfl⟩ rfl rfl rfl rfl rfl (by kernel_rfl) Try.func5 (by kernel_rfl)
    (of_decide_eq_true (by kernel_rfl)) (by unfold Func.isWrapper; first | (rw [if_pos (by decide +kernel)]; kernel_rfl) | (rw [if_neg (by decide +kernel)]; exact ⟨rfl, rfl⟩))
    (fun os started H enc _ => lifted os started H enc)

/-- the given statement -/
theorem proved : Rows.PastGrowsSaid := over
#print axioms proved
end Go.Proofs.Ytajfliemmfdnhaa.pastGrows
