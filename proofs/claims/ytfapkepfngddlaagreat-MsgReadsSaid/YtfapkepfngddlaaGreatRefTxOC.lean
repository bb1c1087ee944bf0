/- What the program's own Formed of transactions leaves. What the document's own Only of effects (finer) and of transactions, and the program's own Dot leave. (Written by gen-all.py.) What the document's own Copy of effects and of transactions leave: all of it anew. (Written by gen-copy.py.) -/
import Derived.Test.YtfapkepfngddlaaGreatTxFrmA
import Derived.Test.YtfapkepfngddlaaGreatTxFrmB
import Derived.Test.YtfapkepfngddlaaGreatEForms
import Derived.Test.YtfapkepfngddlaaGreatINorms
import Derived.Test.YtfapkepfngddlaaGreatEMades
import Derived.Test.YtfapkepfngddlaaGreatISets
import Derived.Deep.LoopGhost
import Derived.BigQuiet
import Derived.Test.YtfapkepfngddlaaGreatIKeyF
import Derived.Test.YtfapkepfngddlaaGreatStItems
import Derived.Test.YtfapkepfngddlaaGreatRefIs
import Derived.Test.YtfapkepfngddlaaGreatTxIns
import Derived.Test.YtfapkepfngddlaaGreatTxRds
import Derived.Deep.Cut
import Derived.Test.YtfapkepfngddlaaGreatVcAll
set_option maxRecDepth 100000
set_option maxHeartbeats 64000000
namespace Go.Proofs.YtfapkepfngddlaaGreat
open Go.RowKit Plain
set_option linter.unusedVariables false
structure FitTx (t : PTxn) : Prop where
 deps : t.deps.length ≤ 1000
 effs : t.effs.length ≤ 1000
 drops : ∀ e ∈ t.effs, e.drops.length ≤ 1000
 ok : txnOk t
theorem IsTxn.slices {w : World} {v : Value} {t : PTxn} (h : IsTxn w v t) : ∃ da dn dc ea en ec, v = .agg #[.int .i64 t.node, .int .i64 t.seq, .slice da dn dc, .slice ea en ec] ∧ SeqE LInt w (.slice da dn dc) t.deps ∧ SeqE LEff w (.slice ea en ec) t.effs := by
 obtain ⟨dv, ev, rfl, h1, h2⟩ := h;obtain ⟨a1, c1, rfl, -, -, -, k1⟩ := h1.parts;obtain ⟨a2, c2, rfl, -, -, -, k2⟩ := h2.parts;exact ⟨_, _, _, _, _, _, rfl, k1, k2⟩
theorem tf_range {t : PTxn} (h : inRange t.node t.seq = false) : tformedB t = false := by unfold tformedB; rw [h]; rfl
theorem txformedP {v : Value} {t : PTxn} {w : World} (h : IsTxn w v t) (ht : FitTx t) (r : Bool) (hr : tformedB t = r) : Calls Tryz.prog 75 #[v] w (GivesB w r) := by
 obtain ⟨l1, l2, l3, -⟩ := ht;obtain ⟨da, dn, dc, ea, en, ec, rfl, k1, k2⟩ := h.slices;have hen := k2.dims;have g1 : en ≤ 9223372036854775807 := by omega
 have hz := @Below.trans w.heap.size w (w.alloc (.cells #[.int .i64 t.node, .int .i64 t.seq, .slice da dn dc, .slice ea en ec] 51));have hba := zB w (.cells #[.int .i64 t.node, .int .i64 t.seq, .slice da dn dc, .slice ea en ec] 51);have hto : ∀ W, Below (w.alloc (.cells #[.int .i64 t.node, .int .i64 t.seq, .slice da dn dc, .slice ea en ec] 51)).heap.size (w.alloc (.cells #[.int .i64 t.node, .int .i64 t.seq, .slice da dn dc, .slice ea en ec] 51)) W → Below w.heap.size w W := fun W hb => hba.trans (hb.mono hba.size)
 have KD := fun W hb => areDeps_any (seqI_of (k1.below (hto W hb))) (by omega)
 have KA := fun W hb => (vc_at_any (seqI_of (k1.below (hto W hb))) t.node).mono (R' := fun e w' => e = .returned (.int .i64 (saysI t.deps t.node)) ∧ Below W.heap.size W w') fun e w' ⟨he, hw⟩ => ⟨he, hw ▸ Below.refl _ _⟩
 have KR := fun W hb => eright_any t.node t.seq (k2.below (hto W hb)) (by omega) (fun e he => by have := l3 e he; omega)
 have KH := fun W hb => eheard_any t.node t.seq (k2.below (hto W hb)) (seqI_of (k1.below (hto W hb))) (fun e he => by have := l3 e he; omega)
 have ed := depsB_is t;subst hr
 by_cases h1 : 0 ≤ t.node
 rotate_left
 ·rw [tf_range (decide_eq_false (by omega))]; exact tformed_way1 h1 g1
 by_cases h2 : t.node < 8
 rotate_left
 ·rw [tf_range (decide_eq_false (by omega))]; exact tformed_way2 h1 h2 g1
 by_cases h3 : 1 ≤ t.seq
 rotate_left
 ·rw [tf_range (decide_eq_false (by omega))]; exact tformed_way3 h1 h2 h3 g1
 by_cases h4 : t.seq ≤ 1073741824
 rotate_left
 ·rw [tf_range (decide_eq_false (by omega))]; exact tformed_way4 h1 h2 h3 h4 g1
 have hI : inRange t.node t.seq = true := decide_eq_true (by omega);have h6 : IntKind.i64.wrap (t.seq - 1) = t.seq - 1 := by simp [IntKind.wrap, IntKind.bits, IntKind.signed]; omega
 cases h5 : areB t.deps with
 | false =>
  have e : tformedB t = false := by unfold tformedB; rw [ed, h5, hI]; rfl
  rw [e];exact tformed_way5 h1 h2 h3 h4 (fun W hb => h5 ▸ KD W hb) g1
 | true =>
  have KD' : ∀ W, Below (w.alloc (.cells #[.int .i64 t.node, .int .i64 t.seq, .slice da dn dc, .slice ea en ec] 51)).heap.size (w.alloc (.cells #[.int .i64 t.node, .int .i64 t.seq, .slice da dn dc, .slice ea en ec] 51)) W → Calls Tryz.prog 127 #[.slice da dn dc] W (GivesB W true) := fun W hb => h5 ▸ KD W hb
  by_cases h6b : saysI t.deps t.node = t.seq - 1
  rotate_left
  ·have e : tformedB t = false := by unfold tformedB; rw [ed, h5, hI, decide_eq_false h6b]; rfl
   rw [e];exact tformed_way6 h1 h2 h3 h4 KD' (saysI t.deps t.node) (t.seq - 1) h6 (by simp [h6b]) KA g1
  have q6 : (saysI t.deps t.node == t.seq - 1) = true := by simp [h6b]
  by_cases h7 : (en : Int) ≤ 8
  rotate_left
  ·have e : tformedB t = false := by unfold tformedB; rw [ed, h5, hI, decide_eq_true h6b, decide_eq_false (show ¬ t.effs.length ≤ 8 by omega)]; rfl
   rw [e];exact tformed_way7 h1 h2 h3 h4 h7 KD' (saysI t.deps t.node) (t.seq - 1) h6 q6 KA g1
  have q7 : decide (t.effs.length ≤ 8) = true := decide_eq_true (by omega)
  cases h8 : rightB t.node t.seq t.effs with
  | false =>
   have e : tformedB t = false := by unfold tformedB; rw [ed, h5, hI, decide_eq_true h6b, q7, h8]; rfl
   rw [e];exact tformed_way8 h1 h2 h3 h4 h7 KD' (saysI t.deps t.node) (t.seq - 1) h6 q6 KA (fun W hb => h8 ▸ KR W hb) g1
  | true =>
   have KR' : ∀ W, Below (w.alloc (.cells #[.int .i64 t.node, .int .i64 t.seq, .slice da dn dc, .slice ea en ec] 51)).heap.size (w.alloc (.cells #[.int .i64 t.node, .int .i64 t.seq, .slice da dn dc, .slice ea en ec] 51)) W → Calls Tryz.prog 128 #[.int .i64 t.node, .int .i64 t.seq, .slice ea en ec] W (GivesB W true) := fun W hb => h8 ▸ KR W hb
   cases h9 : heardB t.effs t.node t.seq t.deps with
   | false =>
    have e : tformedB t = false := by unfold tformedB; rw [ed, h5, hI, decide_eq_true h6b, q7, h8, h9]; rfl
    rw [e];exact tformed_way9 h1 h2 h3 h4 h7 KD' (saysI t.deps t.node) (t.seq - 1) h6 q6 KA KR' (fun W hb => h9 ▸ KH W hb) g1
   | true =>
    have e : tformedB t = true := by unfold tformedB; rw [ed, h5, hI, decide_eq_true h6b, q7, h8, h9]; rfl
    rw [e];exact tformed_way10 h1 h2 h3 h4 h7 KD' (saysI t.deps t.node) (t.seq - 1) h6 q6 KA KR' (fun W hb => h9 ▸ KH W hb) g1
theorem tdims_sq {α : Type} {L : El α} {P : Nat → Prop} {w : World} {v : Value} {xs : List α} (h : Sq L P w v xs) : ∃ a c, v = .slice a xs.length c := by
 obtain ⟨a, c, vals, rfl, -⟩ := h;exact ⟨a, c, rfl⟩
theorem Sq.spotQ {α : Type} {L : El α} {Q : Nat → Prop} {w : World} {v : Value} {xs : List α} (h : Sq L Q w v xs) (hp : 0 < xs.length) : ∃ b o cap, v = .slice (some ⟨b, o, none⟩) xs.length cap ∧ xs.length ≤ cap ∧ cap ≤ 9223372036854775807 ∧ Q b ∧
  ∀ j x, xs[j]? = some x → ∃ vs, L.R Q w vs x ∧ ∀ i u, vs[i]? = some u → w.cell? ⟨b, o + (j * L.k + i), none⟩ = some u := by
 obtain ⟨a, cap, vals, rfl, h1, h2, h0, hr, h3⟩ := h;obtain ⟨b, o, rfl, hb, hc⟩ := h3 hp;refine ⟨b, o, cap, rfl, h1, h2, hb, fun j x hj => ⟨_, hr.2 j x hj, fun i u hi => ?_⟩⟩;have hik : i < L.k := by
  have := (List.getElem?_eq_some_iff.1 hi).1;rw [L.len (hr.2 j x hj)] at this;exact this
 rw [pt_get _ _ _ hik] at hi;exact hc _ u hi
theorem effs_spotQ {Q : Nat → Prop} {w : World} {v : Value} {xs : List PEff} (h : Sq LEff Q w v xs) (hp : 0 < xs.length) : ∃ b o cap, v = .slice (some ⟨b, o, none⟩) xs.length cap ∧ xs.length ≤ cap ∧ cap ≤ 9223372036854775807 ∧ Q b ∧
  ∀ j, j < xs.length → ∃ dv, EffAt w b (o + j * 7) (xs.getD j default) dv ∧ Sq LDot Q w dv (xs.getD j default).drops := by
 obtain ⟨b, o, cap, e, h1, h2, h3, hc⟩ := h.spotQ hp;refine ⟨b, o, cap, e, h1, h2, h3, fun j hj => ?_⟩;obtain ⟨vs, hr, hv⟩ := hc j _ (getD_at hj);obtain ⟨dv, rfl, hs⟩ := hr;have g := fun i u (hu : (cellsEf (xs.getD j default) dv)[i]? = some u) => hv i u hu
 refine ⟨dv, ⟨g 0 _ rfl, ?_, ?_, ?_, ?_, ?_, ?_⟩, hs⟩
 ·rw [Nat.add_assoc]; exact g 1 _ rfl
 ·rw [Nat.add_assoc]; exact g 2 _ rfl
 ·rw [Nat.add_assoc]; exact g 3 _ rfl
 ·rw [Nat.add_assoc]; exact g 4 _ rfl
 ·rw [Nat.add_assoc]; exact g 5 _ rfl
 ·rw [Nat.add_assoc]; exact g 6 _ rfl
theorem one_effOJ {N : Nat} {W : World} {x : PEff} {av : Option Addr} {nv cv C : Nat} {ov : Value} (hs : Sq LDot (· < N) W (.slice av nv cv) x.drops) (hN0 : N ≤ C) (hg : ∀ k, ov.ownBlock = some k → C ≤ k ∧ k < W.heap.size) (hz : C ≤ W.heap.size) :
  Sq LEff (fun b => (b < N ∨ C ≤ b) ∧ b < (W.alloc (.cells #[.int .i64 x.pos, .string (bt x.key), .string (bt x.field), .int .i64 x.kind, .string (bt x.elem), .int .i64 x.n, .slice av nv cv] 54)).heap.size ∧ ov.ownBlock ≠ some b) (W.alloc (.cells #[.int .i64 x.pos, .string (bt x.key), .string (bt x.field), .int .i64 x.kind, .string (bt x.elem), .int .i64 x.n, .slice av nv cv] 54)) (.slice (some ⟨W.heap.size, 0, none⟩) 1 1) [x] := by
 have hS : (W.alloc (.cells #[.int .i64 x.pos, .string (bt x.key), .string (bt x.field), .int .i64 x.kind, .string (bt x.elem), .int .i64 x.n, .slice av nv cv] 54)).heap.size = W.heap.size + 1 := by simp
 rw [hS];have hB : Below W.heap.size W (W.alloc (.cells #[.int .i64 x.pos, .string (bt x.key), .string (bt x.field), .int .i64 x.kind, .string (bt x.elem), .int .i64 x.n, .slice av nv cv] 54)) := (Below.refl _ _).alloc (Nat.le_refl _) _;have hin : Sq LDot (fun b => (b < N ∨ C ≤ b) ∧ b < W.heap.size + 1 ∧ ov.ownBlock ≠ some b) (W.alloc (.cells #[.int .i64 x.pos, .string (bt x.key), .string (bt x.field), .int .i64 x.kind, .string (bt x.elem), .int .i64 x.n, .slice av nv cv] 54)) (.slice av nv cv) x.drops :=
  (Sq.agree hs fun b hb => hB.block b (Nat.lt_of_lt_of_le (Nat.lt_of_lt_of_le hb hN0) hz)).mono fun b hb => ⟨.inl hb, by change b < N at hb; omega, fun e => by have := (hg b e).1; change b < N at hb; omega⟩
 refine ⟨_, 1, cellsEf x (.slice av nv cv), rfl, Nat.le_refl _, by unfold maxLen; simp, (by simp), Rows.of_one ⟨_, rfl, hin⟩, fun _ => ⟨_, 0, rfl, ⟨.inr hz, by omega, fun e => by have := (hg _ e).2; omega⟩, fun i u' hu => ?_⟩⟩;rw [Nat.zero_add];have := World.cell?_alloc_new W #[.int .i64 x.pos, .string (bt x.key), .string (bt x.field), .int .i64 x.kind, .string (bt x.elem), .int .i64 x.n, .slice av nv cv] 54 i;rw [this, ← Array.getElem?_toList];exact hu
theorem ronlyE_anyJ {N : Nat} {u v : Value} {xs : List PEff} {zs : List Txt} {w : World} (hu : Sq LEff (· < N) w u xs) (hN0 : N ≤ w.heap.size) (hv : SeqT w v zs) (hz : FitT zs) (hxf : ∀ x ∈ xs, x.key.length ≤ 1000000) (hn : xs.length ≤ 1000000) (hm : zs.length ≤ 1000000) :
  Calls Tryz.prog 92 #[u, v] w fun e w' => ∃ v, e = .returned v ∧ OwnJ (fun b => b < N ∨ w.heap.size ≤ b) LEff w.heap.size w' v (eonly xs zs) ∧ Below w.heap.size w w' := by
 obtain ⟨a, cap, rfl, g1, g2, g0, -⟩ := (show SeqE LEff w u xs from hu.mono fun b hb => Nat.lt_of_lt_of_le hb hN0).parts;have h := hu;obtain ⟨a', cap', rfl, -, -, -, h'⟩ := hv.parts;have HS := zH h;have HW := zH (pickG_all (fun x : PEff => covers zs x.key) xs);have KC := zH (fun (W : World) (hb : Below w.heap.size w W) (k : Nat) (hk : k < xs.length) => rcoversB (h'.below hb) hz hm (xs.getD k default).key (hxf _ (mem_defE hk)))
 show Calls _ _ _ _ fun e w' => ∃ v, e = .returned v ∧ OwnJ (fun b => b < N ∨ w.heap.size ≤ b) LEff w.heap.size w' v (xs.filter fun x : PEff => covers zs x.key) ∧ Below w.heap.size w w'
 rw [← HW.out];obtain ⟨f, hf⟩ : ∃ f : PEff → Bool, (fun x : PEff => covers zs x.key) = f := ⟨_, rfl⟩;have HF := zH (fun x => (congrFun hf x).symm);rw [hf];obtain ⟨n, hN⟩ : ∃ n, xs.length = n := ⟨_, rfl⟩;rw [hN] at g1 hn ⊢;have LN := zH hN;clear hu hv h h' g0 hf hN HW hz hxf;go_enter Tryz.func92, Tryz.ntmps92
 go_wp2_with fail
 go_loopw [5, 6] (fun o i wr => ∃ k : Nat, k ≤ n ∧ i = .int .i64 k ∧ OwnJ (fun b => b < N ∨ w.heap.size ≤ b) LEff w.heap.size wr o (pickG f xs k) ∧ Below w.heap.size w wr) (fun _ i _ => n - (intOf i).toNat)
 case atStart => exact ⟨0, Nat.zero_le _, rfl, OwnJ.nil _ _ _, Below.refl _ _⟩
 case round =>
  obtain ⟨k, hk, rfl, ho, hb⟩ := hrel;have HO := zH ho;have HB := zH hb;have PL := pickG_len f xs k;clear ho hb
  by_cases hlt : k < n
  ·have HK := zH (show k < xs.length by rw [LN.out]; exact hlt)
   obtain ⟨b, o, c, hv, -, -, -, hc⟩ := effs_spotQ HS.out (by rw [LN.out]; omega);rw [LN.out] at hv;simp only [Value.slice.injEq] at hv
   obtain ⟨rfl, -, rfl⟩ := hv;obtain ⟨dv, EX, hsd⟩ := hc k HK.out;have IA := zH EX;obtain ⟨da, dc, rfl⟩ := tdims_sq hsd;have hsd2 := hsd;have SD := zH (fun (W : World) (hW : Below w.heap.size w W) => Sq.agree hsd2 fun b hb => hW.block b (Nat.lt_of_lt_of_le hb hN0));clear hc EX hsd hsd2;have K := KC.out wr HB.out k HK.out;have hff := HF.out (xs.getD k default);have PY := zH (fun h => pickG_yes (f := f) HK.out h);have PN := zH (fun h => pickG_no (f := f) HK.out h);generalize xs.getD k default = x at *;have S1 := zH (fun (W : World) (ov : Value) (hW : Below w.heap.size w W) (hg : ∀ k, ov.ownBlock = some k → w.heap.size ≤ k ∧ k < W.heap.size) => one_effOJ (SD.out W hW) hN0 hg hW.size);generalize x.drops.length = m at *;obtain ⟨c0, c1, c2, c3, c4, c5, c6⟩ := IA.out.below HB.out IA.out.lt
   cases hcv : covers zs x.key with
   | true =>
    rw [hcv] at K hff;have HP := zH (PY.out hff);clear hcv hff PY PN SD;go_wp2_with fail
    refine K.mono ?_;rintro e w' ⟨rfl, hb⟩;have O1 := zH (HO.out.below hb (Nat.le_refl _));have G1 : Hid (Below w.heap.size w w') := zH (HB.out.trans (hb.mono HB.out.size));clear c0 c1 c2 c3 c4 c5 c6;obtain ⟨c0, c1, c2, c3, c4, c5, c6⟩ := IA.out.below G1.out IA.out.lt;clear K hb;go_wp2_with (at_builtin; refine wpList_append_elJ (fun b => b < N ∨ w.heap.size ≤ b) LEff rfl (.tmp 20) (.tmp 25) rfl w.heap.size rfl (O1.out.alloc _) rfl (S1.out _ _ G1.out (fun k hk => O1.out.lt k hk)) (fun _ _ h => h) (by simp; omega) (by have := G1.out.size; simp; omega) ?_)
    intro v' w1 ho' hgr _;have O2 := zH ho';have G2 : Hid (Below w.heap.size w w1) := zH ((G1.out.alloc G1.out.size _).grown hgr (by have := G1.out.size; simp; omega) (fun j hj => (O1.out.lt j hj).1));clear ho' hgr;rw [HP.out] at O2;go_wp2_with fail
    go_roundw
    case rel => exact ⟨k + 1, by omega, by go_num, O2.out, G2.out⟩
    case measure => simp [intOf]; omega
   | false =>
    rw [hcv] at K hff;have HP := zH (PN.out hff);clear hcv hff PY PN S1 SD;go_wp2_with fail
    refine K.mono ?_;rintro e w' ⟨rfl, hb⟩;have O2 := zH (HO.out.below hb (Nat.le_refl _));have G2 : Hid (Below w.heap.size w w') := zH (HB.out.trans (hb.mono HB.out.size));rw [HP.out] at O2;clear hb;go_wp2_with fail
    go_roundw
    case rel => exact ⟨k + 1, by omega, by go_num, O2.out, G2.out⟩
    case measure => simp [intOf]; omega
  ·obtain rfl : k = n := by omega
   go_wp2_with fail
   go_ret
   exact ⟨_, rfl, HO.out, HB.out⟩
theorem st4_bareB (w : World) (R : Nat) (v0 v1 v2 v3 : Value) : But R w (st4 w R v0 v1 v2 v3) := (((But.set R w 0 v0).trans (But.set R _ 1 v1)).trans (But.set R _ 2 v2)).trans (But.set R _ 3 v3)
theorem rtxonlyP {v z : Value} {t : PTxn} {zs : List Txt} {w : World} (h : IsTxn w v t) (hz : SeqT w z zs) (hzf : FitT zs) (hzl : zs.length ≤ 1000000) (hk : ∀ x ∈ t.effs, x.key.length ≤ 1000000) (hn : t.effs.length ≤ 1000000) :
  Calls Tryz.prog 41 #[v, z] w fun e w' => ∃ u, e = .returned u ∧ IsTxn w' u (tonly t zs) ∧ Below w.heap.size w w' := by
 obtain ⟨da, dn, dc, ea, en, ec, rfl, k1, k2⟩ := h.slices;obtain ⟨za, zc, rfl, -⟩ := hz.parts;have hbA := (zB w (.cells #[.int .i64 t.node, .int .i64 t.seq, .slice da dn dc, .slice ea en ec] 51)).alloc (by simp) (.cells #[.int .i64 0, .int .i64 0, .slice none 0 0, .slice none 0 0] 51);have ZA : Hid (((w.alloc (.cells #[.int .i64 t.node, .int .i64 t.seq, .slice da dn dc, .slice ea en ec] 51)).alloc (.cells #[.int .i64 0, .int .i64 0, .slice none 0 0, .slice none 0 0] 51)).heap.size = w.heap.size + 2) := zH (by simp);have GA := zH hbA;have TA : Hid (((w.alloc (.cells #[.int .i64 t.node, .int .i64 t.seq, .slice da dn dc, .slice ea en ec] 51)).alloc (.cells #[.int .i64 0, .int .i64 0, .slice none 0 0, .slice none 0 0] 51)).heap[w.heap.size]? = some (.cells #[.int .i64 t.node, .int .i64 t.seq, .slice da dn dc, .slice ea en ec] 51 (0, 0))) := zH (((((Below.refl (w.heap.size + 1) (w.alloc (.cells #[.int .i64 t.node, .int .i64 t.seq, .slice da dn dc, .slice ea en ec] 51))).alloc (by simp) (.cells #[.int .i64 0, .int .i64 0, .slice none 0 0, .slice none 0 0] 51)).block w.heap.size (by omega))).trans (heap_alloc_new w _));have RA : Hid (((w.alloc (.cells #[.int .i64 t.node, .int .i64 t.seq, .slice da dn dc, .slice ea en ec] 51)).alloc (.cells #[.int .i64 0, .int .i64 0, .slice none 0 0, .slice none 0 0] 51)).heap[w.heap.size + 1]? = some (.cells #[.int .i64 0, .int .i64 0, .slice none 0 0, .slice none 0 0] 51 (0, 0))) := zH (by
  have h := heap_alloc_new (w.alloc (.cells #[.int .i64 t.node, .int .i64 t.seq, .slice da dn dc, .slice ea en ec] 51)) (.cells #[.int .i64 0, .int .i64 0, .slice none 0 0, .slice none 0 0] 51);rw [show (w.alloc (.cells #[.int .i64 t.node, .int .i64 t.seq, .slice da dn dc, .slice ea en ec] 51)).heap.size = w.heap.size + 1 by simp] at h;exact h)
 have KO := zH (ronlyE_anyJ (N := w.heap.size) (w := ((w.alloc (.cells #[.int .i64 t.node, .int .i64 t.seq, .slice da dn dc, .slice ea en ec] 51)).alloc (.cells #[.int .i64 0, .int .i64 0, .slice none 0 0, .slice none 0 0] 51))) (k2.agree fun b hb => hbA.block b hb) (by simp; omega) (hz.below hbA) hzf hk hn hzl);have D1 := zH (fun W (hb : Below w.heap.size w W) => Sq.agree (P := (· < w.heap.size)) k1 fun b hlt => hb.block b hlt);have HR : Hid (tonly t zs = ⟨t.node, t.seq, t.deps, eonly t.effs zs⟩) := zH rfl;clear h hz hzf hzl hk hn k1 k2 hbA;generalize zs.length = zn at *;go_enter Tryz.func41, Tryz.ntmps41
 go_upto_region 1 with fail
 generalize ((w.alloc (.cells #[.int .i64 t.node, .int .i64 t.seq, .slice da dn dc, .slice ea en ec] 51)).alloc (.cells #[.int .i64 0, .int .i64 0, .slice none 0 0, .slice none 0 0] 51)) = wa at *;obtain ⟨⟨c0, c1, c2, c3⟩, f0, f1, f2, f3⟩ := st4_cells TA.out;go_wp2_with fail
 refine KO.out.mono ?_;rintro e w3 ⟨v2, rfl, ho2, hb2⟩;have T3 := zH ((hb2.block w.heap.size (by rw [ZA.out]; omega)).trans TA.out);have R3 := zH ((hb2.block (w.heap.size + 1) (by rw [ZA.out]; omega)).trans RA.out);have G3 := zH (GA.out.trans (hb2.mono GA.out.size));rw [ZA.out] at ho2;have E3 := zH ho2;obtain ⟨a2, e2, rfl, -, -, -, -⟩ := ho2.own.parts;clear ho2 hb2 KO c0 c1 c2 c3 f0 f1 f2 f3;generalize hql : (eonly t.effs zs).length = ql at *;clear hql;obtain ⟨⟨c0, c1, c2, c3⟩, f0, f1, f2, f3⟩ := st4_cells T3.out;have T4 : Hid ((w3.setCell ⟨w.heap.size, 3, none⟩ (.slice a2 ql e2)).heap[w.heap.size]? = some (.cells #[.int .i64 t.node, .int .i64 t.seq, .slice da dn dc, .slice a2 ql e2] 51 (0, 0))) := zH (heap_setCell_same _ _ 3 _ _ _ T3.out);have R4 : Hid ((w3.setCell ⟨w.heap.size, 3, none⟩ (.slice a2 ql e2)).heap[w.heap.size + 1]? = some (.cells #[.int .i64 0, .int .i64 0, .slice none 0 0, .slice none 0 0] 51 (0, 0))) := zH ((heap_setCell_other _ _ _ _ (show w.heap.size + 1 ≠ w.heap.size by omega)).trans R3.out);have G4 : Hid (Below w.heap.size w (w3.setCell ⟨w.heap.size, 3, none⟩ (.slice a2 ql e2))) := zH (G3.out.setCell (Nat.le_refl _) _);have E4 : Hid (OwnJ (fun b => b < w.heap.size ∨ w.heap.size + 2 ≤ b) LEff (w.heap.size + 2) (w3.setCell ⟨w.heap.size, 3, none⟩ (.slice a2 ql e2)) (.slice a2 ql e2) (eonly t.effs zs)) := zH (E3.out.but (But.set _ _ _ _) (by omega) (fun b hb e => by omega));go_upto_region 2 with fail
 clear c0 c1 c2 c3 f0 f1 f2 f3 T3 R3 G3 E3;generalize (w3.setCell ⟨w.heap.size, 3, none⟩ (.slice a2 ql e2)) = w4 at *;obtain ⟨⟨c0, c1, c2, c3⟩, -⟩ := st4_cells T4.out;obtain ⟨⟨y0, y1, y2, y3⟩, f0, f1, f2, f3⟩ := st4_cells R4.out;have FC := zH (st4_cells (st4_block (v0 := .int .i64 t.node) (v1 := .int .i64 t.seq) (v2 := .slice da dn dc) (v3 := .slice a2 ql e2) R4.out)).1;have FB := zH (st4_below (v0 := .int .i64 t.node) (v1 := .int .i64 t.seq) (v2 := .slice da dn dc) (v3 := .slice a2 ql e2) G4.out (Nat.le_succ w.heap.size));have FT := zH (st4_bareB w4 (w.heap.size + 1) (.int .i64 t.node) (.int .i64 t.seq) (.slice da dn dc) (.slice a2 ql e2));have FE := zH ((E4.out.but FT.out (by omega) (fun b hb e => by omega)).own.seq);have FD := zH ((D1.out _ FB.out).mono fun b hb => Nat.lt_of_lt_of_le hb FB.out.size);clear FT;unfold st4 at FC FB FD FE;go_wp2_with fail
 obtain ⟨z0, z1, z2, z3⟩ := FC.out;refine bodyPost_ret (v := .agg #[.int .i64 t.node, .int .i64 t.seq, .slice da dn dc, .slice a2 ql e2]) (by simp [results, Tryz.results41, go_sem, z0, z1, z2, z3]) rfl ?_;rw [HR.out];exact ⟨_, rfl, ⟨_, _, rfl, FD.out, FE.out⟩, FB.out⟩
theorem one_txnN {W : World} {x : PTxn} {dv ev : Value} {C N : Nat} {ov : Value} (hd : Sq LInt (fun b => C ≤ b ∧ b < W.heap.size) W dv x.deps) (he : Sq LEff (fun b => C ≤ b ∧ b < W.heap.size) W ev x.effs) (hg : ∀ k, ov.ownBlock = some k → k < C) (hz : C ≤ W.heap.size) (hN : N ≤ C) :
  Sq LTxn (fun b => N ≤ b ∧ b < (W.alloc (.cells #[.int .i64 x.node, .int .i64 x.seq, dv, ev] 51)).heap.size ∧ ov.ownBlock ≠ some b) (W.alloc (.cells #[.int .i64 x.node, .int .i64 x.seq, dv, ev] 51)) (.slice (some ⟨W.heap.size, 0, none⟩) 1 1) [x] := by
 have hS : (W.alloc (.cells #[.int .i64 x.node, .int .i64 x.seq, dv, ev] 51)).heap.size = W.heap.size + 1 := by simp
 rw [hS];have hB : Below W.heap.size W (W.alloc (.cells #[.int .i64 x.node, .int .i64 x.seq, dv, ev] 51)) := (Below.refl _ _).alloc (Nat.le_refl _) _;have hw : ∀ b, (C ≤ b ∧ b < W.heap.size) → N ≤ b ∧ b < W.heap.size + 1 ∧ ov.ownBlock ≠ some b := fun b hb => ⟨by omega, by omega, fun e => by have := hg b e; omega⟩
 refine ⟨_, 1, cellsTx x dv ev, rfl, Nat.le_refl _, by unfold maxLen; simp, (by simp), Rows.of_one ⟨_, _, rfl, (hd.agree fun b hb => hB.block b hb.2).mono hw, (he.agree fun b hb => hB.block b hb.2).mono hw⟩, fun _ => ⟨_, 0, rfl, ⟨by omega, by omega, fun e => by have := hg _ e; omega⟩, fun i u' hu => ?_⟩⟩;rw [Nat.zero_add];have := World.cell?_alloc_new W #[.int .i64 x.node, .int .i64 x.seq, dv, ev] 51 i;rw [this, ← Array.getElem?_toList];exact hu
end Go.Proofs.YtfapkepfngddlaaGreat
