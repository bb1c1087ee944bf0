/-
  For any bytes the law MsgReads answers true: any bytes are those of the message that is read, or none is; with a byte more or less they are none, or another one's. No condition.
  (The frame was written by the guide's proof-skeleton.mjs, turned for messages; the walk is ours.)
-/
import Derived.Test.YtfapkepfngddlaaGreatRows
import Derived.WalkKit
import Derived.ProofKit
import Derived.OpenShut
import Derived.ShutString
import Derived.ChangeOld
import Derived.Below
import Derived.Test.YtfapkepfngddlaaGreatMsUse
import Derived.Test.YtfapkepfngddlaaGreatByLibs
import Derived.Test.YtfapkepfngddlaaGreatStItems
import Derived.Test.YtfapkepfngddlaaGreatPaLists
import Derived.Test.YtfapkepfngddlaaGreatMsByt
import Derived.Deep.RegionHeld3
import Derived.Deep.Cut
import Derived.Deep.DeepCutAuto
import Derived.Test.YtfapkepfngddlaaGreatMsIs
namespace Go.Proofs.YtfapkepfngddlaaGreat.msgReads
open Go.ChangeShapes Go.WideShapes Go.ChangeAt Go.RowKit
open Go.ChangeMaps (open_string shut_string)
set_option linter.unusedVariables false

theorem own : ownKnob Tryz.prog.godebug = none := by kernel_rfl
theorem laidOut : laidOutB Tryz.prog = true := by kernel_rfl

set_option maxRecDepth 100000
set_option maxHeartbeats 64000000
open Plain

theorem open0 {H : Type} {enc : TypeId × Value → H} {W : World} {r : Reach} {b : Nat} {v : Value} {d : DataW H} {p : List MemPlace} (hv : Value.okWide Tryz.prog W r b 31 v) (h : DataW.Trod enc Tryz.prog W 0 (fun _ => true) true 31 v d p) : IsBytesA W v := bytes_of_trod hv h

theorem walk (v0 : Value) (w : World) (w0 : IsBytesA w v0) :
    Calls Tryz.prog 5 #[v0] w fun e w' => e = .returned (.bool true) ∧ Below w.heap.size w w' := by
  obtain ⟨xs, hx⟩ := w0;obtain ⟨a, n, c, hv0, hn, g1, g2, hs⟩ := byParts hx;subst hv0;have HN := zH hn;have SX := zH hs;have G := zH (Below.refl w.heap.size w);have j1 : (n : Int) ≤ (c : Int) := by omega
  have j2 : (c : Int) ≤ 9223372036854775807 := by omega
  clear hx hs hn;go_enter Tryz.func5, Tryz.ntmps5
  go_upto_region 1 with fail
  go_wp2_with fail
  refine (msawake_any _).mono ?_;rintro e u3 ⟨rfl, hb⟩;replace SX := zH (SX.out.below hb);replace G := zH (G.out.trans (hb.mono G.out.size));clear hb
  by_cases h4 : (4000 : Int) < (n : Int)
  · go_wp2_with fail
    go_ret
    first | exact ⟨rfl, G.out⟩ | exact ⟨rfl, hg0 ▸ G.out⟩
  have N4 : Hid (n ≤ 4000) := zH (by omega);have XL : Hid (xs.length ≤ 4000) := zH (by have := HN.out; omega);obtain ⟨rd, hrd⟩ : ∃ r, mread xs = r := ⟨_, rfl⟩;have HRD := zH hrd;have K := zH (mreadP SX.out (by have := XL.out; omega) rd hrd);clear hrd
  rcases rd with _ | m
  · go_wp2_with fail
    refine (K.out).mono ?_;rintro e u4 ⟨rfl, hb⟩;replace SX := zH (SX.out.below hb);replace G := zH (G.out.trans (hb.mono G.out.size));clear hb;have hb := zB u4 (.cells #[.int .i64 0, .int .i64 0, .bool false, .slice none 0 0, .slice none 0 0, .slice none 0 0, .slice none 0 0, .slice none 0 0, .slice none 0 0] 28);have ZB := zH (nine_cells (heap_alloc_new u4 (.cells #[.int .i64 0, .int .i64 0, .bool false, .slice none 0 0, .slice none 0 0, .slice none 0 0, .slice none 0 0, .slice none 0 0, .slice none 0 0] 28)));replace SX := zH (SX.out.below hb);replace G := zH (G.out.trans (hb.mono G.out.size));clear hb K;go_upto_region 6 with fail
    generalize (u4.alloc (.cells #[.int .i64 0, .int .i64 0, .bool false, .slice none 0 0, .slice none 0 0, .slice none 0 0, .slice none 0 0, .slice none 0 0, .slice none 0 0] 28)) = wd4 at *;obtain ⟨z0, z1, z2, z3, z4, z5, z6, z7, z8⟩ := ZB.out;have K := zH (msameR (zero_is wd4) (zero_is wd4) (by simp [noMsg]) true (decide_eq_true rfl));go_wp2_with fail
    refine (K.out).mono ?_;rintro e u5 ⟨rfl, hb⟩;clear K z0 z1 z2 z3 z4 z5 z6 z7 z8;replace SX := zH (SX.out.below hb);replace G := zH (G.out.trans (hb.mono G.out.size));clear hb;go_wp2_with fail
    go_ret
    first | exact ⟨rfl, G.out⟩ | exact ⟨rfl, hg0 ▸ G.out⟩
  go_wp2_with fail
  refine (K.out).mono ?_;rintro e u4 ⟨ut, rfl, hu, hb⟩;replace SX := zH (SX.out.below hb);replace G := zH (G.out.trans (hb.mono G.out.size));clear hb;obtain ⟨vaq, vnq, vcq, faq, fnq, fcq, zaq, znq, zcq, naq, nnq, ncq, iaq, imq, icq, laq, lnq, lcq, hvu, H⟩ := hu.slices;subst hvu;have hb := zB u4 (.cells #[.int .i64 m.kind, .int .i64 m.ticket, .bool m.whole, .slice vaq vnq vcq, .slice faq fnq fcq, .slice zaq znq zcq, .slice naq nnq ncq, .slice iaq imq icq, .slice laq lnq lcq] 28);have EB := zH (msbox_new H);replace SX := zH (SX.out.below hb);replace G := zH (G.out.trans (hb.mono G.out.size));clear hb H hu K;go_upto_region 6 with fail
  generalize (u4.alloc (.cells #[.int .i64 m.kind, .int .i64 m.ticket, .bool m.whole, .slice vaq vnq vcq, .slice faq fnq fcq, .slice zaq znq zcq, .slice naq nnq ncq, .slice iaq imq icq, .slice laq lnq lcq] 28)) = wd4 at *;have RF := zH (read_form HRD.out);have FW := zH (read_few HRD.out XL.out);have FT := zH (msFit_read HRD.out);have HM := zH (mread_more HRD.out 0#8);have HL := zH (mread_less HRD.out (n := n - 1) (by have := HN.out; have := RF.out.2.2; omega));obtain ⟨p, hp⟩ : ∃ p, n = p + 1 := ⟨n - 1, by have := HN.out; have := RF.out.2.2; omega⟩;subst hp;replace HL : Hid (mread (xs.take p) = none) := HL;have K := zH (By.copy_any SX.out (by have := XL.out; omega));go_wp2_with (first
    | (refine K.out.mono ?_
       rintro e v1 ⟨cv, rfl, ho, hb⟩;have OC := zH ((ho.mono (Nat.le_refl _)).alloc (.cells #[.int .u8 0] 5));have SL := zH (by_lit v1 [0#8] #[.int .u8 0] rfl (by simp));have BC := zH (hb.alloc hb.size (.cells #[.int .u8 0] 5));obtain ⟨ca, cc, rfl, -, -, -, -⟩ := ho.parts;clear ho hb K)
    | (at_builtin; refine By.wpList_append_seq rfl (.tmp 30) (.tmp 31) rfl wd4.heap.size rfl OC.out rfl SL.out (by have := XL.out; simp; omega) BC.out.size ?_))
  intro v5 v2 ho hgr _;have SY := zH ho.seq;obtain ⟨ya, yc, rfl, -, -, -, -⟩ := ho.parts;have hb : Below wd4.heap.size wd4 v2 := BC.out.grown hgr BC.out.size (fun j hj => (OC.out.lt j hj).1);replace SX := zH (SX.out.below hb);replace EB := zH (EB.out.below hb);replace G := zH (G.out.trans (hb.mono G.out.size));clear hb ho hgr OC SL BC;have K := zH (mreadP SY.out (by rw [List.length_append]; have := XL.out; simp; omega) _ HM.out);obtain ⟨yn, hyn⟩ : ∃ y, (xs ++ [0#8]).length = y := ⟨_, rfl⟩;rw [hyn] at K ⊢;clear hyn SY;go_wp2_with fail
  refine (K.out).mono ?_;rintro e u5 ⟨rfl, hb⟩;replace SX := zH (SX.out.below hb);replace EB := zH (EB.out.below hb);replace G := zH (G.out.trans (hb.mono G.out.size));clear hb;have hb := zB u5 (.cells #[.int .i64 0, .int .i64 0, .bool false, .slice none 0 0, .slice none 0 0, .slice none 0 0, .slice none 0 0, .slice none 0 0, .slice none 0 0] 28);have ZB := zH (nine_cells (heap_alloc_new u5 (.cells #[.int .i64 0, .int .i64 0, .bool false, .slice none 0 0, .slice none 0 0, .slice none 0 0, .slice none 0 0, .slice none 0 0, .slice none 0 0] 28)));replace SX := zH (SX.out.below hb);replace EB := zH (EB.out.below hb);replace G := zH (G.out.trans (hb.mono G.out.size));clear hb K ZB;go_upto_region 9 with fail
  generalize (u5.alloc (.cells #[.int .i64 0, .int .i64 0, .bool false, .slice none 0 0, .slice none 0 0, .slice none 0 0, .slice none 0 0, .slice none 0 0, .slice none 0 0] 28)) = wd5 at *;have SF := zH (SX.out.first p (by have := HN.out; omega));have K := zH (mreadP SF.out (by rw [List.length_take]; have := XL.out; omega) _ HL.out);have e1 : IntKind.i64.wrap (((p + 1 : Nat) : Int) - 1) = (p : Int) := by simp [IntKind.wrap, IntKind.bits, IntKind.signed]; omega
  have e2 : ((p + 1 : Nat) : Int) - 1 = (p : Int) := by omega
  have e3 : (p : Int) ≤ (c : Int) := by omega
  have e4 : (0 : Int) ≤ (p : Int) := by omega
  go_wp2_with fail
  refine (K.out).mono ?_;rintro e u6 ⟨rfl, hb⟩;replace SX := zH (SX.out.below hb);replace EB := zH (EB.out.below hb);replace G := zH (G.out.trans (hb.mono G.out.size));clear hb;have hb := zB u6 (.cells #[.int .i64 0, .int .i64 0, .bool false, .slice none 0 0, .slice none 0 0, .slice none 0 0, .slice none 0 0, .slice none 0 0, .slice none 0 0] 28);have ZB := zH (nine_cells (heap_alloc_new u6 (.cells #[.int .i64 0, .int .i64 0, .bool false, .slice none 0 0, .slice none 0 0, .slice none 0 0, .slice none 0 0, .slice none 0 0, .slice none 0 0] 28)));replace SX := zH (SX.out.below hb);replace EB := zH (EB.out.below hb);replace G := zH (G.out.trans (hb.mono G.out.size));clear hb K ZB e1 e2 e3 e4;go_upto_region 10 with fail
  generalize (u6.alloc (.cells #[.int .i64 0, .int .i64 0, .bool false, .slice none 0 0, .slice none 0 0, .slice none 0 0, .slice none 0 0, .slice none 0 0, .slice none 0 0] 28)) = wd6 at *;obtain ⟨x0a, x0b, x0c, x0d, x0e, x0f, x0g, x0h, x0i⟩ := EB.out.c;have K := zH (misR SX.out EB.out.is RF.out.1 FT.out.2.1 FT.out.2.2 FW.out.1 FW.out.2.1 FW.out.2.2 RF.out.2.1);go_wp2_with fail
  refine (K.out).mono ?_;rintro e u7 ⟨rfl, hb⟩;clear K;replace SX := zH (SX.out.below hb);replace EB := zH (EB.out.below hb);replace G := zH (G.out.trans (hb.mono G.out.size));clear hb;clear x0a x0b x0c x0d x0e x0f x0g x0h x0i;go_wp2_with fail
  go_ret
  first | exact ⟨rfl, G.out⟩ | exact ⟨rfl, hg0 ▸ G.out⟩

set_option maxRecDepth 100000 in
theorem lifted (os : Os) (started : os.Started) (H : Type) (enc : TypeId × Value → H) :
    ReturnsInHanded {} Tryz.checked os 5 .any (Rows.msgReadsSpec.pre6 enc Tryz.prog Tryz.f5 Rows.msgReadsRow.domain false) (Rows.msgReadsSpec.post enc Tryz.prog Tryz.f5 false true false false) := by
  refine returnsInHanded_of_change (C := Tryz.checked) own started (by kernel_rfl) Tryz.func5
    (ChangeSpec.witness6 (enc := enc) (C := Tryz.checked) false ⟨#[], #[.slice none 0 0], []⟩ 8 (by kernel_rfl) (by kernel_rfl) (by kernel_rfl) (by kernel_rfl)) ?_
  intro W base args ds gs before hval0 hW hcnd _
  have hval : ∀ (j : Nat) t v, Tryz.f5.params[j]? = some t → args[j]? = some v → Value.okWide Tryz.prog W .any base t v := hval0
  have hW' := hW
  obtain ⟨p, q, hA0, hV, rfl, hfz, hnd⟩ := hW
  have hA : DataW.TrodAll enc Tryz.prog W 0 (fun _ => true) true Tryz.f5.params.toList args.toList ds p := hA0
  rw [Tryz.params5] at hA hval
  obtain ⟨v0, vs0, d0, ds0, p0, q0, hargs, rfl, rfl, h0, r0⟩ := trodAll_cons hA
  obtain ⟨rfl, rfl, rfl⟩ := trodAll_nil r0
  obtain rfl : args = #[v0] := by cases args; simp_all
  obtain ⟨rfl, rfl⟩ := trodVars_none hV
  have k0 := h0
  have lt0 : ∀ x ∈ p0, x.block < W.heap.size := by obtain ⟨m, hm⟩ := k0; exact DataW.trod_lt m _ _ _ hm
  have w0 := open0 (hval 0 31 v0 rfl rfl) h0
  clear hA0 hval0
  refine (walk v0 W w0).mono fun e W' ⟨he, bel⟩ => ?_
  subst he
  exact ⟨_, rfl, _, _, _, [], _, [], hW', trodAll_mk1 (shut_bool Tryz.underlying4 _), (trodAll_cons_mk (Below.trod laidOut (by kernel_rfl) (of_decide_eq_true (by kernel_rfl)) k0 bel lt0) trodAll_mk0), rfl, bel.frame _, fun h => by cases h⟩

theorem over : Rows.msgReadsRow.holds Tryz.pinned (OpenSpec.ofChange Rows.msgReadsSpec) :=
  OpenClaim.holds_of_wide 5 Tryz.f5 rfl rfl rfl rfl rfl rfl rfl ⟨rfl, rfl, rfl, rfl, rfl⟩ rfl rfl rfl rfl rfl (by kernel_rfl) Tryz.func5 (by kernel_rfl)
    (of_decide_eq_true (by kernel_rfl)) (by unfold Func.isWrapper; first | (rw [if_pos (by decide +kernel)]; kernel_rfl) | (rw [if_neg (by decide +kernel)]; exact ⟨rfl, rfl⟩))
    (fun os started H enc _ => lifted os started H enc)

/-- the given statement -/
theorem proved : Rows.MsgReadsSaid := over
#print axioms proved
end Go.Proofs.YtfapkepfngddlaaGreat.msgReads
