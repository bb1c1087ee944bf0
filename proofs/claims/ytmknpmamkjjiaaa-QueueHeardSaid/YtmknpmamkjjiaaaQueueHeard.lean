/-
  For any queue and any two vectors the law QueueHeard answers true: what two vectors have heard, one behind the other, is what both have heard together. No condition.
  (The frame was written by the guide's proof-skeleton.mjs, turned for queues; the walk is ours.)
-/
import Derived.Test.YtmknpmamkjjiaaaRows
import Derived.WalkKit
import Derived.ProofKit
import Derived.OpenShut
import Derived.ShutString
import Derived.ChangeOld
import Derived.Below
import Derived.Test.YtmknpmamkjjiaaaQuUse
namespace Go.Proofs.Ytmknpmamkjjiaaa.queueHeard
open Go.ChangeShapes Go.WideShapes Go.ChangeAt Go.RowKit
open Go.ChangeMaps (open_string shut_string)
set_option linter.unusedVariables false

theorem own : ownKnob Try.prog.godebug = none := by kernel_rfl
theorem laidOut : laidOutB Try.prog = true := by kernel_rfl

set_option maxRecDepth 100000
set_option maxHeartbeats 64000000
open Plain

theorem open0 {H:Type} {enc:TypeId×Value ->H} {W:World} {r:Reach} {b:Nat} {v:Value} {d:DataW H} {p:List MemPlace} (hv:Value.okWide Try.prog W r b 26 v) (h:DataW.Trod enc Try.prog W 0 (fun _=>true) true 26 v d p):kZ W v:=lZ hv h
theorem walk (v0:Value) (a1:Option Addr) (n1:Nat) (c1:Nat) (z1:List Int) (a2:Option Addr) (n2:Nat) (c2:Nat) (z2:List Int) (w:World) (w0:kZ w v0) (w1:vF .i64 w a1 n1 c1 z1) (w2:vF .i64 w a2 n2 c2 z2):
    Calls Try.prog 4 #[v0,.slice a1 n1 c1,.slice a2 n2 c2] w fun e w'=>e= .returned (.bool true)/\Below w.heap.size w w':=by
  obtain ⟨q,hq,hok⟩:=w0;obtain ⟨qa,qn,qk,hv0,hn,hs⟩:=hq.parts;subst hv0;have hb:=zB w (.cells #[.int .i64 q.most,.slice qa qn qk] 26);obtain ⟨x1,s1,l1,-⟩:=qO w1;obtain ⟨x2,s2,l2,-⟩:=qO w2;have VB:=zH (iI hq);have S1:=zH (s1.below hb);have S2:=zH (s2.below hb);have L1:=zH l1;have L2:=zH l2;have OK:=zH hok;have G:=zH hb;clear hq hok hn hs hb w1 w2 s1 s2 l1 l2;go_enter Try.func4,Try.ntmps4
  go_upto_region 1 with fail
  generalize (w.alloc _)=wB at*;generalize hg0:w.heap.size=g0 at VB ⊢;go_wp2_with fail
  refine (jV _).mono ?_;rintro e u1 ⟨rfl,hb⟩;replace VB:=zH (VB.o.below hb);replace S1:=zH (S1.o.below hb);replace S2:=zH (S2.o.below hb);replace G:=zH (G.o.trans (hb.mono G.o.size));clear hb;obtain ⟨sa,hsa⟩:∃ b,b=gu q.list:=⟨_,rfl⟩;have Ch:=zH hsa;clear hsa;have KA:=zH (jy (show bJ dJ u1 (.slice qa qn qk) q.list from VB.o.sq.mono fun b h=>h.1) sa Ch.o.symm);obtain ⟨⟨c0,c1'⟩,-⟩:=VB.o.box.c
  cases sa
  · go_wp2_with fail
    refine KA.o.mono ?_;rintro e u2 ⟨rfl,hb⟩;replace G:=zH (G.o.trans (hb.mono G.o.size));clear hb KA c0 c1';go_wp2_with fail
    go_ret
    first|exact ⟨rfl,G.o⟩|exact ⟨rfl,hg0▸G.o⟩
  have FQ:=zH (xZ Ch.o.symm OK.o)
  by_cases h60:60<n1
  · have i60:(60:Int)<(n1:Int):=by omega
    go_wp2_with fail
    refine KA.o.mono ?_;rintro e u2 ⟨rfl,hb⟩;replace G:=zH (G.o.trans (hb.mono G.o.size));replace VB:=zH (VB.o.below hb);replace S1:=zH (S1.o.below hb);replace S2:=zH (S2.o.below hb);clear hb KA c0 c1';go_wp2_with fail
    go_ret
    first|exact ⟨rfl,G.o⟩|exact ⟨rfl,hg0▸G.o⟩
  have i60:¬ (60:Int)<(n1:Int):=by omega
  by_cases h61:60<n2
  · have i61:(60:Int)<(n2:Int):=by omega
    go_wp2_with fail
    refine KA.o.mono ?_;rintro e u2 ⟨rfl,hb⟩;replace G:=zH (G.o.trans (hb.mono G.o.size));replace VB:=zH (VB.o.below hb);replace S1:=zH (S1.o.below hb);replace S2:=zH (S2.o.below hb);clear hb KA c0 c1';go_wp2_with fail
    go_ret
    first|exact ⟨rfl,G.o⟩|exact ⟨rfl,hg0▸G.o⟩
  have i61:¬ (60:Int)<(n2:Int):=by omega
  go_wp2_with fail
  refine KA.o.mono ?_;rintro e u2 ⟨rfl,hb⟩;replace G:=zH (G.o.trans (hb.mono G.o.size));replace VB:=zH (VB.o.below hb);replace S1:=zH (S1.o.below hb);replace S2:=zH (S2.o.below hb);clear hb KA c0 c1';have J1:Hid (x1.length<=1000000):=zH (by have:=L1.o;omega);have J2:Hid (x2.length<=1000000):=zH (by have:=L2.o;omega);have QL:Hid (∀ y,(bS (bS q x1) y).list.length<=1000000):=zH (fun y=>by have:=((FQ.o.heard x1).heard y).len;omega);have Dh:Hid (q.list.length<=1000000):=zH (by have:=FQ.o.len;omega);have E1:=zH (r9 q x1 x2);have E2:=zH (qo q x1 x2);have E3:=zH (kU q);have K3:=zH (fV VB.o.is S1.o FQ.o);obtain ⟨⟨c0,c1'⟩,-⟩:=VB.o.box.c;go_wp2_with fail
  refine K3.o.mono ?_;rintro e u3 ⟨a3,n3,c3,rfl,hq,-,hb⟩;have S2':=S2.o.below hb;have K4:=zH (fV hq S2' (FQ.o.heard x1));replace VB:=zH (VB.o.below hb);replace S1:=zH (S1.o.below hb);replace S2:=zH S2';replace G:=zH (G.o.trans (hb.mono G.o.size));clear hb hq K3 S2' c0 c1';go_wp2_with fail
  refine K4.o.mono ?_;rintro e u4 ⟨a4,n4,c4,rfl,hq,-,hb⟩;have hbq:=zB u4 (.cells #[.int .i64 (bS (bS q x1) x2).most,.slice a4 n4 c4] 26);have VA:=zH (iI hq);replace VB:=zH ((VB.o.below hb).below hbq);replace S1:=zH ((S1.o.below hb).below hbq);replace S2:=zH ((S2.o.below hb).below hbq);replace G:=zH ((G.o.trans (hb.mono G.o.size)).trans (hbq.mono (aD G.o.size hb.size)));clear hb hq hbq K4;go_upto_region 6 with fail
  have HM:Hid ((bS (bS q x1) x2).most=q.most):=zH rfl;generalize (u4.alloc _)=u5 at*;generalize u4.heap.size=g4 at*;have KE:Hid (∀ u,Below u5.heap.size u5 u ->Below u5.heap.size u5 u/\(u.cell? ⟨g0,0,none⟩=some (.int .i64 q.most)/\u.cell? ⟨g0,1,none⟩=some (.slice qa qn qk))/\u.cell? ⟨g4,0,none⟩=some (.int .i64 (bS (bS q x1) x2).most)/\u.cell? ⟨g4,1,none⟩=some (.slice a4 n4 c4)):=zH (fun u hb=>⟨hb,(VB.o.below hb).box.c.1,(VA.o.below hb).box.c.1⟩);refine wp_region_held_drew (S:=fun u'=>Below u5.heap.size u5 u'/\(u'.cell? ⟨g0,0,none⟩=some (.int .i64 q.most)/\u'.cell? ⟨g0,1,none⟩=some (.slice qa qn qk))/\u'.cell? ⟨g4,0,none⟩=some (.int .i64 (bS (bS q x1) x2).most)/\u'.cell? ⟨g4,1,none⟩=some (.slice a4 n4 c4)) (by kernel_rfl) ?_ (fun hH=> ?_)
  · (exact KE.o _ (ak _ _).drew)
  simp only [zS,aC,Nat.reduceAdd]
  refine bF 0 hH ?_;refine bF 1 hH ?_;refine bF 2 hH ?_;refine bF 4 hH ?_;have KB:=zH (fun u (hb:Below u5.heap.size u5 u)=>fV (VB.o.below hb).is (S2.o.below hb) FQ.o);refine rd 3 fun K hK=> ?_
  go_simp
  refine (KB.o _ hH.1).mono ?_;rintro e s1 ⟨b1,m1,d1,rfl,hq,-,hb⟩;have Q1:=zH hq;have SS:=zH (S1.o.below (dz hH hb));clear hq KB;refine hK.out _ _ (KE.o _ (dz hH hb)) (fun hH=> ?_);clear hK K hb;have K5:=zH (fV Q1.o SS.o (FQ.o.heard x2));refine rd 5 fun K hK=> ?_
  go_simp
  refine (K5.o).mono ?_;rintro e s2 ⟨b2,m2,d2,rfl,hq,-,hb⟩;have Q2:=zH hq;clear hq K5 Q1 SS;refine hK.out _ _ (KE.o _ (dz hH hb)) (fun hH=> ?_);clear hK K hb;rw [E2.o] at Q2;have K6:=zH (iY (VA.o.below hH.1).is Q2.o (QL.o x2));refine rd 6 fun K hK=> ?_
  go_simp
  refine (K6.o).mono ?_;rintro e s3 ⟨rfl,hb⟩;clear K6 Q2;refine hK.out _ _ (KE.o _ (dz hH hb)) (fun hH=> ?_);clear hK K hb;refine bF 7 hH ?_;refine bF 8 hH ?_;refine bF 9 hH ?_;refine bF 10 hH ?_;refine bF 11 hH ?_;have K7:=zH (qP (S1.o.below hH.1) (S2.o.below hH.1) J1.o J2.o);refine rd 12 fun K hK=> ?_
  go_simp
  refine (K7.o).mono ?_;rintro e s4 ⟨jv,rfl,hj,hb⟩;have JS:=zH hj.seq;obtain ⟨ja,jc,rfl,-,-,-,-⟩:=hj.parts;clear hj K7;refine hK.out _ _ (KE.o _ (dz hH hb)) (fun hH=> ?_);clear hK K hb;have K8:=zH (fV (VB.o.below hH.1).is JS.o FQ.o);refine rd 13 fun K hK=> ?_
  go_simp
  refine (K8.o).mono ?_;rintro e s5 ⟨b3,m3,d3,rfl,hq,-,hb⟩;have Q3:=zH hq;clear hq K8 JS;refine hK.out _ _ (KE.o _ (dz hH hb)) (fun hH=> ?_);clear hK K hb;rw [<-E1.o] at Q3;have K9:=zH (iY (VA.o.below hH.1).is Q3.o (QL.o x2));refine rd 14 fun K hK=> ?_
  go_simp
  refine (K9.o).mono ?_;rintro e s6 ⟨rfl,hb⟩;clear K9 Q3;refine hK.out _ _ (KE.o _ (dz hH hb)) (fun hH=> ?_);clear hK K hb;refine bF 15 hH ?_;refine bF 16 hH ?_;refine bF 17 hH ?_;refine bF 19 hH ?_;have Ci:=zH (fV (VB.o.below hH.1).is (bX.nil _) FQ.o);refine rd 18 fun K hK=> ?_
  go_simp
  refine (Ci.o).mono ?_;rintro e s7 ⟨b4,m4,d4,rfl,hq,-,hb⟩;have Q4:=zH hq;clear hq Ci;refine hK.out _ _ (KE.o _ (dz hH hb)) (fun hH=> ?_);clear hK K hb;rw [E3.o] at Q4;have Cj:=zH (iY Q4.o (VB.o.below hH.1).is Dh.o);refine rd 20 fun K hK=> ?_
  go_simp
  refine (Cj.o).mono ?_;rintro e s8 ⟨rfl,hb⟩;clear Cj Q4;refine hK.out _ _ (KE.o _ (dz hH hb)) (fun hH=> ?_);clear hK K hb;refine bF 21 hH ?_;refine bF 22 hH ?_;refine wpAnyH_done (by kernel_rfl) ?_ _;replace G:=zH (G.o.trans (hH.1.mono G.o.size));clear hH;go_wp2_with fail
  go_ret
  first|exact ⟨rfl,G.o⟩|exact ⟨rfl,hg0▸G.o⟩

set_option maxRecDepth 100000 in
theorem lifted (os : Os) (started : os.Started) (H : Type) (enc : TypeId × Value → H) :
    ReturnsInHanded {} Try.checked os 4 .any (Rows.queueHeardSpec.pre6 enc Try.prog Try.f4 Rows.queueHeardRow.domain false) (Rows.queueHeardSpec.post enc Try.prog Try.f4 false true false false) := by
  refine returnsInHanded_of_change (C := Try.checked) own started (by kernel_rfl) Try.func4
    (ChangeSpec.witness6 (enc := enc) (C := Try.checked) false ⟨#[], #[.agg #[.int .i64 0, .slice none 0 0], .slice none 0 0, .slice none 0 0], []⟩ 8 (by kernel_rfl) (by kernel_rfl) (by kernel_rfl) (by kernel_rfl)) ?_
  intro W base args ds gs before hval0 hW hcnd _
  have hval : ∀ (j : Nat) t v, Try.f4.params[j]? = some t → args[j]? = some v → Value.okWide Try.prog W .any base t v := hval0
  have hW' := hW
  obtain ⟨p, q, hA0, hV, rfl, hfz, hnd⟩ := hW
  have hA : DataW.TrodAll enc Try.prog W 0 (fun _ => true) true Try.f4.params.toList args.toList ds p := hA0
  rw [Try.params4] at hA hval
  obtain ⟨v0, vs0, d0, ds0, p0, q0, hargs, rfl, rfl, h0, r0⟩ := trodAll_cons hA
  obtain ⟨v1, vs1, d1, ds1, p1, q1, rfl, rfl, rfl, h1, r1⟩ := trodAll_cons r0
  obtain ⟨v2, vs2, d2, ds2, p2, q2, rfl, rfl, rfl, h2, r2⟩ := trodAll_cons r1
  obtain ⟨rfl, rfl, rfl⟩ := trodAll_nil r2
  obtain rfl : args = #[v0, v1, v2] := by cases args; simp_all
  obtain ⟨rfl, rfl⟩ := trodVars_none hV
  have k0 := h0
  have lt0 : ∀ x ∈ p0, x.block < W.heap.size := by obtain ⟨m, hm⟩ := k0; exact DataW.trod_lt m _ _ _ hm
  have w0 := open0 (hval 0 26 v0 rfl rfl) h0
  obtain ⟨a1, len1, cap1, rfl⟩ := okWide_slice Try.underlying31 (hval 1 31 v1 rfl rfl)
  have k1 := h1
  have lt1 : ∀ x ∈ p1, x.block < W.heap.size := by obtain ⟨m, hm⟩ := k1; exact DataW.trod_lt m _ _ _ hm
  obtain ⟨z1, w1⟩ : ∃ zs, vF .i64 W a1 len1 cap1 zs := by
    obtain ⟨fuel, hf⟩ := h1
    rcases open_ints Try.underlying31 Try.underlying3 (by kernel_rfl) hf with ⟨hcs, _⟩ | ⟨x, l, c, zs, hcs, _, hl, hm, hz, _, hcell, hwz⟩
    · simp [Value.cells] at hcs
      obtain ⟨rfl, rfl, rfl⟩ := hcs
      exact ⟨[], .inl ⟨rfl, rfl, rfl, rfl⟩⟩
    · simp [Value.cells] at hcs
      obtain ⟨rfl, rfl, rfl⟩ := hcs
      exact ⟨zs, .inr ⟨_, rfl, hl, hm, by simpa using hz, hcell, hwz⟩⟩
  obtain ⟨a2, len2, cap2, rfl⟩ := okWide_slice Try.underlying31 (hval 2 31 v2 rfl rfl)
  have k2 := h2
  have lt2 : ∀ x ∈ p2, x.block < W.heap.size := by obtain ⟨m, hm⟩ := k2; exact DataW.trod_lt m _ _ _ hm
  obtain ⟨z2, w2⟩ : ∃ zs, vF .i64 W a2 len2 cap2 zs := by
    obtain ⟨fuel, hf⟩ := h2
    rcases open_ints Try.underlying31 Try.underlying3 (by kernel_rfl) hf with ⟨hcs, _⟩ | ⟨x, l, c, zs, hcs, _, hl, hm, hz, _, hcell, hwz⟩
    · simp [Value.cells] at hcs
      obtain ⟨rfl, rfl, rfl⟩ := hcs
      exact ⟨[], .inl ⟨rfl, rfl, rfl, rfl⟩⟩
    · simp [Value.cells] at hcs
      obtain ⟨rfl, rfl, rfl⟩ := hcs
      exact ⟨zs, .inr ⟨_, rfl, hl, hm, by simpa using hz, hcell, hwz⟩⟩
  clear hA0 hval0
  refine (walk v0 a1 len1 cap1 z1 a2 len2 cap2 z2 W w0 w1 w2).mono fun e W' ⟨he, bel⟩ => ?_
  subst he
  exact ⟨_, rfl, _, _, _, [], _, [], hW', trodAll_mk1 (shut_bool Try.underlying4 _), (trodAll_cons_mk (Below.trod laidOut (by kernel_rfl) (of_decide_eq_true (by kernel_rfl)) k0 bel lt0) (trodAll_cons_mk (Below.trod laidOut (by kernel_rfl) (of_decide_eq_true (by kernel_rfl)) k1 bel lt1) (trodAll_cons_mk (Below.trod laidOut (by kernel_rfl) (of_decide_eq_true (by kernel_rfl)) k2 bel lt2) trodAll_mk0))), rfl, bel.frame _, fun h => by cases h⟩

theorem over : Rows.queueHeardRow.holds Try.pinned (OpenSpec.ofChange Rows.queueHeardSpec) :=
  OpenClaim.holds_of_wide 4 Try.f4 rfl rfl rfl rfl rfl rfl rfl ⟨rfl, rfl, rfl, rfl, rfl⟩ rfl rfl rfl rfl rfl (by kernel_rfl) Try.func4 (by kernel_rfl)
    (of_decide_eq_true (by kernel_rfl)) (by unfold Func.isWrapper; first | (rw [if_pos (by decide +kernel)]; kernel_rfl) | (rw [if_neg (by decide +kernel)]; exact ⟨rfl, rfl⟩))
    (fun os started H enc _ => lifted os started H enc)

/-- the given statement -/
theorem proved : Rows.QueueHeardSaid := over
#print axioms proved
end Go.Proofs.Ytmknpmamkjjiaaa.queueHeard
