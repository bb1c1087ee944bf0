/-
  For any numbers and records the law CoreSound answers true: a core behind records holds a sound store and a sound past, whose end is what was heard. No condition.
  (The frame was written by the guide's proof-skeleton.mjs, turned for records; the walk is ours, written by gen-walks.py.)
-/
import Derived.Test.YtfgcodcablpdcaaGreatRows
import Derived.WalkKit
import Derived.ProofKit
import Derived.OpenShut
import Derived.ShutString
import Derived.ChangeOld
import Derived.Below
import Derived.Test.YtfgcodcablpdcaaGreatCpUse
import Derived.JoinedOf
namespace Go.Proofs.YtfgcodcablpdcaaGreat.coreSound
open Go.ChangeShapes Go.WideShapes Go.ChangeAt Go.RowKit
open Go.ChangeMaps (open_string shut_string)
set_option linter.unusedVariables false

theorem own : ownKnob Tryz.prog.godebug = none := by kernel_rfl
theorem laidOut : laidOutB Tryz.prog = true := by kernel_rfl

set_option maxRecDepth 100000
set_option maxHeartbeats 64000000
open Plain

theorem open2 {H:Type} {enc:TypeId×Value ->H} {W:World} {r:Reach} {b:Nat} {v:Value} {d:DataW H} {p:List MemPlace} (hv:Value.okWide Tryz.prog W r b 22 v) (h:DataW.Trod enc Tryz.prog W 0 (fun _=>true) true 22 v d p):Cc W v:=Cg hv h

theorem walk (me:Int) (cores:Int) (v2:Value) (w:World) (w0:(Lit.int .i64 me).wf=true) (w1:(Lit.int .i64 cores).wf=true) (w2:Cc w v2):
    Calls Tryz.prog 5 #[.int .i64 me,.int .i64 cores,v2] w fun e w'=>e= .returned (.bool true)/\Below w.heap.size w w':=by
  obtain ⟨l,hl,ok⟩:=w2;have G:=zH (aj w.heap.size w);have KM:=zH (fun u (hb:Below w.heap.size w u)=>Qp (me:=me) (cores:=cores) (hl.below hb) ok);have OK:=zH ok;clear hl ok w0 w1;go_enter Tryz.func5,Tryz.ntmps5
  go_wp2_with fail
  refine (EH _).mono ?_;rintro e wK ⟨rfl,hb⟩;have GK:=zH (G.o.trans (hb.mono G.o.size));clear hb G;go_upto_region 4 with (go_at_call 17;refine (KM.o _ GK.o).mono ?_;rintro e wL ⟨c,⟨ha,hn,hc,ia,im,ic,fa,fn,fc,la,ln,lc,ka,kn,kc⟩,b,rfl,hA,hb,hB⟩;have A1:=zH (hA.mono fun b h=>h.2);have G1:=zH (GK.o.trans (hb.mono GK.o.size));have HB:=zH hB;clear hA hb hB;unfold fP)
  have hbx:=zB wL (.cells #[.int .i64 c.me,.int .i64 c.cores,.slice ha hn hc,.slice ia im ic,.slice fa fn fc,.slice la ln lc,.slice ka kn kc] 34);have X0:=mX A1.o;unfold fP at X0;have X:=zH X0;have G:=zH (G1.o.trans (hbx.mono G1.o.size))

  clear X0 hbx A1 G1 GK;generalize (wL.alloc _)=wM at*;generalize wL.heap.size=g at*
  cases b
  · clear KM HB X
    go_wp2_with fail
    go_ret
    exact ⟨rfl,G.o⟩
  have CF:=zH ((HB.o rfl).fit OK.o);clear HB KM OK;have KE:Hid (∀ u,Below wM.heap.size wM u ->Below wM.heap.size wM u/\u.cell? ⟨g,0,none⟩=some (Value.int .i64 c.me)/\u.cell? ⟨g,1,none⟩=some (Value.int .i64 c.cores)/\u.cell? ⟨g,2,none⟩=some (Value.slice ha hn hc)/\u.cell? ⟨g,3,none⟩=some (Value.slice ia im ic)/\u.cell? ⟨g,4,none⟩=some (Value.slice fa fn fc)/\u.cell? ⟨g,5,none⟩=some (Value.slice la ln lc)/\u.cell? ⟨g,6,none⟩=some (Value.slice ka kn kc)):=zH (fun u hb=>⟨hb,(X.o.below hb).cl⟩);have K1:=zH (fun u (hb:Below wM.heap.size wM u)=>Ti (X.o.below hb).storeIs (ak CF.o.heard (by decide)) (by have:=CF.o.items;omega) CF.o.dots true (Kn.2 CF.o.snd.st));have K2:=zH (fun u (hb:Below wM.heap.size wM u)=>Qv (X.o.below hb).pastIs (ak CF.o.snd.fl (by decide)) (by have:=CF.o.list;omega) CF.o.tx true (TP.2 CF.o.snd.pa));have K3:=zH (fun u (hb:Below wM.heap.size wM u)=>Du (X.o.below hb).pastIs (ak CF.o.snd.fl (by decide)) (by have:=CF.o.list;omega));rw [CF.o.snd.same] at K3;have K4:=zH (fun u v (hb:Below wM.heap.size wM u) (h:gQ u v c.store.heard)=>AJ h (gW (X.o.below hb).seq.h));go_upto_region 6 with fail
  refine wp_region_held_drew (S:=fun u'=>Below wM.heap.size wM u'/\u'.cell? ⟨g,0,none⟩=some (Value.int .i64 c.me)/\u'.cell? ⟨g,1,none⟩=some (Value.int .i64 c.cores)/\u'.cell? ⟨g,2,none⟩=some (Value.slice ha hn hc)/\u'.cell? ⟨g,3,none⟩=some (Value.slice ia im ic)/\u'.cell? ⟨g,4,none⟩=some (Value.slice fa fn fc)/\u'.cell? ⟨g,5,none⟩=some (Value.slice la ln lc)/\u'.cell? ⟨g,6,none⟩=some (Value.slice ka kn kc)) (by kernel_rfl) ?_ (fun hH=> ?_)
  · (exact KE.o _ (aj _ _).drew)
  simp only [zS,aJ,Nat.reduceAdd]
  refine fJ 0 hH ?_;refine fJ 1 hH ?_;refine rd 2 fun K hK=> ?_
  go_simp
  refine (K1.o _ hH.1).mono ?_;rintro e s1 ⟨rfl,hb⟩;refine hK.out _ _ (KE.o _ (hH.1.trans (hb.mono hH.1.size))) (fun hH=> ?_);clear hK K hb;refine fJ 3 hH ?_;refine fJ 4 hH ?_;refine fJ 5 hH ?_;refine rd 6 fun K hK=> ?_
  go_simp
  refine (K2.o _ hH.1).mono ?_;rintro e s2 ⟨rfl,hb⟩;refine hK.out _ _ (KE.o _ (hH.1.trans (hb.mono hH.1.size))) (fun hH=> ?_);clear hK K hb;refine fJ 7 hH ?_;refine fJ 8 hH ?_;refine fJ 9 hH ?_;refine fJ 10 hH ?_;refine fJ 12 hH ?_;refine fJ 13 hH ?_;refine fJ 14 hH ?_;refine rd 11 fun K hK=> ?_
  go_simp
  refine (K3.o _ hH.1).mono ?_;rintro e s3 ⟨v3,rfl,ho,hb⟩;have SE:=zH ho.seq;refine hK.out _ _ (KE.o _ (hH.1.trans (hb.mono hH.1.size))) (fun hH=> ?_);clear hK K hb ho;refine rd 15 fun K hK=> ?_
  go_simp
  refine (K4.o _ _ hH.1 SE.o).mono ?_;rintro e s4 ⟨rfl,q,hq⟩;have hb:Below s3.heap.size s3 s4:=by rw [hq];exact below_drewN (aj _ _) q
  refine hK.out _ _ (KE.o _ (hH.1.trans (hb.mono hH.1.size))) (fun hH=> ?_);clear hK K hb hq;refine fJ 16 hH ?_;refine fJ 17 hH ?_;refine wpAnyH_done (by kernel_rfl) ?_ _;have GE:=zH (G.o.trans (hH.1.mono G.o.size));clear hH;go_wp2_with fail
  go_ret
  exact ⟨rfl,GE.o⟩

set_option maxRecDepth 100000 in
theorem lifted (os : Os) (started : os.Started) (H : Type) (enc : TypeId × Value → H) :
    ReturnsInHanded {} Tryz.checked os 5 .any (Rows.coreSoundSpec.pre6 enc Tryz.prog Tryz.f5 Rows.coreSoundRow.domain false) (Rows.coreSoundSpec.post enc Tryz.prog Tryz.f5 false true false false) := by
  refine returnsInHanded_of_change (C := Tryz.checked) own started (by kernel_rfl) Tryz.func5
    (ChangeSpec.witness6 (enc := enc) (C := Tryz.checked) false ⟨#[], #[.int .i64 0, .int .i64 0, .slice none 0 0], []⟩ 8 (by kernel_rfl) (by kernel_rfl) (by kernel_rfl) (by kernel_rfl)) ?_
  intro W base args ds gs before hval0 hW hcnd _
  have hval : ∀ (j : Nat) t v, Tryz.f5.params[j]? = some t → args[j]? = some v → Value.okWide Tryz.prog W .any base t v := hval0
  have hW' := hW
  obtain ⟨p, q, hA0, hV, rfl, hfz, hnd⟩ := hW
  have hA : DataW.TrodAll enc Tryz.prog W 0 (fun _ => true) true Tryz.f5.params.toList args.toList ds p := hA0
  rw [Tryz.params5] at hA hval
  obtain ⟨v0, vs0, d0, ds0, p0, q0, hargs, rfl, rfl, h0, r0⟩ := trodAll_cons hA
  obtain ⟨v1, vs1, d1, ds1, p1, q1, rfl, rfl, rfl, h1, r1⟩ := trodAll_cons r0
  obtain ⟨v2, vs2, d2, ds2, p2, q2, rfl, rfl, rfl, h2, r2⟩ := trodAll_cons r1
  obtain ⟨rfl, rfl, rfl⟩ := trodAll_nil r2
  obtain rfl : args = #[v0, v1, v2] := by cases args; simp_all
  obtain ⟨rfl, rfl⟩ := trodVars_none hV
  obtain ⟨a0, rfl, rfl, rfl, w0⟩ := open_int Tryz.underlying3 (hval 0 3 v0 rfl rfl) h0
  obtain ⟨a1, rfl, rfl, rfl, w1⟩ := open_int Tryz.underlying3 (hval 1 3 v1 rfl rfl) h1
  have k2 := h2
  have lt2 : ∀ x ∈ p2, x.block < W.heap.size := by obtain ⟨m, hm⟩ := k2; exact DataW.trod_lt m _ _ _ hm
  have w2 := open2 (hval 2 22 v2 rfl rfl) h2
  clear hA0 hval0
  refine (walk a0 a1 v2 W w0 w1 w2).mono fun e W' ⟨he, bel⟩ => ?_
  subst he
  exact ⟨_, rfl, _, _, _, [], _, [], hW', trodAll_mk1 (shut_bool Tryz.underlying4 _), (trodAll_cons_mk (shut_int Tryz.underlying3 w0) (trodAll_cons_mk (shut_int Tryz.underlying3 w1) (trodAll_cons_mk (Below.trod laidOut (by kernel_rfl) (of_decide_eq_true (by kernel_rfl)) k2 bel lt2) trodAll_mk0))), rfl, bel.frame _, fun h => by cases h⟩

set_option maxHeartbeats 8000000 in
theorem over : Rows.coreSoundRow.holds Tryz.pinned (OpenSpec.ofChange Rows.coreSoundSpec) :=
  OpenClaim.holds_of_wide 5 Tryz.f5 rfl rfl rfl rfl rfl rfl rfl ⟨rfl, rfl, rfl, rfl, rfl⟩ rfl rfl rfl rfl rfl (by kernel_rfl) Tryz.func5 (by unfold joinedFacts; simp only [Bool.and_eq_true]; and_intros <;> as_aux_lemma => kernel_rfl)
    (of_decide_eq_true (by kernel_rfl)) (by unfold Func.isWrapper; first | (rw [if_pos (by decide +kernel)]; kernel_rfl) | (rw [if_neg (by decide +kernel)]; exact ⟨rfl, rfl⟩))
    (fun os started H enc _ => lifted os started H enc)

/-- the given statement -/
theorem proved : Rows.CoreSoundSaid := over
#print axioms proved
end Go.Proofs.YtfgcodcablpdcaaGreat.coreSound
