/- What stands while one block of the caller's turns (a map that a function value writes) and the call's own rows grow. Of no package. SLICES OF THE CALL'S OWN, FINER: what they hold lies in blocks of J alone (and none of them is the row's own); append. Of no package. -/
import Derived.Test.YtfapkepfngddlaaGreatEls
import Derived.Test.YtfapkepfngddlaaGreatEqI
import Derived.Maps.OwnSet
import Derived.DeepKeys5
import Derived.Deep.LoopGhost
import Derived.BigQuiet
import Derived.Test.YtfapkepfngddlaaGreatMaths
import Derived.Shelf.Abstract
import Derived.Deep.Cut
import Derived.Lib.SliceRun
set_option maxRecDepth 100000
set_option maxHeartbeats 64000000
namespace Go.Proofs.YtfapkepfngddlaaGreat
open Go.RowKit Plain
set_option linter.unusedVariables false
theorem grown_trans {w W W' : World} {row row' : Option Nat} (h : w.grownBy W row) (g : W.grownBy W' row') (hr : ∀ j, row' = some j → row = some j ∨ w.heap.size ≤ j) : w.grownBy W' row :=
 ⟨g.os.trans h.os, g.tape.trans h.tape, g.output.trans h.output, Nat.le_trans h.size g.size, fun k hk hne => (g.block k (Nat.lt_of_lt_of_le hk h.size) (fun e => by
  rcases hr k e.symm with e2 | e2
  ·exact hne e2.symm
  ·omega)).trans (h.block k hk hne)⟩
theorem grown_below {w W W' : World} {row : Option Nat} (h : w.grownBy W row) (g : Below w.heap.size W W') : w.grownBy W' row :=
 ⟨g.os.trans h.os, g.tape.trans h.tape, g.output.trans h.output, Nat.le_trans h.size g.size, fun k hk hne => (g.block k hk).trans (h.block k hk hne)⟩
theorem grown_of_below {w W : World} {row : Option Nat} (h : Below w.heap.size w W) : w.grownBy W row := grown_below (World.grownBy.refl w row) h
theorem below_of_own {B : Nat} {w W : World} {m : Nat} (h : w.grownBy W (some m)) (hB : B ≤ w.heap.size) (hm : B ≤ m) : Below B w W := ⟨h.os, h.tape, h.output, h.size, fun k hk => h.block k (by omega) (fun e => by cases e; omega)⟩
variable {α : Type} {L : El α}
theorem OwnE.kept {B : Nat} {w w' : World} {row : Option Nat} {v : Value} {xs : List α} (hf : Flat L) (h : OwnE L B w v xs) (hg : w.grownBy w' row) (hr : ∀ j, row = some j → j < B) : OwnE L B w' v xs := by
 obtain ⟨vals, ho, hrows⟩ := h;refine ⟨vals, ⟨ho.1, ?_⟩, ⟨hrows.1, fun j x hj => hf (hrows.2 j x hj)⟩⟩
 rcases ho.2 with hn | ⟨g, cap, cur, hv, hb, hgc, hr'⟩
 ·exact .inl hn
 ·have hlt : g < w.heap.size := (Array.getElem?_eq_some_iff.1 hgc).1
  exact .inr ⟨g, cap, cur, hv, hb, (hg.block g hlt (fun e => by have := hr g e.symm; omega)).trans hgc, hr'⟩
def Old (L : El α) (row : Option Nat) (B : Nat) (w : World) (v : Value) (xs : List α) : Prop := Sq L (fun b => b < B ∧ some b ≠ row) w v xs
theorem Old.kept {row : Option Nat} {w w' : World} {v : Value} {xs : List α} (h : Old L row w.heap.size w v xs) (hg : w.grownBy w' row) : Old L row w.heap.size w' v xs := Sq.agree h fun b hb => hg.block b hb.1 hb.2
theorem Old.seq {row : Option Nat} {B : Nat} {w : World} {v : Value} {xs : List α} (h : Old L row B w v xs) (hB : B ≤ w.heap.size) : SeqE L w v xs := h.mono fun b hb => Nat.lt_of_lt_of_le hb.1 hB
variable {α : Type} {L : El α}
def OwnJ (J : Nat → Prop) (L : El α) (B : Nat) (w : World) (v : Value) (xs : List α) : Prop := ∃ vals, w.ownsRow B L.E L.k v xs.length vals ∧ Rows L (fun b => J b ∧ b < w.heap.size ∧ v.ownBlock ≠ some b) w vals xs
theorem OwnJ.own {J : Nat → Prop} {B : Nat} {w : World} {v : Value} {xs : List α} (h : OwnJ J L B w v xs) : OwnE L B w v xs := by
 obtain ⟨vals, ho, hr⟩ := h;exact ⟨vals, ho, hr.mono fun b hb => hb.2⟩
theorem OwnJ.nil (J : Nat → Prop) (B : Nat) (w : World) : OwnJ J L B w (.slice none 0 0) [] := ⟨[], World.ownsRow_nil _ _ _ _, Rows.nil _ _⟩
theorem OwnJ.lt {J : Nat → Prop} {B : Nat} {w : World} {v : Value} {xs : List α} (h : OwnJ J L B w v xs) : ∀ k, v.ownBlock = some k → B ≤ k ∧ k < w.heap.size := h.own.lt
theorem OwnJ.at {J : Nat → Prop} {B : Nat} {w : World} {v : Value} {xs : List α} (h : OwnJ J L B w v xs) (n : Nat) (hn : xs.length = n) : ∃ a cap, v = .slice a n cap ∧ (n : Int) ≤ cap ∧ (cap : Int) ≤ 9223372036854775807 ∧ OwnJ J L B w (.slice a n cap) xs := by
 obtain ⟨a, cap, rfl, h1, h2, -⟩ := h.own.at n hn;exact ⟨a, cap, rfl, h1, h2, h⟩
theorem OwnJ.mono {J : Nat → Prop} {B C : Nat} {w : World} {v : Value} {xs : List α} (h : OwnJ J L B w v xs) (hc : C ≤ B) : OwnJ J L C w v xs := by
 obtain ⟨vals, ho, hr⟩ := h;refine ⟨vals, ⟨ho.1, ?_⟩, hr⟩
 rcases ho.2 with hn | ⟨g, cap, cur, hv, hb, hg⟩
 ·exact .inl hn
 ·exact .inr ⟨g, cap, cur, hv, by omega, hg⟩
theorem OwnJ.imp {J J' : Nat → Prop} {B : Nat} {w : World} {v : Value} {xs : List α} (h : OwnJ J L B w v xs) (hj : ∀ b, J b → J' b) : OwnJ J' L B w v xs := by
 obtain ⟨vals, ho, hr⟩ := h;exact ⟨vals, ho, hr.mono fun b hb => ⟨hj b hb.1, hb.2⟩⟩
theorem OwnJ.kept {J : Nat → Prop} {B : Nat} {w w' : World} {v : Value} {xs : List α} (h : OwnJ J L B w v xs) (hs : w.heap.size ≤ w'.heap.size) (hb : ∀ b, b < w.heap.size → (J b ∨ B ≤ b) → w'.heap[b]? = w.heap[b]?) : OwnJ J L B w' v xs := by
 obtain ⟨vals, ho, hr⟩ := h;refine ⟨vals, ⟨ho.1, ?_⟩, (hr.agree fun b hq => hb b hq.2.1 (.inl hq.1)).mono fun b hq => ⟨hq.1, Nat.lt_of_lt_of_le hq.2.1 hs, hq.2.2⟩⟩
 rcases ho.2 with hn | ⟨g, cap, cur, hv, hb', hg, hr'⟩
 ·exact .inl hn
 ·have hlt : g < w.heap.size := (Array.getElem?_eq_some_iff.1 hg).1
  exact .inr ⟨g, cap, cur, hv, hb', (hb g hlt (.inr hb')).trans hg, hr'⟩
theorem OwnJ.below {J : Nat → Prop} {B N : Nat} {w w' : World} {v : Value} {xs : List α} (h : OwnJ J L B w v xs) (hb : Below N w w') (hN : w.heap.size ≤ N) : OwnJ J L B w' v xs := h.kept hb.size fun b hl _ => hb.block b (Nat.lt_of_lt_of_le hl hN)
theorem OwnJ.alloc {J : Nat → Prop} {B : Nat} {w : World} {v : Value} {xs : List α} (h : OwnJ J L B w v xs) (o : Obj) : OwnJ J L B (w.alloc o) v xs := h.below (zB w o) (Nat.le_refl _)
theorem OwnJ.sq {J : Nat → Prop} {B : Nat} {w : World} {v : Value} {xs : List α} (h : OwnJ J L B w v xs) (hj : ∀ b, B ≤ b → b < w.heap.size → J b) : Sq L (fun b => J b ∧ b < w.heap.size) w v xs := by
 have hlt := h.lt;obtain ⟨vals, ho, hr⟩ := h;have hr' : Rows L (fun b => J b ∧ b < w.heap.size) w vals xs := hr.mono fun b hb => ⟨hb.1, hb.2.1⟩
 rcases ho.2 with ⟨rfl, hn⟩ | ⟨g, cap, cur, rfl, hb, hg, hnc, hcm, hcs, htake⟩
 ·refine ⟨none, 0, vals, by rw [hn], by omega, Nat.zero_le _, fun _ => rfl, hr', fun hp => absurd hp (by omega)⟩
 ·refine ⟨_, cap, vals, rfl, hnc, hcm, (by simp), hr', fun hp => ⟨g, 0, rfl, ⟨hj g (hlt g rfl).1 (hlt g rfl).2, (hlt g rfl).2⟩, fun i u hi => ?_⟩⟩
  have hil : i < xs.length * L.k := by rw [← hr.1]; exact (List.getElem?_eq_some_iff.1 hi).1
  rw [Nat.zero_add, World.ownsRow.cellAt ho i hil, hi]
theorem run_append_elJ {w : World} (J : Nat → Prop) (B : Nat) (ty : TypeId) {v u : Value} {xs ys : List α} (hown : OwnJ J L B w v xs) {Q : Nat → Prop} (hseq : Sq L Q w u ys)
  (hI : ∀ vs x, L.R Q w vs x → L.R (fun b => J b ∧ b < w.heap.size ∧ v.ownBlock ≠ some b) w vs x) (hlen : xs.length + ys.length ≤ 1073741824) (hbase : B ≤ w.heap.size) :
  ∃ v' w', (Builtin.append_ #[L.S, L.S] ty #[v, u]).run Tryz.prog w = .ok v' w' ∧ OwnJ J L B w' v' (xs ++ ys) ∧ w.grownBy w' v.ownBlock ∧ (v'.ownBlock = v.ownBlock ∨ v'.ownBlock = some w.heap.size) := by
 obtain ⟨i0, hi, hz0, hz1, hz2⟩ := info_el L;have hlt := hown.lt;obtain ⟨vals, ho, hr⟩ := hown;obtain ⟨a, cap, news, rfl, h1, h2, h0, hn, h3⟩ := hseq;have hn' : Rows L (fun b => J b ∧ b < w.heap.size ∧ v.ownBlock ≠ some b) w news ys := ⟨hn.1, fun j x hj => hI _ _ (hn.2 j x hj)⟩;have hsm := L.small
 cases a with
 | none =>
  obtain rfl := h0 rfl;obtain rfl : ys = [] := List.eq_nil_of_length_eq_zero (by omega);refine ⟨v, w, run_append_owned_none (P := Tryz.prog) (w := w) B L.S ty L.E i0 L.k L.und hi v _ _ ho, ?_, World.grownBy.refl _ _, .inl rfl⟩;rw [List.append_nil];exact ⟨vals, ho, hr⟩
 | some ad =>
  have hbytes : (xs.length + ys.length) * L.bytes ≤ 140737488355328 := by
   have := Nat.mul_le_mul hlen hsm;omega
  obtain ⟨v', w', hrun, ho', hg, -, hat⟩ := run_append_own_at (P := Tryz.prog) w B L.S ty L.E i0 L.zero L.k L.bytes L.und hi hz0 hz1 hz2 L.zsize L.pos v _ _ ho ad ys.length cap news hn.1 (fun j u hu => by
    have hp : 0 < ys.length := by
     have h := (List.getElem?_eq_some_iff.1 hu).1;rw [hn.1] at h
     rcases Nat.eq_zero_or_pos ys.length with e | e
     ·rw [e, Nat.zero_mul] at h; omega
     ·exact e
    obtain ⟨b, off, he, hc⟩ := h3 hp
    cases he
    rw [Addr.add_lit];exact hc.2 j u hu) (Rows.cells hn) (by unfold maxLen; omega) hbytes hbase
  refine ⟨v', w', hrun, ⟨vals ++ news, by rw [List.length_append]; exact ho', ?_⟩, hg, hat⟩;refine (((hr.append hn').agree fun b hq => hg.block b hq.2.1 fun e => hq.2.2 e.symm).mono fun b hq => ⟨hq.1, Nat.lt_of_lt_of_le hq.2.1 hg.size, ?_⟩)
  rcases hat with e | e
  ·rw [e]; exact hq.2.2
  ·rw [e]
   intro e2;have := hq.2.1
   cases e2
   omega
theorem wpList_append_elJ {w : World} {ops : Array Oper} {rest : List Oper} {o : Oper} {act : Act} {Q : Exit → Act → World → Prop} (J : Nat → Prop) (L : El α) (hgd : o.guard = none) (s x : Operand)
  (ho : o.op = .call { callee := .builtin .append, args := #[s, x], argTypes := #[L.S, L.S] }) (B : Nat) {v u : Value} {xs ys : List α}
  (hs : act.eval s = v) (hown : OwnJ J L B w v xs) (hx : act.eval x = u) {K : Nat → Prop} (hseq : Sq L K w u ys) (hI : ∀ vs x, L.R K w vs x → L.R (fun b => J b ∧ b < w.heap.size ∧ v.ownBlock ≠ some b) w vs x) (hlen : xs.length + ys.length ≤ 1073741824) (hbase : B ≤ w.heap.size)
  (h : ∀ v' w', OwnJ J L B w' v' (xs ++ ys) → w.grownBy w' v.ownBlock → (v'.ownBlock = v.ownBlock ∨ v'.ownBlock = some w.heap.size) → wpList Tryz.prog ops Q rest (act.put o.dst v') w') : wpList Tryz.prog ops Q (o :: rest) act w := by
 refine wpList_plain hgd fun K hK => ?_
 obtain ⟨v', w', hr, h2, h3, h4⟩ := run_append_elJ J B o.type hown hseq hI hlen hbase;unfold Oper.wp execOp;simp only [ho, resolve, invoke, builtin, Sem.run_bind, Sem.run_pure, Result.andThen_ok, List.map_toArray, List.map_cons, List.map_nil, hs, hx, hr]
 exact hK _ _ (h v' w' h2 h3 h4)
end Go.Proofs.YtfapkepfngddlaaGreat
namespace Go.Proofs.YtfapkepfngddlaaGreat
open Go.RowKit Plain Go.Maps
set_option linter.unusedVariables false
set_option maxRecDepth 100000
theorem laidOut : laidOutB Tryz.prog = true := by kernel_rfl
theorem rowDot : 45 < Tryz.prog.types.size := by decide +kernel
theorem wideDot : (match Tryz.prog.underlying 45 with | some (.array _ _) | some (.struct _) => true | _ => false) = true := by rw [Tryz.underlying45]
theorem keyDot : Tryz.prog.keyTypeAt (Tryz.prog.types.size + 1) 45 = true := by kernel_rfl
theorem lawDot : Keyed Tryz.prog 45 := Keyed.of_law (deep_law_laid laidOut (m := 2) (by omega) rowDot (by kernel_rfl) wideDot)
theorem shut_dot {H : Type} {enc : TypeId × Value → H} {W : World} {base : Nat} {sp : Nat → Bool} {held : Bool} {d : PDot} (h : dotOk d) :
  DataW.Trod enc Tryz.prog W base sp held 45 (dv d) (.agg [.lit (.int .i64 d.node), .lit (.int .i64 d.seq), .lit (.int .i64 d.pos)]) [] := by
 obtain ⟨h1, h2, h3⟩ := h;refine ⟨2, ?_⟩
 show DataW.trod enc Tryz.prog W base sp held (1 + 1) 45 [.int .i64 d.node, .int .i64 d.seq, .int .i64 d.pos] = _
 rw [DataW.trod_step];unfold DataW.trodStep;have e1 : Tryz.prog.cellsOf 3 = 1 := by kernel_rfl
 simp [Tryz.underlying45, Tryz.underlying3, cellsOfDot, e1, DataW.trod, h1, h2, h3]
def kd (d : PDot) : Lit := (DataW.agg [.lit (.int .i64 d.node), .lit (.int .i64 d.seq), .lit (.int .i64 d.pos)] : DataW Unit).asKey
theorem keyOf_dot {d : PDot} (h : dotOk d) : keyOf Tryz.prog 45 (dv d) = some (kd d) :=
 (keyOf_asKey (P := Tryz.prog) (H := Unit) (enc := fun _ => ()) (w := default) (base := 0) (sp := fun _ => true) (held := true) keyDot wideDot (v := dv d) (by
  unfold Value.formed dv;rw [Tryz.underlying45, cellsOfDot]
  rfl) (shut_dot h)).1
theorem dv_inj {a b : PDot} (h : dv a = dv b) : a = b := by
 unfold dv at h;simp only [Value.agg.injEq, Array.mk.injEq, List.cons.injEq, Value.int.injEq, true_and, and_true] at h
 exact pdot_ext h.1 h.2.1 h.2.2
theorem kd_inj {a b : PDot} (ha : dotOk a) (hb : dotOk b) (h : kd a = kd b) : a = b := by
 have h1 := keyOf_dot ha;rw [h] at h1;exact dv_inj (lawDot.inj h1 (keyOf_dot hb))
theorem kd_key {a : PDot} (ha : dotOk a) : WideAt.IsKeyLit (kd a) := lawDot.key (keyOf_dot ha)
theorem hasDot_snoc (ds : List PDot) (a d : PDot) : hasDot (ds ++ [a]) d = (hasDot ds d || decide (a = d)) := by
 unfold hasDot;rw [List.any_append];simp
def SetAt (w : World) (b : Nat) (ds : List PDot) : Prop := ∃ (D : DataW Unit) (n : Nat), n ≤ ds.length ∧ w.ownsMap Tryz.prog 45 unitElem b n D ∧ ∀ d, dotOk d → Maps.has D (kd d) = hasDot ds d
theorem SetAt.lt {w : World} {b : Nat} {ds : List PDot} (h : SetAt w b ds) : b < w.heap.size := by
 obtain ⟨D, n, -, ho, -⟩ := h;exact ho.lt
theorem SetAt.made (w : World) : SetAt (w.alloc (.map #[] 0)) w.heap.size [] := ⟨.map [], 0, Nat.le_refl _, World.ownsMap_made _ _ _ _, fun d _ => rfl⟩
theorem SetAt.kept {w w' : World} {row : Option Nat} {b : Nat} {ds : List PDot} (h : SetAt w b ds) (hg : w.grownBy w' row) (hr : some b ≠ row) : SetAt w' b ds := by
 obtain ⟨D, n, hn, ho, hh⟩ := h;exact ⟨D, n, hn, ho.kept hg hr, hh⟩
theorem SetAt.below {w w' : World} {B b : Nat} {ds : List PDot} (h : SetAt w b ds) (hb : Below B w w') (hB : b < B) : SetAt w' b ds := by
 obtain ⟨D, n, hn, ho, hh⟩ := h;obtain ⟨es, clock, hblk, r⟩ := ho;exact ⟨D, n, hn, ⟨es, clock, (hb.block b hB).trans hblk, r⟩, hh⟩
theorem SetAt.alloc {w : World} {b : Nat} {ds : List PDot} (h : SetAt w b ds) (o : Obj) : SetAt (w.alloc o) b ds := h.kept (World.grownBy_alloc w o none) (by simp)
theorem SetAt.put {w' : World} {b n : Nat} {ds : List PDot} {D : DataW Unit} {a : PDot} (ha : dotOk a) (hn : n ≤ ds.length) (hD : IsMap D) (hh : ∀ d, dotOk d → Maps.has D (kd d) = hasDot ds d)
  (ho : w'.ownsMap Tryz.prog 45 unitElem b (n + 1) (D.put (kd a) (.agg []))) : SetAt w' b (ds ++ [a]) := by
 refine ⟨_, n + 1, by rw [List.length_append]; simp; omega, ho, fun d hd => ?_⟩;rw [hasDot_snoc]
 by_cases e : a = d
 ·subst e
  rw [has_put_same hD (kd_key ha), decide_eq_true rfl, Bool.or_true]
 ·rw [has_put_other (fun k => e (kd_inj ha hd k.symm)), hh d hd, decide_eq_false e, Bool.or_false]
theorem zeroUnit (w : World) : (zeroValue 137).run Tryz.prog w = .ok (.agg #[]) w := by kernel_rfl
end Go.Proofs.YtfapkepfngddlaaGreat
namespace Go.Proofs.YtfapkepfngddlaaGreat
open Go.RowKit Plain
set_option linter.unusedVariables false
def shortB1 (x : PItem) : Bool := decide (x.key.length ≤ 300) && (decide (x.field.length ≤ 300) && decide (x.elem.length ≤ 300))
def shortI (xs : List PItem) : Bool := decide (xs.length ≤ 60) && xs.all shortB1
theorem short1_iff {x : PItem} : shortB1 x = true ↔ x.key.length ≤ 300 ∧ x.field.length ≤ 300 ∧ x.elem.length ≤ 300 := by
 unfold shortB1;rw [Bool.and_eq_true, Bool.and_eq_true, decide_eq_true_iff, decide_eq_true_iff, decide_eq_true_iff]
theorem shortI_iff {xs : List PItem} : shortI xs = true ↔ xs.length ≤ 60 ∧ ∀ x ∈ xs, shortB1 x = true := by
 unfold shortI;rw [Bool.and_eq_true, decide_eq_true_iff, List.all_eq_true]
theorem mem_def {α : Type} [Inhabited α] {xs : List α} {j : Nat} (hj : j < xs.length) : xs.getD j default ∈ xs := List.mem_of_getElem? (getD_at hj)
theorem itv_eq3 (x : PItem) : itv x = .agg #[.string (bt x.key), .string (bt x.field), .int .i64 x.kind, .string (bt x.elem), .int .i64 x.n, .int .i64 x.dot.node, .int .i64 x.dot.seq, .int .i64 x.dot.pos] := rfl
theorem ithose_any {u : Value} {xs : List PItem} {w : World} {row : Option Nat} (hu : Old LItem row w.heap.size w u xs) (hn : xs.length ≤ 1000000) (f : Nat → Bool) (I : Nat → World → Prop) (g : Nat) (lb : Array Value)
  (eg : ∀ args w, (callFunc g args).run Tryz.prog w = .ok (.enter g args) w) (hrow : ∀ j, row = some j → j < w.heap.size)
  (hI : ∀ k W W', I k W → Below w.heap.size W W' → I k W')
  (hp : ∀ k W, k < xs.length → I k W → w.grownBy W row → Calls Tryz.prog g (#[itv (xs.getD k default)] ++ lb) W fun e W' => e = .returned (.bool (f k)) ∧ I (k + 1) W' ∧ W.grownBy W' row)
  (h0 : I 0 w) :
  Calls Tryz.prog 125 #[u, .func (.func g) #[] lb] w fun e w' => ∃ v, e = .returned v ∧ OwnE LItem w.heap.size w' v (pickK f xs xs.length) ∧ w.grownBy w' row ∧ I xs.length w' := by
 have hu' := hu;obtain ⟨a, cap, -, rfl, -⟩ := hu';have HS := zH hu;have HI := zH hI;have HP := zH hp;have HR := zH hrow;have H0 := zH h0;obtain ⟨n, hN⟩ : ∃ n, xs.length = n := ⟨_, rfl⟩;rw [hN] at hn ⊢;have LN := zH hN;clear hu hI hp hrow h0 hN;go_enter Tryz.func125, Tryz.ntmps125
 go_wp2_with fail
 go_loopw [5, 10] (fun o i wr => ∃ k : Nat, k ≤ n ∧ i = .int .i64 k ∧ OwnE LItem w.heap.size wr o (pickK f xs k) ∧ w.grownBy wr row ∧ I k wr) (fun _ i _ => n - (intOf i).toNat)
 case atStart => exact ⟨0, Nat.zero_le _, rfl, OwnE.nil _ _, World.grownBy.refl _ _, H0.out⟩
 case round =>
  obtain ⟨k, hk, rfl, ho, hb, hi⟩ := hrel;have HO := zH ho;have HB := zH hb;have HK := zH hi;have PL := pickK_len f xs k;clear ho hb hi
  by_cases hlt : k < n
  ·have hkx := zH (show k < xs.length by rw [LN.out]; exact hlt)
   obtain ⟨b, o, c, hv, -, -, -, hc⟩ := items_spot ((HS.out.kept HB.out).seq HB.out.size) (by rw [LN.out]; omega);rw [LN.out] at hv;simp only [Value.slice.injEq] at hv
   obtain ⟨rfl, -, rfl⟩ := hv;obtain ⟨c0, c1, c2, c3, c4, c5, c6, c7⟩ := hc k hkx.out;have PK := zH (fun W => HP.out k W hkx.out);have S1 := zH (fun (W : World) => one_item W (xs.getD k default));have PY := zH (fun h => pickK_yes (f := f) (xs := xs) (k := k) h);have PN := zH (fun h => pickK_no (f := f) (xs := xs) (k := k) h);clear hc;generalize xs.getD k default = x at *;have B1 := zH ((Below.refl w.heap.size wr).alloc HB.out.size (.cells #[.string (bt x.key), .string (bt x.field), .int .i64 x.kind, .string (bt x.elem), .int .i64 x.n, .int .i64 x.dot.node, .int .i64 x.dot.seq, .int .i64 x.dot.pos] 47));have BG := zH (grown_below HB.out B1.out);have K := PK.out _ (HI.out _ _ _ HK.out B1.out) BG.out;have O1 := zH (HO.out.alloc (.cells #[.string (bt x.key), .string (bt x.field), .int .i64 x.kind, .string (bt x.elem), .int .i64 x.n, .int .i64 x.dot.node, .int .i64 x.dot.seq, .int .i64 x.dot.pos] 47));have IB : Hid (ItemAt (wr.alloc (.cells #[.string (bt x.key), .string (bt x.field), .int .i64 x.kind, .string (bt x.elem), .int .i64 x.n, .int .i64 x.dot.node, .int .i64 x.dot.seq, .int .i64 x.dot.pos] 47)) wr.heap.size 0 x) := zH ⟨by simp, by simp, by simp, by simp, by simp, by simp, by simp, by simp⟩;have hsz : w.heap.size ≤ wr.heap.size := HB.out.size;have HZ := zH hsz;clear hsz PK;rw [itv_eq3] at K;go_upto_region 5 with fail
   clear c0 c1 c2 c3 c4 c5 c6 c7;generalize (wr.alloc (.cells #[.string (bt x.key), .string (bt x.field), .int .i64 x.kind, .string (bt x.elem), .int .i64 x.n, .int .i64 x.dot.node, .int .i64 x.dot.seq, .int .i64 x.dot.pos] 47)) = wb at *;obtain ⟨c0, c1, c2, c3, c4, c5, c6, c7⟩ := IB.out;simp only [Nat.zero_add] at c1 c2 c3 c4 c5 c6 c7
   cases hf : f k with
   | true =>
    rw [hf] at K;have HY := zH (PY.out hf);clear hf PY PN;have HC8 : Hid (∀ W, wb.grownBy W row → ItemAt W wr.heap.size 0 x) := zH (fun W hg => ⟨hg.cell IB.out.c0 (fun e => by have := HR.out _ e.symm; have := HZ.out; simp at *; omega), hg.cell IB.out.c1 (fun e => by have := HR.out _ e.symm; have := HZ.out; simp at *; omega), hg.cell IB.out.c2 (fun e => by have := HR.out _ e.symm; have := HZ.out; simp at *; omega), hg.cell IB.out.c3 (fun e => by have := HR.out _ e.symm; have := HZ.out; simp at *; omega), hg.cell IB.out.c4 (fun e => by have := HR.out _ e.symm; have := HZ.out; simp at *; omega), hg.cell IB.out.c5 (fun e => by have := HR.out _ e.symm; have := HZ.out; simp at *; omega), hg.cell IB.out.c6 (fun e => by have := HR.out _ e.symm; have := HZ.out; simp at *; omega), hg.cell IB.out.c7 (fun e => by have := HR.out _ e.symm; have := HZ.out; simp at *; omega)⟩);have HG2 : Hid (∀ W, wb.grownBy W row → w.grownBy W row) := zH (fun W hg => grown_trans BG.out hg (fun j hj => .inl hj));have HO2 : Hid (∀ W, wb.grownBy W row → OwnE LItem w.heap.size W u5 (pickK f xs k)) := zH (fun W hg => O1.out.kept flat_item hg HR.out);go_wp2_with (first
     | (go_at_fn g; refine K.mono ?_; rintro e w1 ⟨rfl, hi, hg⟩; have I1 := zH hi; have G1 := zH hg; obtain ⟨c0, c1, c2, c3, c4, c5, c6, c7⟩ := HC8.out _ hg; simp only [Nat.zero_add] at c1 c2 c3 c4 c5 c6 c7; have G2 := zH (HG2.out _ hg); have O2 := zH (HO2.out _ hg); clear hi hg)
     | (at_builtin; refine wpList_append_el LItem rfl (.tmp 17) (.tmp 19) rfl w.heap.size rfl (O2.out.alloc _) rfl (S1.out _) (fun _ _ h => h) (by simp; omega) (by have := G2.out.size; simp; omega) ?_))
    intro v' w2 ho' hgr _;have O3 := zH ho';rw [← HY.out] at O3;have BL := zH (((Below.refl w.heap.size w1).alloc G2.out.size _).grown hgr (by have := G2.out.size; simp; omega) (fun j hj => (O2.out.lt j hj).1));have I3 := zH (HI.out _ _ _ I1.out BL.out);have G3 := zH (grown_below G2.out BL.out);clear ho' hgr;go_wp2_with fail
    go_roundw
    case rel => exact ⟨k + 1, by omega, by go_num, O3.out, G3.out, I3.out⟩
    case measure => simp [intOf]; omega
   | false =>
    rw [hf] at K;have HY := zH (PN.out hf);clear hf PY PN;go_wp2_with (go_at_fn g; refine K.mono ?_; rintro e w1 ⟨rfl, hi, hg⟩)
    have I1 := zH hi;have O2 := zH (O1.out.kept flat_item hg HR.out);rw [← HY.out] at O2;have G2 := zH (grown_trans BG.out hg (fun j hj => .inl hj));clear hi hg K c0 c1 c2 c3 c4 c5 c6 c7;go_wp2_with fail
    go_roundw
    case rel => exact ⟨k + 1, by omega, by go_num, O2.out, G2.out, I1.out⟩
    case measure => simp [intOf]; omega
  ·obtain rfl : k = n := by omega
   go_wp2_with fail
   go_ret
   exact ⟨_, rfl, HO.out, HB.out, HK.out⟩
theorem iclone_any {u : Value} {xs : List PItem} {w : World} (hu : SeqE LItem w u xs) (hn : xs.length ≤ 1000000) : Calls Tryz.prog 122 #[u] w (MadeE LItem w xs) := by
 obtain ⟨a, cap, rfl, -, -, g0, h⟩ := hu.parts;have q22 : ∀ (w : World) (a : Option Addr) (n c n' c' : Nat), (binOp .eql 25 (.slice a n c) (.slice none n' c')).run Tryz.prog w = .ok (.bool a.isNone) w := fun w a n c n' c' => Lib.run_eql_slice_nil w _ _ a n c n' c' Tryz.underlying25
 cases a with
 | none =>
  obtain rfl := g0 rfl;obtain rfl : xs = [] := List.eq_nil_of_length_eq_zero (by have := h.dims; omega);go_enter Tryz.func122, Tryz.ntmps122
  go_wp2_with fail
  go_ret
  exact ⟨_, rfl, OwnE.nil _ _, Below.refl _ _⟩
 | some ad =>
  have HS := zH (h.below_alloc (.cells #[] 47));have HO := zH (OwnE.empty (L := LItem) w w.heap.size (Nat.le_refl _));have HB := zH (zB w (.cells #[] 47));have hz : w.heap.size ≤ (w.alloc (.cells #[] 47)).heap.size := by simp
  have HZ := zH hz;clear hu h g0 hz;go_enter Tryz.func122, Tryz.ntmps122
  go_wp2_with (at_builtin; refine wpList_append_el LItem rfl (.tmp 5) (.tmp 6) rfl w.heap.size rfl HO.out rfl HS.out (fun _ _ h => h) (by simp; omega) HZ.out ?_)
  intro v' w2 ho' hgr _;have O3 := zH ho';have B3 := zH (HB.out.grown hgr HZ.out (fun j hj => (HO.out.lt j hj).1));clear ho' hgr;go_wp2_with fail
  go_ret
  exact ⟨_, rfl, by simpa using O3.out, B3.out⟩
theorem ior_any (xs : List Int) (n g : Nat) (w : World) (hn : xs.length = n) (hp : n ≤ 1000) (hc : ∀ j, j < n → w.cell? ⟨g, j, none⟩ = some (.int .i64 (xs.getD j 0))) :
  Calls Tryz.prog 153 #[.slice (some ⟨g, 0, none⟩) n n] w fun e w' => e = .returned (.int .i64 (firstNZ xs)) ∧ w' = w := by
 have hit : ∀ (l : List Int) (k : Nat), k < l.length → (∀ j, j < k → l.getD j 0 = 0) → l.getD k 0 ≠ 0 → firstNZ l = l.getD k 0 := by
  intro l
  induction l with
  | nil => intro k h; simp at h
  | cons c l ih =>
   intro k hk ha hh
   cases k with
   | zero => simp only [List.getD_cons_zero] at hh ⊢; rw [firstNZ, if_neg hh]
   | succ k =>
    have h0 := ha 0 (by omega);simp only [List.getD_cons_zero] at h0
    simp only [List.getD_cons_succ] at hh ⊢
    rw [firstNZ, if_pos h0];exact ih k (by simpa using hk) (fun j hj => by have := ha (j + 1) (by omega); simpa using this) hh
 have none : ∀ l : List Int, (∀ j, j < l.length → l.getD j 0 = 0) → firstNZ l = 0 := by
  intro l
  induction l with
  | nil => intro _; rfl
  | cons c l ih =>
   intro ha;have h0 := ha 0 (by simp);simp only [List.getD_cons_zero] at h0
   rw [firstNZ, if_pos h0];exact ih fun j hj => by have := ha (j + 1) (by simpa using hj); simpa using this
 have HH := zH (hit xs);have HN := zH (none xs);have HC := zH hc;rw [hn] at HH HN;clear hit none hc hn;generalize firstNZ xs = r at *;obtain ⟨f, hf⟩ : ∃ f : Nat → Int, (fun j => xs.getD j 0) = f := ⟨_, rfl⟩;have HF := zH (fun j => congrFun hf j);clear hf;go_enter Tryz.func153, Tryz.ntmps153
 go_wp2_with fail
 go_loop [8] (fun i => ∃ k : Nat, k ≤ n ∧ i = .int .i64 k ∧ ∀ j, j < k → xs.getD j 0 = 0) (fun i => n - (intOf i).toNat)
 case atStart => exact ⟨0, Nat.zero_le _, rfl, fun j hj => absurd hj (by omega)⟩
 case round =>
  obtain ⟨k, hk, rfl, hall⟩ := hrel;have HA := zH hall;clear hall
  by_cases hlt : k < n
  ·have c0 := HC.out k hlt
   have hnx := zH (HH.out k hlt HA.out);have hz : Hid (xs.getD k 0 = 0 → ∀ j, j < k + 1 → xs.getD j 0 = 0) := zH (fun e j hj => by
    by_cases e2 : j = k
    ·rw [e2]; exact e
    ·exact HA.out j (by omega))
   generalize xs.getD k 0 = c at *
   by_cases hc0 : c = 0
   ·have HX := zH (hz.out hc0)
    subst hc0;go_wp2_with fail
    go_round
    case rel => exact ⟨k + 1, by omega, by go_num, HX.out⟩
    case measure => simp [intOf]; omega
   ·obtain rfl : r = c := hnx.out hc0
    go_wp2_with fail
    go_ret
    exact ⟨rfl, rfl⟩
  ·obtain rfl : k = n := by omega
   obtain rfl : r = 0 := HN.out HA.out;go_wp2_with fail
   go_ret
   exact ⟨rfl, rfl⟩
end Go.Proofs.YtfapkepfngddlaaGreat
