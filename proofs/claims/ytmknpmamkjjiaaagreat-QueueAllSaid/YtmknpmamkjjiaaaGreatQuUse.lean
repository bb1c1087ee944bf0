/- The document's own Same of queues; variables that hold queues; the laws' own awake. (Written by gen-quuse.py.) -/
import Derived.Test.YtmknpmamkjjiaaaGreatQuPush
import Derived.Test.YtmknpmamkjjiaaaGreatOrChns
import Derived.Test.YtmknpmamkjjiaaaGreatVWords
import Derived.Deep.Cut
namespace Go.Proofs.YtmknpmamkjjiaaaGreat
open Go.RowKit Plain
set_option linter.unusedVariables false

theorem qubox_two (w : World) (m : Int) (a : Option Addr) (n c : Nat) (m2 : Int) (a2 : Option Addr) (n2 c2 : Nat) : (((w.alloc (.cells #[.int .i64 m, .slice a n c] 24)).alloc (.cells #[.int .i64 m2, .slice a2 n2 c2] 24)).cell? ⟨w.heap.size, 0, none⟩ = some (.int .i64 m) ∧ ((w.alloc (.cells #[.int .i64 m, .slice a n c] 24)).alloc (.cells #[.int .i64 m2, .slice a2 n2 c2] 24)).cell? ⟨w.heap.size, 1, none⟩ = some (.slice a n c)) ∧ ((w.alloc (.cells #[.int .i64 m, .slice a n c] 24)).alloc (.cells #[.int .i64 m2, .slice a2 n2 c2] 24)).cell? ⟨w.heap.size + 1, 0, none⟩ = some (.int .i64 m2) ∧ ((w.alloc (.cells #[.int .i64 m, .slice a n c] 24)).alloc (.cells #[.int .i64 m2, .slice a2 n2 c2] 24)).cell? ⟨w.heap.size + 1, 1, none⟩ = some (.slice a2 n2 c2) := by
 show ((((w.alloc (qc m a n c)).alloc (qc m2 a2 n2 c2)).cell? ⟨w.heap.size, 0, none⟩ = some (.int .i64 m) ∧ ((w.alloc (qc m a n c)).alloc (qc m2 a2 n2 c2)).cell? ⟨w.heap.size, 1, none⟩ = some (.slice a n c)) ∧ ((w.alloc (qc m a n c)).alloc (qc m2 a2 n2 c2)).cell? ⟨w.heap.size + 1, 0, none⟩ = some (.int .i64 m2) ∧ ((w.alloc (qc m a n c)).alloc (qc m2 a2 n2 c2)).cell? ⟨w.heap.size + 1, 1, none⟩ = some (.slice a2 n2 c2))
 have z1 : (w.alloc (qc m a n c)).heap.size = w.heap.size + 1 := by simp
 have b1 := qubox_new (w.alloc (qc m a n c)) m2 a2 n2 c2
 rw [z1] at b1
 exact ⟨(QuBox.below (qubox_new w m a n c) ((Below.refl _ _).alloc (Nat.le_refl _) (qc m2 a2 n2 c2))).c.1, b1.c.1⟩
theorem IsQueue.parts {w : World} {v : Value} {q : PQueue} (h : IsQueue w v q) : ∃ a n c, v = .agg #[.int .i64 q.most, .slice a n c] ∧ q.list.length = n ∧ SeqE LTxn w (.slice a n c) q.list := by
 obtain ⟨a, n, c, rfl, hn, hs⟩ := h
 exact ⟨a, n, c, rfl, hn.symm, hs⟩
/-- a queue is answered -/
def GivesQ (w : World) (q : PQueue) (e : Ending) (w' : World) : Prop := ∃ a n c, e = .returned (.agg #[.int .i64 q.most, .slice a n c]) ∧ IsQueue w' (.agg #[.int .i64 q.most, .slice a n c]) q ∧ Sq LTxn (fun b => w.heap.size ≤ b ∧ b < w'.heap.size) w' (.slice a n c) q.list ∧ Below w.heap.size w w'
theorem GivesQuN.q {w : World} {q : PQueue} {e : Ending} {w' : World} (h : GivesQuN w q e w') : GivesQ w q e w' := by
 obtain ⟨a, n, c, rfl, hn, ho, hb⟩ := h
 exact ⟨a, n, c, rfl, ⟨a, n, c, rfl, hn.symm, ho.newSq.mono fun b h => h.2⟩, ho.newSq, hb⟩
/-- the sizes that are looked at -/
structure QFit (q : PQueue) : Prop where
 len : q.list.length ≤ 1000
 fit : ∀ t ∈ q.list, FitTx t
theorem QFit.heard {q : PQueue} (h : QFit q) (v : Ints) : QFit (qHeard q v) := ⟨Nat.le_trans (qLeft_len _ _) h.len, fun t ht => h.fit t (qLeft_in ht)⟩
theorem qfit_of {q : PQueue} (h : shortTx q.list = true) (hok : ∀ t ∈ q.list, txnOk t) : QFit q := by
 unfold shortTx at h
 rw [Bool.and_eq_true, decide_eq_true_iff, List.all_eq_true] at h
 refine ⟨Nat.le_trans h.1 (by decide), fun t ht => fitTx_of ?_ (hok t ht)⟩
 unfold shortTx
 rw [Bool.and_eq_true, List.all_cons, List.all_nil, Bool.and_true]
 exact ⟨rfl, h.2 t ht⟩
theorem quheardQ {v vv : Value} {q : PQueue} {x : Ints} {w : World} (h : IsQueue w v q) (hv : SeqI w vv x) (hf : QFit q) : Calls Tryz.prog 11 #[v, vv] w (GivesQ w (qHeard q x)) :=
 (quheard_any h hv (by have := hf.len; omega) hf.fit).mono fun _ _ h => h.q
set_option maxRecDepth 100000 in
set_option maxHeartbeats 8000000 in
/-- the document's own Same, of the same ones -/
theorem qusame_any {u v : Value} {a : PQueue} {w : World} (hu : IsQueue w u a) (hv : IsQueue w v a) (hl : a.list.length ≤ 1000000) : Calls Tryz.prog 8 #[u, v] w (GivesB w true) := by
 obtain ⟨la, n, lc, rfl, hn, h1⟩ := hu.parts
 obtain ⟨ma, n2, mc, rfl, hn2, h2⟩ := hv.parts
 obtain rfl : n = n2 := hn.symm.trans hn2
 have hB : Below w.heap.size w ((w.alloc (.cells #[.int .i64 a.most, .slice la n lc] 24)).alloc (.cells #[.int .i64 a.most, .slice ma n mc] 24)) := ((Below.refl w.heap.size w).alloc (Nat.le_refl _) _).alloc (by simp) _
 have CA := Lib.hid (qubox_two w a.most la n lc a.most ma n mc)
 have KS := Lib.hid (sameAll_any (h1.below hB) (h2.below hB) hl)
 rw [decide_eq_true rfl] at KS
 have G := Lib.hid hB
 clear hu hv hl hn hn2 h1 h2 hB
 generalize a.most = m at *
 have be : (m == m) = true := by simp
 go_enter Tryz.func8, Tryz.ntmps8
 go_upto_region 1 with fail
 generalize ((w.alloc (.cells #[.int .i64 m, .slice la n lc] 24)).alloc (.cells #[.int .i64 m, .slice ma n mc] 24)) = w0 at *
 obtain ⟨⟨c0, c1⟩, c2, c3⟩ := CA.out
 go_wp2_with fail
 refine KS.out.mono ?_
 rintro e w1 ⟨rfl, hb⟩
 have G1 := Lib.hid (G.out.trans (hb.mono G.out.size))
 clear hb KS c0 c1 c2 c3
 go_wp2_with fail
 go_ret
 exact ⟨rfl, G1.out⟩
/-- a variable that holds a queue, none of which lies in it -/
structure QuVar (g : Nat) (q : PQueue) (a : Option Addr) (n c : Nat) (u : World) : Prop where
 box : QuBox g q.most a n c u
 len : q.list.length = n
 sq : Sq LTxn (fun b => b < u.heap.size ∧ b ≠ g) u (.slice a n c) q.list
section
variable {g : Nat} {q : PQueue} {a : Option Addr} {n c : Nat} {u u' : World}
theorem QuVar.is (h : QuVar g q a n c u) : IsQueue u (.agg #[.int .i64 q.most, .slice a n c]) q := ⟨a, n, c, rfl, h.len.symm, h.sq.mono fun b k => k.1⟩
theorem QuVar.below (h : QuVar g q a n c u) (hb : Below u.heap.size u u') : QuVar g q a n c u' := ⟨h.box.below hb, h.len, (h.sq.agree fun b k => hb.block b k.1).mono fun b k => ⟨Nat.lt_of_lt_of_le k.1 hb.size, k.2⟩⟩
theorem quvar_new {w : World} (h : IsQueue w (.agg #[.int .i64 q.most, .slice a n c]) q) : QuVar w.heap.size q a n c (w.alloc (.cells #[.int .i64 q.most, .slice a n c] 24)) := by
 obtain ⟨a', n', c', e, hn, hs⟩ := h.parts
 simp only [Value.agg.injEq, Array.mk.injEq, List.cons.injEq, Value.slice.injEq, true_and, and_true] at e
 obtain ⟨rfl, rfl, rfl⟩ := e
 have hb := (Below.refl w.heap.size w).alloc (Nat.le_refl _) (.cells #[.int .i64 q.most, .slice a n c] 24)
 exact ⟨qubox_new w _ _ _ _, hn, (Sq.agree hs fun b k => hb.block b k).mono fun b k => ⟨Nat.lt_of_lt_of_le k hb.size, fun e => by have k2 : b < w.heap.size := k; omega⟩⟩
/-- it is stored into -/
theorem QuVar.put {q' : PQueue} {a' : Option Addr} {n' c' : Nat} (h : QuVar g q a n c u) (hn : q'.list.length = n') (hs : Sq LTxn (fun b => b < u.heap.size ∧ b ≠ g) u (.slice a' n' c') q'.list) : QuVar g q' a' n' c' ((u.setCell ⟨g, 0, none⟩ (.int .i64 q'.most)).setCell ⟨g, 1, none⟩ (.slice a' n' c')) :=
 ⟨h.box.put _ _ _ _, hn, (hs.agree fun b k => (Below.heap_setCell _ _ _ _ k.2).trans (Below.heap_setCell _ _ _ _ k.2)).mono fun b k => ⟨by simpa [World.setCell] using k.1, k.2⟩⟩
end
def qt1 : PTxn := ⟨0, 1, [], []⟩
def qt2 : PTxn := ⟨0, 2, [1], []⟩
theorem qw_new : qNew 1 = ⟨1, []⟩ ∧ qNewErr 1 = 0 := ⟨rfl, rfl⟩
theorem qw_one : qErr ⟨1, []⟩ qt1 = 0 ∧ qPush ⟨1, []⟩ qt1 = ⟨1, [qt1]⟩ := by
 have e : qErr ⟨1, []⟩ qt1 = 0 := by decide +kernel
 exact ⟨e, by unfold qPush; rw [e]; rfl⟩
theorem qw_two : qErr ⟨1, [qt1]⟩ qt2 = 6 ∧ qPush ⟨1, [qt1]⟩ qt2 = ⟨0, []⟩ := by
 have e : qErr ⟨1, [qt1]⟩ qt2 = 6 := by decide +kernel
 exact ⟨e, by unfold qPush; rw [e]; rfl⟩
theorem qw_heard : qHeard ⟨1, [qt1]⟩ [1] = ⟨1, []⟩ := by
 unfold qHeard qLeft
 congr 1
theorem qw_fit1 : FitTx qt1 := ⟨by simp [qt1], by simp [qt1], fun e he => by simp [qt1] at he, ⟨by show intOk 0; unfold intOk; decide, by show intOk 1; unfold intOk; decide, fun n h => by simp [qt1] at h, fun e h => by simp [qt1] at h⟩⟩
theorem qw_fit2 : FitTx qt2 := ⟨by simp [qt2], by simp [qt2], fun e he => by simp [qt2] at he, ⟨by show intOk 0; unfold intOk; decide, by show intOk 2; unfold intOk; decide, fun n h => (by obtain rfl : n = 1 := (by simpa [qt2] using h); unfold intOk; decide), fun e h => by simp [qt2] at h⟩⟩
theorem qw_is1 (w : World) : IsTxn w (.agg #[.int .i64 0, .int .i64 1, .slice none 0 0, .slice none 0 0]) qt1 := ⟨_, _, rfl, SeqE.nil _, SeqE.nil _⟩
set_option maxRecDepth 100000 in
set_option maxHeartbeats 16000000 in
/-- awake -/
theorem quawake_any (w : World) : Calls Tryz.prog 4 #[] w (GivesB w true) := by
 have K1 := Lib.hid (qunew_any 1 w)
 rw [qw_new.1, qw_new.2] at K1
 have KP1 : Hid (∀ u v, IsQueue u v ⟨1, []⟩ → Calls Tryz.prog 9 #[v, .agg #[.int .i64 0, .int .i64 1, .slice none 0 0, .slice none 0 0]] u (GivesQE u 1 [qt1] 0)) := Lib.hid (fun u v h => by
  have k := qupush_any h (qw_is1 u) (by simp) (fun t h => by cases h) qw_fit1
  rw [qw_one.1, qw_one.2] at k
  exact k)
 have KP2 : Hid (∀ u v dv, IsQueue u v ⟨1, [qt1]⟩ → SeqE LInt u dv [1] → Calls Tryz.prog 9 #[v, .agg #[.int .i64 0, .int .i64 2, dv, .slice none 0 0]] u (GivesQE u 0 [] 6)) := Lib.hid (fun u v dv h hd => by
  have k := qupush_any (t := qt2) (tv := .agg #[.int .i64 0, .int .i64 2, dv, .slice none 0 0]) h ⟨_, _, rfl, hd, SeqE.nil _⟩ (by simp) (fun t h => by rw [List.mem_singleton.1 h]; exact qw_fit1) qw_fit2
  rw [qw_two.1, qw_two.2] at k
  exact k)
 have KH : Hid (∀ u v dv, IsQueue u v ⟨1, [qt1]⟩ → SeqI u dv [1] → Calls Tryz.prog 11 #[v, dv] u (GivesQN u 1 [])) := Lib.hid (fun u v dv h hd => by
  have k := quheard_any h hd (by simp) (fun t h => by rw [List.mem_singleton.1 h]; exact qw_fit1)
  rw [qw_heard] at k
  exact k)
 go_enter Tryz.func4, Tryz.ntmps4
 go_wp2_with fail
 refine K1.out.mono ?_
 rintro e w1 ⟨a1, n1, c1, rfl, hn, ho, hb⟩
 have V1 := Lib.hid (quvar_new (w := w1) (q := ⟨1, []⟩) (a := a1) (n := n1) (c := c1) ⟨a1, n1, c1, rfl, hn.symm, ho.newSq.mono fun b h => h.2⟩)
 have G1 := Lib.hid (hb.trans (((Below.refl w1.heap.size w1).alloc (Nat.le_refl _) (.cells #[.int .i64 1, .slice a1 n1 c1] 24)).mono hb.size))
 have ZG : Hid (w.heap.size ≤ w1.heap.size) := Lib.hid hb.size
 clear hn ho hb K1
 go_upto_region 2 with fail
 generalize (w1.alloc (.cells #[.int .i64 1, .slice a1 n1 c1] 24)) = w2 at *
 generalize w1.heap.size = g at *
 obtain ⟨⟨c0, c1'⟩, f0, f1⟩ := V1.out.box.c
 have K2 := Lib.hid (KP1.out w2 _ V1.out.is)
 go_upto_region 3 with (go_at_call 9; refine K2.out.mono ?_; rintro e w3 ⟨a2, n2, c2, rfl, hn, ho, hb⟩; have V2 := Lib.hid (V1.out.below hb); have S2 := Lib.hid (ho.newSq.mono fun b h => (⟨h.2, by have := V1.out.box.lt; omega⟩ : b < w3.heap.size ∧ b ≠ g)); have G2 := Lib.hid (G1.out.trans (hb.mono G1.out.size)); have N2 := Lib.hid hn; clear hn ho hb K2 KP1 V1 G1 c0 c1' f0 f1; obtain ⟨⟨c0, c1'⟩, f0, f1⟩ := V2.out.box.c)
 have V3 := Lib.hid (V2.out.put (q' := ⟨1, [qt1]⟩) N2.out S2.out)
 have G3 : Hid (Below w.heap.size w ((w3.setCell ⟨g, 0, none⟩ (.int .i64 1)).setCell ⟨g, 1, none⟩ (.slice a2 n2 c2))) := Lib.hid ((G2.out.setCell ZG.out _).setCell ZG.out _)
 clear V2 G2 S2 c0 c1' f0 f1
 generalize ((w3.setCell ⟨g, 0, none⟩ (.int .i64 1)).setCell ⟨g, 1, none⟩ (.slice a2 n2 c2)) = w4 at *
 have hb4 := (Below.refl w4.heap.size w4).alloc (Nat.le_refl _) (.cells #[.int .i64 1] 3)
 have V5 := Lib.hid (V3.out.below hb4)
 have G5 := Lib.hid (G3.out.trans (hb4.mono G3.out.size))
 have K4 := Lib.hid (KP2.out _ _ _ V5.out.is (seq_ofI (SeqI.one w4 1)))
 obtain ⟨⟨c0, c1'⟩, f0, f1⟩ := V3.out.box.c
 clear hb4 KP2 G3
 go_upto_region 4 with (go_at_call 9; refine K4.out.mono ?_; rintro e w6 ⟨a3, n3, c3, rfl, hn, ho, hb⟩; have V6 := Lib.hid ((V5.out.below hb).below ((Below.refl w6.heap.size w6).alloc (Nat.le_refl _) (.cells #[.int .i64 0, .slice a3 n3 c3] 24))); have G6 := Lib.hid ((G5.out.trans (hb.mono G5.out.size)).alloc (Nat.le_trans G5.out.size hb.size) (.cells #[.int .i64 0, .slice a3 n3 c3] 24)); clear hn ho hb K4 V5 V3 G5 c0 c1' f0 f1)
 generalize (w6.alloc (.cells #[.int .i64 0, .slice a3 n3 c3] 24)) = w7 at *
 have hb7 := (Below.refl w7.heap.size w7).alloc (Nat.le_refl _) (.cells #[.int .i64 1] 3)
 have V8 := Lib.hid (V6.out.below hb7)
 have G8 := Lib.hid (G6.out.trans (hb7.mono G6.out.size))
 have K8 := Lib.hid (KH.out _ _ _ V8.out.is (SeqI.one w7 1))
 obtain ⟨⟨c0, c1'⟩, -⟩ := V6.out.box.c
 clear hb7 KH G6
 go_wp2_with fail
 refine K8.out.mono ?_
 rintro e w9 ⟨a4, n4, c4, rfl, hn, ho, hb⟩
 obtain rfl : 0 = n4 := hn
 have G9 := Lib.hid (G8.out.trans (hb.mono G8.out.size))
 clear ho hb K8 V8 V6 c0 c1'
 have hfd : ∀ w : World, (Instr.field 24 (.agg #[.int .i64 1, .slice a4 0 c4]) 1).run Tryz.prog w = .ok (.slice a4 0 c4) w := fun _ => by kernel_rfl
 go_wp2_with fail
 go_ret
 exact ⟨rfl, G9.out⟩
end Go.Proofs.YtmknpmamkjjiaaaGreat
