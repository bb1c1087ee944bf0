/- Who waits behind whom, as plain mathematics: transactions that lie behind one that they lack, those that may be ready, and that the least ready one is always found among these. Ready, Next, Chain: the program's and the document's own. (Written by gen-con.py.) -/
import Derived.Test.YtfapkepfngddlaaGreatTxMaths
import Derived.Test.YtfapkepfngddlaaGreatVcAll
import Derived.Test.YtfapkepfngddlaaGreatEHeard
import Derived.Test.YtfapkepfngddlaaGreatTxUses
import Derived.Test.YtfapkepfngddlaaGreatZIs
import Derived.Deep.RegionHeld3
import Derived.Deep.Cut
import Derived.Test.YtfapkepfngddlaaGreatVWords
import Derived.RegionTactic
import Derived.ChangeAlike
import Derived.BigRegion
import Derived.Lib.OwnKind
import Derived.Deep.QuietTactic
import Derived.BigQuiet
import Derived.Deep.RegionLaw
import Derived.Shelf.Abstract
import Derived.Test.YtfapkepfngddlaaGreatISets
import Derived.WideKeyEntry
import Derived.Test.YtfapkepfngddlaaGreatEForms
import Derived.Test.YtfapkepfngddlaaGreatINorms
import Derived.Test.YtfapkepfngddlaaGreatRefE
import Derived.Test.YtfapkepfngddlaaGreatElGs
import Derived.Test.YtfapkepfngddlaaGreatIKeyF
import Derived.Test.YtfapkepfngddlaaGreatEMades
import Derived.Test.YtfapkepfngddlaaGreatStItems
import Derived.Test.YtfapkepfngddlaaGreatTxIns
import Derived.Test.YtfapkepfngddlaaGreatTxRds
import Derived.Test.YtfapkepfngddlaaGreatTxFrm
import Derived.Deep.DeepCutAuto
namespace Go.Proofs.YtfapkepfngddlaaGreat.Plain
set_option linter.unusedVariables false

def oHas (v : Ints) (n s : Int) : Prop := 1 ≤ s ∧ s ≤ saysI v n
def oPrev (s : Int) : Int := Go.IntKind.i64.wrap (s - 1)
theorem oPrev_of {s : Int} (h : 0 < s) (h2 : s ≤ 9223372036854775807) : oPrev s = s - 1 := by
 unfold oPrev
 simp [Go.IntKind.wrap, Go.IntKind.bits, Go.IntKind.signed]
 omega
def OClear (v : Ints) (t : PTxn) : Prop := oPrev t.seq ≤ saysI v t.node ∧ Within t.deps v
def OBlocks (n s : Int) (t : PTxn) : Prop := ∀ u, ¬ oHas u n s → ¬ oReady u t = true
def ODead (v : Ints) (t : PTxn) : Prop := ∀ u, Within v u → ¬ oReady u t = true
def TSmall (t : PTxn) : Prop := t.seq ≤ 9223372036854775807
theorem saysI_up {u v : Ints} (h : Within u v) (n : Int) : saysI u n ≤ saysI v n := by
 unfold saysI
 split
 ·exact h _
 ·exact Int.le_refl _
theorem OClear.up {u v : Ints} {t : PTxn} (h : OClear u t) (hu : Within u v) : OClear v t :=
 ⟨Int.le_trans h.1 (saysI_up hu _), fun i => Int.le_trans (h.2 i) (hu i)⟩
theorem OClear.dead {v : Ints} {t : PTxn} (ht : TSmall t) (h : OClear v t) (hr : ¬ oReady v t = true) : ODead v t := by
 intro u hu r
 obtain ⟨r1, r2, r3⟩ := oReady_iff.1 r
 apply hr
 have h1 := h.1
 rw [oPrev_of r1 ht] at h1
 have := saysI_up hu t.node
 exact oReady_iff.2 ⟨r1, by omega, h.2⟩
theorem ODead.up {u v : Ints} {t : PTxn} (h : ODead u t) (hu : Within u v) : ODead v t := fun w hw => h w fun i => Int.le_trans (hu i) (hw i)
theorem oNext_within {v : Ints} {t : PTxn} (h : oReady v t = true) : Within v (oNext v t) := fun i => oNext_up h i
theorem oHas_next {v : Ints} {t : PTxn} (h : oReady v t = true) {n s : Int} (h0 : ¬ oHas v n s) (h1 : oHas (oNext v t) n s) : n = t.node ∧ s = t.seq := by
 obtain ⟨a, b⟩ := h1
 by_cases c : 0 ≤ n
 ·rw [saysI_of c, oNext_says] at b
  by_cases d : oValid t = true ∧ n.toNat = t.node.toNat
  ·rw [if_pos d] at b
   have h3 := (oValid_iff.1 d.1).1.1
   have h4 : n = t.node := by omega
   subst h4
   refine ⟨rfl, ?_⟩
   have h5 := (oReady_iff.1 h).2.1
   have h6 : ¬ s ≤ saysI v t.node := fun e => h0 ⟨a, e⟩
   omega
  ·rw [if_neg d] at b
   exact absurd ⟨a, by rw [saysI_of c]; exact b⟩ h0
 ·rw [saysI_neg c] at b; omega
theorem oHas_up {u v : Ints} (h : Within u v) {n s : Int} (h1 : oHas u n s) : oHas v n s := ⟨h1.1, Int.le_trans h1.2 (saysI_up h n)⟩

def otx (l : List PTxn) (j : Nat) : PTxn := l.getD j default
theorem otx_lt {l : List PTxn} {j : Nat} (h : j < l.length) : otx l j = l[j] := by unfold otx; simp [List.getD, h]
def gone (g : List Bool) (j : Nat) : Bool := g.getD j false
structure OWait (l : List PTxn) (v : Ints) (g : List Bool) (H : List Nat) (B : Int → Int → List Nat) (Q : List Nat) : Prop where
 len : g.length = l.length
 hH : ∀ j ∈ H, j < l.length ∧ gone g j = false ∧ OClear v (otx l j)
 nd : (H ++ Q).Nodup
 hB : ∀ n s, ¬ oHas v n s → ∀ j ∈ B n s, j < l.length ∧ gone g j = false ∧ OBlocks n s (otx l j) ∧ j ∉ H ∧ j ∉ Q
 ndB : ∀ n s, ¬ oHas v n s → (B n s).Nodup
 apart : ∀ n s m r, ¬ oHas v n s → ¬ oHas v m r → ∀ j, j ∈ B n s → j ∈ B m r → n = m ∧ s = r
 hQ : ∀ j ∈ Q, j < l.length ∧ gone g j = false
 all : ∀ j, j < l.length → gone g j = false → j ∈ H ∨ j ∈ Q ∨ (∃ n s, ¬ oHas v n s ∧ j ∈ B n s) ∨ ODead v (otx l j)
theorem OWait.drop {l : List PTxn} {v : Ints} {g : List Bool} {H : List Nat} {B : Int → Int → List Nat} {p : Nat} {Q : List Nat} (h : OWait l v g (p :: H) B Q) (ht : TSmall (otx l p)) (hr : ¬ oReady v (otx l p) = true) :
  OWait l v g H B Q := by
 have hp := h.hH p (by simp)
 constructor
 ·exact h.len
 ·exact fun j hj => h.hH j (by simp [hj])
 ·exact (List.nodup_cons.1 h.nd).2
 ·intro m r hm j hj
  obtain ⟨a, b, c, d, e⟩ := h.hB m r hm j hj
  exact ⟨a, b, c, fun x => d (by simp [x]), e⟩
 ·exact h.ndB
 ·exact h.apart
 ·exact h.hQ
 ·intro j hj hg
  rcases h.all j hj hg with a | a
  ·rcases List.mem_cons.1 a with e | e
   ·subst e; exact Or.inr (Or.inr (Or.inr (hp.2.2.dead ht hr)))
   ·exact Or.inl e
  ·exact Or.inr a
theorem gone_set {g : List Bool} {p : Nat} (hp : p < g.length) (j : Nat) : gone (g.set p true) j = if j = p then true else gone g j := by
 unfold gone
 simp only [List.getD, List.getElem?_set]
 by_cases c : p = j
 ·subst c; simp [hp]
 ·rw [if_neg c, if_neg (fun e : j = p => c e.symm)]
theorem OWait.take {l : List PTxn} {v : Ints} {g : List Bool} {H : List Nat} {B : Int → Int → List Nat} {p : Nat} (h : OWait l v g (p :: H) B []) (hr : oReady v (otx l p) = true)
  {Q : List Nat} (hQ : (oHas (oNext v (otx l p)) (otx l p).node (otx l p).seq ∧ Q = B (otx l p).node (otx l p).seq) ∨ (¬ oHas (oNext v (otx l p)) (otx l p).node (otx l p).seq ∧ Q = [])) :
  OWait l (oNext v (otx l p)) (g.set p true) H B Q := by
 have hp := h.hH p (by simp)
 have hw := oNext_within hr
 have hnd := List.nodup_cons.1 (List.nodup_append.1 h.nd).1
 have hpg : p < g.length := by rw [h.len]; exact hp.1
 have hg := gone_set hpg
 have hne : ∀ n s, ¬ oHas v n s → p ∉ B n s := fun n s hn x => (h.hB n s hn p x).2.2.2.1 (by simp)
 have h0 : ¬ oHas v (otx l p).node (otx l p).seq := fun e => by
  have := (oReady_iff.1 hr).2.1
  have := e.2
  omega
 have hdown : ∀ n s, ¬ oHas (oNext v (otx l p)) n s → ¬ oHas v n s := fun n s e x => e (oHas_up hw x)
 have hQB : ∀ j ∈ Q, j ∈ B (otx l p).node (otx l p).seq ∧ oHas (oNext v (otx l p)) (otx l p).node (otx l p).seq := by
  intro j hj
  rcases hQ with ⟨a, rfl⟩ | ⟨a, rfl⟩
  ·exact ⟨hj, a⟩
  ·cases hj
 constructor
 ·simp [h.len]
 ·intro j hj
  obtain ⟨a, b, c⟩ := h.hH j (by simp [hj])
  refine ⟨a, ?_, c.up hw⟩
  rw [hg, if_neg (fun e => hnd.1 (by rw [← e]; exact hj))]
  exact b
 ·refine List.nodup_append.2 ⟨hnd.2, ?_, fun a ha b hb e => ?_⟩
  ·rcases hQ with ⟨a, rfl⟩ | ⟨a, rfl⟩
   ·exact h.ndB _ _ h0
   ·exact List.nodup_nil
  ·subst e
   exact (h.hB _ _ h0 a (hQB a hb).1).2.2.2.1 (by simp [ha])
 ·intro m r hm j hj
  obtain ⟨a, b, c, d, e⟩ := h.hB m r (hdown m r hm) j hj
  refine ⟨a, ?_, c, fun x => d (by simp [x]), fun x => ?_⟩
  ·rw [hg, if_neg (fun e => hne m r (hdown m r hm) (by rw [← e]; exact hj))]
   exact b
  ·obtain ⟨y, z⟩ := hQB j x
   obtain ⟨rfl, rfl⟩ := h.apart _ _ m r h0 (hdown m r hm) j y hj
   exact hm z
 ·exact fun m r hm => h.ndB m r (hdown m r hm)
 ·exact fun n s m r hn hm => h.apart n s m r (hdown n s hn) (hdown m r hm)
 ·intro j hj
  obtain ⟨a, b, c, d, e⟩ := h.hB _ _ h0 j (hQB j hj).1
  refine ⟨a, ?_⟩
  rw [hg, if_neg (fun e => d (by simp [e]))]
  exact b
 ·intro j hj hgj
  rw [hg] at hgj
  by_cases c : j = p
  ·rw [if_pos c] at hgj; cases hgj
  ·rw [if_neg c] at hgj
   rcases h.all j hj hgj with a | a | ⟨m, r, hm, a⟩ | a
   ·rcases List.mem_cons.1 a with e | e
    ·exact absurd e c
    ·exact Or.inl e
   ·cases a
   ·by_cases d : oHas (oNext v (otx l p)) m r
    ·obtain ⟨rfl, rfl⟩ := oHas_next hr hm d
     rcases hQ with ⟨x, rfl⟩ | ⟨x, rfl⟩
     ·exact Or.inr (Or.inl a)
     ·exact absurd d x
    ·exact Or.inr (Or.inr (Or.inl ⟨m, r, d, a⟩))
   ·exact Or.inr (Or.inr (Or.inr (a.up hw)))
theorem OWait.waits {l : List PTxn} {v : Ints} {g : List Bool} {H : List Nat} {B : Int → Int → List Nat} (h : OWait l v g H B []) {j : Nat} (hj : j < l.length) (hg : gone g j = false) (hH : j ∉ H) : ¬ oReady v (otx l j) = true := by
 rcases h.all j hj hg with a | a | ⟨m, r, hm, a⟩ | a
 ·exact absurd a hH
 ·cases a
 ·exact (h.hB m r hm j a).2.2.1 v hm
 ·exact a v fun i => Int.le_refl _
theorem gone_at {g : List Bool} {j : Nat} (h : j < g.length) : gone g j = g[j] := by unfold gone; simp [List.getD, h]
theorem OWait.first {l : List PTxn} {v : Ints} {g : List Bool} {H : List Nat} {B : Int → Int → List Nat} {p : Nat} (h : OWait l v g (p :: H) B []) (hm : ∀ j ∈ H, p ≤ j) (hr : oReady v (otx l p) = true) :
  oFirst v (oLeft g l) = some (otx l p, oLeft (g.set p true) l) := by
 have hp := h.hH p (by simp)
 have hpg : p < g.length := by rw [h.len]; exact hp.1
 rw [otx_lt hp.1]
 refine oLeft_first hpg hp.1 ?_ ?_ fun j h1 h2 hlt => ?_
 ·rw [← gone_at hpg]; exact hp.2.1
 ·rw [← otx_lt hp.1]; exact hr
 ·rw [← gone_at h1, ← otx_lt h2]
  by_cases c : gone g j = true
  ·exact Or.inl c
  ·refine Or.inr (h.waits h2 (by simpa using c) fun x => ?_)
   rcases List.mem_cons.1 x with e | e
   ·omega
   ·have := hm j e; omega
end Go.Proofs.YtfapkepfngddlaaGreat.Plain
namespace Go.Proofs.YtfapkepfngddlaaGreat
open Go.RowKit Plain
set_option linter.unusedVariables false

theorem Calls.tell {P : Program} {f : FuncId} {args : Array Value} {w : World} {v : Value} (h : Calls P f args w fun e w' => e = .returned v ∧ w = w') : Calls P f args w fun e w' => e = .returned v ∧ Below w.heap.size w w' :=
 h.mono fun _ _ ⟨he, hw⟩ => ⟨he, by rw [← hw]; exact Below.refl _ _⟩
theorem oready_seq {v : Ints} {t : PTxn} (h : ¬ 1 ≤ t.seq) : oReady v t = false := Bool.eq_false_iff.2 fun e => h (oReady_iff.1 e).1
theorem oready_at {v : Ints} {t : PTxn} (h : ¬ saysI v t.node = t.seq - 1) : oReady v t = false := Bool.eq_false_iff.2 fun e => h (oReady_iff.1 e).2.1
theorem oready_in {v : Ints} {t : PTxn} (h1 : 1 ≤ t.seq) (h2 : saysI v t.node = t.seq - 1) : oReady v t = within t.deps v := by
 unfold oReady
 rw [decide_eq_true (show 0 < t.seq from h1), decide_eq_true h2, Bool.true_and, Bool.true_and]
theorem seq_wrap {s : Int} (h1 : 1 ≤ s) (h2 : s ≤ 9223372036854775807) : IntKind.i64.wrap (s - 1) = s - 1 := by
 simp [IntKind.wrap, IntKind.bits, IntKind.signed]
 omega

set_option maxRecDepth 100000 in
set_option maxHeartbeats 8000000 in
theorem oreadyP_any {vv tv : Value} {xs : Ints} {t : PTxn} {w : World} (hv : SeqI w vv xs) (ht : IsTxn w tv t) (hl : xs.length ≤ 1000000) (hd : t.deps.length ≤ 1000000) (hs : t.seq ≤ 9223372036854775807) :
  Calls Tryz.prog 133 #[vv, tv] w (GivesB w (oReady xs t)) := by
 obtain ⟨da, dn, dc, ea, en, ec, rfl, k1, k2⟩ := ht.parts
 obtain ⟨av, cv, rfl, -, -, -, hv'⟩ := hv.parts
 have KB := txbox_new k1 k2
 have hb := (Below.refl w.heap.size w).alloc (Nat.le_refl _) (.cells #[.int .i64 t.node, .int .i64 t.seq, .slice da dn dc, .slice ea en ec] 51)
 have HV := hv'.below hb
 have HB := Lib.hid hb
 clear hv ht hv' k1 k2 hb
 go_enter Tryz.func133, Tryz.ntmps133
 go_upto_region 1 with fail
 generalize (w.alloc (.cells #[.int .i64 t.node, .int .i64 t.seq, .slice da dn dc, .slice ea en ec] 51)) = wb at *
 have KE : Hid (∀ u, Below wb.heap.size wb u → Below wb.heap.size wb u ∧ u.cell? ⟨w.heap.size, 0, none⟩ = some (.int .i64 t.node) ∧ u.cell? ⟨w.heap.size, 1, none⟩ = some (.int .i64 t.seq) ∧ u.cell? ⟨w.heap.size, 2, none⟩ = some (.slice da dn dc)) := Lib.hid (fun u h => ⟨h, (KB.below h).c.1, (KB.below h).c.2.1, (KB.below h).c.2.2.1⟩)
 have KA : Hid (∀ u, Below wb.heap.size wb u → Calls Tryz.prog 56 #[.slice av xs.length cv, .int .i64 t.node] u fun e w' => e = .returned (.int .i64 (saysI xs t.node)) ∧ Below u.heap.size u w') := Lib.hid (fun u h => Calls.tell (vc_at_any (HV.below h) t.node))
 have KW : Hid (∀ u, Below wb.heap.size wb u → Calls Tryz.prog 164 #[.slice da dn dc, .slice av xs.length cv] u fun e w' => e = .returned (.bool (within t.deps xs)) ∧ Below u.heap.size u w') := Lib.hid (fun u h => Calls.tell (vc_within_any (seqI_of ((KB.below h).d)) (HV.below h) hd))
 have OA := Lib.hid (oready_seq (v := xs) (t := t))
 have OB := Lib.hid (oready_at (v := xs) (t := t))
 have OC := Lib.hid (oready_in (v := xs) (t := t))
 clear KB HV hd hl
 generalize xs.length = nv at *
 generalize oReady xs t = r at *
 generalize within t.deps xs = wi at *
 generalize saysI xs t.node = sn at *
 by_cases h1 : 1 ≤ t.seq
 ·have e1 := seq_wrap h1 hs
  have h3 : decide (1 ≤ t.seq) = true := decide_eq_true h1
  have h4 : decide (0 < t.seq) = true := decide_eq_true (show 0 < t.seq by omega)
  by_cases h2 : sn = t.seq - 1
  ·have RR := Lib.hid (OC.out h1 h2)
   have g1 : (t.seq - 1 == sn) = true := by simp [h2]
   have g2 : (sn == t.seq - 1) = true := by simp [h2]
   clear OA OB OC h2
   refine wp_region_held_drew (S := fun u' => Below wb.heap.size wb u' ∧ u'.cell? ⟨w.heap.size, 0, none⟩ = some (.int .i64 t.node) ∧ u'.cell? ⟨w.heap.size, 1, none⟩ = some (.int .i64 t.seq) ∧ u'.cell? ⟨w.heap.size, 2, none⟩ = some (.slice da dn dc)) (by kernel_rfl) ?_ (fun hHeld => ?_)
   ·(exact KE.out _ (Below.refl _ _).drew)
   simp only [List.size_toArray, List.length_cons, List.length_nil, Nat.zero_add, Nat.reduceAdd]
   refine tkB (i := 0) hHeld ?_
   refine tkB (i := 1) hHeld ?_
   refine tkB (i := 2) hHeld ?_
   refine tkB (i := 3) hHeld ?_
   refine tkB (i := 4) hHeld ?_
   refine tkB (i := 5) hHeld ?_
   refine tkB (i := 6) hHeld ?_
   refine tkB (i := 7) hHeld ?_
   refine tkB (i := 8) hHeld ?_
   refine tkB (i := 9) hHeld ?_
   refine wpAnyH_ready (rs := [10]) (by kernel_rfl) (by simp) ?_
   refine AllReadyH.cons rfl (fun K hK => ?_) AllReadyH.nil
   go_simp
   refine (KA.out _ hHeld.1).mono ?_
   rintro e s1 ⟨rfl, hb⟩
   refine hK.out _ _ (KE.out _ (holdC hHeld hb)) (fun hHeld => ?_)
   clear hK K hb
   refine tkB (i := 11) hHeld ?_
   refine tkB (i := 12) hHeld ?_
   refine tkB (i := 13) hHeld ?_
   refine tkB (i := 14) hHeld ?_
   refine tkB (i := 15) hHeld ?_
   refine tkB (i := 16) hHeld ?_
   refine wpAnyH_ready (rs := [17]) (by kernel_rfl) (by simp) ?_
   refine AllReadyH.cons rfl (fun K hK => ?_) AllReadyH.nil
   go_simp
   refine (KW.out _ hHeld.1).mono ?_
   rintro e s2 ⟨rfl, hb⟩
   refine hK.out _ _ (KE.out _ (holdC hHeld hb)) (fun hHeld => ?_)
   clear hK K hb
   refine tkB (i := 18) hHeld ?_
   refine tkB (i := 19) hHeld ?_
   refine wpAnyH_done (by kernel_rfl) ?_ _
   have GZ : Hid (Below wb.heap.size wb _) := Lib.hid hHeld.1
   clear hHeld
   go_wp2_with fail
   go_ret
   exact ⟨by rw [RR.out]; rfl, HB.out.trans (GZ.out.mono HB.out.size)⟩
  ·have RR := Lib.hid (OB.out h2)
   have g1 : (t.seq - 1 == sn) = false := by simp; exact fun e => h2 e.symm
   have g2 : (sn == t.seq - 1) = false := by simp; exact h2
   clear OA OB OC h2
   refine wp_region_held_drew (S := fun u' => Below wb.heap.size wb u' ∧ u'.cell? ⟨w.heap.size, 0, none⟩ = some (.int .i64 t.node) ∧ u'.cell? ⟨w.heap.size, 1, none⟩ = some (.int .i64 t.seq) ∧ u'.cell? ⟨w.heap.size, 2, none⟩ = some (.slice da dn dc)) (by kernel_rfl) ?_ (fun hHeld => ?_)
   ·(exact KE.out _ (Below.refl _ _).drew)
   simp only [List.size_toArray, List.length_cons, List.length_nil, Nat.zero_add, Nat.reduceAdd]
   refine tkB (i := 0) hHeld ?_
   refine tkB (i := 1) hHeld ?_
   refine tkB (i := 2) hHeld ?_
   refine tkB (i := 3) hHeld ?_
   refine tkB (i := 4) hHeld ?_
   refine tkB (i := 5) hHeld ?_
   refine tkB (i := 6) hHeld ?_
   refine tkB (i := 7) hHeld ?_
   refine tkB (i := 8) hHeld ?_
   refine tkB (i := 9) hHeld ?_
   refine wpAnyH_ready (rs := [10]) (by kernel_rfl) (by simp) ?_
   refine AllReadyH.cons rfl (fun K hK => ?_) AllReadyH.nil
   go_simp
   refine (KA.out _ hHeld.1).mono ?_
   rintro e s1 ⟨rfl, hb⟩
   refine hK.out _ _ (KE.out _ (holdC hHeld hb)) (fun hHeld => ?_)
   clear hK K hb
   refine tkB (i := 11) hHeld ?_
   refine tkB (i := 12) hHeld ?_
   refine tkB (i := 13) hHeld ?_
   refine tkS (i := 14) hHeld ?_
   refine tkS (i := 15) hHeld ?_
   refine tkS (i := 16) hHeld ?_
   refine tkS (i := 17) hHeld ?_
   refine tkB (i := 18) hHeld ?_
   refine tkB (i := 19) hHeld ?_
   refine wpAnyH_done (by kernel_rfl) ?_ _
   have GZ : Hid (Below wb.heap.size wb _) := Lib.hid hHeld.1
   clear hHeld
   go_wp2_with fail
   go_ret
   exact ⟨by rw [RR.out]; rfl, HB.out.trans (GZ.out.mono HB.out.size)⟩
 ·have RR := Lib.hid (OA.out h1)
  have h3 : decide (1 ≤ t.seq) = false := decide_eq_false h1
  have h4 : decide (0 < t.seq) = false := decide_eq_false (show ¬ 0 < t.seq by omega)
  clear OA OB OC
  refine wp_region_held_drew (S := fun u' => Below wb.heap.size wb u' ∧ u'.cell? ⟨w.heap.size, 0, none⟩ = some (.int .i64 t.node) ∧ u'.cell? ⟨w.heap.size, 1, none⟩ = some (.int .i64 t.seq) ∧ u'.cell? ⟨w.heap.size, 2, none⟩ = some (.slice da dn dc)) (by kernel_rfl) ?_ (fun hHeld => ?_)
  ·(exact KE.out _ (Below.refl _ _).drew)
  simp only [List.size_toArray, List.length_cons, List.length_nil, Nat.zero_add, Nat.reduceAdd]
  refine tkB (i := 0) hHeld ?_
  refine tkB (i := 1) hHeld ?_
  refine tkB (i := 2) hHeld ?_
  refine tkB (i := 3) hHeld ?_
  refine tkS (i := 4) hHeld ?_
  refine tkS (i := 5) hHeld ?_
  refine tkS (i := 6) hHeld ?_
  refine tkS (i := 7) hHeld ?_
  refine tkS (i := 8) hHeld ?_
  refine tkS (i := 9) hHeld ?_
  refine tkS (i := 10) hHeld ?_
  refine tkS (i := 11) hHeld ?_
  refine tkB (i := 12) hHeld ?_
  refine tkB (i := 13) hHeld ?_
  refine tkS (i := 14) hHeld ?_
  refine tkS (i := 15) hHeld ?_
  refine tkS (i := 16) hHeld ?_
  refine tkS (i := 17) hHeld ?_
  refine tkB (i := 18) hHeld ?_
  refine tkB (i := 19) hHeld ?_
  refine wpAnyH_done (by kernel_rfl) ?_ _
  have GZ : Hid (Below wb.heap.size wb _) := Lib.hid hHeld.1
  clear hHeld
  go_wp2_with fail
  go_ret
  exact ⟨by rw [RR.out]; rfl, HB.out.trans (GZ.out.mono HB.out.size)⟩

set_option maxRecDepth 100000 in
set_option maxHeartbeats 4000000 in
theorem onextP_any {vv tv : Value} {xs : Ints} {t : PTxn} {w : World} (hv : SeqI w vv xs) (ht : IsTxn w tv t) (hl : xs.length ≤ 1000000) :
  Calls Tryz.prog 79 #[vv, tv] w (MadeI w (oNext xs t)) := by
 obtain ⟨da, dn, dc, ea, en, ec, rfl, k1, k2⟩ := ht.parts
 obtain ⟨av, cv, rfl, -, -, -, hv'⟩ := hv.parts
 obtain ⟨⟨c0, c1, -, -⟩, -, -⟩ := txbox_new k1 k2
 have hb := (Below.refl w.heap.size w).alloc (Nat.le_refl _) (.cells #[.int .i64 t.node, .int .i64 t.seq, .slice da dn dc, .slice ea en ec] 51)
 have HV := Lib.hid (hv'.below hb)
 have HB := Lib.hid hb
 clear hv ht hv' k1 k2 hb
 go_enter Tryz.func79, Tryz.ntmps79
 go_upto_region 1 with fail
 generalize (w.alloc (.cells #[.int .i64 t.node, .int .i64 t.seq, .slice da dn dc, .slice ea en ec] 51)) = wb at *
 by_cases hq : oValid t = true
 ·have RR : Hid (oNext xs t = withN xs t.node.toNat t.seq) := Lib.hid (by unfold oNext; rw [if_pos hq])
  have HL := Lib.hid hl
  obtain ⟨⟨q1, q2⟩, q3, q4⟩ := oValid_iff.1 hq
  have KW := Lib.hid (vc_with_ok HV.out hl (k0 := t.node.toNat) (by omega) q3 q4)
  rw [show ((t.node.toNat : Nat) : Int) = t.node by omega] at KW
  generalize withN xs t.node.toNat t.seq = ys at *
  generalize xs.length = nv at *
  clear hq hl q1 q2 q3 q4
  go_wp2_with fail
  refine KW.out.mono ?_
  rintro e w1 ⟨u, rfl, ho, hb1⟩
  obtain ⟨ua, uc, rfl, -, -, ho, -⟩ := ho.parts
  have HO := Lib.hid ho
  have H1 := Lib.hid hb1
  clear ho hb1 KW c0 c1
  go_wp2_with fail
  go_ret
  have Z := HO.out.mono HB.out.size
  exact ⟨_, rfl, by rw [RR.out]; exact Z, HB.out.trans (H1.out.mono HB.out.size)⟩
 ·have RR : Hid (oNext xs t = trim xs) := Lib.hid (by unfold oNext; rw [if_neg hq])
  have hq' : t.node < 0 ∨ 8 ≤ t.node ∨ t.seq < 0 ∨ 1073741824 < t.seq := by
   refine Decidable.byContradiction fun h => hq (oValid_iff.2 ?_)
   omega
  have KW := Lib.hid (vc_with_err HV.out t.node t.seq hq')
  have KT := Lib.hid (fun u (h : Below wb.heap.size wb u) => vc_trim_any (HV.out.below h) hl)
  generalize trim xs = ys at *
  generalize xs.length = nv at *
  clear hq hq' hl
  go_wp2_with fail
  refine KW.out.mono ?_
  rintro e w1 ⟨rfl, hb1⟩
  have H1 := Lib.hid hb1
  have KT2 := Lib.hid (KT.out _ H1.out)
  clear hb1 KW KT c0 c1
  go_wp2_with fail
  refine KT2.out.mono ?_
  rintro e w2 ⟨u, rfl, ho, hb2⟩
  obtain ⟨ua, uc, rfl, -, -, ho, -⟩ := ho.parts
  have HO := Lib.hid ho
  have H2 := Lib.hid hb2
  clear ho hb2 KT2
  go_wp2_with fail
  go_ret
  have Z := HO.out.mono (Nat.le_trans HB.out.size H1.out.size)
  exact ⟨_, rfl, by rw [RR.out]; exact Z, HB.out.trans ((H1.out.trans (H2.out.mono H1.out.size)).mono HB.out.size)⟩

end Go.Proofs.YtfapkepfngddlaaGreat
namespace Go.Proofs.YtfapkepfngddlaaGreat
open Go.RowKit Plain
set_option linter.unusedVariables false

section
variable {F : Nat → Prop} {B : Nat} {w : World} {g : Nat} {l : List PTxn} {v : Ints} {H : List Nat} {Bh : Int → Int → List Nat} {lv hv rv : Value} {m : Nat} {V : PDot → Value} {hs : List Int}
end
end Go.Proofs.YtfapkepfngddlaaGreat
namespace Go.Proofs.YtfapkepfngddlaaGreat
open Go.RowKit Plain
set_option linter.unusedVariables false

structure FitW (t : PTxn) : Prop where
 deps : t.deps.length ≤ 1000000
 effs : t.effs.length ≤ 1000000
 drops : ∀ e ∈ t.effs, e.drops.length ≤ 1000000
 ok : txnOk t
theorem FitW.small {t : PTxn} (h : FitW t) : TSmall t := (i64_in h.ok.2.1).2
theorem txns_spotB {B : Nat} {w : World} {v : Value} {xs : List PTxn} (h : Sq LTxn (fun b => b < B) w v xs) (hB : B ≤ w.heap.size) (hp : 0 < xs.length) : ∃ b o cap, v = .slice (some ⟨b, o, none⟩) xs.length cap ∧ xs.length ≤ cap ∧ cap ≤ 9223372036854775807 ∧
  ∀ j, j < xs.length → ∃ da dn dc ea en ec, TxnAt w b (o + j * 4) (otx xs j) (.slice da dn dc) (.slice ea en ec) ∧ IsTxn w (.agg #[.int .i64 (otx xs j).node, .int .i64 (otx xs j).seq, .slice da dn dc, .slice ea en ec]) (otx xs j) := by
 have hs : SeqE LTxn w v xs := h.mono fun b hb => Nat.lt_of_lt_of_le hb hB
 obtain ⟨b, o, cap, e, h1, h2, -, hc⟩ := txns_spot hs hp
 refine ⟨b, o, cap, e, h1, h2, fun j hj => ?_⟩
 obtain ⟨dv, ev, ha, hd, he⟩ := hc j hj
 obtain ⟨da, dc, rfl, -, -, -, hd'⟩ := hd.parts
 obtain ⟨ea, ec, rfl, -, -, -, he'⟩ := he.parts
 exact ⟨da, _, dc, ea, _, ec, ha, _, _, rfl, hd', he'⟩
end Go.Proofs.YtfapkepfngddlaaGreat
namespace Go.Proofs.YtfapkepfngddlaaGreat
open Go.RowKit Plain
set_option linter.unusedVariables false

end Go.Proofs.YtfapkepfngddlaaGreat
namespace Go.Proofs.YtfapkepfngddlaaGreat
open Go.RowKit Plain
set_option linter.unusedVariables false

theorem oNext_len (v : Ints) (t : PTxn) : (oNext v t).length ≤ max v.length 8 := by
 unfold oNext
 split
 ·rename_i h
  have h1 := (oValid_iff.1 h).1
  unfold withN
  have := laid_len (withF v t.node.toNat t.seq) (max v.length (t.node.toNat + 1))
  omega
 ·unfold trim
  have := laid_len (says v) v.length
  omega
end Go.Proofs.YtfapkepfngddlaaGreat
