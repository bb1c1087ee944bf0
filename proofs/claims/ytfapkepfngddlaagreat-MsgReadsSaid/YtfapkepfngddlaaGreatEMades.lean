/- WORDS FOR EFFECTS: how they lie in memory (with the dots that they take away), slices of them, what an argument that is a list of them hands over. -/
import Derived.Test.YtfapkepfngddlaaGreatEqI
import Derived.Test.YtfapkepfngddlaaGreatMaths
import Derived.Test.YtfapkepfngddlaaGreatOrWait
import Derived.Test.YtfapkepfngddlaaGreatVWords
import Derived.Test.YtfapkepfngddlaaGreatISets
import Derived.Test.YtfapkepfngddlaaGreatStItems
import Derived.Deep.Cut
import Derived.Shelf.Abstract
set_option maxRecDepth 100000
set_option maxHeartbeats 64000000
namespace Go.Proofs.YtfapkepfngddlaaGreat
open Go.RowKit Plain
set_option linter.unusedVariables false
def cellsEf (x : PEff) (dv : Value) : List Value := [.int .i64 x.pos, tv x.key, tv x.field, .int .i64 x.kind, tv x.elem, .int .i64 x.n, dv]
def zeroEf : Value := .agg #[.int .i64 0, .string ByteArray.empty, .string ByteArray.empty, .int .i64 0, .string ByteArray.empty, .int .i64 0, .slice none 0 0]
theorem infoEf : (Tryz.prog.info? 54).map (fun i => (i.zero, i.size, i.bytes)) = some (some zeroEf, 7, 96) := by kernel_rfl
theorem zsEf : zeroEf.cells.size = 7 := rfl
def REff (P : Nat → Prop) (w : World) (vs : List Value) (x : PEff) : Prop := ∃ dv, vs = cellsEf x dv ∧ Sq LDot P w dv x.drops
theorem lenEf {P : Nat → Prop} {w : World} {vs : List Value} {x : PEff} (h : REff P w vs x) : vs.length = 7 := by
 obtain ⟨dv, rfl, -⟩ := h
 rfl
theorem Sq.one {α : Type} {L : El α} {P : Nat → Prop} {w : World} {v : Value} {xs : List α} (h : Sq L P w v xs) : v.oneCell' = true := by
 obtain ⟨a, cap, vals, rfl, -⟩ := h
 rfl
theorem oneEf {P : Nat → Prop} {w : World} {vs : List Value} {x : PEff} (h : REff P w vs x) : ∀ u ∈ vs, u.oneCell' = true := by
 obtain ⟨dv, rfl, hs⟩ := h;intro u hu;simp only [cellsEf, List.mem_cons, List.not_mem_nil, or_false] at hu
 rcases hu with rfl | rfl | rfl | rfl | rfl | rfl | rfl
 iterate 6 rfl
 exact hs.one
theorem monoEf {P Q : Nat → Prop} {w : World} {vs : List Value} {x : PEff} (h : REff P w vs x) (hq : ∀ b, P b → Q b) : REff Q w vs x := by
 obtain ⟨dv, e, hs⟩ := h;exact ⟨dv, e, hs.mono hq⟩
theorem agreeEf {P : Nat → Prop} {w w' : World} {vs : List Value} {x : PEff} (h : REff P w vs x) (hq : ∀ b, P b → w'.heap[b]? = w.heap[b]?) : REff P w' vs x := by
 obtain ⟨dv, e, hs⟩ := h;exact ⟨dv, e, hs.agree hq⟩
def LEff : El PEff where
 k := 7
 E := 54
 S := 49
 zero := zeroEf
 bytes := 96
 R := REff
 pos := by decide
 small := by decide
 len := lenEf
 one := oneEf
 mono := monoEf
 agree := agreeEf
 und := Tryz.underlying49
 info := infoEf
 zsize := zsEf
structure EffAt (w : World) (b o : Nat) (x : PEff) (dv : Value) : Prop where
 c0 : w.cell? ⟨b, o, none⟩ = some (.int .i64 x.pos)
 c1 : w.cell? ⟨b, o + 1, none⟩ = some (.string (bt x.key))
 c2 : w.cell? ⟨b, o + 2, none⟩ = some (.string (bt x.field))
 c3 : w.cell? ⟨b, o + 3, none⟩ = some (.int .i64 x.kind)
 c4 : w.cell? ⟨b, o + 4, none⟩ = some (.string (bt x.elem))
 c5 : w.cell? ⟨b, o + 5, none⟩ = some (.int .i64 x.n)
 c6 : w.cell? ⟨b, o + 6, none⟩ = some dv
theorem EffAt.below {N : Nat} {w w' : World} {b o : Nat} {x : PEff} {dv : Value} (h : EffAt w b o x dv) (hb : Below N w w') (hN : b < N) : EffAt w' b o x dv :=
 ⟨(hb.cell (p := ⟨b, o, none⟩) hN).trans h.c0, (hb.cell (p := ⟨b, o + 1, none⟩) hN).trans h.c1, (hb.cell (p := ⟨b, o + 2, none⟩) hN).trans h.c2, (hb.cell (p := ⟨b, o + 3, none⟩) hN).trans h.c3,
  (hb.cell (p := ⟨b, o + 4, none⟩) hN).trans h.c4, (hb.cell (p := ⟨b, o + 5, none⟩) hN).trans h.c5, (hb.cell (p := ⟨b, o + 6, none⟩) hN).trans h.c6⟩
theorem EffAt.lt {w : World} {b o : Nat} {x : PEff} {dv : Value} (h : EffAt w b o x dv) : b < w.heap.size := World.block_lt_of_cell? w ⟨b, o, none⟩ h.c0
theorem effs_spot {w : World} {v : Value} {xs : List PEff} (h : SeqE LEff w v xs) (hp : 0 < xs.length) : ∃ b o cap, v = .slice (some ⟨b, o, none⟩) xs.length cap ∧ xs.length ≤ cap ∧ cap ≤ 9223372036854775807 ∧ SeqE LEff w (.slice (some ⟨b, o, none⟩) xs.length cap) xs ∧
  ∀ j, j < xs.length → ∃ dv, EffAt w b (o + j * 7) (xs.getD j default) dv ∧ SeqE LDot w dv (xs.getD j default).drops := by
 obtain ⟨b, o, cap, e, h1, h2, h3, hc⟩ := h.spot hp;refine ⟨b, o, cap, e, h1, h2, h3, fun j hj => ?_⟩;obtain ⟨vs, hr, hv⟩ := hc j _ (getD_at hj);obtain ⟨dv, rfl, hs⟩ := hr;have g := fun i u (hu : (cellsEf (xs.getD j default) dv)[i]? = some u) => hv i u hu
 refine ⟨dv, ⟨g 0 _ rfl, ?_, ?_, ?_, ?_, ?_, ?_⟩, hs⟩
 ·rw [Nat.add_assoc]; exact g 1 _ rfl
 ·rw [Nat.add_assoc]; exact g 2 _ rfl
 ·rw [Nat.add_assoc]; exact g 3 _ rfl
 ·rw [Nat.add_assoc]; exact g 4 _ rfl
 ·rw [Nat.add_assoc]; exact g 5 _ rfl
 ·rw [Nat.add_assoc]; exact g 6 _ rfl
def effOk (x : PEff) : Prop := (Lit.int .i64 x.pos).wf = true ∧ (Lit.int .i64 x.kind).wf = true ∧ (Lit.int .i64 x.n).wf = true ∧ (∀ d ∈ x.drops, dotOk d) ∧ x.key.length ≤ 9223372036854775807 ∧ x.field.length ≤ 9223372036854775807 ∧ x.elem.length ≤ 9223372036854775807
section
open Go.ChangeShapes Go.WideShapes Go.Joins
set_option maxRecDepth 100000
end
theorem infoInt : (Tryz.prog.info? 3).map (fun i => (i.zero, i.size, i.bytes)) = some (some (.int .i64 0), 1, 8) := by kernel_rfl
theorem oneInt {vs : List Value} {x : Int} (h : vs = [.int .i64 x]) : ∀ u ∈ vs, u.oneCell' = true := by
 subst h;intro u hu;rw [List.mem_singleton.1 hu]
 rfl
def LInt : El Int where
 k := 1
 E := 3
 S := 23
 zero := .int .i64 0
 bytes := 8
 R := fun _ _ vs x => vs = [.int .i64 x]
 pos := by decide
 small := by decide
 len := fun h => by rw [h]; rfl
 one := oneInt
 mono := fun h _ => h
 agree := fun h _ => h
 und := Tryz.underlying23
 info := infoInt
 zsize := rfl
theorem flat_int : Flat LInt := fun h => h
theorem seqI_of {w : World} {v : Value} {xs : List Int} (h : SeqE LInt w v xs) : SeqI w v xs := by
 obtain ⟨a, cap, rfl, h1, h2, h0, h3⟩ := h.parts;refine ⟨a, cap, rfl, h1, h2, h0, fun hp => ?_⟩;obtain ⟨b, o, c, hv, -, -, -, hc⟩ := h.spot hp;simp only [Value.slice.injEq] at hv
 obtain ⟨rfl, -, rfl⟩ := hv;refine ⟨b, o, rfl, fun j hj => ?_⟩;have e : xs[j]? = some (xs.getD j 0) := by simp [List.getD, List.getElem?_eq_getElem hj]
 obtain ⟨vs, hr, hx⟩ := hc j _ e;obtain rfl : vs = [.int .i64 (xs.getD j 0)] := hr;have := hx 0 _ rfl;rw [show o + (j * LInt.k + 0) = o + j by show o + (j * 1 + 0) = o + j; omega] at this;exact this
def cellsTx (x : PTxn) (dv ev : Value) : List Value := [.int .i64 x.node, .int .i64 x.seq, dv, ev]
def zeroTx : Value := .agg #[.int .i64 0, .int .i64 0, .slice none 0 0, .slice none 0 0]
theorem infoTx : (Tryz.prog.info? 51).map (fun i => (i.zero, i.size, i.bytes)) = some (some zeroTx, 4, 64) := by kernel_rfl
theorem zsTx : zeroTx.cells.size = 4 := rfl
def RTxn (P : Nat → Prop) (w : World) (vs : List Value) (x : PTxn) : Prop := ∃ dv ev, vs = cellsTx x dv ev ∧ Sq LInt P w dv x.deps ∧ Sq LEff P w ev x.effs
theorem lenTx {P : Nat → Prop} {w : World} {vs : List Value} {x : PTxn} (h : RTxn P w vs x) : vs.length = 4 := by
 obtain ⟨dv, ev, rfl, -⟩ := h
 rfl
theorem oneTx {P : Nat → Prop} {w : World} {vs : List Value} {x : PTxn} (h : RTxn P w vs x) : ∀ u ∈ vs, u.oneCell' = true := by
 obtain ⟨dv, ev, rfl, hd, he⟩ := h;intro u hu;simp only [cellsTx, List.mem_cons, List.not_mem_nil, or_false] at hu
 rcases hu with rfl | rfl | rfl | rfl
 ·rfl
 ·rfl
 ·exact hd.one
 ·exact he.one
theorem monoTx {P Q : Nat → Prop} {w : World} {vs : List Value} {x : PTxn} (h : RTxn P w vs x) (hq : ∀ b, P b → Q b) : RTxn Q w vs x := by
 obtain ⟨dv, ev, e, hd, he⟩ := h;exact ⟨dv, ev, e, hd.mono hq, he.mono hq⟩
theorem agreeTx {P : Nat → Prop} {w w' : World} {vs : List Value} {x : PTxn} (h : RTxn P w vs x) (hq : ∀ b, P b → w'.heap[b]? = w.heap[b]?) : RTxn P w' vs x := by
 obtain ⟨dv, ev, e, hd, he⟩ := h;exact ⟨dv, ev, e, hd.agree hq, he.agree hq⟩
def LTxn : El PTxn where
 k := 4
 E := 51
 S := 26
 zero := zeroTx
 bytes := 64
 R := RTxn
 pos := by decide
 small := by decide
 len := lenTx
 one := oneTx
 mono := monoTx
 agree := agreeTx
 und := Tryz.underlying26
 info := infoTx
 zsize := zsTx
def IsTxn (w : World) (v : Value) (t : PTxn) : Prop := ∃ dv ev, v = .agg #[.int .i64 t.node, .int .i64 t.seq, dv, ev] ∧ SeqE LInt w dv t.deps ∧ SeqE LEff w ev t.effs
theorem IsTxn.below {w w' : World} {v : Value} {t : PTxn} (h : IsTxn w v t) (hb : Below w.heap.size w w') : IsTxn w' v t := by
 obtain ⟨dv, ev, rfl, h1, h2⟩ := h;exact ⟨dv, ev, rfl, h1.below hb, h2.below hb⟩
structure TxnAt (w : World) (b o : Nat) (x : PTxn) (dv ev : Value) : Prop where
 c0 : w.cell? ⟨b, o, none⟩ = some (.int .i64 x.node)
 c1 : w.cell? ⟨b, o + 1, none⟩ = some (.int .i64 x.seq)
 c2 : w.cell? ⟨b, o + 2, none⟩ = some dv
 c3 : w.cell? ⟨b, o + 3, none⟩ = some ev
theorem TxnAt.below {N : Nat} {w w' : World} {b o : Nat} {x : PTxn} {dv ev : Value} (h : TxnAt w b o x dv ev) (hb : Below N w w') (hN : b < N) : TxnAt w' b o x dv ev :=
 ⟨(hb.cell (p := ⟨b, o, none⟩) hN).trans h.c0, (hb.cell (p := ⟨b, o + 1, none⟩) hN).trans h.c1, (hb.cell (p := ⟨b, o + 2, none⟩) hN).trans h.c2, (hb.cell (p := ⟨b, o + 3, none⟩) hN).trans h.c3⟩
theorem TxnAt.lt {w : World} {b o : Nat} {x : PTxn} {dv ev : Value} (h : TxnAt w b o x dv ev) : b < w.heap.size := World.block_lt_of_cell? w ⟨b, o, none⟩ h.c0
theorem txns_spot {w : World} {v : Value} {xs : List PTxn} (h : SeqE LTxn w v xs) (hp : 0 < xs.length) : ∃ b o cap, v = .slice (some ⟨b, o, none⟩) xs.length cap ∧ xs.length ≤ cap ∧ cap ≤ 9223372036854775807 ∧ SeqE LTxn w (.slice (some ⟨b, o, none⟩) xs.length cap) xs ∧
  ∀ j, j < xs.length → ∃ dv ev, TxnAt w b (o + j * 4) (xs.getD j default) dv ev ∧ SeqE LInt w dv (xs.getD j default).deps ∧ SeqE LEff w ev (xs.getD j default).effs := by
 obtain ⟨b, o, cap, e, h1, h2, h3, hc⟩ := h.spot hp;refine ⟨b, o, cap, e, h1, h2, h3, fun j hj => ?_⟩;obtain ⟨vs, hr, hv⟩ := hc j _ (getD_at hj);obtain ⟨dv, ev, rfl, hd, he⟩ := hr;have g := fun i u (hu : (cellsTx (xs.getD j default) dv ev)[i]? = some u) => hv i u hu
 refine ⟨dv, ev, ⟨g 0 _ rfl, ?_, ?_, ?_⟩, hd, he⟩
 ·rw [Nat.add_assoc]; exact g 1 _ rfl
 ·rw [Nat.add_assoc]; exact g 2 _ rfl
 ·rw [Nat.add_assoc]; exact g 3 _ rfl
def intOk (n : Int) : Prop := (Lit.int .i64 n).wf = true
def txnOk (t : PTxn) : Prop := intOk t.node ∧ intOk t.seq ∧ (∀ n ∈ t.deps, intOk n) ∧ ∀ e ∈ t.effs, effOk e
section
open Go.ChangeShapes Go.WideShapes Go.Joins
set_option maxRecDepth 100000
end
theorem emade_any (node seq : Int) (x : PEff) (a : Option Addr) (n c : Nat) (w : World) :
  Calls Tryz.prog 190 #[.int .i64 node, .int .i64 seq, .agg #[.int .i64 x.pos, .string (bt x.key), .string (bt x.field), .int .i64 x.kind, .string (bt x.elem), .int .i64 x.n, .slice a n c]] w fun e w' => e = .returned (.agg #[.string (bt x.key), .string (bt x.field), .int .i64 x.kind, .string (bt x.elem), .int .i64 x.n, .int .i64 node, .int .i64 seq, .int .i64 x.pos]) ∧ Below w.heap.size w w' := by
 show Calls Tryz.prog 190 _ w fun e w' => e = .returned (.agg #[.string (bt x.key), .string (bt x.field), .int .i64 x.kind, .string (bt x.elem), .int .i64 x.n, .int .i64 node, .int .i64 seq, .int .i64 x.pos]) ∧ Below w.heap.size w w'
 go_enter Tryz.func190, Tryz.ntmps190
 go_wp2_with fail
 refine bodyPost_ret (v := .agg #[.string (bt x.key), .string (bt x.field), .int .i64 x.kind, .string (bt x.elem), .int .i64 x.n, .int .i64 node, .int .i64 seq, .int .i64 x.pos]) (by simp [results, Tryz.results190, go_sem]) rfl ⟨rfl, ?_⟩;exact (((Below.refl _ _).alloc (Nat.le_refl _) _).alloc (by simp) _).alloc (by simp; omega) _
def isOfB (node seq : Int) (d : PDot) : Bool := decide (d.node = node) && decide (d.seq = seq)
theorem eisOf_any (node seq : Int) (d : PDot) (w : World) :
  Calls Tryz.prog 161 #[.int .i64 node, .int .i64 seq, .agg #[.int .i64 d.node, .int .i64 d.seq, .int .i64 d.pos]] w (GivesB w (isOfB node seq d)) := by
 have G := zH (zB w (.cells #[.int .i64 d.node, .int .i64 d.seq, .int .i64 d.pos] 45));unfold isOfB;generalize d.node = dn at *;generalize d.seq = ds at *
 by_cases h1 : dn = node
 ·by_cases h2 : ds = seq
  ·rw [decide_eq_true h1, decide_eq_true h2]
   have e1 : (dn == node) = true := by simp [h1]
   have e2 : (ds == seq) = true := by simp [h2]
   clear h1 h2;go_enter Tryz.func161, Tryz.ntmps161
   go_wp2_with fail
   go_ret
   exact ⟨rfl, G.out⟩
  ·rw [decide_eq_true h1, decide_eq_false h2]
   have e1 : (dn == node) = true := by simp [h1]
   have e2 : (ds == seq) = false := by simp [h2]
   clear h1 h2;go_enter Tryz.func161, Tryz.ntmps161
   go_wp2_with fail
   go_ret
   exact ⟨rfl, G.out⟩
 ·rw [decide_eq_false h1]
  have e1 : (dn == node) = false := by simp [h1]
  clear h1;go_enter Tryz.func161, Tryz.ntmps161
  go_wp2_with fail
  go_ret
  exact ⟨rfl, G.out⟩
theorem dv_eq3 (d : PDot) : dv d = .agg #[.int .i64 d.node, .int .i64 d.seq, .int .i64 d.pos] := rfl
theorem eindex_any {v : Value} {ds : List PDot} {w : World} (hv : SeqE LDot w v ds) (hn : ds.length ≤ 1000000) (p : PDot → Bool) (g : Nat) (lb : Array Value)
  (eg : ∀ args w, (callFunc g args).run Tryz.prog w = .ok (.enter g args) w)
  (hp : ∀ W d, Below w.heap.size w W → Calls Tryz.prog g (#[dv d] ++ lb) W (GivesB W (p d))) :
  Calls Tryz.prog 193 #[v, .func (.func g) #[] lb] w fun e w' => ∃ r : Int, e = .returned (.int .i64 r) ∧ decide (0 ≤ r) = ds.any p ∧ Below w.heap.size w w' := by
 obtain ⟨a, cap, rfl, g1, g2, g0, h⟩ := hv.parts;have HS := zH h;have HP := zH hp;have HY : Hid (∀ k, k < ds.length → p (ds.getD k default) = true → ds.any p = true) := zH (fun k hk h => by
  rw [List.any_eq_true];exact ⟨_, by rw [show ds.getD k default = ds[k] by simp [List.getD, List.getElem?_eq_getElem hk]]; exact List.getElem_mem hk, h⟩)
 have HN : Hid ((∀ j, j < ds.length → p (ds.getD j default) = false) → ds.any p = false) := zH (fun h => by
  rw [List.any_eq_false];intro d hd;obtain ⟨j, hj, rfl⟩ := List.getElem_of_mem hd;have := h j hj;rw [show ds.getD j default = ds[j] by simp [List.getD, List.getElem?_eq_getElem hj]] at this;rw [this]
  decide)
 clear hp hv h g0;obtain ⟨n, hN⟩ : ∃ n, ds.length = n := ⟨_, rfl⟩;rw [hN] at hn g1 HS HY HN ⊢;have LN := zH hN;clear hN;generalize ds.any p = r at *;go_enter Tryz.func193, Tryz.ntmps193
 go_wp2_with fail
 go_loopw [8] (fun i wr => ∃ k : Nat, k ≤ n ∧ i = .int .i64 k ∧ (∀ j, j < k → p (ds.getD j default) = false) ∧ Below w.heap.size w wr) (fun i _ => n - (intOf i).toNat)
 case atStart => exact ⟨0, Nat.zero_le _, rfl, fun j hj => absurd hj (by omega), Below.refl _ _⟩
 case round =>
  obtain ⟨k, hk, rfl, hall, hb⟩ := hrel;have HA := zH hall;have HB := zH hb;clear hall hb
  by_cases hlt : k < n
  ·obtain ⟨b, o, c, hv, -, -, -, hc⟩ := dots_spot (HS.out.below HB.out) (by rw [LN.out]; omega)
   rw [LN.out] at hv;simp only [Value.slice.injEq] at hv
   obtain ⟨rfl, -, rfl⟩ := hv;obtain ⟨c0, c1, c2⟩ := hc k (by rw [LN.out]; exact hlt);have HYK := zH (HY.out k hlt);have HAK : Hid (p (ds.getD k default) = false → ∀ j, j < k + 1 → p (ds.getD j default) = false) := zH (fun h j hj => by
    by_cases e : j = k
    ·rw [e]; exact h
    ·exact HA.out j (by omega))
   have K := HP.out wr (ds.getD k default) HB.out;clear hc;rw [dv_eq3] at K;generalize ds.getD k default = d at *
   cases hpd : p d with
   | true =>
    rw [hpd] at K;obtain rfl : r = true := HYK.out hpd;clear hpd;go_wp2_with (go_at_fn g; refine K.mono ?_; rintro e w1 ⟨rfl, hb⟩)
    have G := zH (HB.out.trans (hb.mono HB.out.size));clear hb c0 c1 c2 K;go_wp2_with fail
    go_ret
    exact ⟨k, rfl, by simp, G.out⟩
   | false =>
    rw [hpd] at K;have HX := zH (HAK.out hpd);clear hpd;go_wp2_with (go_at_fn g; refine K.mono ?_; rintro e w1 ⟨rfl, hb⟩)
    have G := zH (HB.out.trans (hb.mono HB.out.size));clear hb c0 c1 c2 K;go_wp2_with fail
    go_roundw
    case rel => exact ⟨k + 1, by omega, by go_num, HX.out, G.out⟩
    case measure => simp [intOf]; omega
  ·obtain rfl : k = n := by omega
   obtain rfl : r = false := HN.out HA.out;go_wp2_with fail
   go_ret
   exact ⟨-1, rfl, by decide, HB.out⟩
theorem econtains_any {v : Value} {ds : List PDot} {w : World} (hv : SeqE LDot w v ds) (hn : ds.length ≤ 1000000) (p : PDot → Bool) (g : Nat) (lb : Array Value)
  (eg : ∀ args w, (callFunc g args).run Tryz.prog w = .ok (.enter g args) w)
  (hp : ∀ W d, Below w.heap.size w W → Calls Tryz.prog g (#[dv d] ++ lb) W (GivesB W (p d))) :
  Calls Tryz.prog 162 #[v, .func (.func g) #[] lb] w (GivesB w (ds.any p)) := by
 have K := eindex_any hv hn p g lb eg hp;obtain ⟨a, cap, rfl, -⟩ := hv.parts;generalize ds.any p = r at *;generalize ds.length = n at *;clear hv hp;go_enter Tryz.func162, Tryz.ntmps162
 go_wp2_with fail
 refine K.mono ?_;rintro e w1 ⟨q, rfl, hq, hb⟩;have G := zH hb;clear hb K;subst hq;go_wp2_with fail
 go_ret
 exact ⟨rfl, G.out⟩
theorem three_cells (w : World) (X Y Z : Array Value) (t u s : TypeId) (i : Nat) :
  (((w.alloc (.cells X t)).alloc (.cells Y u)).alloc (.cells Z s)).cell? ⟨w.heap.size, i, none⟩ = X[i]? ∧
  (((w.alloc (.cells X t)).alloc (.cells Y u)).alloc (.cells Z s)).cell? ⟨w.heap.size + 1, i, none⟩ = Y[i]? ∧
  (((w.alloc (.cells X t)).alloc (.cells Y u)).alloc (.cells Z s)).cell? ⟨w.heap.size + 1 + 1, i, none⟩ = Z[i]? := by
 have s1 : (w.alloc (.cells X t)).heap.size = w.heap.size + 1 := by simp
 have s2 : ((w.alloc (.cells X t)).alloc (.cells Y u)).heap.size = w.heap.size + 1 + 1 := by simp
 have h1 := World.cell?_alloc_new w X t i;have h2 := World.cell?_alloc_new (w.alloc (.cells X t)) Y u i;have h3 := World.cell?_alloc_new ((w.alloc (.cells X t)).alloc (.cells Y u)) Z s i;rw [s1] at h2;rw [s2] at h3;have b2 := (Below.refl (w.heap.size + 1) (w.alloc (.cells X t))).alloc (by rw [s1]; exact Nat.le_refl _) (.cells Y u);have b3 := (Below.refl (w.heap.size + 1 + 1) ((w.alloc (.cells X t)).alloc (.cells Y u))).alloc (by rw [s2]; exact Nat.le_refl _) (.cells Z s);exact ⟨(b3.cell (p := ⟨w.heap.size, i, none⟩) (show w.heap.size < w.heap.size + 1 + 1 by omega)).trans ((b2.cell (p := ⟨w.heap.size, i, none⟩) (show w.heap.size < w.heap.size + 1 by omega)).trans h1), (b3.cell (p := ⟨w.heap.size + 1, i, none⟩) (show w.heap.size + 1 < w.heap.size + 1 + 1 by omega)).trans h2, h3⟩
theorem entersUnmade : ∀ args w, (callFunc 192 args).run Tryz.prog w = .ok (.enter 192 args) w := enters_of Tryz.func192 (by kernel_rfl) rfl
theorem unmade_is (node seq pos : Int) (d : PDot) : unmadeB node seq pos d = (isOfB node seq d && decide (pos ≤ d.pos)) := by
 unfold unmadeB isOfB;rw [Bool.and_assoc]
theorem givesUnmade (node seq pos : Int) (d : PDot) (b1 b2 b3 : Nat) (W : World) (h1 : W.cell? ⟨b1, 0, none⟩ = some (.int .i64 node)) (h2 : W.cell? ⟨b2, 0, none⟩ = some (.int .i64 seq)) (h3 : W.cell? ⟨b3, 0, none⟩ = some (.int .i64 pos)) :
  Calls Tryz.prog 192 (#[dv d] ++ #[.pointer (some ⟨b1, 0, none⟩), .pointer (some ⟨b2, 0, none⟩), .pointer (some ⟨b3, 0, none⟩)]) W (GivesB W (unmadeB node seq pos d)) := by
 show Calls Tryz.prog 192 #[.agg #[.int .i64 d.node, .int .i64 d.seq, .int .i64 d.pos], .pointer (some ⟨b1, 0, none⟩), .pointer (some ⟨b2, 0, none⟩), .pointer (some ⟨b3, 0, none⟩)] W _
 have hb := zB W (.cells #[.int .i64 d.node, .int .i64 d.seq, .int .i64 d.pos] 45);have hc : ∀ {b : Nat} {u : Value}, W.cell? ⟨b, 0, none⟩ = some u → (W.alloc (.cells #[.int .i64 d.node, .int .i64 d.seq, .int .i64 d.pos] 45)).cell? ⟨b, 0, none⟩ = some u := fun h => (hb.cell (World.block_lt_of_cell? W _ h)).trans h
 have k1 := hc h1;have k2 := hc h2;have k3 := hc h3;have DB : Hid (DotAt (W.alloc (.cells #[.int .i64 d.node, .int .i64 d.seq, .int .i64 d.pos] 45)) W.heap.size 0 d) := zH ⟨by simp, by simp, by simp⟩;have G := zH hb;have K := zH (fun W => eisOf_any node seq d W);have e1 := unmade_is node seq pos d;clear hc hb h1 h2 h3;rw [e1];clear e1;generalize isOfB node seq d = r1 at *;go_enter Tryz.func192, Tryz.ntmps192
 go_upto_region 1 with fail
 generalize (W.alloc (.cells #[.int .i64 d.node, .int .i64 d.seq, .int .i64 d.pos] 45)) = w1 at *;obtain ⟨c0, c1, c2⟩ := DB.out;simp only [Nat.zero_add] at c1 c2
 go_wp2_with fail
 refine (K.out _).mono ?_;rintro e w2 ⟨rfl, hb⟩;have m3 := (hb.cell (World.block_lt_of_cell? w1 _ k3)).trans k3;have d2 := (hb.cell (World.block_lt_of_cell? w1 _ c2)).trans c2;have G2 := zH (G.out.trans (hb.mono G.out.size));clear hb c0 c1 c2 k1 k2 k3
 cases r1 with
 | false =>
  rw [Bool.false_and];go_wp2_with fail
  go_ret
  exact ⟨rfl, G2.out⟩
 | true =>
  rw [Bool.true_and];go_wp2_with fail
  go_ret
  exact ⟨rfl, G2.out⟩
theorem eunmade_any (node seq : Int) (x : PEff) {a : Option Addr} {n c : Nat} {w : World} (hs : SeqE LDot w (.slice a n c) x.drops) (hn : x.drops.length ≤ 1000000) :
  Calls Tryz.prog 159 #[.int .i64 node, .int .i64 seq, .agg #[.int .i64 x.pos, .string (bt x.key), .string (bt x.field), .int .i64 x.kind, .string (bt x.elem), .int .i64 x.n, .slice a n c]] w (GivesB w (x.drops.any (unmadeB node seq x.pos))) := by
 have B1 := ((zB w (.cells #[.int .i64 node] 3)).alloc (by simp) (.cells #[.int .i64 seq] 3)).alloc (by simp; omega) (.cells #[.int .i64 x.pos, .string (bt x.key), .string (bt x.field), .int .i64 x.kind, .string (bt x.elem), .int .i64 x.n, .slice a n c] 54);have X : Hid (∀ W, Below w.heap.size w W → W.cell? ⟨w.heap.size, 0, none⟩ = some (.int .i64 node) → W.cell? ⟨w.heap.size + 1, 0, none⟩ = some (.int .i64 seq) → W.cell? ⟨w.heap.size + 1 + 1, 0, none⟩ = some (.int .i64 x.pos) →
   Calls Tryz.prog 162 #[.slice a n c, .func (.func 192) #[] #[.pointer (some ⟨w.heap.size, 0, none⟩), .pointer (some ⟨w.heap.size + 1, 0, none⟩), .pointer (some ⟨w.heap.size + 1 + 1, 0, none⟩)]] W (GivesB W (x.drops.any (unmadeB node seq x.pos)))) :=
  zH (fun W hb k1 k2 k3 => econtains_any (hs.below hb) hn _ _ _ entersUnmade (fun W' d hb' => givesUnmade node seq x.pos d _ _ _ W' ((hb'.cell (World.block_lt_of_cell? W _ k1)).trans k1) ((hb'.cell (World.block_lt_of_cell? W _ k2)).trans k2) ((hb'.cell (World.block_lt_of_cell? W _ k3)).trans k3)))
 have G := zH B1;have k1 : ((((w.alloc (.cells #[.int .i64 node] 3)).alloc (.cells #[.int .i64 seq] 3)).alloc (.cells #[.int .i64 x.pos, .string (bt x.key), .string (bt x.field), .int .i64 x.kind, .string (bt x.elem), .int .i64 x.n, .slice a n c] 54))).cell? ⟨w.heap.size, 0, none⟩ = some (.int .i64 node) := (three_cells w _ _ _ _ _ _ 0).1;have k2 : ((((w.alloc (.cells #[.int .i64 node] 3)).alloc (.cells #[.int .i64 seq] 3)).alloc (.cells #[.int .i64 x.pos, .string (bt x.key), .string (bt x.field), .int .i64 x.kind, .string (bt x.elem), .int .i64 x.n, .slice a n c] 54))).cell? ⟨w.heap.size + 1, 0, none⟩ = some (.int .i64 seq) := (three_cells w _ _ _ _ _ _ 0).2.1;have k3 : ((((w.alloc (.cells #[.int .i64 node] 3)).alloc (.cells #[.int .i64 seq] 3)).alloc (.cells #[.int .i64 x.pos, .string (bt x.key), .string (bt x.field), .int .i64 x.kind, .string (bt x.elem), .int .i64 x.n, .slice a n c] 54))).cell? ⟨w.heap.size + 1 + 1, 0, none⟩ = some (.int .i64 x.pos) := (three_cells w _ _ _ _ _ _ 0).2.2;have k4 : ((((w.alloc (.cells #[.int .i64 node] 3)).alloc (.cells #[.int .i64 seq] 3)).alloc (.cells #[.int .i64 x.pos, .string (bt x.key), .string (bt x.field), .int .i64 x.kind, .string (bt x.elem), .int .i64 x.n, .slice a n c] 54))).cell? ⟨w.heap.size + 1 + 1, 6, none⟩ = some (.slice a n c) := (three_cells w _ _ _ _ _ _ 6).2.2;clear hs hn B1;generalize x.drops.any (unmadeB node seq x.pos) = r at *;go_enter Tryz.func159, Tryz.ntmps159
 go_upto_region 1 with fail
 generalize (((w.alloc (.cells #[.int .i64 node] 3)).alloc (.cells #[.int .i64 seq] 3)).alloc (.cells #[.int .i64 x.pos, .string (bt x.key), .string (bt x.field), .int .i64 x.kind, .string (bt x.elem), .int .i64 x.n, .slice a n c] 54)) = w1 at *;have K := X.out w1 G.out k1 k2 k3;go_wp2_with fail
 refine K.mono ?_;rintro e w2 ⟨rfl, hb⟩;have G2 := zH (G.out.trans (hb.mono G.out.size));clear hb K k1 k2 k3 k4;go_wp2_with fail
 go_ret
 exact ⟨rfl, G2.out⟩
end Go.Proofs.YtfapkepfngddlaaGreat
