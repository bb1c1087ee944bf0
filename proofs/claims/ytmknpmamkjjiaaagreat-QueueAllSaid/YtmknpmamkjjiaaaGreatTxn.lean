/- WORDS FOR VECTORS AND TRANSACTIONS: how they lie in memory (with what they hang on, and their effects), slices of them, what an argument that is one hands over. -/
import Derived.Test.YtmknpmamkjjiaaaGreatEff
import Derived.Test.YtmknpmamkjjiaaaGreatTxMaths
import Derived.Test.YtmknpmamkjjiaaaGreatVWords
namespace Go.Proofs.YtmknpmamkjjiaaaGreat
open Go.RowKit Plain
set_option linter.unusedVariables false

theorem infoInt : (Tryz.prog.info? 3).map (fun i => (i.zero, i.size, i.bytes)) = some (some (.int .i64 0), 1, 8) := by kernel_rfl
theorem oneInt {vs : List Value} {x : Int} (h : vs = [.int .i64 x]) : ∀ u ∈ vs, u.oneCell' = true := by
 subst h
 intro u hu
 rw [List.mem_singleton.1 hu]
 rfl
/-- a vector's numbers -/
def LInt : El Int where
 k := 1
 E := 3
 S := 26
 zero := .int .i64 0
 bytes := 8
 R := fun _ _ vs x => vs = [.int .i64 x]
 pos := by decide
 small := by decide
 len := fun h => by rw [h]; rfl
 one := oneInt
 mono := fun h _ => h
 agree := fun h _ => h
 und := Tryz.underlying26
 info := infoInt
 zsize := rfl
theorem flat_int : Flat LInt := fun h => h
/-- stage 7's words for a slice of integers -/
theorem seqI_of {w : World} {v : Value} {xs : List Int} (h : SeqE LInt w v xs) : SeqI w v xs := by
 obtain ⟨a, cap, rfl, h1, h2, h0, h3⟩ := h.parts
 refine ⟨a, cap, rfl, h1, h2, h0, fun hp => ?_⟩
 obtain ⟨b, o, c, hv, -, -, -, hc⟩ := h.spot hp
 simp only [Value.slice.injEq] at hv
 obtain ⟨rfl, -, rfl⟩ := hv
 refine ⟨b, o, rfl, fun j hj => ?_⟩
 have e : xs[j]? = some (xs.getD j 0) := by simp [List.getD, List.getElem?_eq_getElem hj]
 obtain ⟨vs, hr, hx⟩ := hc j _ e
 obtain rfl : vs = [.int .i64 (xs.getD j 0)] := hr
 have := hx 0 _ rfl
 rw [show o + (j * LInt.k + 0) = o + j by show o + (j * 1 + 0) = o + j; omega] at this
 exact this
/-- and back -/
theorem seq_ofI {w : World} {v : Value} {xs : List Int} (h : SeqI w v xs) : SeqE LInt w v xs := by
 obtain ⟨a, cap, rfl, h1, h2, h0, h3⟩ := h
 refine ⟨a, cap, xs.map (.int .i64), rfl, h1, h2, h0, ⟨by rw [List.length_map]; show _ = xs.length * 1; omega, fun j x hj => ?_⟩, fun hp => ?_⟩
 ·show ((xs.map (Value.int .i64)).drop (j * 1)).take 1 = [.int .i64 x]
  obtain ⟨hl, rfl⟩ := List.getElem?_eq_some_iff.1 hj
  rw [Nat.mul_one, List.take_one]
  simp [List.getElem?_eq_getElem hl]
 ·obtain ⟨b, off, rfl, g⟩ := h3 hp
  have hb : b < w.heap.size := World.block_lt_of_cell? w ⟨b, off + 0, none⟩ (g 0 hp)
  refine ⟨b, off, rfl, hb, fun i u hi => ?_⟩
  obtain ⟨hl, e⟩ := List.getElem?_eq_some_iff.1 hi
  rw [List.length_map] at hl
  rw [g i hl]
  rw [List.getElem_map] at e
  rw [← e]
  simp [List.getD, List.getElem?_eq_getElem hl]

def cellsTx (x : PTxn) (dv ev : Value) : List Value := [.int .i64 x.node, .int .i64 x.seq, dv, ev]
def zeroTx : Value := .agg #[.int .i64 0, .int .i64 0, .slice none 0 0, .slice none 0 0]
theorem infoTx : (Tryz.prog.info? 29).map (fun i => (i.zero, i.size, i.bytes)) = some (some zeroTx, 4, 64) := by kernel_rfl
theorem zsTx : zeroTx.cells.size = 4 := rfl
def RTxn (P : Nat → Prop) (w : World) (vs : List Value) (x : PTxn) : Prop := ∃ dv ev, vs = cellsTx x dv ev ∧ Sq LInt P w dv x.deps ∧ Sq LEff P w ev x.effs
theorem lenTx {P : Nat → Prop} {w : World} {vs : List Value} {x : PTxn} (h : RTxn P w vs x) : vs.length = 4 := by
 obtain ⟨dv, ev, rfl, -⟩ := h
 rfl
theorem oneTx {P : Nat → Prop} {w : World} {vs : List Value} {x : PTxn} (h : RTxn P w vs x) : ∀ u ∈ vs, u.oneCell' = true := by
 obtain ⟨dv, ev, rfl, hd, he⟩ := h
 intro u hu
 simp only [cellsTx, List.mem_cons, List.not_mem_nil, or_false] at hu
 rcases hu with rfl | rfl | rfl | rfl
 ·rfl
 ·rfl
 ·exact hd.one
 ·exact he.one
theorem monoTx {P Q : Nat → Prop} {w : World} {vs : List Value} {x : PTxn} (h : RTxn P w vs x) (hq : ∀ b, P b → Q b) : RTxn Q w vs x := by
 obtain ⟨dv, ev, e, hd, he⟩ := h
 exact ⟨dv, ev, e, hd.mono hq, he.mono hq⟩
theorem agreeTx {P : Nat → Prop} {w w' : World} {vs : List Value} {x : PTxn} (h : RTxn P w vs x) (hq : ∀ b, P b → w'.heap[b]? = w.heap[b]?) : RTxn P w' vs x := by
 obtain ⟨dv, ev, e, hd, he⟩ := h
 exact ⟨dv, ev, e, hd.agree hq, he.agree hq⟩
def LTxn : El PTxn where
 k := 4
 E := 29
 S := 22
 zero := zeroTx
 bytes := 64
 R := RTxn
 pos := by decide
 small := by decide
 len := lenTx
 one := oneTx
 mono := monoTx
 agree := agreeTx
 und := Tryz.underlying22
 info := infoTx
 zsize := zsTx
/-- a transaction as an argument or an answer -/
def IsTxn (w : World) (v : Value) (t : PTxn) : Prop := ∃ dv ev, v = .agg #[.int .i64 t.node, .int .i64 t.seq, dv, ev] ∧ SeqE LInt w dv t.deps ∧ SeqE LEff w ev t.effs
theorem IsTxn.below {w w' : World} {v : Value} {t : PTxn} (h : IsTxn w v t) (hb : Below w.heap.size w w') : IsTxn w' v t := by
 obtain ⟨dv, ev, rfl, h1, h2⟩ := h
 exact ⟨dv, ev, rfl, h1.below hb, h2.below hb⟩
/-- the cells of a transaction at a place -/
structure TxnAt (w : World) (b o : Nat) (x : PTxn) (dv ev : Value) : Prop where
 c0 : w.cell? ⟨b, o, none⟩ = some (.int .i64 x.node)
 c1 : w.cell? ⟨b, o + 1, none⟩ = some (.int .i64 x.seq)
 c2 : w.cell? ⟨b, o + 2, none⟩ = some dv
 c3 : w.cell? ⟨b, o + 3, none⟩ = some ev
theorem TxnAt.below {N : Nat} {w w' : World} {b o : Nat} {x : PTxn} {dv ev : Value} (h : TxnAt w b o x dv ev) (hb : Below N w w') (hN : b < N) : TxnAt w' b o x dv ev :=
 ⟨(hb.cell (p := ⟨b, o, none⟩) hN).trans h.c0, (hb.cell (p := ⟨b, o + 1, none⟩) hN).trans h.c1, (hb.cell (p := ⟨b, o + 2, none⟩) hN).trans h.c2, (hb.cell (p := ⟨b, o + 3, none⟩) hN).trans h.c3⟩
theorem TxnAt.lt {w : World} {b o : Nat} {x : PTxn} {dv ev : Value} (h : TxnAt w b o x dv ev) : b < w.heap.size := World.block_lt_of_cell? w ⟨b, o, none⟩ h.c0
/-- where there are transactions they lie in a block -/
theorem txns_spot {w : World} {v : Value} {xs : List PTxn} (h : SeqE LTxn w v xs) (hp : 0 < xs.length) : ∃ b o cap, v = .slice (some ⟨b, o, none⟩) xs.length cap ∧ xs.length ≤ cap ∧ cap ≤ 9223372036854775807 ∧ SeqE LTxn w (.slice (some ⟨b, o, none⟩) xs.length cap) xs ∧
  ∀ j, j < xs.length → ∃ dv ev, TxnAt w b (o + j * 4) (xs.getD j default) dv ev ∧ SeqE LInt w dv (xs.getD j default).deps ∧ SeqE LEff w ev (xs.getD j default).effs := by
 obtain ⟨b, o, cap, e, h1, h2, h3, hc⟩ := h.spot hp
 refine ⟨b, o, cap, e, h1, h2, h3, fun j hj => ?_⟩
 obtain ⟨vs, hr, hv⟩ := hc j _ (getD_at hj)
 obtain ⟨dv, ev, rfl, hd, he⟩ := hr
 have g := fun i u (hu : (cellsTx (xs.getD j default) dv ev)[i]? = some u) => hv i u hu
 refine ⟨dv, ev, ⟨g 0 _ rfl, ?_, ?_, ?_⟩, hd, he⟩
 ·rw [Nat.add_assoc]; exact g 1 _ rfl
 ·rw [Nat.add_assoc]; exact g 2 _ rfl
 ·rw [Nat.add_assoc]; exact g 3 _ rfl

/-! ### arguments -/
def intOk (n : Int) : Prop := (Lit.int .i64 n).wf = true
def txnOk (t : PTxn) : Prop := intOk t.node ∧ intOk t.seq ∧ (∀ n ∈ t.deps, intOk n) ∧ ∀ e ∈ t.effs, effOk e
theorem cellsOfInt : Tryz.prog.cellsOf 3 = 1 := by kernel_rfl
theorem cellsOfTxn : Tryz.prog.cellsOf 29 = 4 := by kernel_rfl
section
open Go.ChangeShapes Go.WideShapes Go.Joins
set_option maxRecDepth 100000
theorem int_of_cells {H : Type} {enc : TypeId × Value → H} {W : World} {n : Nat} {cs : List Value} {y : DataW H × List MemPlace} (ht : DataW.trod enc Tryz.prog W 0 (fun _ => true) true n 3 cs = some y) : ∃ x, LInt.R (· < W.heap.size) W cs x ∧ intOk x := by
 obtain ⟨a0, g0, -, w0⟩ := DataW.trod_int Tryz.underlying3 ht
 exact ⟨a0, g0, w0⟩
theorem txn_of_cells {H : Type} {enc : TypeId × Value → H} {W : World} {n : Nat} {cs : List Value} {y : DataW H × List MemPlace} (ht : DataW.trod enc Tryz.prog W 0 (fun _ => true) true n 29 cs = some y) : ∃ x, RTxn (· < W.heap.size) W cs x ∧ txnOk x := by
 obtain ⟨ys, n', -, -, hl, hlen, hf⟩ := DataW.trod_struct Tryz.underlying29 ht
 rw [cellsOfTxn] at hl
 have e3 : Tryz.prog.cellsOf 26 = 1 := by kernel_rfl
 have e4 : Tryz.prog.cellsOf 27 = 1 := by kernel_rfl
 match cs, hl with
 | [x0, x1, x2, x3], _ =>
  match ys, hlen with
  | [y0, y1, y2, y3], _ =>
   have h0 := hf 0 _ rfl
   have h1 := hf 1 _ rfl
   have h2 := hf 2 _ rfl
   have h3 := hf 3 _ rfl
   simp [cellsOfInt, e3, e4] at h0 h1 h2 h3
   obtain ⟨a0, g0, -, w0⟩ := DataW.trod_int Tryz.underlying3 h0
   obtain ⟨a1, g1, -, w1⟩ := DataW.trod_int Tryz.underlying3 h1
   obtain ⟨dv, ds, g2, hs, hd⟩ := elems_of_cells LInt intOk cellsOfInt (fun ht => int_of_cells ht) h2
   obtain ⟨ev, es, g3, hs3, hd3⟩ := elems_of_cells LEff effOk cellsOfEff (fun ht => eff_of_cells ht) h3
   simp at g0 g1 g2 g3
   subst g0 g1 g2 g3
   exact ⟨⟨a0, a1, ds, es⟩, ⟨_, _, rfl, hs, hs3⟩, w0, w1, hd, hd3⟩
/-- an argument that is a transaction -/
def IsTxnA (w : World) (v : Value) : Prop := ∃ t, IsTxn w v t ∧ txnOk t
theorem txn_of_trod {H : Type} {enc : TypeId × Value → H} {W : World} {r : Reach} {b : Nat} {v : Value} {d : DataW H} {p : List MemPlace} (hv : Value.okWide Tryz.prog W r b 29 v) (h : DataW.Trod enc Tryz.prog W 0 (fun _ => true) true 29 v d p) : IsTxnA W v := by
 obtain ⟨cs, rfl, -⟩ := okWide_struct Tryz.underlying29 hv
 obtain ⟨fuel, hf⟩ := h
 obtain ⟨x, ⟨dv, ev, e, hd, he⟩, hx⟩ := txn_of_cells hf
 refine ⟨x, ⟨dv, ev, ?_, hd, he⟩, hx⟩
 simp only [Value.cells] at e
 have : cs = (cellsTx x dv ev).toArray := by rw [← e]
 rw [this]
 rfl
end
end Go.Proofs.YtmknpmamkjjiaaaGreat
