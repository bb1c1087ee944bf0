/- STEPS OF A SCRIPT IN MEMORY (butterylaw20.Op: six cells, the last four a transaction), and what an argument that is a list of them hands over. -/
import Derived.Test.YtmknpmamkjjiaaaQuUse
namespace Go.Proofs.Ytmknpmamkjjiaaa
open Go.RowKit Plain
set_option linter.unusedVariables false

structure PQOp where
 hears : Bool
 n : Int
 t : PTxn
instance : Inhabited PQOp := ⟨⟨false, 0, default⟩⟩
def cellsQOp (x : PQOp) (dv ev : Value) : List Value := [.bool x.hears, .int .i64 x.n, .int .i64 x.t.node, .int .i64 x.t.seq, dv, ev]
def zeroQOp : Value := .agg #[.bool false, .int .i64 0, .int .i64 0, .int .i64 0, .slice none 0 0, .slice none 0 0]
theorem infoQOp : (Try.prog.info? 36).map (fun i => (i.zero, i.size, i.bytes)) = some (some zeroQOp, 6, 80) := by kernel_rfl
theorem zsQOp : zeroQOp.cells.size = 6 := rfl
def RQOp (P : Nat → Prop) (w : World) (vs : List Value) (x : PQOp) : Prop := ∃ dv ev, vs = cellsQOp x dv ev ∧ Sq LInt P w dv x.t.deps ∧ Sq LEff P w ev x.t.effs
theorem lenQOp {P : Nat → Prop} {w : World} {vs : List Value} {x : PQOp} (h : RQOp P w vs x) : vs.length = 6 := by
 obtain ⟨dv, ev, rfl, -⟩ := h
 rfl
theorem oneQOp {P : Nat → Prop} {w : World} {vs : List Value} {x : PQOp} (h : RQOp P w vs x) : ∀ u ∈ vs, u.oneCell' = true := by
 obtain ⟨dv, ev, rfl, hd, he⟩ := h
 intro u hu
 simp only [cellsQOp, List.mem_cons, List.not_mem_nil, or_false] at hu
 rcases hu with rfl | rfl | rfl | rfl | rfl | rfl
 ·rfl
 ·rfl
 ·rfl
 ·rfl
 ·exact hd.one
 ·exact he.one
theorem monoQOp {P Q : Nat → Prop} {w : World} {vs : List Value} {x : PQOp} (h : RQOp P w vs x) (hq : ∀ b, P b → Q b) : RQOp Q w vs x := by
 obtain ⟨dv, ev, e, hd, he⟩ := h
 exact ⟨dv, ev, e, hd.mono hq, he.mono hq⟩
theorem agreeQOp {P : Nat → Prop} {w w' : World} {vs : List Value} {x : PQOp} (h : RQOp P w vs x) (hq : ∀ b, P b → w'.heap[b]? = w.heap[b]?) : RQOp P w' vs x := by
 obtain ⟨dv, ev, e, hd, he⟩ := h
 exact ⟨dv, ev, e, hd.agree hq, he.agree hq⟩
def LQOp : El PQOp where
 k := 6
 E := 36
 S := 22
 zero := zeroQOp
 bytes := 80
 R := RQOp
 pos := by decide
 small := by decide
 len := lenQOp
 one := oneQOp
 mono := monoQOp
 agree := agreeQOp
 und := Try.underlying22
 info := infoQOp
 zsize := zsQOp
def qopOk (x : PQOp) : Prop := intOk x.n ∧ txnOk x.t
theorem cellsOfQOp : Try.prog.cellsOf 36 = 6 := by kernel_rfl
def IsQOps (w : World) (v : Value) : Prop := ∃ xs : List PQOp, SeqE LQOp w v xs ∧ ∀ x ∈ xs, qopOk x
section
open Go.ChangeShapes Go.WideShapes Go.Joins
set_option maxRecDepth 100000
theorem qop_of_cells {H : Type} {enc : TypeId × Value → H} {W : World} {n : Nat} {cs : List Value} {y : DataW H × List MemPlace} (ht : DataW.trod enc Try.prog W 0 (fun _ => true) true n 36 cs = some y) : ∃ x, RQOp (· < W.heap.size) W cs x ∧ qopOk x := by
 obtain ⟨ys, n', -, -, hl, hlen, hf⟩ := DataW.trod_struct Try.underlying36 ht
 rw [cellsOfQOp] at hl
 have e1 : Try.prog.cellsOf 4 = 1 := by kernel_rfl
 match cs, hl with
 | [x0, x1, x2, x3, x4, x5], _ =>
  match ys, hlen with
  | [y0, y1, y2], _ =>
   have h0 := hf 0 _ rfl
   have h1 := hf 1 _ rfl
   have h2 := hf 2 _ rfl
   simp [e1, cellsOfInt, cellsOfTxn] at h0 h1 h2
   obtain ⟨o, g0, -⟩ := DataW.trod_bool Try.underlying4 h0
   obtain ⟨a1, g1, -, w1⟩ := DataW.trod_int Try.underlying3 h1
   obtain ⟨x, ⟨dv, ev, g2, hd, he⟩, hx⟩ := txn_of_cells h2
   simp [cellsTx] at g0 g1 g2
   obtain ⟨rfl, rfl, rfl, rfl⟩ := g2
   subst g0 g1
   exact ⟨⟨o, a1, x⟩, ⟨_, _, rfl, hd, he⟩, w1, hx⟩
theorem qops_of_trod {H : Type} {enc : TypeId × Value → H} {W : World} {r : Reach} {b : Nat} {v : Value} {d : DataW H} {p : List MemPlace} (hv : Value.okWide Try.prog W r b 22 v) (h : DataW.Trod enc Try.prog W 0 (fun _ => true) true 22 v d p) : IsQOps W v := by
 obtain ⟨a0, n0, c0, rfl⟩ := okWide_slice Try.underlying22 hv
 obtain ⟨fuel, hf⟩ := h
 obtain ⟨u, xs, e, hs, hx⟩ := elems_of_cells LQOp qopOk cellsOfQOp (fun ht => qop_of_cells ht) hf
 simp [Value.cells] at e
 rw [e]
 exact ⟨xs, hs, hx⟩
end
def qop (xs : List PQOp) (k : Nat) : PQOp := xs.getD k default
theorem qops_at {w : World} {la : Option Addr} {n lc : Nat} {xs : List PQOp} (h : SeqE LQOp w (.slice la n lc) xs) (hp : 0 < n) : ∃ lb lo, la = some ⟨lb, lo, none⟩ ∧ ∀ k, k < n → ∃ da dn dc ea en ec, ∀ u, Below w.heap.size w u →
  (u.cell? ⟨lb, lo + k * 6, none⟩ = some (.bool (qop xs k).hears) ∧ u.cell? ⟨lb, lo + k * 6 + 1, none⟩ = some (.int .i64 (qop xs k).n) ∧ u.cell? ⟨lb, lo + k * 6 + 2, none⟩ = some (.int .i64 (qop xs k).t.node) ∧ u.cell? ⟨lb, lo + k * 6 + 3, none⟩ = some (.int .i64 (qop xs k).t.seq) ∧ u.cell? ⟨lb, lo + k * 6 + 4, none⟩ = some (.slice da dn dc) ∧ u.cell? ⟨lb, lo + k * 6 + 5, none⟩ = some (.slice ea en ec)) ∧ IsTxn u (.agg #[.int .i64 (qop xs k).t.node, .int .i64 (qop xs k).t.seq, .slice da dn dc, .slice ea en ec]) (qop xs k).t := by
 have hn : n = xs.length := by
  obtain ⟨a, c, e, -⟩ := h.parts
  simp only [Value.slice.injEq] at e
  exact e.2.1
 subst hn
 obtain ⟨b, o, c, e, -, -, -, hc⟩ := h.spot hp
 simp only [Value.slice.injEq] at e
 refine ⟨b, o, e.1, fun k hk => ?_⟩
 have hx : xs[k]? = some (qop xs k) := by unfold qop; simp [List.getD, List.getElem?_eq_getElem hk]
 obtain ⟨vs, hr, hv⟩ := hc k _ hx
 obtain ⟨dv, ev, rfl, hd, he⟩ := hr
 obtain ⟨da, dc, rfl, -, -, -, -⟩ := SeqE.parts (L := LInt) hd
 obtain ⟨ea, ec, rfl, -, -, -, -⟩ := SeqE.parts (L := LEff) he
 refine ⟨da, (qop xs k).t.deps.length, dc, ea, (qop xs k).t.effs.length, ec, fun u hu => ?_⟩
 have f : ∀ i v, (cellsQOp (qop xs k) (.slice da (qop xs k).t.deps.length dc) (.slice ea (qop xs k).t.effs.length ec))[i]? = some v → u.cell? ⟨b, o + k * 6 + i, none⟩ = some v := fun i v h => by
  have h2 : w.cell? ⟨b, o + (k * 6 + i), none⟩ = some v := hv i v h
  rw [Nat.add_assoc]
  exact (hu.cell (p := ⟨b, o + (k * 6 + i), none⟩) (World.block_lt_of_cell? w ⟨b, o + (k * 6 + i), none⟩ h2)).trans h2
 exact ⟨⟨f 0 _ rfl, f 1 _ rfl, f 2 _ rfl, f 3 _ rfl, f 4 _ rfl, f 5 _ rfl⟩, _, _, rfl, SeqE.below (L := LInt) hd hu, SeqE.below (L := LEff) he hu⟩
structure QkAt (w : World) (g : Nat) (mo : Int) (q : PQueue) (a : Option Addr) (n c : Nat) (u : World) : Prop where
 v : QuVar g q a n c u
 low : Below w.heap.size w u
 gl : w.heap.size ≤ g
 ch : QChain q.list
 most : q.most = mo
 le : (q.list.length : Int) ≤ mo
 fit : ∀ t ∈ q.list, FitTx t
theorem QkAt.below {w : World} {g : Nat} {mo : Int} {q : PQueue} {a : Option Addr} {n c : Nat} {u u' : World} (h : QkAt w g mo q a n c u) (hb : Below u.heap.size u u') : QkAt w g mo q a n c u' :=
 ⟨h.v.below hb, h.low.trans (hb.mono h.low.size), h.gl, h.ch, h.most, h.le, h.fit⟩
theorem QkAt.dims {w : World} {g : Nat} {mo : Int} {q : PQueue} {a : Option Addr} {n c : Nat} {u : World} (h : QkAt w g mo q a n c u) : q.list.length = n ∧ n ≤ c ∧ c ≤ 9223372036854775807 :=
 SeqE.dims (L := LTxn) (show SeqE LTxn u (.slice a n c) q.list from h.v.sq.mono fun b k => k.1)
theorem st6_cells {w : World} {g : Nat} {z0 z1 z2 z3 z4 z5 : Value} {t : TypeId} (h : w.heap[g]? = some (.cells #[z0, z1, z2, z3, z4, z5] t (0, 0))) :
  w.cell? ⟨g, 0, none⟩ = some z0 ∧ w.cell? ⟨g, 1, none⟩ = some z1 ∧ w.cell? ⟨g, 2, none⟩ = some z2 ∧ w.cell? ⟨g, 3, none⟩ = some z3 ∧ w.cell? ⟨g, 4, none⟩ = some z4 ∧ w.cell? ⟨g, 5, none⟩ = some z5 := by
 refine ⟨?_, ?_, ?_, ?_, ?_, ?_⟩ <;> simp [World.cell?, h]
theorem one_txnV {w : World} {t : PTxn} {da ea : Option Addr} {dn dc en ec : Nat} (h : IsTxn w (.agg #[.int .i64 t.node, .int .i64 t.seq, .slice da dn dc, .slice ea en ec]) t) : SeqE LTxn (w.alloc (.cells #[.int .i64 t.node, .int .i64 t.seq, .slice da dn dc, .slice ea en ec] 34)) (.slice (some ⟨w.heap.size, 0, none⟩) 1 1) [t] :=
 one_txn (IsTxnIn.deps h.all) (IsTxnIn.effs h.all)
theorem quVec (nd : Nat) (s : Int) (hs : 0 ≤ s) : saysI ((List.replicate (nd + 1) (0 : Int)).set nd s) (nd : Int) = s := by
 unfold saysI says
 rw [if_pos (by omega)]
 simp
 omega
theorem qErr_zero {q : PQueue} {t : PTxn} (h : qErr q t = 0) : tformedB t = true ∧ qNext q.list t = true ∧ ¬ q.most ≤ (q.list.length : Int) := by
 unfold qErr at h
 split at h
 ·cases h
 ·split at h
  ·cases h
  ·split at h
   ·cases h
   ·rename_i h1 h2 h3
    exact ⟨by simpa using h1, by simpa using h2, h3⟩
end Go.Proofs.Ytmknpmamkjjiaaa
