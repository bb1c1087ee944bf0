/- WORDS FOR MESSAGES: how one lies in memory (nine cells), what an argument that is one hands over. -/
import Derived.Test.YtfapkepfngddlaaGreatEHeard
import Derived.Test.YtfapkepfngddlaaGreatMsPrg
import Derived.Test.YtfapkepfngddlaaGreatTxUses
import Derived.Test.YtfapkepfngddlaaGreatItem
import Derived.OpenShut
import Derived.Deep.Slices
import Derived.Deep.Strs
namespace Go.Proofs.YtfapkepfngddlaaGreat
open Go.RowKit Plain
set_option linter.unusedVariables false

def IsMsg (w : World) (v : Value) (m : PMsg) : Prop := ∃ vv fv zv nv iv lv, v = .agg #[.int .i64 m.kind, .int .i64 m.ticket, .bool m.whole, vv, fv, zv, nv, iv, lv] ∧ SeqE LInt w vv m.vec ∧ SeqE LInt w fv m.from_ ∧ SeqT w zv m.zone ∧ SeqT w nv m.want ∧ SeqE LItem w iv m.items ∧ SeqE LTxn w lv m.txns
theorem IsMsg.below {w w' : World} {v : Value} {m : PMsg} (h : IsMsg w v m) (hb : Below w.heap.size w w') : IsMsg w' v m := by
 obtain ⟨vv, fv, zv, nv, iv, lv, rfl, h1, h2, h3, h4, h5, h6⟩ := h
 exact ⟨vv, fv, zv, nv, iv, lv, rfl, h1.below hb, h2.below hb, h3.below hb, h4.below hb, h5.below hb, h6.below hb⟩
theorem cellsOfMsg : Tryz.prog.cellsOf 28 = 9 := by kernel_rfl
structure MsSl where
 va : Option Addr
 vn : Nat
 vc : Nat
 fa : Option Addr
 fn : Nat
 fc : Nat
 za : Option Addr
 zn : Nat
 zc : Nat
 na : Option Addr
 nn : Nat
 nc : Nat
 ia : Option Addr
 im : Nat
 ic : Nat
 la : Option Addr
 ln : Nat
 lc : Nat
structure MsAt (m : PMsg) (s : MsSl) (w : World) : Prop where
 v : SeqE LInt w (.slice s.va s.vn s.vc) m.vec
 f : SeqE LInt w (.slice s.fa s.fn s.fc) m.from_
 z : SeqT w (.slice s.za s.zn s.zc) m.zone
 n : SeqT w (.slice s.na s.nn s.nc) m.want
 i : SeqE LItem w (.slice s.ia s.im s.ic) m.items
 l : SeqE LTxn w (.slice s.la s.ln s.lc) m.txns
theorem MsAt.below {m : PMsg} {s : MsSl} {w w' : World} (h : MsAt m s w) (hb : Below w.heap.size w w') : MsAt m s w' :=
 ⟨h.v.below hb, h.f.below hb, h.z.below hb, h.n.below hb, h.i.below hb, h.l.below hb⟩
def msCells (m : PMsg) (s : MsSl) : Array Value := #[.int .i64 m.kind, .int .i64 m.ticket, .bool m.whole, .slice s.va s.vn s.vc, .slice s.fa s.fn s.fc, .slice s.za s.zn s.zc, .slice s.na s.nn s.nc, .slice s.ia s.im s.ic, .slice s.la s.ln s.lc]
theorem IsMsg.slices {w : World} {v : Value} {m : PMsg} (h : IsMsg w v m) : ∃ va vn vc fa fn fc za zn zc na nn nc ia im ic la ln lc, v = .agg #[.int .i64 m.kind, .int .i64 m.ticket, .bool m.whole, .slice va vn vc, .slice fa fn fc, .slice za zn zc, .slice na nn nc, .slice ia im ic, .slice la ln lc] ∧ MsAt m ⟨va, vn, vc, fa, fn, fc, za, zn, zc, na, nn, nc, ia, im, ic, la, ln, lc⟩ w := by
 obtain ⟨vv, fv, zv, nv, iv, lv, rfl, h1, h2, h3, h4, h5, h6⟩ := h
 obtain ⟨a1, c1, rfl, -, -, -, k1⟩ := h1.parts
 obtain ⟨a2, c2, rfl, -, -, -, k2⟩ := h2.parts
 obtain ⟨a3, c3, rfl, -, -, -, k3⟩ := h3.parts
 obtain ⟨a4, c4, rfl, -, -, -, k4⟩ := h4.parts
 obtain ⟨a5, c5, rfl, -, -, -, k5⟩ := h5.parts
 obtain ⟨a6, c6, rfl, -, -, -, k6⟩ := h6.parts
 exact ⟨_, _, _, _, _, _, _, _, _, _, _, _, _, _, _, _, _, _, rfl, k1, k2, k3, k4, k5, k6⟩
theorem MsAt.is {m : PMsg} {s : MsSl} {w : World} (h : MsAt m s w) : IsMsg w (.agg (msCells m s)) m := ⟨_, _, _, _, _, _, rfl, h.v, h.f, h.z, h.n, h.i, h.l⟩
def msgOk (m : PMsg) : Prop := intOk m.kind ∧ intOk m.ticket ∧ (∀ n ∈ m.vec, intOk n) ∧ (∀ n ∈ m.from_, intOk n) ∧ (∀ x ∈ m.items, itemOk x) ∧ ∀ t ∈ m.txns, txnOk t
def IsMsgA (w : World) (v : Value) : Prop := ∃ m, IsMsg w v m ∧ msgOk m
section
open Go.ChangeShapes Go.WideShapes Go.Joins
set_option maxRecDepth 100000
theorem texts_of_cells {H : Type} {enc : TypeId × Value → H} {W : World} {fuel : Nat} {cs : List Value} {y : DataW H × List MemPlace} (hf : DataW.trod enc Tryz.prog W 0 (fun _ => true) true fuel 24 cs = some y) : ∃ (v : Value) (xs : List Txt), cs = [v] ∧ SeqT W v xs := by
 rcases Go.Deep.open_strs Tryz.underlying24 Tryz.underlying9 (by kernel_rfl) hf with ⟨hcs, -⟩ | ⟨a, len, cap, m, Sx, hcs, -, hl, hm, hmm, -, hi⟩
 ·exact ⟨_, [], hcs, SeqT.nil W⟩
 ·simp only [↓reduceIte] at hmm
  subst hmm
  have hlen : ((List.range len).map fun i => tx (Sx i)).length = len := by simp
  refine ⟨_, (List.range len).map fun i => tx (Sx i), hcs, some a, m, by rw [hlen], by rw [hlen]; exact hl, hm, (by simp), fun hp => ?_⟩
  rw [hlen] at hp ⊢
  have each : ∀ j, j < len → W.cell? (a.add j) = some (tv (((List.range len).map fun i => tx (Sx i)).getD j [])) := by
   intro j hj
   rw [(hi j (by omega)).1]
   simp [List.getD, hj, tv, bt_tx]
  obtain ⟨b, o, spot⟩ := a
  have hspot : spot = none := by
   simpa [Addr.add] using World.cell?_spot (each 0 hp)
  subst hspot
  refine ⟨b, o, rfl, fun j hj => ?_⟩
  have := each j hj
  simp only [add_plain] at this
  exact this
theorem itemM_of_cells {H : Type} {enc : TypeId × Value → H} {W : World} {n : Nat} {cs : List Value} {y : DataW H × List MemPlace} (ht : DataW.trod enc Tryz.prog W 0 (fun _ => true) true n 47 cs = some y) : ∃ x, LItem.R (· < W.heap.size) W cs x ∧ itemOk x := item_of_cells ht
theorem msg_of_trod {H : Type} {enc : TypeId × Value → H} {W : World} {r : Reach} {b : Nat} {v : Value} {d : DataW H} {p : List MemPlace} (hv : Value.okWide Tryz.prog W r b 28 v) (h : DataW.Trod enc Tryz.prog W 0 (fun _ => true) true 28 v d p) : IsMsgA W v := by
 obtain ⟨cs, rfl, -⟩ := okWide_struct Tryz.underlying28 hv
 obtain ⟨fuel, hf⟩ := h
 simp only [Value.cells] at hf
 obtain ⟨ys, n', -, -, hl, hlen, hf⟩ := DataW.trod_struct Tryz.underlying28 hf
 rw [cellsOfMsg] at hl
 have e3 : Tryz.prog.cellsOf 23 = 1 := by kernel_rfl
 have e4 : Tryz.prog.cellsOf 26 = 1 := by kernel_rfl
 have e5 : Tryz.prog.cellsOf 25 = 1 := by kernel_rfl
 have e6 : Tryz.prog.cellsOf 24 = 1 := by kernel_rfl
 have e7 : Tryz.prog.cellsOf 4 = 1 := by kernel_rfl
 obtain ⟨cs⟩ := cs
 match cs, hl with
 | [x0, x1, x2, x3, x4, x5, x6, x7, x8], _ =>
  match ys, hlen with
  | [y0, y1, y2, y3, y4, y5, y6, y7, y8], _ =>
   have h0 := hf 0 _ rfl
   have h1 := hf 1 _ rfl
   have h2 := hf 2 _ rfl
   have h3 := hf 3 _ rfl
   have h4 := hf 4 _ rfl
   have h5 := hf 5 _ rfl
   have h6 := hf 6 _ rfl
   have h7 := hf 7 _ rfl
   have h8 := hf 8 _ rfl
   simp [cellsOfInt, e3, e4, e5, e6, e7] at h0 h1 h2 h3 h4 h5 h6 h7 h8
   obtain ⟨a0, g0, -, w0⟩ := DataW.trod_int Tryz.underlying3 h0
   obtain ⟨a1, g1, -, w1⟩ := DataW.trod_int Tryz.underlying3 h1
   obtain ⟨a2, g2, -⟩ := DataW.trod_bool Tryz.underlying4 h2
   obtain ⟨v3, l3, g3, s3, d3⟩ := elems_of_cells LInt intOk cellsOfInt (fun ht => int_of_cells ht) h3
   obtain ⟨v4, l4, g4, s4, d4⟩ := elems_of_cells LInt intOk cellsOfInt (fun ht => int_of_cells ht) h4
   obtain ⟨v5, l5, g5, s5⟩ := texts_of_cells h5
   obtain ⟨v6, l6, g6, s6⟩ := texts_of_cells h6
   obtain ⟨v7, l7, g7, s7, d7⟩ := elems_of_cells LItem itemOk cellsOfItem (fun ht => itemM_of_cells ht) h7
   obtain ⟨v8, l8, g8, s8, d8⟩ := elems_of_cells LTxn txnOk cellsOfTxn (fun ht => txn_of_cells ht) h8
   simp at g0 g1 g2 g3 g4 g5 g6 g7 g8
   subst g0 g1 g2 g3 g4 g5 g6 g7 g8
   exact ⟨⟨a0, a1, a2, l3, l4, l5, l6, l7, l8⟩, ⟨_, _, _, _, _, _, rfl, s3, s4, s5, s6, s7, s8⟩, w0, w1, d3, d4, d7, d8⟩
end
theorem nine_cells {u : World} {g : Nat} {x0 x1 x2 x3 x4 x5 x6 x7 x8 : Value} {t : TypeId} (h : u.heap[g]? = some (.cells #[x0, x1, x2, x3, x4, x5, x6, x7, x8] t (0, 0))) :
  u.cell? ⟨g, 0, none⟩ = some x0 ∧ u.cell? ⟨g, 1, none⟩ = some x1 ∧ u.cell? ⟨g, 2, none⟩ = some x2 ∧ u.cell? ⟨g, 3, none⟩ = some x3 ∧ u.cell? ⟨g, 4, none⟩ = some x4 ∧ u.cell? ⟨g, 5, none⟩ = some x5 ∧ u.cell? ⟨g, 6, none⟩ = some x6 ∧ u.cell? ⟨g, 7, none⟩ = some x7 ∧ u.cell? ⟨g, 8, none⟩ = some x8 := by
 refine ⟨?_, ?_, ?_, ?_, ?_, ?_, ?_, ?_, ?_⟩
 ·simp [World.cell?, h]
 ·simp [World.cell?, h]
 ·simp [World.cell?, h]
 ·simp [World.cell?, h]
 ·simp [World.cell?, h]
 ·simp [World.cell?, h]
 ·simp [World.cell?, h]
 ·simp [World.cell?, h]
 ·simp [World.cell?, h]
theorem nine_free {u : World} {g : Nat} {x0 x1 x2 x3 x4 x5 x6 x7 x8 : Value} {t : TypeId} (h : u.heap[g]? = some (.cells #[x0, x1, x2, x3, x4, x5, x6, x7, x8] t (0, 0))) (i : Nat) (hi : i < 9) : u.frozen? ⟨g, i, none⟩ = false := by
 unfold World.frozen?
 rw [h]
 simp
structure MsBox (g : Nat) (m : PMsg) (s : MsSl) (u : World) : Prop where
 b : u.heap[g]? = some (.cells (msCells m s) 28 (0, 0))
 a : MsAt m s u
theorem MsBox.lt {g : Nat} {m : PMsg} {s : MsSl} {u : World} (k : MsBox g m s u) : g < u.heap.size := (Array.getElem?_eq_some_iff.1 k.b).1
theorem MsBox.below {g : Nat} {m : PMsg} {s : MsSl} {u u' : World} (k : MsBox g m s u) (hb : Below u.heap.size u u') : MsBox g m s u' := ⟨(hb.block g k.lt).trans k.b, k.a.below hb⟩
theorem msbox_new {m : PMsg} {va fa za na ia la : Option Addr} {vn vc fn fc zn zc nn nc im ic ln lc : Nat} {w : World} (h : MsAt m ⟨va, vn, vc, fa, fn, fc, za, zn, zc, na, nn, nc, ia, im, ic, la, ln, lc⟩ w) :
  MsBox w.heap.size m ⟨va, vn, vc, fa, fn, fc, za, zn, zc, na, nn, nc, ia, im, ic, la, ln, lc⟩ (w.alloc (.cells #[.int .i64 m.kind, .int .i64 m.ticket, .bool m.whole, .slice va vn vc, .slice fa fn fc, .slice za zn zc, .slice na nn nc, .slice ia im ic, .slice la ln lc] 28)) :=
 ⟨heap_alloc_new w _, h.below ((Below.refl w.heap.size w).alloc (Nat.le_refl _) _)⟩
theorem MsBox.c {g : Nat} {m : PMsg} {va fa za na ia la : Option Addr} {vn vc fn fc zn zc nn nc im ic ln lc : Nat} {u : World} (k : MsBox g m ⟨va, vn, vc, fa, fn, fc, za, zn, zc, na, nn, nc, ia, im, ic, la, ln, lc⟩ u) :
  u.cell? ⟨g, 0, none⟩ = some (.int .i64 m.kind) ∧ u.cell? ⟨g, 1, none⟩ = some (.int .i64 m.ticket) ∧ u.cell? ⟨g, 2, none⟩ = some (.bool m.whole) ∧ u.cell? ⟨g, 3, none⟩ = some (.slice va vn vc) ∧ u.cell? ⟨g, 4, none⟩ = some (.slice fa fn fc) ∧ u.cell? ⟨g, 5, none⟩ = some (.slice za zn zc) ∧ u.cell? ⟨g, 6, none⟩ = some (.slice na nn nc) ∧ u.cell? ⟨g, 7, none⟩ = some (.slice ia im ic) ∧ u.cell? ⟨g, 8, none⟩ = some (.slice la ln lc) := nine_cells k.b
theorem MsBox.is {g : Nat} {m : PMsg} {va fa za na ia la : Option Addr} {vn vc fn fc zn zc nn nc im ic ln lc : Nat} {u : World} (k : MsBox g m ⟨va, vn, vc, fa, fn, fc, za, zn, zc, na, nn, nc, ia, im, ic, la, ln, lc⟩ u) : IsMsg u (.agg #[.int .i64 m.kind, .int .i64 m.ticket, .bool m.whole, .slice va vn vc, .slice fa fn fc, .slice za zn zc, .slice na nn nc, .slice ia im ic, .slice la ln lc]) m := k.a.is
end Go.Proofs.YtfapkepfngddlaaGreat
