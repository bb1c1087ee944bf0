/- WORDS FOR MESSAGES: how one lies in memory (nine cells), what an argument that is one hands over. The document's own Short and Same of messages. The program's own reader of messages: msg. (Written by gen-msmsg.py.) -/
import Derived.Test.YtfapkepfngddlaaGreatEMades
import Derived.Test.YtfapkepfngddlaaGreatMsPutR
import Derived.Test.YtfapkepfngddlaaGreatPaLists
import Derived.Test.YtfapkepfngddlaaGreatEqI
import Derived.OpenShut
import Derived.Deep.Slices
import Derived.Deep.Strs
import Derived.Test.YtfapkepfngddlaaGreatRefSs
import Derived.Test.YtfapkepfngddlaaGreatMsFm
import Derived.Test.YtfapkepfngddlaaGreatMsTxR
set_option maxRecDepth 100000
set_option maxHeartbeats 64000000
namespace Go.Proofs.YtfapkepfngddlaaGreat
open Go.RowKit Plain
set_option linter.unusedVariables false
def IsMsg (w : World) (v : Value) (m : PMsg) : Prop := ∃ vv fv zv nv iv lv, v = .agg #[.int .i64 m.kind, .int .i64 m.ticket, .bool m.whole, vv, fv, zv, nv, iv, lv] ∧ SeqE LInt w vv m.vec ∧ SeqE LInt w fv m.from_ ∧ SeqT w zv m.zone ∧ SeqT w nv m.want ∧ SeqE LItem w iv m.items ∧ SeqE LTxn w lv m.txns
theorem IsMsg.below {w w' : World} {v : Value} {m : PMsg} (h : IsMsg w v m) (hb : Below w.heap.size w w') : IsMsg w' v m := by
 obtain ⟨vv, fv, zv, nv, iv, lv, rfl, h1, h2, h3, h4, h5, h6⟩ := h;exact ⟨vv, fv, zv, nv, iv, lv, rfl, h1.below hb, h2.below hb, h3.below hb, h4.below hb, h5.below hb, h6.below hb⟩
structure MsSl where
 va : Option Addr
 vn : Nat
 vc : Nat
 fa : Option Addr
 fn : Nat
 fc : Nat
 za : Option Addr
 zn : Nat
 zc : Nat
 na : Option Addr
 nn : Nat
 nc : Nat
 ia : Option Addr
 im : Nat
 ic : Nat
 la : Option Addr
 ln : Nat
 lc : Nat
structure MsAt (m : PMsg) (s : MsSl) (w : World) : Prop where
 v : SeqE LInt w (.slice s.va s.vn s.vc) m.vec
 f : SeqE LInt w (.slice s.fa s.fn s.fc) m.from_
 z : SeqT w (.slice s.za s.zn s.zc) m.zone
 n : SeqT w (.slice s.na s.nn s.nc) m.want
 i : SeqE LItem w (.slice s.ia s.im s.ic) m.items
 l : SeqE LTxn w (.slice s.la s.ln s.lc) m.txns
theorem MsAt.below {m : PMsg} {s : MsSl} {w w' : World} (h : MsAt m s w) (hb : Below w.heap.size w w') : MsAt m s w' :=
 ⟨h.v.below hb, h.f.below hb, h.z.below hb, h.n.below hb, h.i.below hb, h.l.below hb⟩
def msCells (m : PMsg) (s : MsSl) : Array Value := #[.int .i64 m.kind, .int .i64 m.ticket, .bool m.whole, .slice s.va s.vn s.vc, .slice s.fa s.fn s.fc, .slice s.za s.zn s.zc, .slice s.na s.nn s.nc, .slice s.ia s.im s.ic, .slice s.la s.ln s.lc]
theorem IsMsg.slices {w : World} {v : Value} {m : PMsg} (h : IsMsg w v m) : ∃ va vn vc fa fn fc za zn zc na nn nc ia im ic la ln lc, v = .agg #[.int .i64 m.kind, .int .i64 m.ticket, .bool m.whole, .slice va vn vc, .slice fa fn fc, .slice za zn zc, .slice na nn nc, .slice ia im ic, .slice la ln lc] ∧ MsAt m ⟨va, vn, vc, fa, fn, fc, za, zn, zc, na, nn, nc, ia, im, ic, la, ln, lc⟩ w := by
 obtain ⟨vv, fv, zv, nv, iv, lv, rfl, h1, h2, h3, h4, h5, h6⟩ := h;obtain ⟨a1, c1, rfl, -, -, -, k1⟩ := h1.parts;obtain ⟨a2, c2, rfl, -, -, -, k2⟩ := h2.parts;obtain ⟨a3, c3, rfl, -, -, -, k3⟩ := h3.parts;obtain ⟨a4, c4, rfl, -, -, -, k4⟩ := h4.parts;obtain ⟨a5, c5, rfl, -, -, -, k5⟩ := h5.parts;obtain ⟨a6, c6, rfl, -, -, -, k6⟩ := h6.parts;exact ⟨_, _, _, _, _, _, _, _, _, _, _, _, _, _, _, _, _, _, rfl, k1, k2, k3, k4, k5, k6⟩
theorem MsAt.is {m : PMsg} {s : MsSl} {w : World} (h : MsAt m s w) : IsMsg w (.agg (msCells m s)) m := ⟨_, _, _, _, _, _, rfl, h.v, h.f, h.z, h.n, h.i, h.l⟩
def msgOk (m : PMsg) : Prop := intOk m.kind ∧ intOk m.ticket ∧ (∀ n ∈ m.vec, intOk n) ∧ (∀ n ∈ m.from_, intOk n) ∧ (∀ x ∈ m.items, itemOk x) ∧ ∀ t ∈ m.txns, txnOk t
section
open Go.ChangeShapes Go.WideShapes Go.Joins
set_option maxRecDepth 100000
end
theorem nine_cells {u : World} {g : Nat} {x0 x1 x2 x3 x4 x5 x6 x7 x8 : Value} {t : TypeId} (h : u.heap[g]? = some (.cells #[x0, x1, x2, x3, x4, x5, x6, x7, x8] t (0, 0))) :
  u.cell? ⟨g, 0, none⟩ = some x0 ∧ u.cell? ⟨g, 1, none⟩ = some x1 ∧ u.cell? ⟨g, 2, none⟩ = some x2 ∧ u.cell? ⟨g, 3, none⟩ = some x3 ∧ u.cell? ⟨g, 4, none⟩ = some x4 ∧ u.cell? ⟨g, 5, none⟩ = some x5 ∧ u.cell? ⟨g, 6, none⟩ = some x6 ∧ u.cell? ⟨g, 7, none⟩ = some x7 ∧ u.cell? ⟨g, 8, none⟩ = some x8 := by
 refine ⟨?_, ?_, ?_, ?_, ?_, ?_, ?_, ?_, ?_⟩
 ·simp [World.cell?, h]
 ·simp [World.cell?, h]
 ·simp [World.cell?, h]
 ·simp [World.cell?, h]
 ·simp [World.cell?, h]
 ·simp [World.cell?, h]
 ·simp [World.cell?, h]
 ·simp [World.cell?, h]
 ·simp [World.cell?, h]
theorem nine_free {u : World} {g : Nat} {x0 x1 x2 x3 x4 x5 x6 x7 x8 : Value} {t : TypeId} (h : u.heap[g]? = some (.cells #[x0, x1, x2, x3, x4, x5, x6, x7, x8] t (0, 0))) (i : Nat) (hi : i < 9) : u.frozen? ⟨g, i, none⟩ = false := by
 unfold World.frozen?;rw [h];simp
structure MsBox (g : Nat) (m : PMsg) (s : MsSl) (u : World) : Prop where
 b : u.heap[g]? = some (.cells (msCells m s) 28 (0, 0))
 a : MsAt m s u
theorem MsBox.lt {g : Nat} {m : PMsg} {s : MsSl} {u : World} (k : MsBox g m s u) : g < u.heap.size := (Array.getElem?_eq_some_iff.1 k.b).1
theorem MsBox.below {g : Nat} {m : PMsg} {s : MsSl} {u u' : World} (k : MsBox g m s u) (hb : Below u.heap.size u u') : MsBox g m s u' := ⟨(hb.block g k.lt).trans k.b, k.a.below hb⟩
theorem msbox_new {m : PMsg} {va fa za na ia la : Option Addr} {vn vc fn fc zn zc nn nc im ic ln lc : Nat} {w : World} (h : MsAt m ⟨va, vn, vc, fa, fn, fc, za, zn, zc, na, nn, nc, ia, im, ic, la, ln, lc⟩ w) :
  MsBox w.heap.size m ⟨va, vn, vc, fa, fn, fc, za, zn, zc, na, nn, nc, ia, im, ic, la, ln, lc⟩ (w.alloc (.cells #[.int .i64 m.kind, .int .i64 m.ticket, .bool m.whole, .slice va vn vc, .slice fa fn fc, .slice za zn zc, .slice na nn nc, .slice ia im ic, .slice la ln lc] 28)) :=
 ⟨heap_alloc_new w _, h.below (zB w _)⟩
theorem MsBox.c {g : Nat} {m : PMsg} {va fa za na ia la : Option Addr} {vn vc fn fc zn zc nn nc im ic ln lc : Nat} {u : World} (k : MsBox g m ⟨va, vn, vc, fa, fn, fc, za, zn, zc, na, nn, nc, ia, im, ic, la, ln, lc⟩ u) :
  u.cell? ⟨g, 0, none⟩ = some (.int .i64 m.kind) ∧ u.cell? ⟨g, 1, none⟩ = some (.int .i64 m.ticket) ∧ u.cell? ⟨g, 2, none⟩ = some (.bool m.whole) ∧ u.cell? ⟨g, 3, none⟩ = some (.slice va vn vc) ∧ u.cell? ⟨g, 4, none⟩ = some (.slice fa fn fc) ∧ u.cell? ⟨g, 5, none⟩ = some (.slice za zn zc) ∧ u.cell? ⟨g, 6, none⟩ = some (.slice na nn nc) ∧ u.cell? ⟨g, 7, none⟩ = some (.slice ia im ic) ∧ u.cell? ⟨g, 8, none⟩ = some (.slice la ln lc) := nine_cells k.b
theorem MsBox.is {g : Nat} {m : PMsg} {va fa za na ia la : Option Addr} {vn vc fn fc zn zc nn nc im ic ln lc : Nat} {u : World} (k : MsBox g m ⟨va, vn, vc, fa, fn, fc, za, zn, zc, na, nn, nc, ia, im, ic, la, ln, lc⟩ u) : IsMsg u (.agg #[.int .i64 m.kind, .int .i64 m.ticket, .bool m.whole, .slice va vn vc, .slice fa fn fc, .slice za zn zc, .slice na nn nc, .slice ia im ic, .slice la ln lc]) m := k.a.is
theorem msg_decB {a b : PMsg} : decide (a = b) = (decide (a.kind = b.kind) && (decide (a.ticket = b.ticket) && (decide (a.whole = b.whole) && (decide (a.vec = b.vec) && (decide (a.from_ = b.from_) && (decide (a.zone = b.zone) && (decide (a.want = b.want) && (decide (a.items = b.items) && decide (a.txns = b.txns))))))))) := by
 rw [Bool.eq_iff_iff];simp only [Bool.and_eq_true, decide_eq_true_iff]
 exact pmsg_dec
theorem equalR {u v : Value} {xs ys : List Int} {w : World} {r : Bool} (hu : SeqE LInt w u xs) (hv : SeqE LInt w v ys) (e : decide (xs = ys) = r) : Calls Tryz.prog 43 #[u, v] w (GivesB w r) := by
 rw [← e];exact (vc_requal_any (seqI_of hu) (seqI_of hv)).mono fun _ _ ⟨h, hw⟩ => ⟨h, below_of_drawn hw⟩
theorem msameR {u v : Value} {a b : PMsg} {w : World} (hu : IsMsg w u a) (hv : IsMsg w v b) (hal : a.txns.length ≤ 1000000) (r : Bool) (hr : decide (a = b) = r) : Calls Tryz.prog 16 #[u, v] w (GivesB w r) := by
 obtain ⟨va, vn, vc, fa, fn, fc, za, zn, zc, na, nn, nc, ia, im, ic, la, ln, lc, rfl, H⟩ := hu.slices;obtain ⟨yva, yvn, yvc, yfa, yfn, yfc, yza, yzn, yzc, yna, ynn, ync, yia, yim, yic, yla, yln, ylc, rfl, J⟩ := hv.slices;rw [msg_decB] at hr;have b1 := zB w (.cells #[.int .i64 a.kind, .int .i64 a.ticket, .bool a.whole, .slice va vn vc, .slice fa fn fc, .slice za zn zc, .slice na nn nc, .slice ia im ic, .slice la ln lc] 28);have b2 := (Below.refl (w.alloc (.cells #[.int .i64 a.kind, .int .i64 a.ticket, .bool a.whole, .slice va vn vc, .slice fa fn fc, .slice za zn zc, .slice na nn nc, .slice ia im ic, .slice la ln lc] 28)).heap.size (w.alloc (.cells #[.int .i64 a.kind, .int .i64 a.ticket, .bool a.whole, .slice va vn vc, .slice fa fn fc, .slice za zn zc, .slice na nn nc, .slice ia im ic, .slice la ln lc] 28))).alloc (Nat.le_refl _) (.cells #[.int .i64 b.kind, .int .i64 b.ticket, .bool b.whole, .slice yva yvn yvc, .slice yfa yfn yfc, .slice yza yzn yzc, .slice yna ynn ync, .slice yia yim yic, .slice yla yln ylc] 28);have G0 := zH (b1.trans (b2.mono b1.size));have X := zH ((msbox_new H).below b2);have Y : Hid (MsBox (w.heap.size + 1) b ⟨yva, yvn, yvc, yfa, yfn, yfc, yza, yzn, yzc, yna, ynn, ync, yia, yim, yic, yla, yln, ylc⟩ ((w.alloc (.cells #[.int .i64 a.kind, .int .i64 a.ticket, .bool a.whole, .slice va vn vc, .slice fa fn fc, .slice za zn zc, .slice na nn nc, .slice ia im ic, .slice la ln lc] 28)).alloc (.cells #[.int .i64 b.kind, .int .i64 b.ticket, .bool b.whole, .slice yva yvn yvc, .slice yfa yfn yfc, .slice yza yzn yzc, .slice yna ynn ync, .slice yia yim yic, .slice yla yln ylc] 28))) := zH (by have := msbox_new (J.below b1); simpa using this);clear hu hv H J b1 b2;go_enter Tryz.func16, Tryz.ntmps16
 go_upto_region 1 with fail
 generalize ((w.alloc (.cells #[.int .i64 a.kind, .int .i64 a.ticket, .bool a.whole, .slice va vn vc, .slice fa fn fc, .slice za zn zc, .slice na nn nc, .slice ia im ic, .slice la ln lc] 28)).alloc (.cells #[.int .i64 b.kind, .int .i64 b.ticket, .bool b.whole, .slice yva yvn yvc, .slice yfa yfn yfc, .slice yza yzn yzc, .slice yna ynn ync, .slice yia yim yic, .slice yla yln ylc] 28)) = w0 at *;have HC := zH (fun u (hb : Below w0.heap.size w0 u) => (X.out.below hb).c);have HD := zH (fun u (hb : Below w0.heap.size w0 u) => (Y.out.below hb).c);have B0 := zH (Below.refl w0.heap.size w0);have KV := zH (fun u (hb : Below w0.heap.size w0 u) => equalR (X.out.below hb).a.v (Y.out.below hb).a.v rfl);have KF := zH (fun u (hb : Below w0.heap.size w0 u) => equalR (X.out.below hb).a.f (Y.out.below hb).a.f rfl);have KZ := zH (fun u (hb : Below w0.heap.size w0 u) => rsameTR (X.out.below hb).a.z (Y.out.below hb).a.z rfl);have KN := zH (fun u (hb : Below w0.heap.size w0 u) => rsameTR (X.out.below hb).a.n (Y.out.below hb).a.n rfl);have KI := zH (fun u (hb : Below w0.heap.size w0 u) => rsameR (X.out.below hb).a.i (Y.out.below hb).a.i rfl);have KL := zH (fun u (hb : Below w0.heap.size w0 u) => sameAll_any (X.out.below hb).a.l (Y.out.below hb).a.l hal);generalize decide (a.vec = b.vec) = bv at *;generalize decide (a.from_ = b.from_) = bf at *;generalize decide (a.zone = b.zone) = bz at *;generalize decide (a.want = b.want) = bn at *;generalize decide (a.items = b.items) = bi at *;generalize decide (a.txns = b.txns) = bl at *;clear hal;obtain ⟨c0, c1, c2, c3, c4, c5, c6, c7, c8⟩ := HC.out w0 B0.out;obtain ⟨d0, d1, d2, d3, d4, d5, d6, d7, d8⟩ := HD.out w0 B0.out;generalize a.kind = xkind at *;generalize b.kind = ykind at *;generalize a.ticket = xticket at *;generalize b.ticket = yticket at *;generalize a.whole = xwhole at *;generalize b.whole = ywhole at *
 by_cases h : xkind = ykind
 rotate_left
 ·have e : (xkind == ykind) = false := beq_false_of_ne h
  rw [decide_eq_false h] at hr;obtain rfl : r = false := by rw [← hr]; rfl
  clear h;go_wp2_with fail
  go_ret
  exact ⟨rfl, G0.out.trans (B0.out.mono G0.out.size)⟩
 have ekind : (xkind == ykind) = true := beq_iff_eq.2 h;rw [decide_eq_true h, Bool.true_and] at hr;clear h
 by_cases h : xticket = yticket
 rotate_left
 ·have e : (xticket == yticket) = false := beq_false_of_ne h
  rw [decide_eq_false h] at hr;obtain rfl : r = false := by rw [← hr]; rfl
  clear h;go_wp2_with fail
  go_ret
  exact ⟨rfl, G0.out.trans (B0.out.mono G0.out.size)⟩
 have eticket : (xticket == yticket) = true := beq_iff_eq.2 h;rw [decide_eq_true h, Bool.true_and] at hr;clear h
 by_cases h : xwhole = ywhole
 rotate_left
 ·have e : (xwhole == ywhole) = false := beq_false_of_ne h
  rw [decide_eq_false h] at hr;obtain rfl : r = false := by rw [← hr]; rfl
  clear h;go_wp2_with fail
  go_ret
  exact ⟨rfl, G0.out.trans (B0.out.mono G0.out.size)⟩
 have ewhole : (xwhole == ywhole) = true := beq_iff_eq.2 h;rw [decide_eq_true h, Bool.true_and] at hr;clear h
 cases bv with
 | false =>
  obtain rfl : r = false := by rw [← hr]; rfl
  go_wp2_with fail
  refine (KV.out _ B0.out).mono ?_;rintro e w1 ⟨rfl, hb⟩;have B1 := zH (B0.out.trans (hb.mono B0.out.size));clear hb c0 c1 c2 c3 c4 c5 c6 c7 c8 d0 d1 d2 d3 d4 d5 d6 d7 d8 KV;obtain ⟨c0, c1, c2, c3, c4, c5, c6, c7, c8⟩ := HC.out _ B1.out;obtain ⟨d0, d1, d2, d3, d4, d5, d6, d7, d8⟩ := HD.out _ B1.out;go_wp2_with fail
  go_ret
  exact ⟨rfl, G0.out.trans (B1.out.mono G0.out.size)⟩
 | true =>
  rw [Bool.true_and] at hr;go_wp2_with fail
  refine (KV.out _ B0.out).mono ?_;rintro e w1 ⟨rfl, hb⟩;have B1 := zH (B0.out.trans (hb.mono B0.out.size));clear hb c0 c1 c2 c3 c4 c5 c6 c7 c8 d0 d1 d2 d3 d4 d5 d6 d7 d8 KV;obtain ⟨c0, c1, c2, c3, c4, c5, c6, c7, c8⟩ := HC.out _ B1.out;obtain ⟨d0, d1, d2, d3, d4, d5, d6, d7, d8⟩ := HD.out _ B1.out
  cases bf with
  | false =>
   obtain rfl : r = false := by rw [← hr]; rfl
   go_wp2_with fail
   refine (KF.out _ B1.out).mono ?_;rintro e w2 ⟨rfl, hb⟩;have B2 := zH (B1.out.trans (hb.mono B1.out.size));clear hb c0 c1 c2 c3 c4 c5 c6 c7 c8 d0 d1 d2 d3 d4 d5 d6 d7 d8 KF;obtain ⟨c0, c1, c2, c3, c4, c5, c6, c7, c8⟩ := HC.out _ B2.out;obtain ⟨d0, d1, d2, d3, d4, d5, d6, d7, d8⟩ := HD.out _ B2.out;go_wp2_with fail
   go_ret
   exact ⟨rfl, G0.out.trans (B2.out.mono G0.out.size)⟩
  | true =>
   rw [Bool.true_and] at hr;go_wp2_with fail
   refine (KF.out _ B1.out).mono ?_;rintro e w2 ⟨rfl, hb⟩;have B2 := zH (B1.out.trans (hb.mono B1.out.size));clear hb c0 c1 c2 c3 c4 c5 c6 c7 c8 d0 d1 d2 d3 d4 d5 d6 d7 d8 KF;obtain ⟨c0, c1, c2, c3, c4, c5, c6, c7, c8⟩ := HC.out _ B2.out;obtain ⟨d0, d1, d2, d3, d4, d5, d6, d7, d8⟩ := HD.out _ B2.out
   cases bz with
   | false =>
    obtain rfl : r = false := by rw [← hr]; rfl
    go_wp2_with fail
    refine (KZ.out _ B2.out).mono ?_;rintro e w3 ⟨rfl, hb⟩;have B3 := zH (B2.out.trans (hb.mono B2.out.size));clear hb c0 c1 c2 c3 c4 c5 c6 c7 c8 d0 d1 d2 d3 d4 d5 d6 d7 d8 KZ;obtain ⟨c0, c1, c2, c3, c4, c5, c6, c7, c8⟩ := HC.out _ B3.out;obtain ⟨d0, d1, d2, d3, d4, d5, d6, d7, d8⟩ := HD.out _ B3.out;go_wp2_with fail
    go_ret
    exact ⟨rfl, G0.out.trans (B3.out.mono G0.out.size)⟩
   | true =>
    rw [Bool.true_and] at hr;go_wp2_with fail
    refine (KZ.out _ B2.out).mono ?_;rintro e w3 ⟨rfl, hb⟩;have B3 := zH (B2.out.trans (hb.mono B2.out.size));clear hb c0 c1 c2 c3 c4 c5 c6 c7 c8 d0 d1 d2 d3 d4 d5 d6 d7 d8 KZ;obtain ⟨c0, c1, c2, c3, c4, c5, c6, c7, c8⟩ := HC.out _ B3.out;obtain ⟨d0, d1, d2, d3, d4, d5, d6, d7, d8⟩ := HD.out _ B3.out
    cases bn with
    | false =>
     obtain rfl : r = false := by rw [← hr]; rfl
     go_wp2_with fail
     refine (KN.out _ B3.out).mono ?_;rintro e w4 ⟨rfl, hb⟩;have B4 := zH (B3.out.trans (hb.mono B3.out.size));clear hb c0 c1 c2 c3 c4 c5 c6 c7 c8 d0 d1 d2 d3 d4 d5 d6 d7 d8 KN;obtain ⟨c0, c1, c2, c3, c4, c5, c6, c7, c8⟩ := HC.out _ B4.out;obtain ⟨d0, d1, d2, d3, d4, d5, d6, d7, d8⟩ := HD.out _ B4.out;go_wp2_with fail
     go_ret
     exact ⟨rfl, G0.out.trans (B4.out.mono G0.out.size)⟩
    | true =>
     rw [Bool.true_and] at hr;go_wp2_with fail
     refine (KN.out _ B3.out).mono ?_;rintro e w4 ⟨rfl, hb⟩;have B4 := zH (B3.out.trans (hb.mono B3.out.size));clear hb c0 c1 c2 c3 c4 c5 c6 c7 c8 d0 d1 d2 d3 d4 d5 d6 d7 d8 KN;obtain ⟨c0, c1, c2, c3, c4, c5, c6, c7, c8⟩ := HC.out _ B4.out;obtain ⟨d0, d1, d2, d3, d4, d5, d6, d7, d8⟩ := HD.out _ B4.out
     cases bi with
     | false =>
      obtain rfl : r = false := by rw [← hr]; rfl
      go_wp2_with fail
      refine (KI.out _ B4.out).mono ?_;rintro e w5 ⟨rfl, hb⟩;have B5 := zH (B4.out.trans (hb.mono B4.out.size));clear hb c0 c1 c2 c3 c4 c5 c6 c7 c8 d0 d1 d2 d3 d4 d5 d6 d7 d8 KI;obtain ⟨c0, c1, c2, c3, c4, c5, c6, c7, c8⟩ := HC.out _ B5.out;obtain ⟨d0, d1, d2, d3, d4, d5, d6, d7, d8⟩ := HD.out _ B5.out;go_wp2_with fail
      go_ret
      exact ⟨rfl, G0.out.trans (B5.out.mono G0.out.size)⟩
     | true =>
      rw [Bool.true_and] at hr;go_wp2_with fail
      refine (KI.out _ B4.out).mono ?_;rintro e w5 ⟨rfl, hb⟩;have B5 := zH (B4.out.trans (hb.mono B4.out.size));clear hb c0 c1 c2 c3 c4 c5 c6 c7 c8 d0 d1 d2 d3 d4 d5 d6 d7 d8 KI;obtain ⟨c0, c1, c2, c3, c4, c5, c6, c7, c8⟩ := HC.out _ B5.out;obtain ⟨d0, d1, d2, d3, d4, d5, d6, d7, d8⟩ := HD.out _ B5.out;subst hr;go_wp2_with fail
      refine (KL.out _ B5.out).mono ?_;rintro e w6 ⟨rfl, hb⟩;have B6 := zH (B5.out.trans (hb.mono B5.out.size));clear hb c0 c1 c2 c3 c4 c5 c6 c7 c8 d0 d1 d2 d3 d4 d5 d6 d7 d8 KL;obtain ⟨c0, c1, c2, c3, c4, c5, c6, c7, c8⟩ := HC.out _ B6.out;obtain ⟨d0, d1, d2, d3, d4, d5, d6, d7, d8⟩ := HD.out _ B6.out;go_wp2_with fail
      go_ret
      exact ⟨rfl, G0.out.trans (B6.out.mono G0.out.size)⟩
def ts9 (w : World) (g : Nat) (v0 v1 v2 v3 v4 v5 v6 v7 v8 : Value) : World := ((((((((w.setCell ⟨g, 0, none⟩ v0).setCell ⟨g, 1, none⟩ v1).setCell ⟨g, 2, none⟩ v2).setCell ⟨g, 3, none⟩ v3).setCell ⟨g, 4, none⟩ v4).setCell ⟨g, 5, none⟩ v5).setCell ⟨g, 6, none⟩ v6).setCell ⟨g, 7, none⟩ v7).setCell ⟨g, 8, none⟩ v8
theorem tcells9 {u : World} {g : Nat} {v0 v1 v2 v3 v4 v5 v6 v7 v8 : Value} {t : TypeId} (h : u.heap[g]? = some (.cells #[v0, v1, v2, v3, v4, v5, v6, v7, v8] t (0, 0))) : (u.cell? ⟨g, 0, none⟩ = some v0 ∧ u.cell? ⟨g, 1, none⟩ = some v1 ∧ u.cell? ⟨g, 2, none⟩ = some v2 ∧ u.cell? ⟨g, 3, none⟩ = some v3 ∧ u.cell? ⟨g, 4, none⟩ = some v4 ∧ u.cell? ⟨g, 5, none⟩ = some v5 ∧ u.cell? ⟨g, 6, none⟩ = some v6 ∧ u.cell? ⟨g, 7, none⟩ = some v7 ∧ u.cell? ⟨g, 8, none⟩ = some v8) ∧ u.frozen? ⟨g, 0, none⟩ = false ∧ u.frozen? ⟨g, 1, none⟩ = false ∧ u.frozen? ⟨g, 2, none⟩ = false ∧ u.frozen? ⟨g, 3, none⟩ = false ∧ u.frozen? ⟨g, 4, none⟩ = false ∧ u.frozen? ⟨g, 5, none⟩ = false ∧ u.frozen? ⟨g, 6, none⟩ = false ∧ u.frozen? ⟨g, 7, none⟩ = false ∧ u.frozen? ⟨g, 8, none⟩ = false := ⟨nine_cells h, nine_free h 0 (by omega), nine_free h 1 (by omega), nine_free h 2 (by omega), nine_free h 3 (by omega), nine_free h 4 (by omega), nine_free h 5 (by omega), nine_free h 6 (by omega), nine_free h 7 (by omega), nine_free h 8 (by omega)⟩
theorem ts9_block {w : World} {g : Nat} {z0 z1 z2 z3 z4 z5 z6 z7 z8 v0 v1 v2 v3 v4 v5 v6 v7 v8 : Value} {t : TypeId} (h : w.heap[g]? = some (.cells #[z0, z1, z2, z3, z4, z5, z6, z7, z8] t (0, 0))) : (ts9 w g v0 v1 v2 v3 v4 v5 v6 v7 v8).heap[g]? = some (.cells #[v0, v1, v2, v3, v4, v5, v6, v7, v8] t (0, 0)) := by
 unfold ts9;rw [(heap_setCell_same _ g 8 _ _ _ (heap_setCell_same _ g 7 _ _ _ (heap_setCell_same _ g 6 _ _ _ (heap_setCell_same _ g 5 _ _ _ (heap_setCell_same _ g 4 _ _ _ (heap_setCell_same _ g 3 _ _ _ (heap_setCell_same _ g 2 _ _ _ (heap_setCell_same _ g 1 _ _ _ (heap_setCell_same _ g 0 _ _ _ h)))))))))]
 rfl
theorem ts9_but {w u : World} {g R : Nat} {v0 v1 v2 v3 v4 v5 v6 v7 v8 : Value} (h : But g w u) (hw : g < w.heap.size) (hR : w.heap.size ≤ R) : But g w (ts9 u R v0 v1 v2 v3 v4 v5 v6 v7 v8) := (((((((((h.store hw hR).store hw hR).store hw hR).store hw hR).store hw hR).store hw hR).store hw hR).store hw hR).store hw hR)
theorem ts9_box {w : World} {g R : Nat} {s : Rb} {v0 v1 v2 v3 v4 v5 v6 v7 v8 : Value} (h : MrBox w g s) (hR : g < R) : MrBox (ts9 w R v0 v1 v2 v3 v4 v5 v6 v7 v8) g s := (((((((((h.store hR).store hR).store hR).store hR).store hR).store hR).store hR).store hR).store hR)
theorem ts9_bare (w : World) (R : Nat) (v0 v1 v2 v3 v4 v5 v6 v7 v8 : Value) : But R w (ts9 w R v0 v1 v2 v3 v4 v5 v6 v7 v8) := (((((((((But.set R w 0 v0).trans (But.set R _ 1 v1)).trans (But.set R _ 2 v2)).trans (But.set R _ 3 v3)).trans (But.set R _ 4 v4)).trans (But.set R _ 5 v5)).trans (But.set R _ 6 v6)).trans (But.set R _ 7 v7)).trans (But.set R _ 8 v8))
theorem ts9_below {B : Nat} {w u : World} {g : Nat} {v0 v1 v2 v3 v4 v5 v6 v7 v8 : Value} (h : Below B w u) (hg : B ≤ g) : Below B w (ts9 u g v0 v1 v2 v3 v4 v5 v6 v7 v8) := (((((((((h.setCell hg _).setCell hg _).setCell hg _).setCell hg _).setCell hg _).setCell hg _).setCell hg _).setCell hg _).setCell hg _)
def vMs (B : Nat) (W : World) (v : Value) (m : PMsg) : Prop := ∃ va vn vc fa fn fc za zn zc na nn nc ia im ic la ln lc, v = .agg #[.int .i64 m.kind, .int .i64 m.ticket, .bool m.whole, .slice va vn vc, .slice fa fn fc, .slice za zn zc, .slice na nn nc, .slice ia im ic, .slice la ln lc] ∧ OwnE LInt B W (.slice va vn vc) m.vec ∧ OwnE LInt B W (.slice fa fn fc) m.from_ ∧ OwnE LStr B W (.slice za zn zc) m.zone ∧ OwnE LStr B W (.slice na nn nc) m.want ∧ OwnE LItem B W (.slice ia im ic) m.items ∧ OwnJ (fun b => B ≤ b) LTxn B W (.slice la ln lc) m.txns
theorem mmsg_any {w : World} {g : Nat} {s : Rb} (hx : MrBox w g s) (hl : s.1.length ≤ 500000) : Calls Tryz.prog 50 #[.pointer (some ⟨g, 0, none⟩)] w (GivesM (vMs w.heap.size) w g (mmsg s)) := by
 have HG := zH hx.lt;have HNE : Hid (w.heap.size ≠ g) := zH (by have := hx.lt; omega);have HR : Hid (mmsg s = (⟨(mnum s).1, (mnum (mnum s).2).1, decide ((mcount 1 (mnum (mnum s).2).2).1 = 1), (mlist mnum 8 (mcount 1 (mnum (mnum s).2).2).2).1, (mlist mnum 8 (mlist mnum 8 (mcount 1 (mnum (mnum s).2).2).2).2).1, (mlist mtext 8 (mlist mnum 8 (mlist mnum 8 (mcount 1 (mnum (mnum s).2).2).2).2).2).1, (mlist mtext 8 (mlist mtext 8 (mlist mnum 8 (mlist mnum 8 (mcount 1 (mnum (mnum s).2).2).2).2).2).2).1, (mlist mitem 32768 (mlist mtext 8 (mlist mtext 8 (mlist mnum 8 (mlist mnum 8 (mcount 1 (mnum (mnum s).2).2).2).2).2).2).2).1, (mlist mtxn 4096 (mlist mitem 32768 (mlist mtext 8 (mlist mtext 8 (mlist mnum 8 (mlist mnum 8 (mcount 1 (mnum (mnum s).2).2).2).2).2).2).2).2).1⟩, (mlist mtxn 4096 (mlist mitem 32768 (mlist mtext 8 (mlist mtext 8 (mlist mnum 8 (mlist mnum 8 (mcount 1 (mnum (mnum s).2).2).2).2).2).2).2).2).2)) := zH (by unfold mmsg mm8 mm7 mm6 mm5 mm4 mm3 mm2 mm1 mwhole; with_reducible rfl);have L1 : Hid ((mnum s).2.1.length ≤ 500000) := zH (Nat.le_trans (shrb_num s) hl);have L2 : Hid ((mnum (mnum s).2).2.1.length ≤ 500000) := zH (Nat.le_trans (shrb_num (mnum s).2) L1.out);have L3 : Hid ((mcount 1 (mnum (mnum s).2).2).2.1.length ≤ 500000) := zH (Nat.le_trans (shrb_count 1 (mnum (mnum s).2).2) L2.out);have L4 : Hid ((mlist mnum 8 (mcount 1 (mnum (mnum s).2).2).2).2.1.length ≤ 500000) := zH (Nat.le_trans (shrb_list shrb_num 8 (mcount 1 (mnum (mnum s).2).2).2) L3.out);have L5 : Hid ((mlist mnum 8 (mlist mnum 8 (mcount 1 (mnum (mnum s).2).2).2).2).2.1.length ≤ 500000) := zH (Nat.le_trans (shrb_list shrb_num 8 (mlist mnum 8 (mcount 1 (mnum (mnum s).2).2).2).2) L4.out);have L6 : Hid ((mlist mtext 8 (mlist mnum 8 (mlist mnum 8 (mcount 1 (mnum (mnum s).2).2).2).2).2).2.1.length ≤ 500000) := zH (Nat.le_trans (shrb_list shrb_text 8 (mlist mnum 8 (mlist mnum 8 (mcount 1 (mnum (mnum s).2).2).2).2).2) L5.out);have L7 : Hid ((mlist mtext 8 (mlist mtext 8 (mlist mnum 8 (mlist mnum 8 (mcount 1 (mnum (mnum s).2).2).2).2).2).2).2.1.length ≤ 500000) := zH (Nat.le_trans (shrb_list shrb_text 8 (mlist mtext 8 (mlist mnum 8 (mlist mnum 8 (mcount 1 (mnum (mnum s).2).2).2).2).2).2) L6.out);have L8 : Hid ((mlist mitem 32768 (mlist mtext 8 (mlist mtext 8 (mlist mnum 8 (mlist mnum 8 (mcount 1 (mnum (mnum s).2).2).2).2).2).2).2).2.1.length ≤ 500000) := zH (Nat.le_trans (shrb_list shrb_item 32768 (mlist mtext 8 (mlist mtext 8 (mlist mnum 8 (mlist mnum 8 (mcount 1 (mnum (mnum s).2).2).2).2).2).2).2) L7.out);generalize mmsg s = res at *;have hba := zB w (.cells #[.int .i64 0, .int .i64 0, .bool false, .slice none 0 0, .slice none 0 0, .slice none 0 0, .slice none 0 0, .slice none 0 0, .slice none 0 0] 28);have K0 := zH (mnum_any (hx.below hba) hl);have R0 : Hid ((w.alloc (.cells #[.int .i64 0, .int .i64 0, .bool false, .slice none 0 0, .slice none 0 0, .slice none 0 0, .slice none 0 0, .slice none 0 0, .slice none 0 0] 28)).heap[w.heap.size]? = some (.cells #[.int .i64 0, .int .i64 0, .bool false, .slice none 0 0, .slice none 0 0, .slice none 0 0, .slice none 0 0, .slice none 0 0, .slice none 0 0] 28 (0, 0))) := zH (heap_alloc_new _ _);have Z0 : Hid (w.heap.size < (w.alloc (.cells #[.int .i64 0, .int .i64 0, .bool false, .slice none 0 0, .slice none 0 0, .slice none 0 0, .slice none 0 0, .slice none 0 0, .slice none 0 0] 28)).heap.size) := zH (by simp);have G0 : Hid (But g w (w.alloc (.cells #[.int .i64 0, .int .i64 0, .bool false, .slice none 0 0, .slice none 0 0, .slice none 0 0, .slice none 0 0, .slice none 0 0, .slice none 0 0] 28))) := zH (But.of hba (Nat.le_of_lt hx.lt));clear hx hl hba;go_enter Tryz.func50, Tryz.ntmps50
 go_upto_region 1 with fail
 generalize (w.alloc (.cells #[.int .i64 0, .int .i64 0, .bool false, .slice none 0 0, .slice none 0 0, .slice none 0 0, .slice none 0 0, .slice none 0 0, .slice none 0 0] 28)) = w0 at *;generalize mnum s = q1 at *;go_wp2_with fail
 refine K0.out.mono ?_;rintro e w1 ⟨v, rfl, hv, hx, hb⟩;obtain rfl : v = .int .i64 q1.1 := hv;have R1 := zH ((hb.block _ Z0.out HNE.out).trans R0.out);have Z1 := zH (Nat.lt_of_lt_of_le Z0.out hb.size);have G1 := zH (G0.out.trans hb);have K1 := zH (mnum_any hx L1.out);generalize mnum q1.2 = q2 at *;clear hx hb K0;go_wp2_with fail
 refine K1.out.mono ?_;rintro e w2 ⟨v, rfl, hv, hx, hb⟩;obtain rfl : v = .int .i64 q2.1 := hv;have R2 := zH ((hb.block _ Z1.out HNE.out).trans R1.out);have Z2 := zH (Nat.lt_of_lt_of_le Z1.out hb.size);have G2 := zH (G1.out.trans hb);have K2 := zH (mcount_any hx L2.out 1);generalize mcount 1 q2.2 = q3 at *;clear hx hb K1;go_wp2_with fail
 refine K2.out.mono ?_;rintro e w3 ⟨v, rfl, hv, hx, hb⟩;obtain rfl : v = .int .i64 q3.1 := hv;have E3 : (((q3.1 : Nat) : Int) == 1) = decide (q3.1 = 1) := by by_cases h : q3.1 = 1 <;> simp [h] <;> omega
 have R3 := zH ((hb.block _ Z2.out HNE.out).trans R2.out);have Z3 := zH (Nat.lt_of_lt_of_le Z2.out hb.size);have G3 := zH (G2.out.trans hb);have K3 := zH (mvec_any hx L3.out);generalize mlist mnum 8 q3.2 = q4 at *;clear hx hb K2;go_wp2_with fail
 refine K3.out.mono ?_;rintro e w4 ⟨v, rfl, hv, hx, hb⟩;have R4 := zH ((hb.block _ Z3.out HNE.out).trans R3.out);have Z4 := zH (Nat.lt_of_lt_of_le Z3.out hb.size);have G4 := zH (G3.out.trans hb);change OwnE LInt w3.heap.size w4 v q4.1 at hv;obtain ⟨va, vc, rfl, -, -, hv', -⟩ := hv.parts;have Ov : Hid (OwnE LInt (w.heap.size + 1) w4 (.slice va q4.1.length vc) q4.1) := zH (hv'.mono (Nat.succ_le_of_lt Z3.out));obtain ⟨vn, hLv⟩ : ∃ n, q4.1.length = n := ⟨_, rfl⟩;rw [hLv] at Ov ⊢;clear hv hv' hLv;have K4 := zH (mvec_any hx L4.out);generalize mlist mnum 8 q4.2 = q5 at *;clear hx hb K3;go_wp2_with fail
 refine K4.out.mono ?_;rintro e w5 ⟨v, rfl, hv, hx, hb⟩;have R5 := zH ((hb.block _ Z4.out HNE.out).trans R4.out);have Z5 := zH (Nat.lt_of_lt_of_le Z4.out hb.size);have G5 := zH (G4.out.trans hb);change OwnE LInt w4.heap.size w5 v q5.1 at hv;obtain ⟨fa, fc, rfl, -, -, hv', -⟩ := hv.parts;have Of : Hid (OwnE LInt (w.heap.size + 1) w5 (.slice fa q5.1.length fc) q5.1) := zH (hv'.mono (Nat.succ_le_of_lt Z4.out));obtain ⟨fn, hLf⟩ : ∃ n, q5.1.length = n := ⟨_, rfl⟩;rw [hLf] at Of ⊢;clear hv hv' hLf;replace Ov := zH (Ov.out.but flat_int hb (Nat.lt_succ_of_lt HG.out));have K5 := zH (mzone_any hx L5.out);generalize mlist mtext 8 q5.2 = q6 at *;clear hx hb K4;go_wp2_with fail
 refine K5.out.mono ?_;rintro e w6 ⟨v, rfl, hv, hx, hb⟩;have R6 := zH ((hb.block _ Z5.out HNE.out).trans R5.out);have Z6 := zH (Nat.lt_of_lt_of_le Z5.out hb.size);have G6 := zH (G5.out.trans hb);change OwnE LStr w5.heap.size w6 v q6.1 at hv;obtain ⟨za, zc, rfl, -, -, hv', -⟩ := hv.parts;have Oz : Hid (OwnE LStr (w.heap.size + 1) w6 (.slice za q6.1.length zc) q6.1) := zH (hv'.mono (Nat.succ_le_of_lt Z5.out));obtain ⟨zn, hLz⟩ : ∃ n, q6.1.length = n := ⟨_, rfl⟩;rw [hLz] at Oz ⊢;clear hv hv' hLz;replace Ov := zH (Ov.out.but flat_int hb (Nat.lt_succ_of_lt HG.out));replace Of := zH (Of.out.but flat_int hb (Nat.lt_succ_of_lt HG.out));have K6 := zH (mzone_any hx L6.out);generalize mlist mtext 8 q6.2 = q7 at *;clear hx hb K5;go_wp2_with fail
 refine K6.out.mono ?_;rintro e w7 ⟨v, rfl, hv, hx, hb⟩;have R7 := zH ((hb.block _ Z6.out HNE.out).trans R6.out);have Z7 := zH (Nat.lt_of_lt_of_le Z6.out hb.size);have G7 := zH (G6.out.trans hb);change OwnE LStr w6.heap.size w7 v q7.1 at hv;obtain ⟨na, nc, rfl, -, -, hv', -⟩ := hv.parts;have On : Hid (OwnE LStr (w.heap.size + 1) w7 (.slice na q7.1.length nc) q7.1) := zH (hv'.mono (Nat.succ_le_of_lt Z6.out));obtain ⟨nn, hLn⟩ : ∃ n, q7.1.length = n := ⟨_, rfl⟩;rw [hLn] at On ⊢;clear hv hv' hLn;replace Ov := zH (Ov.out.but flat_int hb (Nat.lt_succ_of_lt HG.out));replace Of := zH (Of.out.but flat_int hb (Nat.lt_succ_of_lt HG.out));replace Oz := zH (Oz.out.but flat_str hb (Nat.lt_succ_of_lt HG.out));have K7 := zH (mlist_item hx L7.out 32768 (by decide));generalize mlist mitem 32768 q7.2 = q8 at *;clear hx hb K6;go_wp2_with fail
 refine K7.out.mono ?_;rintro e w8 ⟨v, rfl, hv, hx, hb⟩;have R8 := zH ((hb.block _ Z7.out HNE.out).trans R7.out);have Z8 := zH (Nat.lt_of_lt_of_le Z7.out hb.size);have G8 := zH (G7.out.trans hb);change OwnE LItem w7.heap.size w8 v q8.1 at hv;obtain ⟨ia, ic, rfl, -, -, hv', -⟩ := hv.parts;have Oi : Hid (OwnE LItem (w.heap.size + 1) w8 (.slice ia q8.1.length ic) q8.1) := zH (hv'.mono (Nat.succ_le_of_lt Z7.out));obtain ⟨im, hLi⟩ : ∃ n, q8.1.length = n := ⟨_, rfl⟩;rw [hLi] at Oi ⊢;clear hv hv' hLi;replace Ov := zH (Ov.out.but flat_int hb (Nat.lt_succ_of_lt HG.out));replace Of := zH (Of.out.but flat_int hb (Nat.lt_succ_of_lt HG.out));replace Oz := zH (Oz.out.but flat_str hb (Nat.lt_succ_of_lt HG.out));replace On := zH (On.out.but flat_str hb (Nat.lt_succ_of_lt HG.out));have K8 := zH (mlist_txn hx L8.out 4096 (by decide));generalize mlist mtxn 4096 q8.2 = q9 at *;clear hx hb K7;go_wp2_with fail
 refine K8.out.mono ?_;rintro e w9 ⟨v, rfl, hv, hx, hb⟩;have R9 := zH ((hb.block _ Z8.out HNE.out).trans R8.out);have Z9 := zH (Nat.lt_of_lt_of_le Z8.out hb.size);have G9 := zH (G8.out.trans hb);change OwnJ (fun b => w8.heap.size ≤ b) LTxn w8.heap.size w9 v q9.1 at hv;obtain ⟨la, lc, rfl, -, -, -, -⟩ := hv.own.parts;have Ol : Hid (OwnJ (fun b => w.heap.size + 1 ≤ b) LTxn (w.heap.size + 1) w9 (.slice la q9.1.length lc) q9.1) := zH ((hv.mono (Nat.succ_le_of_lt Z8.out)).imp fun b h => Nat.le_trans (Nat.succ_le_of_lt Z8.out) h);obtain ⟨ln, hl⟩ : ∃ n, q9.1.length = n := ⟨_, rfl⟩;rw [hl] at Ol ⊢;clear hv hl;replace Ov := zH (Ov.out.but flat_int hb (Nat.lt_succ_of_lt HG.out));replace Of := zH (Of.out.but flat_int hb (Nat.lt_succ_of_lt HG.out));replace Oz := zH (Oz.out.but flat_str hb (Nat.lt_succ_of_lt HG.out));replace On := zH (On.out.but flat_str hb (Nat.lt_succ_of_lt HG.out));replace Oi := zH (Oi.out.but flat_item hb (Nat.lt_succ_of_lt HG.out));have X9 := zH hx;clear hx hb K8;obtain ⟨⟨y0, y1, y2, y3, y4, y5, y6, y7, y8⟩, f0, f1, f2, f3, f4, f5, f6, f7, f8⟩ := tcells9 R9.out;have FC := zH (tcells9 (ts9_block (v0 := .int .i64 q1.1) (v1 := .int .i64 q2.1) (v2 := .bool (decide (q3.1 = 1))) (v3 := .slice va vn vc) (v4 := .slice fa fn fc) (v5 := .slice za zn zc) (v6 := .slice na nn nc) (v7 := .slice ia im ic) (v8 := .slice la ln lc) R9.out)).1;have FG := zH (ts9_but (v0 := .int .i64 q1.1) (v1 := .int .i64 q2.1) (v2 := .bool (decide (q3.1 = 1))) (v3 := .slice va vn vc) (v4 := .slice fa fn fc) (v5 := .slice za zn zc) (v6 := .slice na nn nc) (v7 := .slice ia im ic) (v8 := .slice la ln lc) G9.out HG.out (Nat.le_refl w.heap.size));have FX := zH (ts9_box (v0 := .int .i64 q1.1) (v1 := .int .i64 q2.1) (v2 := .bool (decide (q3.1 = 1))) (v3 := .slice va vn vc) (v4 := .slice fa fn fc) (v5 := .slice za zn zc) (v6 := .slice na nn nc) (v7 := .slice ia im ic) (v8 := .slice la ln lc) X9.out HG.out);have KO : Hid (∀ {α : Type} {L : El α} {a : Option Addr} {n c : Nat} {xs : List α}, Flat L → OwnE L (w.heap.size + 1) w9 (.slice a n c) xs → OwnE L w.heap.size (ts9 w9 w.heap.size (.int .i64 q1.1) (.int .i64 q2.1) (.bool (decide (q3.1 = 1))) (.slice va vn vc) (.slice fa fn fc) (.slice za zn zc) (.slice na nn nc) (.slice ia im ic) (.slice la ln lc)) (.slice a n c) xs) := zH (fun hf h => (h.but hf (ts9_bare w9 w.heap.size (.int .i64 q1.1) (.int .i64 q2.1) (.bool (decide (q3.1 = 1))) (.slice va vn vc) (.slice fa fn fc) (.slice za zn zc) (.slice na nn nc) (.slice ia im ic) (.slice la ln lc)) (by omega)).mono (by omega));have Fv := zH (KO.out flat_int Ov.out);have Ff := zH (KO.out flat_int Of.out);have Fz := zH (KO.out flat_str Oz.out);have Fn := zH (KO.out flat_str On.out);have Fi := zH (KO.out flat_item Oi.out);have Fl : Hid (OwnJ (fun b => w.heap.size ≤ b) LTxn w.heap.size (ts9 w9 w.heap.size (.int .i64 q1.1) (.int .i64 q2.1) (.bool (decide (q3.1 = 1))) (.slice va vn vc) (.slice fa fn fc) (.slice za zn zc) (.slice na nn nc) (.slice ia im ic) (.slice la ln lc)) (.slice la ln lc) q9.1) := zH (((Ol.out.but (ts9_bare w9 w.heap.size (.int .i64 q1.1) (.int .i64 q2.1) (.bool (decide (q3.1 = 1))) (.slice va vn vc) (.slice fa fn fc) (.slice za zn zc) (.slice na nn nc) (.slice ia im ic) (.slice la ln lc)) (by omega) (fun b hb e => by omega)).mono (by omega)).imp fun b hb => by omega);clear KO;unfold ts9 at FC FG FX Fv Ff Fz Fn Fi Fl;go_wp2_with fail
 obtain ⟨g0, g1, g2, g3, g4, g5, g6, g7, g8⟩ := FC.out;refine bodyPost_ret (v := .agg #[.int .i64 q1.1, .int .i64 q2.1, .bool (decide (q3.1 = 1)), .slice va vn vc, .slice fa fn fc, .slice za zn zc, .slice na nn nc, .slice ia im ic, .slice la ln lc]) (by simp [results, Tryz.results50, go_sem, g0, g1, g2, g3, g4, g5, g6, g7, g8]) rfl ?_;rw [HR.out];exact ⟨_, rfl, ⟨_, _, _, _, _, _, _, _, _, _, _, _, _, _, _, _, _, _, rfl, Fv.out, Ff.out, Fz.out, Fn.out, Fi.out, Fl.out⟩, FX.out, FG.out⟩
end Go.Proofs.YtfapkepfngddlaaGreat
