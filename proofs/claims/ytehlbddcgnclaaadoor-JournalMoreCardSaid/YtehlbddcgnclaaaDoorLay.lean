/- What the program's own Lay leaves: what stands there, and behind it the frame. -/
import Derived.Test.YtehlbddcgnclaaaDoorFirst
namespace Go.Proofs.YtehlbddcgnclaaaDoor
open Go.RowKit Plain
set_option linter.unusedVariables false

/-- bytes and no error -/
def MadeT (w : World) (xs : Bytes) (e : Ending) (w' : World) : Prop := ∃ v, e = .returned (.tuple #[v, .int .i64 0]) ∧ Owns w.heap.size w' v xs ∧ Below w.heap.size w w'

set_option maxRecDepth 100000 in
set_option maxHeartbeats 2000000 in
theorem lay_ok {u v : Value} {xs p : Bytes} {w : World} (hu : Seq w u xs) (hv : Seq w v p) (hT : HasTab w) (hlen : xs.length + p.length ≤ 800000000) (hp : p.length ≤ 1048576) :
    Calls Tryd.prog 23 #[u, v] w (MadeT w (xs ++ frm p)) := by
  have K1 := Lib.hid (putHead_any p.length 0#32 w (by omega))
  have K3 := Lib.hid (fun u => putHead_any p.length (psum p) u (by omega))
  have E : Hid (xs ++ ((le4 p.length ++ le4 (psum p).toNat) ++ p) = xs ++ frm p) := Lib.hid (by unfold frm; rw [List.append_assoc])
  have l8 : (le4 p.length ++ le4 (psum p).toNat).length = 8 := rfl
  have t4 : (le4 p.length ++ le4 (0#32).toNat).take 4 = le4 p.length := List.take_left' (le4_len _)
  have l8' : (le4 p.length ++ le4 (0#32).toNat).length = 8 := rfl
  have KS : Hid (∀ (x : Value) (u : World), Below w.heap.size w u → Seq u x (le4 p.length) → _) := Lib.hid (fun x u (hb : Below w.heap.size w u) (hx : Seq u x (le4 p.length)) => sumOf_any hx (hv.below hb) (hT.below hb))
  change Hid (∀ (x : Value) (u : World), Below w.heap.size w u → Seq u x (le4 p.length) → Calls Tryd.prog 32 #[x, v] u fun e w' => e = .returned (.int .u32 (psum p).toNat) ∧ u = w') at KS
  rw [show (((0#32).toNat : Nat) : Int) = 0 from rfl] at K1
  have SU := Lib.hid hu
  have SV := Lib.hid hv
  have L8 := Lib.hid l8
  have L8' := Lib.hid l8'
  have T4 := Lib.hid t4
  obtain ⟨a, cap, rfl, g1, g2, g0, -⟩ := hu.parts
  obtain ⟨a2, cap2, rfl, k1, k2, k0, -⟩ := hv.parts
  clear hu hv hT g0 k0 l8 l8' t4
  generalize (psum p) = z at *
  generalize xs ++ frm p = ys at *
  generalize le4 p.length ++ le4 z.toNat = y8 at *
  generalize le4 p.length ++ le4 (0#32).toNat = y0 at *
  generalize le4 p.length = y4 at *
  generalize hlx : xs.length = lx at *
  generalize hlp : p.length = lp at *
  have HLX := Lib.hid hlx
  have HLP := Lib.hid hlp
  have hpi : (lp : Int) ≤ 1048576 := by omega
  have hxi : (lx : Int) ≤ 800000000 := by omega
  have HLEN := Lib.hid hlen
  clear hlx hlp hp hlen
  go_enter Tryd.func23, Tryd.ntmps23
  go_wp2_with fail
  refine K1.out.mono ?_
  rintro e w1 ⟨v1, rfl, ho1, hb1⟩
  obtain ⟨a1, c1, rfl, q1, q2, ho1, -⟩ := ho1.parts
  rw [L8'.out] at q1 ho1 ⊢
  have h4 := Seq.first ho1.seq 4 (by rw [L8'.out]; omega)
  rw [T4.out] at h4
  have S4 := Lib.hid h4
  have B1 := Lib.hid hb1
  have hc1 : (4 : Int) ≤ c1 := by omega
  clear ho1 hb1 h4
  go_wp2_with fail
  refine (KS.out _ _ B1.out S4.out).mono ?_
  rintro e w1' ⟨rfl, rfl⟩
  go_wp2_with fail
  refine (K3.out _).mono ?_
  rintro e w2 ⟨v2, rfl, ho2, hb2⟩
  obtain ⟨a3, c3, rfl, q3, q4, ho2, -⟩ := ho2.parts
  have hsz := B1.out.size
  have B2 := Lib.hid (B1.out.trans (hb2.mono hsz))
  have O2 := Lib.hid ho2
  clear ho2 hb2
  go_wp2_with fail
  refine (concat_three w2.heap.size 3 _ (by exact cell_of_row _ _ 0 _ 22 (0, 0) (heap_alloc_new w2 _)) (by exact cell_of_row _ _ 1 _ 22 (0, 0) (heap_alloc_new w2 _)) (by exact cell_of_row _ _ 2 _ 22 (0, 0) (heap_alloc_new w2 _))
    ((SU.out.below B2.out).below_alloc _) (O2.out.seq.below_alloc _) ((SV.out.below B2.out).below_alloc _) (by rw [HLX.out, HLP.out, L8.out]; have := HLEN.out; omega)).mono ?_
  rintro e w3 ⟨v3, rfl, ho3, hb3⟩
  rw [E.out] at ho3
  have hsz2 := B2.out.size
  have hbe : Below w.heap.size w w3 := (B2.out.alloc hsz2 _).trans (hb3.mono (by simp; omega))
  have O3 := Lib.hid (ho3.mono (by simp; omega : w.heap.size ≤ _))
  have HB := Lib.hid hbe
  clear ho3 hb3 hbe
  go_wp2_with fail
  go_ret2
  exact ⟨_, rfl, O3.out, HB.out⟩

set_option maxRecDepth 100000 in
theorem lay_err {a : Option Addr} {n cap : Nat} {u : Value} {w : World} (hp : 1048576 < n) :
    Calls Tryd.prog 23 #[u, .slice a n cap] w fun e w' => e = .returned (.tuple #[.slice none 0 0, .int .i64 4]) ∧ w = w' := by
  have hpi : (1048576 : Int) < n := by omega
  clear hp
  go_enter Tryd.func23, Tryd.ntmps23
  go_wp2_with fail
  go_ret2
  exact ⟨rfl, rfl⟩
end Go.Proofs.YtehlbddcgnclaaaDoor
