/- What the program's own Append and Open of journals leave. -/
import Derived.Test.YtehlbddcgnclaaaDoorSmall
import Derived.Test.YtehlbddcgnclaaaDoorCrash
import Derived.StillTailTactics
namespace Go.Proofs.YtehlbddcgnclaaaDoor
open Go.RowKit Plain
set_option linter.unusedVariables false

theorem OwnsV.setLow {B : Nat} {w : World} {v : Value} {vs : List Value} (h : OwnsV B w v vs) {p : Addr} (hp : p.block < B) (u : Value) : OwnsV B (w.setCell p u) v vs := by
  refine ⟨h.1, ?_⟩
  rcases h.2 with hn | ⟨g, cap, cur, hv, hb, hg, hr⟩
  · exact .inl hn
  · exact .inr ⟨g, cap, cur, hv, hb, (Below.heap_setCell _ _ _ _ (by omega)).trans hg, hr⟩
theorem OwnsR.setLow {B : Nat} {w : World} {v : Value} {ls : List Bytes} (h : OwnsR B w v ls) {p : Addr} (hp : p.block < B) (u : Value) : OwnsR B (w.setCell p u) v ls := by
  obtain ⟨vs, h1, h2, h3⟩ := h
  exact ⟨vs, h1, h2.setLow hp u, fun j y hj => (h3 j y hj).setLow hp u⟩

set_option maxHeartbeats 4000000 in
theorem append_ok {a1 a2 a3 : Option Addr} {n1 c1 n2 c2 n3 c3 : Nat} {f l p : Bytes} {w : World} (hf : Seq w (.slice a1 n1 c1) f) (hl : Seq w (.slice a2 n2 c2) l) (hp : Seq w (.slice a3 n3 c3) p) (hT : HasTab w) (hm : p.length ≤ 1048576) (hfit : f.length + l.length + (8 + p.length) ≤ 4194304) :
    Calls Tryd.prog 9 #[.agg #[.slice a1 n1 c1, .slice a2 n2 c2], .slice a3 n3 c3] w (MadeDN w f (l ++ frm p) 0) := by
  have BW : Hid (Below w.heap.size w ((w.alloc (.cells #[.slice a1 n1 c1, .slice a2 n2 c2] 24)).alloc (.cells #[.slice none 0 0, .slice none 0 0] 24))) := Lib.hid (((Below.refl _ _).alloc (Nat.le_refl _) _).alloc (le_alloc _ _) _)
  have KL : Hid (∀ u, Below w.heap.size w u → Calls _ _ _ u (MadeT u (frm p))) := Lib.hid (fun u (h : Below w.heap.size w u) => by
    have := lay_ok (Seq.nil u) (hp.below h) (hT.below h) (by simp; omega) hm
    rwa [List.nil_append] at this)
  have KW : Hid (∀ u (g : Option Addr) (c : Nat), Below w.heap.size w u → Seq u (.slice g (8 + p.length) c) (frm p) → Calls _ _ _ u (MadeDN u f (l ++ frm p) 0)) :=
    Lib.hid (fun u g c (h : Below w.heap.size w u) hb => write_ok (hf.below h) (hl.below h) hb (by rw [frm_len]; omega))
  have FL := Lib.hid (frm_len p)
  clear hf hl hp hT hm hfit
  generalize frm p = q at *
  generalize 8 + p.length = m at *
  go_enter Tryd.func9, Tryd.ntmps9
  go_wp2_with fail
  refine (KL.out _ BW.out).mono ?_
  rintro e w1 ⟨v1, rfl, ho1, hb1⟩
  obtain ⟨a4, c4, rfl, -, -, ho1⟩ := ho1.at m FL.out
  have O1 : w1.cell? ⟨w.heap.size, 0, none⟩ = some (.slice a1 n1 c1) ∧ w1.cell? ⟨w.heap.size, 1, none⟩ = some (.slice a2 n2 c2) := ⟨(hb1.cell (by simp; omega)).trans (by simp), (hb1.cell (by simp; omega)).trans (by simp)⟩
  have G1 := Lib.hid (BW.out.trans (hb1.mono BW.out.size))
  have B1 := Lib.hid (hb1.mono (by simp : w.heap.size + 2 ≤ _))
  have S1 := Lib.hid ho1.seq
  clear hb1 ho1
  obtain ⟨O1, O2⟩ := O1
  go_wp2_with fail
  refine (KW.out _ _ _ G1.out S1.out).mono ?_
  rintro e w2 ⟨v2, x2, rfl, ho2, hx2, hb2⟩
  obtain ⟨b1, d1, rfl, -, -, ho2, -⟩ := ho2.parts
  obtain ⟨b2, d2, rfl, -, -, hx2, -⟩ := hx2.parts
  have hz := B1.out.size
  obtain ⟨N1, N2, N3, N4⟩ := new_cells (B1.out.trans (hb2.mono (by simp at hz; omega)))
  have G2 := Lib.hid (G1.out.trans (hb2.mono G1.out.size))
  have O3 := Lib.hid (ho2.mono (by simp at hz; omega : w.heap.size + 2 ≤ _))
  have O4 := Lib.hid (hx2.mono (by simp at hz; omega : w.heap.size + 2 ≤ _))
  clear hb2 ho2 hz hx2 O1 O2
  go_wp2_with fail
  have E1 : ∀ x y, ((w2.setCell ⟨w.heap.size + 1, 0, none⟩ x).setCell ⟨w.heap.size + 1, 1, none⟩ y).cell? ⟨w.heap.size + 1, 0, none⟩ = some x := fun x y => by rw [World.cell?_setCell_other _ _ _ _ (by simp), World.cell?_setCell_same _ _ _ N1]
  have E2 : ∀ x y, ((w2.setCell ⟨w.heap.size + 1, 0, none⟩ x).setCell ⟨w.heap.size + 1, 1, none⟩ y).cell? ⟨w.heap.size + 1, 1, none⟩ = some y := fun x y => by rw [World.cell?_setCell_same _ _ _ ((World.cell?_setCell_other _ _ _ _ (by simp)).trans N2)]
  refine bodyPost_ret (v := .tuple #[.agg #[.slice b1 f.length d1, .slice b2 (l ++ q).length d2], .int .i64 0]) (by simp [results, Tryd.results9, go_sem, E1, E2]) rfl ⟨_, _, rfl, ?_, ?_, (G2.out.setCell (by simp) _).setCell (by simp) _⟩
  · exact ((O3.out.setLow (by simp) _).setLow (by simp) _).mono (by omega)
  · exact ((O4.out.setLow (by simp) _).setLow (by simp) _).mono (by omega)

/-- records in a row of the call's own, and a disk in slices of the call's own that holds just their frames, fast -/
def OpenT (xs : Bytes) (w : World) (e : Ending) (w' : World) : Prop := ∃ v u x ls k, e = .returned (.tuple #[v, .agg #[u, x]]) ∧ Scans xs ls k ∧ OwnsR w.heap.size w' v ls ∧ Owns w.heap.size w' u (flatF ls) ∧ Owns w.heap.size w' x [] ∧ Below w.heap.size w w'

set_option maxHeartbeats 4000000 in
theorem open_any {a1 a2 : Option Addr} {n1 c1 n2 c2 : Nat} {f l : Bytes} {w : World} (hf : Seq w (.slice a1 n1 c1) f) (hl : Seq w (.slice a2 n2 c2) l) (hT : HasTab w) (h1 : f.length ≤ 1000000) (h2 : l.length ≤ 1000000) :
    Calls Tryd.prog 13 #[.agg #[.slice a1 n1 c1, .slice a2 n2 c2]] w (OpenT (f ++ l) w) := by
  have d1 := hf.dims
  have d2 := hl.dims
  have BW : Hid (Below w.heap.size w ((w.alloc (.cells #[.slice a1 n1 c1, .slice a2 n2 c2] 24)).alloc (.cells #[.slice none 0 0, .slice none 0 0] 24))) := Lib.hid (((Below.refl _ _).alloc (Nat.le_refl _) _).alloc (le_alloc _ _) _)
  have LQ : Hid ((f ++ l).length = n1 + n2) := Lib.hid (by rw [List.length_append, d1.1, d2.1])
  have KA : Hid (∀ u, Below w.heap.size w u → Calls _ _ _ u (Made u (f ++ l))) := Lib.hid (fun u (h : Below w.heap.size w u) => all_any (hf.below h) (hl.below h) (by omega))
  have KS : Hid (∀ u v, Below w.heap.size w u → Seq u v (f ++ l) → Calls _ _ _ u (ScanT (f ++ l) u)) := Lib.hid (fun u v (h : Below w.heap.size w u) hs => scan_any hs (hT.below h) (by rw [List.length_append]; omega))
  have KC : Hid (∀ u (k : Nat), Below w.heap.size w u → k ≤ n1 + n2 → Calls _ _ _ u (MadeDN u ((f ++ l).take k) [] 0)) := Lib.hid (fun u k (h : Below w.heap.size w u) hk => cut_ok (hf.below h) (hl.below h) (by omega) (by omega) hk)
  have hi1 : (n1 : Int) ≤ 1000000 := by omega
  have hi2 : (n2 : Int) ≤ 1000000 := by omega
  clear d1 d2 hf hl hT h1 h2
  generalize f ++ l = q at *
  go_enter Tryd.func13, Tryd.ntmps13
  go_wp2_with fail
  refine (KA.out _ BW.out).mono ?_
  rintro e w1 ⟨v1, rfl, ho1, hb1⟩
  obtain ⟨a3, c3, rfl, -, -, ho1⟩ := ho1.at (n1 + n2) LQ.out
  have G1 := Lib.hid (BW.out.trans (hb1.mono BW.out.size))
  have B1 := Lib.hid (hb1.mono (by simp : w.heap.size + 2 ≤ _))
  have S1 := Lib.hid ho1.seq
  clear hb1 ho1
  go_wp2_with fail
  refine (KS.out _ _ G1.out S1.out).mono ?_
  rintro e w2 ⟨v2, ls, k, rfl, hS, ho2, hb2⟩
  obtain ⟨a4, c4, rfl, -, -, -, -⟩ := ho2.seqR.parts
  obtain ⟨t1, t2, t3, t4⟩ := scans_taken hS
  have TK := Lib.hid t1
  have KL : Hid (k ≤ n1 + n2) := Lib.hid (by rw [← LQ.out]; exact t2)
  have SC := Lib.hid hS
  have hz := B1.out.size
  have B2 := Lib.hid (B1.out.trans (hb2.mono (by simp at hz; omega)))
  have G2 := Lib.hid (G1.out.trans (hb2.mono G1.out.size))
  have R2 := Lib.hid (ho2.mono (by simp at hz; omega : w.heap.size + 2 ≤ _))
  have O1 : w2.cell? ⟨w.heap.size, 0, none⟩ = some (.slice a1 n1 c1) ∧ w2.cell? ⟨w.heap.size, 1, none⟩ = some (.slice a2 n2 c2) := ⟨(B2.out.cell (by simp)).trans (by simp), (B2.out.cell (by simp)).trans (by simp)⟩
  obtain ⟨O1, O2⟩ := O1
  clear hS ho2 hb2 hz t1 t2 t3 t4
  go_wp2_with fail
  refine (KC.out _ k G2.out KL.out).mono ?_
  rintro e w3 ⟨v3, x3, rfl, ho3, hx3, hb3⟩
  rw [TK.out] at ho3
  obtain ⟨b1, d1, rfl, -, -, ho3, -⟩ := ho3.parts
  obtain ⟨b2, d2, rfl, -, -, hx3⟩ := hx3.at 0 rfl
  have hz := B2.out.size
  have A3 : Below w3.heap.size w3 (w3.alloc (.cells #[.slice b1 (flatF ls).length d1, .slice b2 0 d2] 24)) := (Below.refl _ _).alloc (Nat.le_refl _) _
  have hb4 := hb3.trans (A3.mono hb3.size)
  have B4 := Lib.hid (B2.out.trans (hb4.mono (by simp at hz; omega)))
  have G4 := Lib.hid (G2.out.trans (hb4.mono G2.out.size))
  have R4 := Lib.hid (R2.out.below hb4 (Nat.le_refl _))
  have O3 := Lib.hid ((ho3.mono (by simp at hz; omega : w.heap.size + 2 ≤ _)).below A3 (Nat.le_refl _))
  have O4 := Lib.hid ((hx3.mono (by simp at hz; omega : w.heap.size + 2 ≤ _)).below A3 (Nat.le_refl _))
  have I4 := Lib.hid (IsBox.new 24 w3 (.slice b1 (flatF ls).length d1) (.slice b2 0 d2))
  clear hb3 ho3 hx3 hz A3 hb4 O1 O2
  go_wp2_with fail
  generalize w3.alloc (.cells #[.slice b1 (flatF ls).length d1, .slice b2 0 d2] 24) = w4 at *
  obtain ⟨N1, N2, N3, N4⟩ := new_cells B4.out
  obtain ⟨y1, y2⟩ := I4.out.cells
  obtain ⟨y3, y4⟩ := I4.out.free
  go_still_tail 3, (by kernel_rfl)
  change wpList _ _ _ _ _ w4.drew
  go_wp2_with fail
  have E1 : ∀ x y, ((w4.setCell ⟨w.heap.size + 1, 0, none⟩ x).setCell ⟨w.heap.size + 1, 1, none⟩ y).cell? ⟨w.heap.size + 1, 0, none⟩ = some x := fun x y => by rw [World.cell?_setCell_other _ _ _ _ (by simp), World.cell?_setCell_same _ _ _ N1]
  have E2 : ∀ x y, ((w4.setCell ⟨w.heap.size + 1, 0, none⟩ x).setCell ⟨w.heap.size + 1, 1, none⟩ y).cell? ⟨w.heap.size + 1, 1, none⟩ = some y := fun x y => by rw [World.cell?_setCell_same _ _ _ ((World.cell?_setCell_other _ _ _ _ (by simp)).trans N2)]
  have D4 : Below w4.heap.size w4 w4.drew := (Below.refl _ _).drew
  refine bodyPost_ret (v := .tuple #[.slice a4 ls.length c4, .agg #[.slice b1 (flatF ls).length d1, .slice b2 0 d2]]) (by simp [results, Tryd.results13, go_sem, E1, E2]) rfl ⟨_, _, _, ls, k, rfl, SC.out, ?_, ?_, ?_, (G4.out.drew.setCell (by simp) _).setCell (by simp) _⟩
  · exact (((R4.out.below D4 (Nat.le_refl _)).setLow (by simp) _).setLow (by simp) _).mono (by omega)
  · exact (((O3.out.below D4 (Nat.le_refl _)).setLow (by simp) _).setLow (by simp) _).mono (by omega)
  · exact (((O4.out.below D4 (Nat.le_refl _)).setLow (by simp) _).setLow (by simp) _).mono (by omega)

/-- where it is known what is found -/
def OpenK (ls : List Bytes) (w : World) (e : Ending) (w' : World) : Prop := ∃ v u x, e = .returned (.tuple #[v, .agg #[u, x]]) ∧ OwnsR w.heap.size w' v ls ∧ Owns w.heap.size w' u (flatF ls) ∧ Owns w.heap.size w' x [] ∧ Below w.heap.size w w'
theorem open_of {a1 a2 : Option Addr} {n1 c1 n2 c2 : Nat} {f l : Bytes} {w : World} (hf : Seq w (.slice a1 n1 c1) f) (hl : Seq w (.slice a2 n2 c2) l) (hT : HasTab w) (h1 : f.length ≤ 1000000) (h2 : l.length ≤ 1000000) {ls : List Bytes} {k : Nat} (h : Scans (f ++ l) ls k) :
    Calls Tryd.prog 13 #[.agg #[.slice a1 n1 c1, .slice a2 n2 c2]] w (OpenK ls w) := by
  refine (open_any hf hl hT h1 h2).mono ?_
  rintro e w' ⟨v, u, x, ls', k', rfl, hS, ho, hu, hx, hb⟩
  obtain ⟨rfl, rfl⟩ := Scans.fix h hS
  exact ⟨v, u, x, rfl, ho, hu, hx, hb⟩
end Go.Proofs.YtehlbddcgnclaaaDoor
