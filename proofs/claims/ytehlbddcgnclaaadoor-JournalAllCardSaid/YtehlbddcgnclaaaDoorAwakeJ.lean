/- The fixed answer with which each statement of layer 6 begins holds. -/
import Derived.Test.YtehlbddcgnclaaaDoorJournal
import Derived.Lib.SlBytesConst
import Derived.BigQuiet
import Derived.WalkSmall
namespace Go.Proofs.YtehlbddcgnclaaaDoor
open Go.RowKit Plain
set_option linter.unusedVariables false

theorem scans_awake : Scans (frm [97#8] ++ (frm [98#8]).take 5) [[97#8]] 9 := by
  refine ⟨(frm [98#8]).take 5, by simp [flatF], first_short _ (by rw [List.length_take]; omega), rfl, fun p hp => ?_⟩
  simp at hp
  subst hp
  decide

set_option maxRecDepth 100000 in
set_option maxHeartbeats 4000000 in
theorem awake_any (w : World) (hT : HasTab w) : Calls Tryd.prog 7 #[] w fun e w' => e = .returned (.bool true) ∧ Below w.heap.size w w' := by
  have kc := fun (w : World) (C : Array Value) (n c : Nat) => Lib.run_convert_bytes_const (P := Tryd.prog) w 22 5 C n c Tryd.underlying22 Tryd.underlying5
  have HT := Lib.hid hT
  have F1 := Lib.hid (frm_len [97#8])
  have F2 := Lib.hid (frm_len [98#8])
  have SA := Lib.hid scans_awake
  have K1 : Hid (∀ fr, Calls _ _ _ (w.alloc (.cells #[.int .u8 97] 5 fr)) (MadeDN _ [] ([] ++ frm [97#8]) 0)) := Lib.hid (fun fr => append_ok (p := [97#8]) (f := []) (l := []) (Seq.nil _) (Seq.nil _) (seq_litF w [97#8] _ fr rfl (by decide)) (hT.below ((Below.refl _ _).alloc (Nat.le_refl _) _)) (by decide) (by decide))
  have K2 : Hid (∀ (u : World) (x y : Option Addr) (n c n' c' : Nat) fr, Below w.heap.size w u → Seq u (.slice x n c) (frm [97#8]) → Seq u (.slice y n' c') [] → Calls _ _ _ (u.alloc (.cells #[.int .u8 98] 5 fr)) (MadeDN _ (frm [97#8]) ([] ++ frm [98#8]) 0)) :=
    Lib.hid (fun u x y n c n' c' fr h h1 h2 => append_ok (p := [98#8]) (h1.below_alloc _) (h2.below_alloc _) (seq_litF u [98#8] _ fr rfl (by decide)) (hT.below (h.alloc h.size _)) (by decide) (by rw [frm_len]; decide))
  clear hT
  simp only [List.nil_append] at K1 K2
  generalize frm [97#8] = fa at *
  generalize frm [98#8] = fb at *
  go_enter Tryd.func7, Tryd.ntmps7
  go_wp2_with fail
  refine (K1.out _).mono ?_
  rintro e w1 ⟨v1, x1, rfl, ho1, hx1, hb1⟩
  obtain ⟨a1, c1, rfl, -, -, ho1⟩ := ho1.at 0 rfl
  obtain ⟨a2, c2, rfl, -, -, hx1⟩ := hx1.at 9 F1.out
  have G1 := Lib.hid (((Below.refl _ _).alloc (Nat.le_refl _) _).trans (hb1.mono (by simp)) : Below w.heap.size w w1)
  have A1 : Below w1.heap.size w1 (w1.alloc (.cells #[.slice a1 0 c1, .slice a2 9 c2] 24)) := (Below.refl _ _).alloc (Nat.le_refl _) _
  have G2 := Lib.hid (G1.out.trans (A1.mono G1.out.size))
  have O2 := Lib.hid (ho1.seq.below A1)
  have X2 := Lib.hid (hx1.seq.below A1)
  have I2 := Lib.hid (IsBox.new 24 w1 (.slice a1 0 c1) (.slice a2 9 c2))
  have B1 := Lib.hid G1.out.size
  clear ho1 hx1 hb1 A1
  go_wp2_with fail
  generalize w1.alloc (.cells #[.slice a1 0 c1, .slice a2 9 c2] 24) = w2 at *
  refine (sync_any O2.out X2.out (by rw [F1.out]; decide)).mono ?_
  rintro e w3 ⟨v3, x3, rfl, ho3, hx3, hb3⟩
  simp only [List.nil_append] at ho3
  obtain ⟨a3, c3, rfl, -, -, ho3⟩ := ho3.at 9 F1.out
  obtain ⟨a4, c4, rfl, -, -, hx3⟩ := hx3.at 0 rfl
  have G3 := Lib.hid (G2.out.trans (hb3.mono G2.out.size))
  have I3 := Lib.hid (I2.out.below hb3)
  have O3 := Lib.hid ho3.seq
  have X3 := Lib.hid hx3.seq
  clear ho3 hx3 hb3
  go_wp2_with fail
  refine (K2.out _ _ _ _ _ _ _ _ G3.out O3.out X3.out).mono ?_
  rintro e w4 ⟨v4, x4, rfl, ho4, hx4, hb4⟩
  obtain ⟨a5, c5, rfl, -, -, ho4⟩ := ho4.at 9 F1.out
  obtain ⟨a6, c6, rfl, -, -, hx4⟩ := hx4.at 9 F2.out
  have hb34 := (((Below.refl w3.heap.size w3).alloc (Nat.le_refl _) _).trans (hb4.mono (by simp)) : Below w3.heap.size w3 w4)
  have G4 := Lib.hid (G3.out.trans (hb34.mono G3.out.size))
  have I4 := Lib.hid (I3.out.below hb34)
  have O4 := Lib.hid ho4.seq
  have X4 := Lib.hid hx4.seq
  clear ho4 hx4 hb4 hb34
  obtain ⟨y1, y2⟩ := I4.out.cells
  obtain ⟨y3, y4⟩ := I4.out.free
  go_wp2_with fail
  have O5 := Lib.hid (O4.out.setBox I4.out (.slice a5 9 c5) (.slice a6 9 c6))
  have X5 := Lib.hid (X4.out.setBox I4.out (.slice a5 9 c5) (.slice a6 9 c6))
  have I5 := Lib.hid (I4.out.set (.slice a5 9 c5) (.slice a6 9 c6))
  have G5 := Lib.hid (below_set G4.out B1.out (.slice a5 9 c5) (.slice a6 9 c6))
  generalize (w4.setCell ⟨w1.heap.size, 0, none⟩ (.slice a5 9 c5)).setCell ⟨w1.heap.size, 1, none⟩ (.slice a6 9 c6) = w5 at *
  clear y1 y2 y3 y4
  obtain ⟨y1, y2⟩ := I5.out.cells
  refine (crash_any (k := 5) O5.out X5.out (by decide) (by rw [F1.out, F2.out]; decide)).mono ?_
  rintro e w6 ⟨v6, x6, rfl, ho6, hx6, hb6⟩
  have L6 : Hid ((fa ++ fb.take 5).length = 14) := Lib.hid (by rw [List.length_append, List.length_take, F1.out, F2.out]; rfl)
  obtain ⟨a7, c7, rfl, -, -, ho6⟩ := ho6.at 14 L6.out
  obtain ⟨a8, c8, rfl, -, -, hx6⟩ := hx6.at 0 rfl
  have G6 := Lib.hid (G5.out.trans (hb6.mono G5.out.size))
  have O6 := Lib.hid ho6.seq
  have X6 := Lib.hid hx6.seq
  clear ho6 hx6 hb6 y1 y2
  go_wp2_with fail
  refine (open_of (f := fa ++ fb.take 5) (l := []) O6.out X6.out (HT.out.below G6.out) (by rw [L6.out]; decide) (by decide) (by rw [List.append_nil]; exact SA.out)).mono ?_
  rintro e w7 ⟨v7, u7, x7, rfl, ho7, hu7, hx7, hb7⟩
  obtain ⟨a9, c9, rfl, -, -, hu7⟩ := hu7.at 9 rfl
  obtain ⟨a10, c10, rfl, -, -, hx7⟩ := hx7.at 0 rfl
  have G7 := Lib.hid (G6.out.trans (hb7.mono G6.out.size))
  have A7 : Below w7.heap.size w7 (w7.alloc (.cells #[.slice a9 9 c9, .slice a10 0 c10] 24)) := (Below.refl _ _).alloc (Nat.le_refl _) _
  have G8 := Lib.hid (G7.out.trans (A7.mono G7.out.size))
  obtain ⟨b, o, cap, rfl, -, -, -, hel⟩ := (ho7.seqR.below A7).spot (by decide)
  obtain ⟨a, n, c, hc, hn, -, -, -, hs⟩ := hel 0 (by decide)
  obtain rfl : n = 1 := hn
  have tr := text_run hs
  have hsb : sb (List.getD [[97#8]] 0 []) = { data := #[97] } := by decide +kernel
  rw [hsb] at tr
  rw [Nat.add_zero] at hc
  clear ho7 hu7 hx7 hb7 A7 hel hs hsb
  simp only [List.length_cons, List.length_nil]
  go_wp2_with fail
  go_ret
  exact ⟨rfl, G8.out⟩
end Go.Proofs.YtehlbddcgnclaaaDoor
