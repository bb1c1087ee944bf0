/- What the program's own beginsIn and Right of texts leave, and the functions that it hands to the library. -/
import Derived.Test.YthcpglbeiibniaaGreatShelfC
import Derived.Test.YthcpglbeiibniaaGreatZLet
import Derived.Deep.QuietTactic
import Derived.BigQuiet
namespace Go.Proofs.YthcpglbeiibniaaGreat
open Go.RowKit Plain
set_option linter.unusedVariables false

set_option maxRecDepth 100000 in
set_option maxHeartbeats 2000000 in
/-- beginsIn -/
theorem zbegins_any {v : Value} {zs : List Txt} {w : World} (hv : SeqT w v zs) (hr : Rising zs) (ha : Apart1 zs) (hn : zs.length ≤ 1000000) (s : Txt) :
    Calls Tryz.prog 65 #[v, .string (bt s)] w fun e w' => e = .returned (.bool (covers zs s)) ∧ ∃ q, w' = w.drewN q := by
  obtain ⟨k, hk, h1, h2, K⟩ := search_texts hv hr hn s
  rw [covers_near hr ha hk h1 h2]
  clear h1 h2 hr ha
  by_cases hf : k < zs.length ∧ zs.getD k [] = s
  · rw [decide_eq_true hf] at K ⊢
    rw [Bool.true_or]
    clear hf
    obtain ⟨a, cap, rfl, -⟩ := hv.parts
    clear hv
    generalize bt s = S at *
    go_enter Tryz.func65, Tryz.ntmps65
    go_wp2_with fail
    refine K.mono ?_
    rintro e w' ⟨rfl, q, rfl⟩
    go_wp2_with fail
    go_ret
    exact ⟨rfl, _, rfl⟩
  · rw [decide_eq_false hf] at K ⊢
    rw [Bool.false_or]
    clear hf
    by_cases h0 : 0 < k
    · rw [decide_eq_true h0, Bool.true_and]
      obtain ⟨p, rfl⟩ : ∃ p, k = p + 1 := ⟨k - 1, by omega⟩
      rw [Nat.add_sub_cancel]
      obtain ⟨b, o, c, rfl, g1, g2, -, hc⟩ := hv.spot (by omega)
      have c1 := hc p (by omega)
      unfold tv at c1
      have KH := Lib.hid (fun W => hasPrefixL s (zs.getD p []) W)
      have hm : maxLen = 9223372036854775807 := rfl
      rw [hm] at g2
      clear hc hv h0 hm
      generalize beg s (zs.getD p []) = r at *
      generalize bt (zs.getD p []) = X at *
      generalize bt s = S at *
      go_enter Tryz.func65, Tryz.ntmps65
      go_wp2_with fail
      refine K.mono ?_
      rintro e w' ⟨rfl, q, hq⟩
      have HQ := Lib.hid hq
      have c2 : w'.cell? ⟨b, o + p, none⟩ = some (.string X) := by rw [hq]; exact c1
      clear hq c1
      have q1 : (0 : Int) < ((p + 1 : Nat) : Int) := by omega
      have q2 : (0 : Int) < (p : Int) + 1 := by omega
      go_wp2_with fail
      refine (KH.out _).mono ?_
      rintro e w2 ⟨rfl, rfl⟩
      go_wp2_with fail
      go_ret
      exact ⟨rfl, q, HQ.out⟩
    · obtain rfl : k = 0 := by omega
      rw [decide_eq_false h0, Bool.false_and]
      obtain ⟨a, cap, rfl, -⟩ := hv.parts
      clear hv
      generalize bt s = S at *
      go_enter Tryz.func65, Tryz.ntmps65
      go_wp2_with fail
      refine K.mono ?_
      rintro e w' ⟨rfl, q, rfl⟩
      go_wp2_with fail
      go_ret
      exact ⟨rfl, _, rfl⟩

/-! ### the functions that are handed to the library -/
theorem enters38 : ∀ args w, (callFunc 64 args).run Tryz.prog w = .ok (.enter 64 args) w := enters_of Tryz.func64 (by kernel_rfl) rfl
set_option maxHeartbeats 1000000 in
theorem gives38 (x : Txt) {v : Value} {zs : List Txt} (B : Nat) (W : World) (hc : W.cell? ⟨B, 0, none⟩ = some v) (hv : SeqT W v zs) (hr : Rising zs) (ha : Apart1 zs) (hn : zs.length ≤ 1000000) : FnGives Tryz.prog 64 #[.pointer (some ⟨B, 0, none⟩)] #[tv x] (.bool (covers zs x)) W := by
  show Calls Tryz.prog 64 #[.string (bt x), .pointer (some ⟨B, 0, none⟩)] W _
  have K := zbegins_any hv hr ha hn x
  obtain ⟨a, cap, rfl, -⟩ := hv.parts
  clear hv hr ha hn
  generalize covers zs x = r at *
  generalize bt x = X at *
  go_enter Tryz.func64, Tryz.ntmps64
  go_wp2_with fail
  refine K.mono ?_
  rintro e w' ⟨rfl, q, rfl⟩
  go_wp2_with fail
  go_ret
  exact ⟨rfl, _, rfl⟩
end Go.Proofs.YthcpglbeiibniaaGreat
