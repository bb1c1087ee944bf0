/- The law's own function awake; Short as the walks call it. (ZCon: the contracts of the program's own functions: znormS, zunionS, zinterS, zwithoutS, zwithinR, zcoversR, zkeyR, zrightR.) -/
import Derived.Test.YtklgnmhbfdjoeaaZCon
namespace Go.Proofs.Ytklgnmhbfdjoeaa
open Go.RowKit Plain
set_option linter.unusedVariables false

theorem rshortR {u : Value} {xs : List Txt} {w : World} {r : Bool} (hu : SeqT w u xs) (e : shortB xs = r) : Calls Try.prog 9 #[u] w (GivesB w r) := by
  rw [← e]
  exact (rshort_any hu).mono fun _ _ ⟨h, hw⟩ => ⟨h, by rw [hw]; exact Below.refl _ _⟩
theorem small_abc : Small [[97, 47, 98], [99], [97]] := ⟨by simp, by decide⟩
theorem norm_abc : normE [[97, 47, 98], [99], [97]] = 0 ∧ normV [[97, 47, 98], [99], [97]] = [[97], [99]] := by decide +kernel
theorem small_ac : Small [[97], [99]] := ⟨by simp, by decide⟩
theorem right_ac : rightB [[97], [99]] = true := by decide +kernel
theorem covers_ac : covers [[97], [99]] [97, 47, 98] = true := by decide +kernel

set_option maxRecDepth 100000 in
set_option maxHeartbeats 4000000 in
theorem awake_any (w : World) : Calls Try.prog 8 #[] w (GivesB w true) := by
  have S1 := seqT_lit w [[97, 47, 98], [99], [97]] #[.string ⟨#[97, 47, 98]⟩, .string ⟨#[99]⟩, .string ⟨#[97]⟩] rfl (by simp)
  have hB : Below w.heap.size w (w.alloc (.cells #[.string ⟨#[97, 47, 98]⟩, .string ⟨#[99]⟩, .string ⟨#[97]⟩] 9)) := (Below.refl _ _).alloc (Nat.le_refl _) _
  have KN := znormS S1 small_abc (by simp)
  rw [norm_abc.1, norm_abc.2] at KN
  simp only [List.length_cons, List.length_nil, Nat.zero_add, Nat.reduceAdd] at KN
  have HN := Lib.hid KN
  have HB := Lib.hid hB
  clear S1 KN hB
  go_enter Try.func8, Try.ntmps8
  go_wp2_with fail
  refine HN.out.mono ?_
  rintro e u ⟨v, rfl, hs, hb⟩
  have G1 := Lib.hid (HB.out.trans (hb.mono HB.out.size))
  have S3 := seqT_lit u [[97], [99]] #[.string ⟨#[97]⟩, .string ⟨#[99]⟩] rfl (by simp)
  have SV := Lib.hid (hs.below_alloc (.cells #[.string ⟨#[97]⟩, .string ⟨#[99]⟩] 9))
  have G2 := Lib.hid (G1.out.alloc G1.out.size (.cells #[.string ⟨#[97]⟩, .string ⟨#[99]⟩] 9))
  have KE := rsame_eq SV.out S3 rfl
  simp only [List.length_cons, List.length_nil, Nat.zero_add, Nat.reduceAdd] at KE
  have HE := Lib.hid KE
  clear hs hb S3 KE
  go_wp2_with fail
  refine HE.out.mono ?_
  rintro e u2 ⟨rfl, hb⟩
  have G3 := Lib.hid (G2.out.trans (hb.mono G2.out.size))
  replace SV := Lib.hid (SV.out.below hb)
  clear hb
  go_wp2_with fail
  refine (zrightR SV.out small_ac right_ac).mono ?_
  rintro e u3 ⟨rfl, hb⟩
  have G4 := Lib.hid (G3.out.trans (hb.mono G3.out.size))
  replace SV := Lib.hid (SV.out.below hb)
  clear hb
  have KC := Lib.hid (zcoversR SV.out small_ac (s := [97, 47, 98]) (by simp) covers_ac)
  go_wp2_with fail
  refine KC.out.mono ?_
  rintro e u4 ⟨rfl, hb⟩
  have G5 := Lib.hid (G4.out.trans (hb.mono G4.out.size))
  clear hb
  go_wp2_with fail
  go_ret
  exact ⟨rfl, G5.out⟩
end Go.Proofs.Ytklgnmhbfdjoeaa
