/- Disks: what disk.size and disk.All, and the document's own size and Size, leave. -/
import Derived.Test.YtehlbddcgnclaaaDoorConcat
import Derived.Test.YtehlbddcgnclaaaDoorBox
import Derived.Test.YtehlbddcgnclaaaDoorMore
import Derived.Test.YtehlbddcgnclaaaDoorCopy
import Derived.Test.YtehlbddcgnclaaaDoorClone
import Derived.Test.YtehlbddcgnclaaaDoorSame
import Derived.WalkSmall
import Derived.Deep.RegionWith
import Derived.Deep.RegionHeld3
namespace Go.Proofs.YtehlbddcgnclaaaDoor
open Go.RowKit Plain
set_option linter.unusedVariables false

set_option maxHeartbeats 1000000 in
theorem size_any (a1 a2 : Option Addr) (n1 c1 n2 c2 : Nat) (w : World) (h1 : n1 ≤ 1073741824) (h2 : n2 ≤ 1073741824) :
    Calls Tryd.prog 33 #[.agg #[.slice a1 n1 c1, .slice a2 n2 c2]] w fun e w' => e = .returned (.int .i64 ((n1 : Int) + n2)) ∧ Below w.heap.size w w' := by
  go_enter Tryd.func33, Tryd.ntmps33
  go_wp2_with fail
  go_ret
  exact ⟨rfl, (Below.refl _ _).alloc (Nat.le_refl _) _⟩
set_option maxHeartbeats 1000000 in
theorem rsize_any (a1 a2 : Option Addr) (n1 c1 n2 c2 : Nat) (w : World) (h1 : n1 ≤ 1073741824) (h2 : n2 ≤ 1073741824) :
    Calls Tryd.prog 25 #[.agg #[.slice a1 n1 c1, .slice a2 n2 c2]] w fun e w' => e = .returned (.int .i64 ((n1 : Int) + n2)) ∧ Below w.heap.size w w' := by
  go_enter Tryd.func25, Tryd.ntmps25
  go_wp2_with fail
  go_ret
  exact ⟨rfl, (Below.refl _ _).alloc (Nat.le_refl _) _⟩
set_option maxHeartbeats 1000000 in
/-- All: both, one behind the other -/
theorem all_any {a1 a2 : Option Addr} {n1 c1 n2 c2 : Nat} {f l : Bytes} {w : World} (hf : Seq w (.slice a1 n1 c1) f) (hl : Seq w (.slice a2 n2 c2) l) (hlen : f.length + l.length ≤ 1000000000) :
    Calls Tryd.prog 21 #[.agg #[.slice a1 n1 c1, .slice a2 n2 c2]] w (Made w (f ++ l)) := by
  have HF := Lib.hid hf
  have HL := Lib.hid hl
  clear hf hl
  go_enter Tryd.func21, Tryd.ntmps21
  go_wp2_with fail
  refine (concat_two _ _ _ (by exact cell_of_row _ _ 0 _ 22 (0, 0) (heap_new2 w _ _)) (by exact cell_of_row _ _ 1 _ 22 (0, 0) (heap_new2 w _ _)) ((HF.out.below_alloc _).below_alloc _) ((HL.out.below_alloc _).below_alloc _) hlen).mono ?_
  rintro e w2 ⟨v2, rfl, ho2, hb2⟩
  have hbe : Below w.heap.size w w2 := (((Below.refl _ _).alloc (Nat.le_refl _) _).alloc (le_alloc _ _) _).trans (hb2.mono (by simp; omega))
  have O2 := Lib.hid (ho2.mono (by simp; omega : w.heap.size ≤ _))
  clear ho2 hb2
  go_wp2_with fail
  go_ret
  exact ⟨_, rfl, O2.out, hbe⟩

/-- a disk in slices of the call's own -/
def MadeD (w : World) (f l : Bytes) (e : Ending) (w' : World) : Prop := ∃ u x, e = .returned (.agg #[u, x]) ∧ Owns w.heap.size w' u f ∧ Owns w.heap.size w' x l ∧ Below w.heap.size w w'
set_option maxHeartbeats 2000000 in
theorem copyD_any {a1 a2 : Option Addr} {n1 c1 n2 c2 : Nat} {f l : Bytes} {w : World} (hf : Seq w (.slice a1 n1 c1) f) (hl : Seq w (.slice a2 n2 c2) l) (h1 : f.length ≤ 1000000000) (h2 : l.length ≤ 1000000000) :
    Calls Tryd.prog 8 #[.agg #[.slice a1 n1 c1, .slice a2 n2 c2]] w (MadeD w f l) := by
  have K1 : Hid (∀ u, Below w.heap.size w u → _) := Lib.hid (fun u (hb : Below w.heap.size w u) => copy_any (hf.below hb) h1)
  have K2 : Hid (∀ u, Below w.heap.size w u → _) := Lib.hid (fun u (hb : Below w.heap.size w u) => copy_any (hl.below hb) h2)
  clear hf hl
  go_enter Tryd.func8, Tryd.ntmps8
  go_wp2_with fail
  have G0 : Hid (Below w.heap.size w ((w.alloc (.cells #[.slice a1 n1 c1, .slice a2 n2 c2] 24)).alloc (.cells #[.slice none 0 0, .slice none 0 0] 24))) := Lib.hid (((Below.refl _ _).alloc (Nat.le_refl _) _).alloc (le_alloc _ _) _)
  go_region_held3 (fun w' => Below w.heap.size w w' ∧ (w'.cell? ⟨w.heap.size, 0, none⟩ = some (.slice a1 n1 c1) ∧ w'.cell? ⟨w.heap.size, 1, none⟩ = some (.slice a2 n2 c2)) ∧
      (w'.cell? ⟨w.heap.size + 1, 0, none⟩ = some (valAt w' ⟨w.heap.size + 1, 0, none⟩) ∧ w'.frozen? ⟨w.heap.size + 1, 0, none⟩ = false) ∧ (w'.cell? ⟨w.heap.size + 1, 1, none⟩ = some (valAt w' ⟨w.heap.size + 1, 1, none⟩) ∧ w'.frozen? ⟨w.heap.size + 1, 1, none⟩ = false))
    (first | (refine ⟨G0.out.drew, ⟨?_, ?_⟩, ⟨valAt_of (v := .slice none 0 0) ?_, ?_⟩, ⟨valAt_of (v := .slice none 0 0) ?_, ?_⟩⟩ <;> simp) | (exact keepR (by assumption) hb) | (exact keepS _ _ (by assumption) (by simp) (by simp) (by simp) (by simp) (by simp) (by simp) (by simp)))
    (first
      | (go_at_call 15; refine (K1.out _ ?_).mono ?_; exact (by assumption : _ ∧ _).1; rintro e w1 ⟨v1, rfl, ho1, hb⟩; have hb0 := hb; obtain ⟨b1, d1, rfl, -, -, ho1, -⟩ := ho1.parts)
      | (go_at_call 15; refine (K2.out _ ?_).mono ?_; exact (by assumption : _ ∧ _).1; rintro e w2 ⟨v2, rfl, ho2, hb⟩; obtain ⟨b2, d2, rfl, -, -, ho2, -⟩ := ho2.parts))
  go_wp2_with fail
  have HH := (by assumption : _ ∧ _)
  have C := stored2 HH.2.2.1.1 HH.2.2.2.1 (by simp)
  refine bodyPost_ret (v := .agg #[.slice b1 f.length d1, .slice b2 l.length d2]) (by simp [results, Tryd.results8, go_sem, C.1, C.2]) rfl ⟨_, _, rfl, ?_, ?_, HH.1⟩
  · exact (((ho1.below hb (Nat.le_refl _)).setLow (by simp) _).setLow (by simp) _).mono (by simp; omega)
  · exact ((ho2.setLow (by have := hb0.size; simp at this; simp; omega) _).setLow (by have := hb0.size; simp at this; simp; omega) _).mono (by have := hb0.size; simp at this; omega)
end Go.Proofs.YtehlbddcgnclaaaDoor
