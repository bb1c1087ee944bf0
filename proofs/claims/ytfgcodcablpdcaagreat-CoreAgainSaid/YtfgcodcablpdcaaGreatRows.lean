/-
  No cell of these rows narrows 'for every input' (looked for: loops, veiled, ifaces, maps, wideKeys, modest, calm, conditions, laid).
  DERIVED. THE GIVEN ROWS OF THIS SEAT. 6 by the template 'for every input the law returns true; each argument reads behind the call as it read before'; 0 by the template 'total and deterministic' (their statements: YtfgcodcablpdcaaGreatTotals.lean).
  GIVEN WITH THE SEED: the statements are not yours to turn. If you find one false, say at which input.
  Laid BY PROGRAM, IN A SANDBOX (cutbox-rows.mjs): the forced cells as the released guide's own fill.sh prints them over the translation 529cf4df3eee31f1… (all of the seat's roots in one cut). By AI agents, Wed Nov 11 2026. No macro, syntax, notation, axiom, sorry.
-/
import Derived.Test.YtfgcodcablpdcaaGreatChecked
import GoSem.Claim
import GoSem.ClaimJoined
import GoSem.ClaimMapViews
import Derived.JoinedTies
import Derived.KernelRfl
namespace Go.Proofs.YtfgcodcablpdcaaGreat
/- THE CELL 'sum', in the pinned program and in every row, IS THE sha256 OF THE DUMP (.gsa) THAT YtfgcodcablpdcaaGreatProg.lean LOADS. Nothing in Lean hashes anything: it is a label: what it is worth is what the hold of that sum in a sandbox is worth. -/
noncomputable def Tryz.pinned : Pinned := { name := "ytfgcodcablpdcaagreat", sum := "529cf4df3eee31f12f98c825e12262eb7cf912545bb9e7f59b2db32e47f193df", checked := Tryz.checked }
namespace Rows
def none {H : Type} : Left H := { results := [], args := [] }

/-- 'butterylaw19.CoreFolds': WHATEVER THE INPUT: true; the input reads as it did. -/
def coreFoldsSpec : ChangeSpec := { name := "coreFolds", fn := fun _ => fun
  | [d1, d2, d3] => { results := [.lit (.bool true)], args := [d1, d2, d3] }
  | _ => none }
def coreFoldsRow : OpenClaim := { program := "ytfgcodcablpdcaagreat", sum := "529cf4df3eee31f12f98c825e12262eb7cf912545bb9e7f59b2db32e47f193df", func := "buttery/butterylaw19.CoreFolds", spec := "coreFolds", inPlace := ["internal/bytealg.abigen_runtime_cmpstring"], unfollowed := true, recurses := true, plainKeys := false, apart := false }
def CoreFoldsSaid : Prop := coreFoldsRow.holds Tryz.pinned (OpenSpec.ofChange coreFoldsSpec)

/-- ITS FALSE NEIGHBOUR: 'it returns false'. Refute it at one input. -/
def coreFoldsWrong : ChangeSpec := { name := "coreFolds", fn := fun _ => fun
  | [d1, d2, d3] => { results := [.lit (.bool false)], args := [d1, d2, d3] }
  | _ => none }
def CoreFoldsWrongFalsely : Prop := coreFoldsRow.holds Tryz.pinned (OpenSpec.ofChange coreFoldsWrong)

/-- 'butterylaw19.CoreAnswers': WHATEVER THE INPUT: true; the input reads as it did. -/
def coreAnswersSpec : ChangeSpec := { name := "coreAnswers", fn := fun _ => fun
  | [d1, d2, d3, d4, d5] => { results := [.lit (.bool true)], args := [d1, d2, d3, d4, d5] }
  | _ => none }
def coreAnswersRow : OpenClaim := { program := "ytfgcodcablpdcaagreat", sum := "529cf4df3eee31f12f98c825e12262eb7cf912545bb9e7f59b2db32e47f193df", func := "buttery/butterylaw19.CoreAnswers", spec := "coreAnswers", inPlace := ["internal/bytealg.abigen_runtime_cmpstring"], unfollowed := true, recurses := true, plainKeys := false, apart := false }
def CoreAnswersSaid : Prop := coreAnswersRow.holds Tryz.pinned (OpenSpec.ofChange coreAnswersSpec)

/-- ITS FALSE NEIGHBOUR: 'it returns false'. Refute it at one input. -/
def coreAnswersWrong : ChangeSpec := { name := "coreAnswers", fn := fun _ => fun
  | [d1, d2, d3, d4, d5] => { results := [.lit (.bool false)], args := [d1, d2, d3, d4, d5] }
  | _ => none }
def CoreAnswersWrongFalsely : Prop := coreAnswersRow.holds Tryz.pinned (OpenSpec.ofChange coreAnswersWrong)

/-- 'butterylaw19.CoreSound': WHATEVER THE INPUT: true; the input reads as it did. -/
def coreSoundSpec : ChangeSpec := { name := "coreSound", fn := fun _ => fun
  | [d1, d2, d3] => { results := [.lit (.bool true)], args := [d1, d2, d3] }
  | _ => none }
def coreSoundRow : OpenClaim := { program := "ytfgcodcablpdcaagreat", sum := "529cf4df3eee31f12f98c825e12262eb7cf912545bb9e7f59b2db32e47f193df", func := "buttery/butterylaw19.CoreSound", spec := "coreSound", inPlace := ["internal/bytealg.abigen_runtime_cmpstring"], unfollowed := true, recurses := true, plainKeys := false, apart := false }
def CoreSoundSaid : Prop := coreSoundRow.holds Tryz.pinned (OpenSpec.ofChange coreSoundSpec)

/-- ITS FALSE NEIGHBOUR: 'it returns false'. Refute it at one input. -/
def coreSoundWrong : ChangeSpec := { name := "coreSound", fn := fun _ => fun
  | [d1, d2, d3] => { results := [.lit (.bool false)], args := [d1, d2, d3] }
  | _ => none }
def CoreSoundWrongFalsely : Prop := coreSoundRow.holds Tryz.pinned (OpenSpec.ofChange coreSoundWrong)

/-- 'butterylaw19.CorePrivate': WHATEVER THE INPUT: true; the input reads as it did. -/
def corePrivateSpec : ChangeSpec := { name := "corePrivate", fn := fun _ => fun
  | [d1, d2, d3, d4, d5] => { results := [.lit (.bool true)], args := [d1, d2, d3, d4, d5] }
  | _ => none }
def corePrivateRow : OpenClaim := { program := "ytfgcodcablpdcaagreat", sum := "529cf4df3eee31f12f98c825e12262eb7cf912545bb9e7f59b2db32e47f193df", func := "buttery/butterylaw19.CorePrivate", spec := "corePrivate", inPlace := ["internal/bytealg.abigen_runtime_cmpstring"], unfollowed := true, recurses := true, plainKeys := false, apart := false }
def CorePrivateSaid : Prop := corePrivateRow.holds Tryz.pinned (OpenSpec.ofChange corePrivateSpec)

/-- ITS FALSE NEIGHBOUR: 'it returns false'. Refute it at one input. -/
def corePrivateWrong : ChangeSpec := { name := "corePrivate", fn := fun _ => fun
  | [d1, d2, d3, d4, d5] => { results := [.lit (.bool false)], args := [d1, d2, d3, d4, d5] }
  | _ => none }
def CorePrivateWrongFalsely : Prop := corePrivateRow.holds Tryz.pinned (OpenSpec.ofChange corePrivateWrong)

/-- 'butterylaw19.CoreTwo': WHATEVER THE INPUT: true; the input reads as it did. -/
def coreTwoSpec : ChangeSpec := { name := "coreTwo", fn := fun _ => fun
  | [d1, d2] => { results := [.lit (.bool true)], args := [d1, d2] }
  | _ => none }
def coreTwoRow : OpenClaim := { program := "ytfgcodcablpdcaagreat", sum := "529cf4df3eee31f12f98c825e12262eb7cf912545bb9e7f59b2db32e47f193df", func := "buttery/butterylaw19.CoreTwo", spec := "coreTwo", inPlace := ["internal/bytealg.abigen_runtime_cmpstring"], unfollowed := true, recurses := true, plainKeys := false, apart := false }
def CoreTwoSaid : Prop := coreTwoRow.holds Tryz.pinned (OpenSpec.ofChange coreTwoSpec)

/-- ITS FALSE NEIGHBOUR: 'it returns false'. Refute it at one input. -/
def coreTwoWrong : ChangeSpec := { name := "coreTwo", fn := fun _ => fun
  | [d1, d2] => { results := [.lit (.bool false)], args := [d1, d2] }
  | _ => none }
def CoreTwoWrongFalsely : Prop := coreTwoRow.holds Tryz.pinned (OpenSpec.ofChange coreTwoWrong)

/-- 'butterylaw19.CoreAgain': WHATEVER THE INPUT: true; the input reads as it did. -/
def coreAgainSpec : ChangeSpec := { name := "coreAgain", fn := fun _ => fun
  | [d1, d2, d3, d4] => { results := [.lit (.bool true)], args := [d1, d2, d3, d4] }
  | _ => none }
def coreAgainRow : OpenClaim := { program := "ytfgcodcablpdcaagreat", sum := "529cf4df3eee31f12f98c825e12262eb7cf912545bb9e7f59b2db32e47f193df", func := "buttery/butterylaw19.CoreAgain", spec := "coreAgain", inPlace := ["internal/bytealg.abigen_runtime_cmpstring"], unfollowed := true, recurses := true, plainKeys := false, apart := false }
def CoreAgainSaid : Prop := coreAgainRow.holds Tryz.pinned (OpenSpec.ofChange coreAgainSpec)

/-- ITS FALSE NEIGHBOUR: 'it returns false'. Refute it at one input. -/
def coreAgainWrong : ChangeSpec := { name := "coreAgain", fn := fun _ => fun
  | [d1, d2, d3, d4] => { results := [.lit (.bool false)], args := [d1, d2, d3, d4] }
  | _ => none }
def CoreAgainWrongFalsely : Prop := coreAgainRow.holds Tryz.pinned (OpenSpec.ofChange coreAgainWrong)

/- THE SECOND FORM. 'bulk': how many values and letters a reading holds, each counted each time it is reached (what is shared counts as often as it is met; a slice's spare places count too). A statement '..UptoSaid' is the law's where the arguments, and the package variables that the reading takes, are together of bulk at most 1048576: NARROWER than '..Said'. Prove '..Said' where nothing that the law and all that it calls make is longer than what came in: it says more and counts as full. Else prove '..UptoSaid'. A law counts once. -/
mutual
def uptoBulk {H : Type} : DataW H → Nat
  | .lit (.string bytes) => bytes.length + 1
  | .lit _ => 1
  | .nil => 1
  | .ptr d => uptoBulk d + 1
  | .slice elems spare => uptoBulkAll elems + uptoBulkAll spare + 1
  | .agg parts => uptoBulkAll parts + 1
  | .iface _ d => uptoBulk d + 1
  | .map entries => uptoBulkEntries entries + 1
  | .held _ => 1
def uptoBulkAll {H : Type} : List (DataW H) → Nat
  | [] => 0
  | d :: r => uptoBulk d + uptoBulkAll r
def uptoBulkEntries {H : Type} : List (Lit × DataW H) → Nat
  | [] => 0
  | x :: r => uptoBulkEntry x + uptoBulkEntries r
def uptoBulkEntry {H : Type} : Lit × DataW H → Nat
  | (.string bytes, d) => bytes.length + uptoBulk d + 1
  | (_, d) => uptoBulk d + 1
 end
def uptoSmall : (H : Type) → List (DataW H) → Bool := fun _ ds => decide (uptoBulkAll ds ≤ 1048576)
def OpenSpec.upto (s : _root_.Go.ChangeSpec) : _root_.Go.OpenSpec := { _root_.Go.OpenSpec.ofChange s with cond := some uptoSmall }

/-- 'butterylaw19.CoreFolds', WHERE WHAT IT READS IS OF BULK AT MOST 1048576: true; the input reads as it did. -/
def coreFoldsUptoRow : OpenClaim := { program := "ytfgcodcablpdcaagreat", sum := "529cf4df3eee31f12f98c825e12262eb7cf912545bb9e7f59b2db32e47f193df", func := "buttery/butterylaw19.CoreFolds", spec := "coreFolds", inPlace := ["internal/bytealg.abigen_runtime_cmpstring"], unfollowed := true, recurses := true, plainKeys := false, apart := false, narrowed := true }
def CoreFoldsUptoSaid : Prop := coreFoldsUptoRow.holds Tryz.pinned (OpenSpec.upto coreFoldsSpec)

/-- 'butterylaw19.CoreAnswers', WHERE WHAT IT READS IS OF BULK AT MOST 1048576: true; the input reads as it did. -/
def coreAnswersUptoRow : OpenClaim := { program := "ytfgcodcablpdcaagreat", sum := "529cf4df3eee31f12f98c825e12262eb7cf912545bb9e7f59b2db32e47f193df", func := "buttery/butterylaw19.CoreAnswers", spec := "coreAnswers", inPlace := ["internal/bytealg.abigen_runtime_cmpstring"], unfollowed := true, recurses := true, plainKeys := false, apart := false, narrowed := true }
def CoreAnswersUptoSaid : Prop := coreAnswersUptoRow.holds Tryz.pinned (OpenSpec.upto coreAnswersSpec)

/-- 'butterylaw19.CoreSound', WHERE WHAT IT READS IS OF BULK AT MOST 1048576: true; the input reads as it did. -/
def coreSoundUptoRow : OpenClaim := { program := "ytfgcodcablpdcaagreat", sum := "529cf4df3eee31f12f98c825e12262eb7cf912545bb9e7f59b2db32e47f193df", func := "buttery/butterylaw19.CoreSound", spec := "coreSound", inPlace := ["internal/bytealg.abigen_runtime_cmpstring"], unfollowed := true, recurses := true, plainKeys := false, apart := false, narrowed := true }
def CoreSoundUptoSaid : Prop := coreSoundUptoRow.holds Tryz.pinned (OpenSpec.upto coreSoundSpec)

/-- 'butterylaw19.CorePrivate', WHERE WHAT IT READS IS OF BULK AT MOST 1048576: true; the input reads as it did. -/
def corePrivateUptoRow : OpenClaim := { program := "ytfgcodcablpdcaagreat", sum := "529cf4df3eee31f12f98c825e12262eb7cf912545bb9e7f59b2db32e47f193df", func := "buttery/butterylaw19.CorePrivate", spec := "corePrivate", inPlace := ["internal/bytealg.abigen_runtime_cmpstring"], unfollowed := true, recurses := true, plainKeys := false, apart := false, narrowed := true }
def CorePrivateUptoSaid : Prop := corePrivateUptoRow.holds Tryz.pinned (OpenSpec.upto corePrivateSpec)

/-- 'butterylaw19.CoreTwo', WHERE WHAT IT READS IS OF BULK AT MOST 1048576: true; the input reads as it did. -/
def coreTwoUptoRow : OpenClaim := { program := "ytfgcodcablpdcaagreat", sum := "529cf4df3eee31f12f98c825e12262eb7cf912545bb9e7f59b2db32e47f193df", func := "buttery/butterylaw19.CoreTwo", spec := "coreTwo", inPlace := ["internal/bytealg.abigen_runtime_cmpstring"], unfollowed := true, recurses := true, plainKeys := false, apart := false, narrowed := true }
def CoreTwoUptoSaid : Prop := coreTwoUptoRow.holds Tryz.pinned (OpenSpec.upto coreTwoSpec)

/-- 'butterylaw19.CoreAgain', WHERE WHAT IT READS IS OF BULK AT MOST 1048576: true; the input reads as it did. -/
def coreAgainUptoRow : OpenClaim := { program := "ytfgcodcablpdcaagreat", sum := "529cf4df3eee31f12f98c825e12262eb7cf912545bb9e7f59b2db32e47f193df", func := "buttery/butterylaw19.CoreAgain", spec := "coreAgain", inPlace := ["internal/bytealg.abigen_runtime_cmpstring"], unfollowed := true, recurses := true, plainKeys := false, apart := false, narrowed := true }
def CoreAgainUptoSaid : Prop := coreAgainUptoRow.holds Tryz.pinned (OpenSpec.upto coreAgainSpec)

end Rows
end Go.Proofs.YtfgcodcablpdcaaGreat
