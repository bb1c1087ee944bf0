/-
  No cell of these rows narrows 'for every input' (looked for: loops, veiled, ifaces, maps, wideKeys, modest, calm, conditions, laid).
  DERIVED. THE GIVEN ROWS OF THIS SEAT. 4 by the template 'for every input the law returns true; each argument reads behind the call as it read before'; 0 by the template 'total and deterministic' (their statements: YtogmafopgglelaaTotals.lean).
  GIVEN WITH THE SEED: the statements are not yours to turn. If you find one false, say at which input.
  Laid BY PROGRAM, IN A SANDBOX (cutbox-rows.mjs): the forced cells as the released guide's own fill.sh prints them over the translation 00be42d4ca3ea279… (all of the seat's roots in one cut). By AI agents, Wed Nov 11 2026. No macro, syntax, notation, axiom, sorry.
-/
import Derived.Test.YtogmafopgglelaaChecked
import GoSem.Claim
import GoSem.ClaimJoined
import GoSem.ClaimMapViews
import Derived.JoinedTies
import Derived.KernelRfl
namespace Go.Proofs.Ytogmafopgglelaa
/- THE CELL 'sum', in the pinned program and in every row, IS THE sha256 OF THE DUMP (.gsa) THAT YtogmafopgglelaaProg.lean LOADS. Nothing in Lean hashes anything: it is a label: what it is worth is what the hold of that sum in a sandbox is worth. -/
noncomputable def Try.pinned : Pinned := { name := "ytogmafopgglelaa", sum := "00be42d4ca3ea279acc0ad60b608274b8f1914311f422d884faaec4f846da5af", checked := Try.checked }
namespace Rows
def none {H : Type} : Left H := { results := [], args := [] }

/-- 'butterylaw07.VecAll': WHATEVER THE INPUT: true; the input reads as it did. -/
def vecAllSpec : ChangeSpec := { name := "vecAll", fn := fun _ => fun
  | [d1, d2, d3, d4, d5] => { results := [.lit (.bool true)], args := [d1, d2, d3, d4, d5] }
  | _ => none }
def vecAllRow : OpenClaim := { program := "ytogmafopgglelaa", sum := "00be42d4ca3ea279acc0ad60b608274b8f1914311f422d884faaec4f846da5af", func := "buttery/butterylaw07.VecAll", spec := "vecAll", unfollowed := true, recurses := true, apart := false }
def VecAllSaid : Prop := vecAllRow.holds Try.pinned (OpenSpec.ofChange vecAllSpec)

/-- ITS FALSE NEIGHBOUR: 'it returns false'. Refute it at one input. -/
def vecAllWrong : ChangeSpec := { name := "vecAll", fn := fun _ => fun
  | [d1, d2, d3, d4, d5] => { results := [.lit (.bool false)], args := [d1, d2, d3, d4, d5] }
  | _ => none }
def VecAllWrongFalsely : Prop := vecAllRow.holds Try.pinned (OpenSpec.ofChange vecAllWrong)

/-- 'butterylaw07.VecJoin': WHATEVER THE INPUT: true; the input reads as it did. -/
def vecJoinSpec : ChangeSpec := { name := "vecJoin", fn := fun _ => fun
  | [d1, d2, d3] => { results := [.lit (.bool true)], args := [d1, d2, d3] }
  | _ => none }
def vecJoinRow : OpenClaim := { program := "ytogmafopgglelaa", sum := "00be42d4ca3ea279acc0ad60b608274b8f1914311f422d884faaec4f846da5af", func := "buttery/butterylaw07.VecJoin", spec := "vecJoin", unfollowed := true, recurses := true, apart := false }
def VecJoinSaid : Prop := vecJoinRow.holds Try.pinned (OpenSpec.ofChange vecJoinSpec)

/-- ITS FALSE NEIGHBOUR: 'it returns false'. Refute it at one input. -/
def vecJoinWrong : ChangeSpec := { name := "vecJoin", fn := fun _ => fun
  | [d1, d2, d3] => { results := [.lit (.bool false)], args := [d1, d2, d3] }
  | _ => none }
def VecJoinWrongFalsely : Prop := vecJoinRow.holds Try.pinned (OpenSpec.ofChange vecJoinWrong)

/-- 'butterylaw07.VecLaws': WHATEVER THE INPUT: true; the input reads as it did. -/
def vecLawsSpec : ChangeSpec := { name := "vecLaws", fn := fun _ => fun
  | [d1, d2, d3] => { results := [.lit (.bool true)], args := [d1, d2, d3] }
  | _ => none }
def vecLawsRow : OpenClaim := { program := "ytogmafopgglelaa", sum := "00be42d4ca3ea279acc0ad60b608274b8f1914311f422d884faaec4f846da5af", func := "buttery/butterylaw07.VecLaws", spec := "vecLaws", unfollowed := true, recurses := true, apart := false }
def VecLawsSaid : Prop := vecLawsRow.holds Try.pinned (OpenSpec.ofChange vecLawsSpec)

/-- ITS FALSE NEIGHBOUR: 'it returns false'. Refute it at one input. -/
def vecLawsWrong : ChangeSpec := { name := "vecLaws", fn := fun _ => fun
  | [d1, d2, d3] => { results := [.lit (.bool false)], args := [d1, d2, d3] }
  | _ => none }
def VecLawsWrongFalsely : Prop := vecLawsRow.holds Try.pinned (OpenSpec.ofChange vecLawsWrong)

/-- 'butterylaw07.VecWith': WHATEVER THE INPUT: true; the input reads as it did. -/
def vecWithSpec : ChangeSpec := { name := "vecWith", fn := fun _ => fun
  | [d1, d2, d3, d4] => { results := [.lit (.bool true)], args := [d1, d2, d3, d4] }
  | _ => none }
def vecWithRow : OpenClaim := { program := "ytogmafopgglelaa", sum := "00be42d4ca3ea279acc0ad60b608274b8f1914311f422d884faaec4f846da5af", func := "buttery/butterylaw07.VecWith", spec := "vecWith", unfollowed := true, recurses := true, apart := false }
def VecWithSaid : Prop := vecWithRow.holds Try.pinned (OpenSpec.ofChange vecWithSpec)

/-- ITS FALSE NEIGHBOUR: 'it returns false'. Refute it at one input. -/
def vecWithWrong : ChangeSpec := { name := "vecWith", fn := fun _ => fun
  | [d1, d2, d3, d4] => { results := [.lit (.bool false)], args := [d1, d2, d3, d4] }
  | _ => none }
def VecWithWrongFalsely : Prop := vecWithRow.holds Try.pinned (OpenSpec.ofChange vecWithWrong)

/- THE SECOND FORM. 'bulk': how many values and letters a reading holds, each counted each time it is reached (what is shared counts as often as it is met; a slice's spare places count too). A statement '..UptoSaid' is the law's where the arguments, and the package variables that the reading takes, are together of bulk at most 1048576: NARROWER than '..Said'. Prove '..Said' where nothing that the law and all that it calls make is longer than what came in: it says more and counts as full. Else prove '..UptoSaid'. A law counts once. -/
mutual
def uptoBulk {H : Type} : DataW H → Nat
  | .lit (.string bytes) => bytes.length + 1
  | .lit _ => 1
  | .nil => 1
  | .ptr d => uptoBulk d + 1
  | .slice elems spare => uptoBulkAll elems + uptoBulkAll spare + 1
  | .agg parts => uptoBulkAll parts + 1
  | .iface _ d => uptoBulk d + 1
  | .map entries => uptoBulkEntries entries + 1
  | .held _ => 1
def uptoBulkAll {H : Type} : List (DataW H) → Nat
  | [] => 0
  | d :: r => uptoBulk d + uptoBulkAll r
def uptoBulkEntries {H : Type} : List (Lit × DataW H) → Nat
  | [] => 0
  | x :: r => uptoBulkEntry x + uptoBulkEntries r
def uptoBulkEntry {H : Type} : Lit × DataW H → Nat
  | (.string bytes, d) => bytes.length + uptoBulk d + 1
  | (_, d) => uptoBulk d + 1
 end
def uptoSmall : (H : Type) → List (DataW H) → Bool := fun _ ds => decide (uptoBulkAll ds ≤ 1048576)
def OpenSpec.upto (s : _root_.Go.ChangeSpec) : _root_.Go.OpenSpec := { _root_.Go.OpenSpec.ofChange s with cond := some uptoSmall }

/-- 'butterylaw07.VecAll', WHERE WHAT IT READS IS OF BULK AT MOST 1048576: true; the input reads as it did. -/
def vecAllUptoRow : OpenClaim := { program := "ytogmafopgglelaa", sum := "00be42d4ca3ea279acc0ad60b608274b8f1914311f422d884faaec4f846da5af", func := "buttery/butterylaw07.VecAll", spec := "vecAll", unfollowed := true, recurses := true, apart := false, narrowed := true }
def VecAllUptoSaid : Prop := vecAllUptoRow.holds Try.pinned (OpenSpec.upto vecAllSpec)

/-- 'butterylaw07.VecJoin', WHERE WHAT IT READS IS OF BULK AT MOST 1048576: true; the input reads as it did. -/
def vecJoinUptoRow : OpenClaim := { program := "ytogmafopgglelaa", sum := "00be42d4ca3ea279acc0ad60b608274b8f1914311f422d884faaec4f846da5af", func := "buttery/butterylaw07.VecJoin", spec := "vecJoin", unfollowed := true, recurses := true, apart := false, narrowed := true }
def VecJoinUptoSaid : Prop := vecJoinUptoRow.holds Try.pinned (OpenSpec.upto vecJoinSpec)

/-- 'butterylaw07.VecLaws', WHERE WHAT IT READS IS OF BULK AT MOST 1048576: true; the input reads as it did. -/
def vecLawsUptoRow : OpenClaim := { program := "ytogmafopgglelaa", sum := "00be42d4ca3ea279acc0ad60b608274b8f1914311f422d884faaec4f846da5af", func := "buttery/butterylaw07.VecLaws", spec := "vecLaws", unfollowed := true, recurses := true, apart := false, narrowed := true }
def VecLawsUptoSaid : Prop := vecLawsUptoRow.holds Try.pinned (OpenSpec.upto vecLawsSpec)

/-- 'butterylaw07.VecWith', WHERE WHAT IT READS IS OF BULK AT MOST 1048576: true; the input reads as it did. -/
def vecWithUptoRow : OpenClaim := { program := "ytogmafopgglelaa", sum := "00be42d4ca3ea279acc0ad60b608274b8f1914311f422d884faaec4f846da5af", func := "buttery/butterylaw07.VecWith", spec := "vecWith", unfollowed := true, recurses := true, apart := false, narrowed := true }
def VecWithUptoSaid : Prop := vecWithUptoRow.holds Try.pinned (OpenSpec.upto vecWithSpec)

end Rows
end Go.Proofs.Ytogmafopgglelaa
