/-
  No cell of these rows narrows 'for every input' (looked for: loops, veiled, ifaces, maps, wideKeys, modest, calm, conditions, laid).
  DERIVED. THE GIVEN ROWS OF THIS SEAT. 4 by the template 'for every input the law returns true; each argument reads behind the call as it read before'; 0 by the template 'total and deterministic' (their statements: YtpkmjddjllpglaaTotals.lean).
  GIVEN WITH THE SEED: the statements are not yours to turn. If you find one false, say at which input.
  Laid BY PROGRAM, IN A SANDBOX (cutbox-rows.mjs): the forced cells as the released guide's own fill.sh prints them over the translation d0acd052b57c49ae… (all of the seat's roots in one cut). By AI agents, Wed Nov 11 2026. No macro, syntax, notation, axiom, sorry.
-/
import Derived.Test.YtpkmjddjllpglaaChecked
import GoSem.Claim
import GoSem.ClaimJoined
import GoSem.ClaimMapViews
import Derived.JoinedTies
import Derived.KernelRfl
namespace Go.Proofs.Ytpkmjddjllpglaa
/- THE CELL 'sum', in the pinned program and in every row, IS THE sha256 OF THE DUMP (.gsa) THAT YtpkmjddjllpglaaProg.lean LOADS. Nothing in Lean hashes anything: it is a label: what it is worth is what the hold of that sum in a sandbox is worth. -/
noncomputable def Try.pinned : Pinned := { name := "ytpkmjddjllpglaa", sum := "d0acd052b57c49ae4df16af70c9adeee94cf66f9dec5be42a8cc490ab1dd77c3", checked := Try.checked }
namespace Rows
def none {H : Type} : Left H := { results := [], args := [] }

/-- 'butterylaw11.ViewAll': WHATEVER THE INPUT: true; the input reads as it did. -/
def viewAllSpec : ChangeSpec := { name := "viewAll", fn := fun _ => fun
  | [d1, d2, d3, d4, d5] => { results := [.lit (.bool true)], args := [d1, d2, d3, d4, d5] }
  | _ => none }
def viewAllRow : OpenClaim := { program := "ytpkmjddjllpglaa", sum := "d0acd052b57c49ae4df16af70c9adeee94cf66f9dec5be42a8cc490ab1dd77c3", func := "buttery/butterylaw11.ViewAll", spec := "viewAll", recurses := true, apart := false }
def ViewAllSaid : Prop := viewAllRow.holds Try.pinned (OpenSpec.ofChange viewAllSpec)

/-- ITS FALSE NEIGHBOUR: 'it returns false'. Refute it at one input. -/
def viewAllWrong : ChangeSpec := { name := "viewAll", fn := fun _ => fun
  | [d1, d2, d3, d4, d5] => { results := [.lit (.bool false)], args := [d1, d2, d3, d4, d5] }
  | _ => none }
def ViewAllWrongFalsely : Prop := viewAllRow.holds Try.pinned (OpenSpec.ofChange viewAllWrong)

/-- 'butterylaw11.ViewMeans': WHATEVER THE INPUT: true; the input reads as it did. -/
def viewMeansSpec : ChangeSpec := { name := "viewMeans", fn := fun _ => fun
  | [d1, d2, d3, d4] => { results := [.lit (.bool true)], args := [d1, d2, d3, d4] }
  | _ => none }
def viewMeansRow : OpenClaim := { program := "ytpkmjddjllpglaa", sum := "d0acd052b57c49ae4df16af70c9adeee94cf66f9dec5be42a8cc490ab1dd77c3", func := "buttery/butterylaw11.ViewMeans", spec := "viewMeans", unfollowed := true, recurses := true, apart := false }
def ViewMeansSaid : Prop := viewMeansRow.holds Try.pinned (OpenSpec.ofChange viewMeansSpec)

/-- ITS FALSE NEIGHBOUR: 'it returns false'. Refute it at one input. -/
def viewMeansWrong : ChangeSpec := { name := "viewMeans", fn := fun _ => fun
  | [d1, d2, d3, d4] => { results := [.lit (.bool false)], args := [d1, d2, d3, d4] }
  | _ => none }
def ViewMeansWrongFalsely : Prop := viewMeansRow.holds Try.pinned (OpenSpec.ofChange viewMeansWrong)

/-- 'butterylaw11.ViewMore': WHATEVER THE INPUT: true; the input reads as it did. -/
def viewMoreSpec : ChangeSpec := { name := "viewMore", fn := fun _ => fun
  | [d1, d2, d3, d4] => { results := [.lit (.bool true)], args := [d1, d2, d3, d4] }
  | _ => none }
def viewMoreRow : OpenClaim := { program := "ytpkmjddjllpglaa", sum := "d0acd052b57c49ae4df16af70c9adeee94cf66f9dec5be42a8cc490ab1dd77c3", func := "buttery/butterylaw11.ViewMore", spec := "viewMore", recurses := true, apart := false }
def ViewMoreSaid : Prop := viewMoreRow.holds Try.pinned (OpenSpec.ofChange viewMoreSpec)

/-- ITS FALSE NEIGHBOUR: 'it returns false'. Refute it at one input. -/
def viewMoreWrong : ChangeSpec := { name := "viewMore", fn := fun _ => fun
  | [d1, d2, d3, d4] => { results := [.lit (.bool false)], args := [d1, d2, d3, d4] }
  | _ => none }
def ViewMoreWrongFalsely : Prop := viewMoreRow.holds Try.pinned (OpenSpec.ofChange viewMoreWrong)

/-- 'butterylaw11.ViewFields': WHATEVER THE INPUT: true; the input reads as it did. -/
def viewFieldsSpec : ChangeSpec := { name := "viewFields", fn := fun _ => fun
  | [d1, d2, d3] => { results := [.lit (.bool true)], args := [d1, d2, d3] }
  | _ => none }
def viewFieldsRow : OpenClaim := { program := "ytpkmjddjllpglaa", sum := "d0acd052b57c49ae4df16af70c9adeee94cf66f9dec5be42a8cc490ab1dd77c3", func := "buttery/butterylaw11.ViewFields", spec := "viewFields", recurses := true, apart := false }
def ViewFieldsSaid : Prop := viewFieldsRow.holds Try.pinned (OpenSpec.ofChange viewFieldsSpec)

/-- ITS FALSE NEIGHBOUR: 'it returns false'. Refute it at one input. -/
def viewFieldsWrong : ChangeSpec := { name := "viewFields", fn := fun _ => fun
  | [d1, d2, d3] => { results := [.lit (.bool false)], args := [d1, d2, d3] }
  | _ => none }
def ViewFieldsWrongFalsely : Prop := viewFieldsRow.holds Try.pinned (OpenSpec.ofChange viewFieldsWrong)

/- THE SECOND FORM. 'bulk': how many values and letters a reading holds, each counted each time it is reached (what is shared counts as often as it is met; a slice's spare places count too). A statement '..UptoSaid' is the law's where the arguments, and the package variables that the reading takes, are together of bulk at most 1048576: NARROWER than '..Said'. Prove '..Said' where nothing that the law and all that it calls make is longer than what came in: it says more and counts as full. Else prove '..UptoSaid'. A law counts once. -/
mutual
def uptoBulk {H : Type} : DataW H → Nat
  | .lit (.string bytes) => bytes.length + 1
  | .lit _ => 1
  | .nil => 1
  | .ptr d => uptoBulk d + 1
  | .slice elems spare => uptoBulkAll elems + uptoBulkAll spare + 1
  | .agg parts => uptoBulkAll parts + 1
  | .iface _ d => uptoBulk d + 1
  | .map entries => uptoBulkEntries entries + 1
  | .held _ => 1
def uptoBulkAll {H : Type} : List (DataW H) → Nat
  | [] => 0
  | d :: r => uptoBulk d + uptoBulkAll r
def uptoBulkEntries {H : Type} : List (Lit × DataW H) → Nat
  | [] => 0
  | x :: r => uptoBulkEntry x + uptoBulkEntries r
def uptoBulkEntry {H : Type} : Lit × DataW H → Nat
  | (.string bytes, d) => bytes.length + uptoBulk d + 1
  | (_, d) => uptoBulk d + 1
 end
def uptoSmall : (H : Type) → List (DataW H) → Bool := fun _ ds => decide (uptoBulkAll ds ≤ 1048576)
def OpenSpec.upto (s : _root_.Go.ChangeSpec) : _root_.Go.OpenSpec := { _root_.Go.OpenSpec.ofChange s with cond := some uptoSmall }

/-- 'butterylaw11.ViewAll', WHERE WHAT IT READS IS OF BULK AT MOST 1048576: true; the input reads as it did. -/
def viewAllUptoRow : OpenClaim := { program := "ytpkmjddjllpglaa", sum := "d0acd052b57c49ae4df16af70c9adeee94cf66f9dec5be42a8cc490ab1dd77c3", func := "buttery/butterylaw11.ViewAll", spec := "viewAll", recurses := true, apart := false, narrowed := true }
def ViewAllUptoSaid : Prop := viewAllUptoRow.holds Try.pinned (OpenSpec.upto viewAllSpec)

/-- 'butterylaw11.ViewMeans', WHERE WHAT IT READS IS OF BULK AT MOST 1048576: true; the input reads as it did. -/
def viewMeansUptoRow : OpenClaim := { program := "ytpkmjddjllpglaa", sum := "d0acd052b57c49ae4df16af70c9adeee94cf66f9dec5be42a8cc490ab1dd77c3", func := "buttery/butterylaw11.ViewMeans", spec := "viewMeans", unfollowed := true, recurses := true, apart := false, narrowed := true }
def ViewMeansUptoSaid : Prop := viewMeansUptoRow.holds Try.pinned (OpenSpec.upto viewMeansSpec)

/-- 'butterylaw11.ViewMore', WHERE WHAT IT READS IS OF BULK AT MOST 1048576: true; the input reads as it did. -/
def viewMoreUptoRow : OpenClaim := { program := "ytpkmjddjllpglaa", sum := "d0acd052b57c49ae4df16af70c9adeee94cf66f9dec5be42a8cc490ab1dd77c3", func := "buttery/butterylaw11.ViewMore", spec := "viewMore", recurses := true, apart := false, narrowed := true }
def ViewMoreUptoSaid : Prop := viewMoreUptoRow.holds Try.pinned (OpenSpec.upto viewMoreSpec)

/-- 'butterylaw11.ViewFields', WHERE WHAT IT READS IS OF BULK AT MOST 1048576: true; the input reads as it did. -/
def viewFieldsUptoRow : OpenClaim := { program := "ytpkmjddjllpglaa", sum := "d0acd052b57c49ae4df16af70c9adeee94cf66f9dec5be42a8cc490ab1dd77c3", func := "buttery/butterylaw11.ViewFields", spec := "viewFields", recurses := true, apart := false, narrowed := true }
def ViewFieldsUptoSaid : Prop := viewFieldsUptoRow.holds Try.pinned (OpenSpec.upto viewFieldsSpec)

end Rows
end Go.Proofs.Ytpkmjddjllpglaa
