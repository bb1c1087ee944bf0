/-
  No cell of these rows narrows 'for every input' (looked for: loops, veiled, ifaces, maps, wideKeys, modest, calm, conditions, laid).
  DERIVED. THE GIVEN ROWS OF THIS SEAT. 3 by the template 'for every input the law returns true; each argument reads behind the call as it read before'; 0 by the template 'total and deterministic' (their statements: YtkmiodpaanohoaaTotals.lean).
  GIVEN WITH THE SEED: the statements are not yours to turn. If you find one false, say at which input.
  Laid BY PROGRAM, IN A SANDBOX (cutbox-rows.mjs): the forced cells as the released guide's own fill.sh prints them over the translation 49158e2966d7bed6… (all of the seat's roots in one cut). By AI agents, Wed Nov 11 2026. No macro, syntax, notation, axiom, sorry.
-/
import Derived.Test.YtkmiodpaanohoaaChecked
import GoSem.Claim
import GoSem.ClaimJoined
import GoSem.ClaimMapViews
import Derived.JoinedTies
import Derived.KernelRfl
namespace Go.Proofs.Ytkmiodpaanohoaa
/- THE CELL 'sum', in the pinned program and in every row, IS THE sha256 OF THE DUMP (.gsa) THAT YtkmiodpaanohoaaProg.lean LOADS. Nothing in Lean hashes anything: it is a label: what it is worth is what the hold of that sum in a sandbox is worth. -/
noncomputable def Try.pinned : Pinned := { name := "ytkmiodpaanohoaa", sum := "49158e2966d7bed6c20d78a64c9019bb5854ecbdde69e82066dbab79fece9fe5", checked := Try.checked }
namespace Rows
def none {H : Type} : Left H := { results := [], args := [] }

/-- 'butterylaw12.MintDoes': WHATEVER THE INPUT: true; the input reads as it did. -/
def mintDoesSpec : ChangeSpec := { name := "mintDoes", fn := fun _ => fun
  | [d1, d2, d3, d4, d5, d6] => { results := [.lit (.bool true)], args := [d1, d2, d3, d4, d5, d6] }
  | _ => none }
def mintDoesRow : OpenClaim := { program := "ytkmiodpaanohoaa", sum := "49158e2966d7bed6c20d78a64c9019bb5854ecbdde69e82066dbab79fece9fe5", func := "buttery/butterylaw12.MintDoes", spec := "mintDoes", inPlace := ["internal/bytealg.abigen_runtime_cmpstring"], unfollowed := true, recurses := true, plainKeys := false, apart := false }
def MintDoesSaid : Prop := mintDoesRow.holds Try.pinned (OpenSpec.ofChange mintDoesSpec)

/-- ITS FALSE NEIGHBOUR: 'it returns false'. Refute it at one input. -/
def mintDoesWrong : ChangeSpec := { name := "mintDoes", fn := fun _ => fun
  | [d1, d2, d3, d4, d5, d6] => { results := [.lit (.bool false)], args := [d1, d2, d3, d4, d5, d6] }
  | _ => none }
def MintDoesWrongFalsely : Prop := mintDoesRow.holds Try.pinned (OpenSpec.ofChange mintDoesWrong)

/-- 'butterylaw12.MintCounts': WHATEVER THE INPUT: true; the input reads as it did. -/
def mintCountsSpec : ChangeSpec := { name := "mintCounts", fn := fun _ => fun
  | [d1, d2, d3, d4, d5, d6] => { results := [.lit (.bool true)], args := [d1, d2, d3, d4, d5, d6] }
  | _ => none }
def mintCountsRow : OpenClaim := { program := "ytkmiodpaanohoaa", sum := "49158e2966d7bed6c20d78a64c9019bb5854ecbdde69e82066dbab79fece9fe5", func := "buttery/butterylaw12.MintCounts", spec := "mintCounts", inPlace := ["internal/bytealg.abigen_runtime_cmpstring"], unfollowed := true, recurses := true, plainKeys := false, apart := false }
def MintCountsSaid : Prop := mintCountsRow.holds Try.pinned (OpenSpec.ofChange mintCountsSpec)

/-- ITS FALSE NEIGHBOUR: 'it returns false'. Refute it at one input. -/
def mintCountsWrong : ChangeSpec := { name := "mintCounts", fn := fun _ => fun
  | [d1, d2, d3, d4, d5, d6] => { results := [.lit (.bool false)], args := [d1, d2, d3, d4, d5, d6] }
  | _ => none }
def MintCountsWrongFalsely : Prop := mintCountsRow.holds Try.pinned (OpenSpec.ofChange mintCountsWrong)

/-- 'butterylaw12.MintNothing': WHATEVER THE INPUT: true; the input reads as it did. -/
def mintNothingSpec : ChangeSpec := { name := "mintNothing", fn := fun _ => fun
  | [d1, d2, d3, d4, d5, d6] => { results := [.lit (.bool true)], args := [d1, d2, d3, d4, d5, d6] }
  | _ => none }
def mintNothingRow : OpenClaim := { program := "ytkmiodpaanohoaa", sum := "49158e2966d7bed6c20d78a64c9019bb5854ecbdde69e82066dbab79fece9fe5", func := "buttery/butterylaw12.MintNothing", spec := "mintNothing", inPlace := ["internal/bytealg.abigen_runtime_cmpstring"], unfollowed := true, recurses := true, plainKeys := false, apart := false }
def MintNothingSaid : Prop := mintNothingRow.holds Try.pinned (OpenSpec.ofChange mintNothingSpec)

/-- ITS FALSE NEIGHBOUR: 'it returns false'. Refute it at one input. -/
def mintNothingWrong : ChangeSpec := { name := "mintNothing", fn := fun _ => fun
  | [d1, d2, d3, d4, d5, d6] => { results := [.lit (.bool false)], args := [d1, d2, d3, d4, d5, d6] }
  | _ => none }
def MintNothingWrongFalsely : Prop := mintNothingRow.holds Try.pinned (OpenSpec.ofChange mintNothingWrong)

/- THE SECOND FORM. 'bulk': how many values and letters a reading holds, each counted each time it is reached (what is shared counts as often as it is met; a slice's spare places count too). A statement '..UptoSaid' is the law's where the arguments, and the package variables that the reading takes, are together of bulk at most 1048576: NARROWER than '..Said'. Prove '..Said' where nothing that the law and all that it calls make is longer than what came in: it says more and counts as full. Else prove '..UptoSaid'. A law counts once. -/
mutual
def uptoBulk {H : Type} : DataW H → Nat
  | .lit (.string bytes) => bytes.length + 1
  | .lit _ => 1
  | .nil => 1
  | .ptr d => uptoBulk d + 1
  | .slice elems spare => uptoBulkAll elems + uptoBulkAll spare + 1
  | .agg parts => uptoBulkAll parts + 1
  | .iface _ d => uptoBulk d + 1
  | .map entries => uptoBulkEntries entries + 1
  | .held _ => 1
def uptoBulkAll {H : Type} : List (DataW H) → Nat
  | [] => 0
  | d :: r => uptoBulk d + uptoBulkAll r
def uptoBulkEntries {H : Type} : List (Lit × DataW H) → Nat
  | [] => 0
  | x :: r => uptoBulkEntry x + uptoBulkEntries r
def uptoBulkEntry {H : Type} : Lit × DataW H → Nat
  | (.string bytes, d) => bytes.length + uptoBulk d + 1
  | (_, d) => uptoBulk d + 1
 end
def uptoSmall : (H : Type) → List (DataW H) → Bool := fun _ ds => decide (uptoBulkAll ds ≤ 1048576)
def OpenSpec.upto (s : _root_.Go.ChangeSpec) : _root_.Go.OpenSpec := { _root_.Go.OpenSpec.ofChange s with cond := some uptoSmall }

/-- 'butterylaw12.MintDoes', WHERE WHAT IT READS IS OF BULK AT MOST 1048576: true; the input reads as it did. -/
def mintDoesUptoRow : OpenClaim := { program := "ytkmiodpaanohoaa", sum := "49158e2966d7bed6c20d78a64c9019bb5854ecbdde69e82066dbab79fece9fe5", func := "buttery/butterylaw12.MintDoes", spec := "mintDoes", inPlace := ["internal/bytealg.abigen_runtime_cmpstring"], unfollowed := true, recurses := true, plainKeys := false, apart := false, narrowed := true }
def MintDoesUptoSaid : Prop := mintDoesUptoRow.holds Try.pinned (OpenSpec.upto mintDoesSpec)

/-- 'butterylaw12.MintCounts', WHERE WHAT IT READS IS OF BULK AT MOST 1048576: true; the input reads as it did. -/
def mintCountsUptoRow : OpenClaim := { program := "ytkmiodpaanohoaa", sum := "49158e2966d7bed6c20d78a64c9019bb5854ecbdde69e82066dbab79fece9fe5", func := "buttery/butterylaw12.MintCounts", spec := "mintCounts", inPlace := ["internal/bytealg.abigen_runtime_cmpstring"], unfollowed := true, recurses := true, plainKeys := false, apart := false, narrowed := true }
def MintCountsUptoSaid : Prop := mintCountsUptoRow.holds Try.pinned (OpenSpec.upto mintCountsSpec)

/-- 'butterylaw12.MintNothing', WHERE WHAT IT READS IS OF BULK AT MOST 1048576: true; the input reads as it did. -/
def mintNothingUptoRow : OpenClaim := { program := "ytkmiodpaanohoaa", sum := "49158e2966d7bed6c20d78a64c9019bb5854ecbdde69e82066dbab79fece9fe5", func := "buttery/butterylaw12.MintNothing", spec := "mintNothing", inPlace := ["internal/bytealg.abigen_runtime_cmpstring"], unfollowed := true, recurses := true, plainKeys := false, apart := false, narrowed := true }
def MintNothingUptoSaid : Prop := mintNothingUptoRow.holds Try.pinned (OpenSpec.upto mintNothingSpec)

end Rows
end Go.Proofs.Ytkmiodpaanohoaa
