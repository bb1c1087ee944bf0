/-
  No cell of these rows narrows 'for every input' (looked for: loops, veiled, ifaces, maps, wideKeys, modest, calm, conditions, laid).
  DERIVED. THE GIVEN ROWS OF THIS SEAT. 4 by the template 'for every input the law returns true; each argument reads behind the call as it read before'; 0 by the template 'total and deterministic' (their statements: YtajfliemmfdnhaaTotals.lean).
  GIVEN WITH THE SEED: the statements are not yours to turn. If you find one false, say at which input.
  Laid BY PROGRAM, IN A SANDBOX (cutbox-rows.mjs): the forced cells as the released guide's own fill.sh prints them over the translation c58766792eec1d84… (all of the seat's roots in one cut). By AI agents, Wed Nov 11 2026. No macro, syntax, notation, axiom, sorry.
-/
import Derived.Test.YtajfliemmfdnhaaChecked
import GoSem.Claim
import GoSem.ClaimJoined
import GoSem.ClaimMapViews
import Derived.JoinedTies
import Derived.KernelRfl
namespace Go.Proofs.Ytajfliemmfdnhaa
/- THE CELL 'sum', in the pinned program and in every row, IS THE sha256 OF THE DUMP (.gsa) THAT YtajfliemmfdnhaaProg.lean LOADS. Nothing in Lean hashes anything: it is a label: what it is worth is what the hold of that sum in a sandbox is worth. -/
noncomputable def Try.pinned : Pinned := { name := "ytajfliemmfdnhaa", sum := "c58766792eec1d84906a710c692359049f36034115d7d484703e675681f8c8b1", checked := Try.checked }
namespace Rows
def none {H : Type} : Left H := { results := [], args := [] }

/-- 'butterylaw16.PastKeeps': WHATEVER THE INPUT: true; the input reads as it did. -/
def pastKeepsSpec : ChangeSpec := { name := "pastKeeps", fn := fun _ => fun
  | [d1, d2] => { results := [.lit (.bool true)], args := [d1, d2] }
  | _ => none }
def pastKeepsRow : OpenClaim := { program := "ytajfliemmfdnhaa", sum := "c58766792eec1d84906a710c692359049f36034115d7d484703e675681f8c8b1", func := "buttery/butterylaw16.PastKeeps", spec := "pastKeeps", unfollowed := true, recurses := true, apart := false }
def PastKeepsSaid : Prop := pastKeepsRow.holds Try.pinned (OpenSpec.ofChange pastKeepsSpec)

/-- ITS FALSE NEIGHBOUR: 'it returns false'. Refute it at one input. -/
def pastKeepsWrong : ChangeSpec := { name := "pastKeeps", fn := fun _ => fun
  | [d1, d2] => { results := [.lit (.bool false)], args := [d1, d2] }
  | _ => none }
def PastKeepsWrongFalsely : Prop := pastKeepsRow.holds Try.pinned (OpenSpec.ofChange pastKeepsWrong)

/-- 'butterylaw16.PastPruned': WHATEVER THE INPUT: true; the input reads as it did. -/
def pastPrunedSpec : ChangeSpec := { name := "pastPruned", fn := fun _ => fun
  | [d1, d2, d3] => { results := [.lit (.bool true)], args := [d1, d2, d3] }
  | _ => none }
def pastPrunedRow : OpenClaim := { program := "ytajfliemmfdnhaa", sum := "c58766792eec1d84906a710c692359049f36034115d7d484703e675681f8c8b1", func := "buttery/butterylaw16.PastPruned", spec := "pastPruned", unfollowed := true, recurses := true, apart := false }
def PastPrunedSaid : Prop := pastPrunedRow.holds Try.pinned (OpenSpec.ofChange pastPrunedSpec)

/-- ITS FALSE NEIGHBOUR: 'it returns false'. Refute it at one input. -/
def pastPrunedWrong : ChangeSpec := { name := "pastPruned", fn := fun _ => fun
  | [d1, d2, d3] => { results := [.lit (.bool false)], args := [d1, d2, d3] }
  | _ => none }
def PastPrunedWrongFalsely : Prop := pastPrunedRow.holds Try.pinned (OpenSpec.ofChange pastPrunedWrong)

/-- 'butterylaw16.PastGrows': WHATEVER THE INPUT: true; the input reads as it did. -/
def pastGrowsSpec : ChangeSpec := { name := "pastGrows", fn := fun _ => fun
  | [d1, d2, d3] => { results := [.lit (.bool true)], args := [d1, d2, d3] }
  | _ => none }
def pastGrowsRow : OpenClaim := { program := "ytajfliemmfdnhaa", sum := "c58766792eec1d84906a710c692359049f36034115d7d484703e675681f8c8b1", func := "buttery/butterylaw16.PastGrows", spec := "pastGrows", unfollowed := true, recurses := true, apart := false }
def PastGrowsSaid : Prop := pastGrowsRow.holds Try.pinned (OpenSpec.ofChange pastGrowsSpec)

/-- ITS FALSE NEIGHBOUR: 'it returns false'. Refute it at one input. -/
def pastGrowsWrong : ChangeSpec := { name := "pastGrows", fn := fun _ => fun
  | [d1, d2, d3] => { results := [.lit (.bool false)], args := [d1, d2, d3] }
  | _ => none }
def PastGrowsWrongFalsely : Prop := pastGrowsRow.holds Try.pinned (OpenSpec.ofChange pastGrowsWrong)

/-- 'butterylaw16.PastTwice': WHATEVER THE INPUT: true; the input reads as it did. -/
def pastTwiceSpec : ChangeSpec := { name := "pastTwice", fn := fun _ => fun
  | [d1, d2] => { results := [.lit (.bool true)], args := [d1, d2] }
  | _ => none }
def pastTwiceRow : OpenClaim := { program := "ytajfliemmfdnhaa", sum := "c58766792eec1d84906a710c692359049f36034115d7d484703e675681f8c8b1", func := "buttery/butterylaw16.PastTwice", spec := "pastTwice", unfollowed := true, recurses := true, apart := false }
def PastTwiceSaid : Prop := pastTwiceRow.holds Try.pinned (OpenSpec.ofChange pastTwiceSpec)

/-- ITS FALSE NEIGHBOUR: 'it returns false'. Refute it at one input. -/
def pastTwiceWrong : ChangeSpec := { name := "pastTwice", fn := fun _ => fun
  | [d1, d2] => { results := [.lit (.bool false)], args := [d1, d2] }
  | _ => none }
def PastTwiceWrongFalsely : Prop := pastTwiceRow.holds Try.pinned (OpenSpec.ofChange pastTwiceWrong)

/- THE SECOND FORM. 'bulk': how many values and letters a reading holds, each counted each time it is reached (what is shared counts as often as it is met; a slice's spare places count too). A statement '..UptoSaid' is the law's where the arguments, and the package variables that the reading takes, are together of bulk at most 1048576: NARROWER than '..Said'. Prove '..Said' where nothing that the law and all that it calls make is longer than what came in: it says more and counts as full. Else prove '..UptoSaid'. A law counts once. -/
mutual
def uptoBulk {H : Type} : DataW H → Nat
  | .lit (.string bytes) => bytes.length + 1
  | .lit _ => 1
  | .nil => 1
  | .ptr d => uptoBulk d + 1
  | .slice elems spare => uptoBulkAll elems + uptoBulkAll spare + 1
  | .agg parts => uptoBulkAll parts + 1
  | .iface _ d => uptoBulk d + 1
  | .map entries => uptoBulkEntries entries + 1
  | .held _ => 1
def uptoBulkAll {H : Type} : List (DataW H) → Nat
  | [] => 0
  | d :: r => uptoBulk d + uptoBulkAll r
def uptoBulkEntries {H : Type} : List (Lit × DataW H) → Nat
  | [] => 0
  | x :: r => uptoBulkEntry x + uptoBulkEntries r
def uptoBulkEntry {H : Type} : Lit × DataW H → Nat
  | (.string bytes, d) => bytes.length + uptoBulk d + 1
  | (_, d) => uptoBulk d + 1
 end
def uptoSmall : (H : Type) → List (DataW H) → Bool := fun _ ds => decide (uptoBulkAll ds ≤ 1048576)
def OpenSpec.upto (s : _root_.Go.ChangeSpec) : _root_.Go.OpenSpec := { _root_.Go.OpenSpec.ofChange s with cond := some uptoSmall }

/-- 'butterylaw16.PastKeeps', WHERE WHAT IT READS IS OF BULK AT MOST 1048576: true; the input reads as it did. -/
def pastKeepsUptoRow : OpenClaim := { program := "ytajfliemmfdnhaa", sum := "c58766792eec1d84906a710c692359049f36034115d7d484703e675681f8c8b1", func := "buttery/butterylaw16.PastKeeps", spec := "pastKeeps", unfollowed := true, recurses := true, apart := false, narrowed := true }
def PastKeepsUptoSaid : Prop := pastKeepsUptoRow.holds Try.pinned (OpenSpec.upto pastKeepsSpec)

/-- 'butterylaw16.PastPruned', WHERE WHAT IT READS IS OF BULK AT MOST 1048576: true; the input reads as it did. -/
def pastPrunedUptoRow : OpenClaim := { program := "ytajfliemmfdnhaa", sum := "c58766792eec1d84906a710c692359049f36034115d7d484703e675681f8c8b1", func := "buttery/butterylaw16.PastPruned", spec := "pastPruned", unfollowed := true, recurses := true, apart := false, narrowed := true }
def PastPrunedUptoSaid : Prop := pastPrunedUptoRow.holds Try.pinned (OpenSpec.upto pastPrunedSpec)

/-- 'butterylaw16.PastGrows', WHERE WHAT IT READS IS OF BULK AT MOST 1048576: true; the input reads as it did. -/
def pastGrowsUptoRow : OpenClaim := { program := "ytajfliemmfdnhaa", sum := "c58766792eec1d84906a710c692359049f36034115d7d484703e675681f8c8b1", func := "buttery/butterylaw16.PastGrows", spec := "pastGrows", unfollowed := true, recurses := true, apart := false, narrowed := true }
def PastGrowsUptoSaid : Prop := pastGrowsUptoRow.holds Try.pinned (OpenSpec.upto pastGrowsSpec)

/-- 'butterylaw16.PastTwice', WHERE WHAT IT READS IS OF BULK AT MOST 1048576: true; the input reads as it did. -/
def pastTwiceUptoRow : OpenClaim := { program := "ytajfliemmfdnhaa", sum := "c58766792eec1d84906a710c692359049f36034115d7d484703e675681f8c8b1", func := "buttery/butterylaw16.PastTwice", spec := "pastTwice", unfollowed := true, recurses := true, apart := false, narrowed := true }
def PastTwiceUptoSaid : Prop := pastTwiceUptoRow.holds Try.pinned (OpenSpec.upto pastTwiceSpec)

end Rows
end Go.Proofs.Ytajfliemmfdnhaa
