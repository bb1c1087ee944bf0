/-
  NARROWER THAN 'FOR EVERY INPUT', by the rows' own cells (each row's printed sentence says how): JournalAll: laid · JournalKeeps: laid · JournalSpoilt: laid · JournalMore: laid.
  DERIVED. THE GIVEN ROWS OF THIS SEAT. 4 by the template 'for every input the law returns true; each argument reads behind the call as it read before'; 0 by the template 'total and deterministic' (their statements: YtehlbddcgnclaaaDoorTotals.lean).
  GIVEN WITH THE SEED: the statements are not yours to turn. If you find one false, say at which input.
  Laid BY PROGRAM, IN A SANDBOX (cutbox-rows.mjs): the forced cells as the released guide's own fill.sh prints them over the translation 22f4a166528478fe… (all of the seat's roots in one cut). By AI agents, Wed Nov 11 2026. No macro, syntax, notation, axiom, sorry.
-/
import Derived.Test.YtehlbddcgnclaaaDoorChecked
import GoSem.Claim
import GoSem.ClaimJoined
import GoSem.ClaimMapViews
import Derived.JoinedTies
import Derived.KernelRfl
namespace Go.Proofs.YtehlbddcgnclaaaDoor
/- THE CELL 'sum', in the pinned program and in every row, IS THE sha256 OF THE DUMP (.gsa) THAT YtehlbddcgnclaaaDoorProg.lean LOADS. Nothing in Lean hashes anything: it is a label: what it is worth is what the hold of that sum in a sandbox is worth. -/
noncomputable def Tryd.pinned : Pinned := { name := "ytehlbddcgnclaaadoor", sum := "22f4a166528478fe5aaec372632a2f549c9bfe204fe4aa4b4f4db81ac54cdb20", checked := Tryd.checked }
namespace Rows
def none {H : Type} : Left H := { results := [], args := [] }

/- WHAT THE LISTED PACKAGE-LEVEL VARIABLES READ AS WHEN THE CALL BEGINS. Each datum BY PROGRAM (the guide's laid-datum.mjs) off the statement by which the dump's own 'gosem.cut.vars' lays the variable. In a bare row this is a premise. The card (YtehlbddcgnclaaaDoorCards.lean) ties it to the program's text. -/
def laid_buttery_crc_halves {H : Type} : DataW H := .agg [.lit (.int .u32 0), .lit (.int .u32 498536548), .lit (.int .u32 997073096), .lit (.int .u32 651767980), .lit (.int .u32 1994146192), .lit (.int .u32 1802195444), .lit (.int .u32 1303535960), .lit (.int .u32 1342533948), .lit (.int .u32 3988292384), .lit (.int .u32 4027552580), .lit (.int .u32 3604390888), .lit (.int .u32 3412177804), .lit (.int .u32 2607071920), .lit (.int .u32 2262029012), .lit (.int .u32 2685067896), .lit (.int .u32 3183342108)]

/-- 'butterylaw06.JournalAll': WHATEVER THE INPUT: true; the input reads as it did. -/
def journalAllSpec : ChangeSpec := { name := "journalAll", fn := fun _ => fun
  | [d1, d2] => { results := [.lit (.bool true)], args := [d1, d2] }
  | _ => none }
def journalAllRow : OpenClaim := { program := "ytehlbddcgnclaaadoor", sum := "22f4a166528478fe5aaec372632a2f549c9bfe204fe4aa4b4f4db81ac54cdb20", func := "buttery/butterylaw06.JournalAll", spec := "journalAll", named := ["buttery/crc.halves"], apart := false, laid := [("buttery/crc.halves", laid_buttery_crc_halves)] }
def JournalAllSaid : Prop := journalAllRow.holds Tryd.pinned (OpenSpec.ofChange journalAllSpec)

/-- ITS FALSE NEIGHBOUR: 'it returns false'. Refute it at one input. -/
def journalAllWrong : ChangeSpec := { name := "journalAll", fn := fun _ => fun
  | [d1, d2] => { results := [.lit (.bool false)], args := [d1, d2] }
  | _ => none }
def JournalAllWrongFalsely : Prop := journalAllRow.holds Tryd.pinned (OpenSpec.ofChange journalAllWrong)

/-- 'butterylaw06.JournalKeeps': WHATEVER THE INPUT: true; the input reads as it did. -/
def journalKeepsSpec : ChangeSpec := { name := "journalKeeps", fn := fun _ => fun
  | [d] => { results := [.lit (.bool true)], args := [d] }
  | _ => none }
def journalKeepsRow : OpenClaim := { program := "ytehlbddcgnclaaadoor", sum := "22f4a166528478fe5aaec372632a2f549c9bfe204fe4aa4b4f4db81ac54cdb20", func := "buttery/butterylaw06.JournalKeeps", spec := "journalKeeps", named := ["buttery/crc.halves"], apart := false, laid := [("buttery/crc.halves", laid_buttery_crc_halves)] }
def JournalKeepsSaid : Prop := journalKeepsRow.holds Tryd.pinned (OpenSpec.ofChange journalKeepsSpec)

/-- ITS FALSE NEIGHBOUR: 'it returns false'. Refute it at one input. -/
def journalKeepsWrong : ChangeSpec := { name := "journalKeeps", fn := fun _ => fun
  | [d] => { results := [.lit (.bool false)], args := [d] }
  | _ => none }
def JournalKeepsWrongFalsely : Prop := journalKeepsRow.holds Tryd.pinned (OpenSpec.ofChange journalKeepsWrong)

/-- 'butterylaw06.JournalSpoilt': WHATEVER THE INPUT: true; the input reads as it did. -/
def journalSpoiltSpec : ChangeSpec := { name := "journalSpoilt", fn := fun _ => fun
  | [d1, d2, d3, d4, d5] => { results := [.lit (.bool true)], args := [d1, d2, d3, d4, d5] }
  | _ => none }
def journalSpoiltRow : OpenClaim := { program := "ytehlbddcgnclaaadoor", sum := "22f4a166528478fe5aaec372632a2f549c9bfe204fe4aa4b4f4db81ac54cdb20", func := "buttery/butterylaw06.JournalSpoilt", spec := "journalSpoilt", named := ["buttery/crc.halves"], apart := false, laid := [("buttery/crc.halves", laid_buttery_crc_halves)] }
def JournalSpoiltSaid : Prop := journalSpoiltRow.holds Tryd.pinned (OpenSpec.ofChange journalSpoiltSpec)

/-- ITS FALSE NEIGHBOUR: 'it returns false'. Refute it at one input. -/
def journalSpoiltWrong : ChangeSpec := { name := "journalSpoilt", fn := fun _ => fun
  | [d1, d2, d3, d4, d5] => { results := [.lit (.bool false)], args := [d1, d2, d3, d4, d5] }
  | _ => none }
def JournalSpoiltWrongFalsely : Prop := journalSpoiltRow.holds Tryd.pinned (OpenSpec.ofChange journalSpoiltWrong)

/-- 'butterylaw06.JournalMore': WHATEVER THE INPUT: true; the input reads as it did. -/
def journalMoreSpec : ChangeSpec := { name := "journalMore", fn := fun _ => fun
  | [d1, d2, d3] => { results := [.lit (.bool true)], args := [d1, d2, d3] }
  | _ => none }
def journalMoreRow : OpenClaim := { program := "ytehlbddcgnclaaadoor", sum := "22f4a166528478fe5aaec372632a2f549c9bfe204fe4aa4b4f4db81ac54cdb20", func := "buttery/butterylaw06.JournalMore", spec := "journalMore", named := ["buttery/crc.halves"], apart := false, laid := [("buttery/crc.halves", laid_buttery_crc_halves)] }
def JournalMoreSaid : Prop := journalMoreRow.holds Tryd.pinned (OpenSpec.ofChange journalMoreSpec)

/-- ITS FALSE NEIGHBOUR: 'it returns false'. Refute it at one input. -/
def journalMoreWrong : ChangeSpec := { name := "journalMore", fn := fun _ => fun
  | [d1, d2, d3] => { results := [.lit (.bool false)], args := [d1, d2, d3] }
  | _ => none }
def JournalMoreWrongFalsely : Prop := journalMoreRow.holds Tryd.pinned (OpenSpec.ofChange journalMoreWrong)

/- THE SECOND FORM. 'bulk': how many values and letters a reading holds, each counted each time it is reached (what is shared counts as often as it is met; a slice's spare places count too). A statement '..UptoSaid' is the law's where the arguments, and the package variables that the reading takes, are together of bulk at most 1048576: NARROWER than '..Said'. Prove '..Said' where nothing that the law and all that it calls make is longer than what came in: it says more and counts as full. Else prove '..UptoSaid'. A law counts once. -/
mutual
def uptoBulk {H : Type} : DataW H → Nat
  | .lit (.string bytes) => bytes.length + 1
  | .lit _ => 1
  | .nil => 1
  | .ptr d => uptoBulk d + 1
  | .slice elems spare => uptoBulkAll elems + uptoBulkAll spare + 1
  | .agg parts => uptoBulkAll parts + 1
  | .iface _ d => uptoBulk d + 1
  | .map entries => uptoBulkEntries entries + 1
  | .held _ => 1
def uptoBulkAll {H : Type} : List (DataW H) → Nat
  | [] => 0
  | d :: r => uptoBulk d + uptoBulkAll r
def uptoBulkEntries {H : Type} : List (Lit × DataW H) → Nat
  | [] => 0
  | x :: r => uptoBulkEntry x + uptoBulkEntries r
def uptoBulkEntry {H : Type} : Lit × DataW H → Nat
  | (.string bytes, d) => bytes.length + uptoBulk d + 1
  | (_, d) => uptoBulk d + 1
 end
def uptoSmall : (H : Type) → List (DataW H) → Bool := fun _ ds => decide (uptoBulkAll ds ≤ 1048576)
def OpenSpec.upto (s : _root_.Go.ChangeSpec) : _root_.Go.OpenSpec := { _root_.Go.OpenSpec.ofChange s with cond := some uptoSmall }

/-- 'butterylaw06.JournalAll', WHERE WHAT IT READS IS OF BULK AT MOST 1048576: true; the input reads as it did. -/
def journalAllUptoRow : OpenClaim := { program := "ytehlbddcgnclaaadoor", sum := "22f4a166528478fe5aaec372632a2f549c9bfe204fe4aa4b4f4db81ac54cdb20", func := "buttery/butterylaw06.JournalAll", spec := "journalAll", named := ["buttery/crc.halves"], apart := false, laid := [("buttery/crc.halves", laid_buttery_crc_halves)], narrowed := true }
def JournalAllUptoSaid : Prop := journalAllUptoRow.holds Tryd.pinned (OpenSpec.upto journalAllSpec)

/-- 'butterylaw06.JournalKeeps', WHERE WHAT IT READS IS OF BULK AT MOST 1048576: true; the input reads as it did. -/
def journalKeepsUptoRow : OpenClaim := { program := "ytehlbddcgnclaaadoor", sum := "22f4a166528478fe5aaec372632a2f549c9bfe204fe4aa4b4f4db81ac54cdb20", func := "buttery/butterylaw06.JournalKeeps", spec := "journalKeeps", named := ["buttery/crc.halves"], apart := false, laid := [("buttery/crc.halves", laid_buttery_crc_halves)], narrowed := true }
def JournalKeepsUptoSaid : Prop := journalKeepsUptoRow.holds Tryd.pinned (OpenSpec.upto journalKeepsSpec)

/-- 'butterylaw06.JournalSpoilt', WHERE WHAT IT READS IS OF BULK AT MOST 1048576: true; the input reads as it did. -/
def journalSpoiltUptoRow : OpenClaim := { program := "ytehlbddcgnclaaadoor", sum := "22f4a166528478fe5aaec372632a2f549c9bfe204fe4aa4b4f4db81ac54cdb20", func := "buttery/butterylaw06.JournalSpoilt", spec := "journalSpoilt", named := ["buttery/crc.halves"], apart := false, laid := [("buttery/crc.halves", laid_buttery_crc_halves)], narrowed := true }
def JournalSpoiltUptoSaid : Prop := journalSpoiltUptoRow.holds Tryd.pinned (OpenSpec.upto journalSpoiltSpec)

/-- 'butterylaw06.JournalMore', WHERE WHAT IT READS IS OF BULK AT MOST 1048576: true; the input reads as it did. -/
def journalMoreUptoRow : OpenClaim := { program := "ytehlbddcgnclaaadoor", sum := "22f4a166528478fe5aaec372632a2f549c9bfe204fe4aa4b4f4db81ac54cdb20", func := "buttery/butterylaw06.JournalMore", spec := "journalMore", named := ["buttery/crc.halves"], apart := false, laid := [("buttery/crc.halves", laid_buttery_crc_halves)], narrowed := true }
def JournalMoreUptoSaid : Prop := journalMoreUptoRow.holds Tryd.pinned (OpenSpec.upto journalMoreSpec)

end Rows
end Go.Proofs.YtehlbddcgnclaaaDoor
