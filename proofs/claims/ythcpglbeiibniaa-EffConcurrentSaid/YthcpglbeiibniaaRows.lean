/-
  No cell of these rows narrows 'for every input' (looked for: loops, veiled, ifaces, maps, wideKeys, modest, calm, conditions, laid).
  DERIVED. THE GIVEN ROWS OF THIS SEAT. 2 by the template 'for every input the law returns true; each argument reads behind the call as it read before'; 0 by the template 'total and deterministic' (their statements: YthcpglbeiibniaaTotals.lean).
  GIVEN WITH THE SEED: the statements are not yours to turn. If you find one false, say at which input.
  Laid BY PROGRAM, IN A SANDBOX (cutbox-rows.mjs): the forced cells as the released guide's own fill.sh prints them over the translation cc18be71c7451ea3… (all of the seat's roots in one cut). By AI agents, Wed Nov 11 2026. No macro, syntax, notation, axiom, sorry.
-/
import Derived.Test.YthcpglbeiibniaaChecked
import GoSem.Claim
import GoSem.ClaimJoined
import GoSem.ClaimMapViews
import Derived.JoinedTies
import Derived.KernelRfl
namespace Go.Proofs.Ythcpglbeiibniaa
/- THE CELL 'sum', in the pinned program and in every row, IS THE sha256 OF THE DUMP (.gsa) THAT YthcpglbeiibniaaProg.lean LOADS. Nothing in Lean hashes anything: it is a label: what it is worth is what the hold of that sum in a sandbox is worth. -/
noncomputable def Try.pinned : Pinned := { name := "ythcpglbeiibniaa", sum := "cc18be71c7451ea395eaa083e9973e74d829d4a952afae56a86be421ef540ba9", checked := Try.checked }
namespace Rows
def none {H : Type} : Left H := { results := [], args := [] }

/-- 'butterylaw10.EffConcurrent': WHATEVER THE INPUT: true; the input reads as it did. -/
def effConcurrentSpec : ChangeSpec := { name := "effConcurrent", fn := fun _ => fun
  | [d1, d2, d3, d4, d5, d6, d7] => { results := [.lit (.bool true)], args := [d1, d2, d3, d4, d5, d6, d7] }
  | _ => none }
def effConcurrentRow : OpenClaim := { program := "ythcpglbeiibniaa", sum := "cc18be71c7451ea395eaa083e9973e74d829d4a952afae56a86be421ef540ba9", func := "buttery/butterylaw10.EffConcurrent", spec := "effConcurrent", inPlace := ["internal/bytealg.abigen_runtime_cmpstring"], unfollowed := true, recurses := true, plainKeys := false, apart := false }
def EffConcurrentSaid : Prop := effConcurrentRow.holds Try.pinned (OpenSpec.ofChange effConcurrentSpec)

/-- ITS FALSE NEIGHBOUR: 'it returns false'. Refute it at one input. -/
def effConcurrentWrong : ChangeSpec := { name := "effConcurrent", fn := fun _ => fun
  | [d1, d2, d3, d4, d5, d6, d7] => { results := [.lit (.bool false)], args := [d1, d2, d3, d4, d5, d6, d7] }
  | _ => none }
def EffConcurrentWrongFalsely : Prop := effConcurrentRow.holds Try.pinned (OpenSpec.ofChange effConcurrentWrong)

/-- 'butterylaw10.EffAgain': WHATEVER THE INPUT: true; the input reads as it did. -/
def effAgainSpec : ChangeSpec := { name := "effAgain", fn := fun _ => fun
  | [d1, d2, d3, d4] => { results := [.lit (.bool true)], args := [d1, d2, d3, d4] }
  | _ => none }
def effAgainRow : OpenClaim := { program := "ythcpglbeiibniaa", sum := "cc18be71c7451ea395eaa083e9973e74d829d4a952afae56a86be421ef540ba9", func := "buttery/butterylaw10.EffAgain", spec := "effAgain", inPlace := ["internal/bytealg.abigen_runtime_cmpstring"], unfollowed := true, recurses := true, plainKeys := false, apart := false }
def EffAgainSaid : Prop := effAgainRow.holds Try.pinned (OpenSpec.ofChange effAgainSpec)

/-- ITS FALSE NEIGHBOUR: 'it returns false'. Refute it at one input. -/
def effAgainWrong : ChangeSpec := { name := "effAgain", fn := fun _ => fun
  | [d1, d2, d3, d4] => { results := [.lit (.bool false)], args := [d1, d2, d3, d4] }
  | _ => none }
def EffAgainWrongFalsely : Prop := effAgainRow.holds Try.pinned (OpenSpec.ofChange effAgainWrong)

/- THE SECOND FORM. 'bulk': how many values and letters a reading holds, each counted each time it is reached (what is shared counts as often as it is met; a slice's spare places count too). A statement '..UptoSaid' is the law's where the arguments, and the package variables that the reading takes, are together of bulk at most 1048576: NARROWER than '..Said'. Prove '..Said' where nothing that the law and all that it calls make is longer than what came in: it says more and counts as full. Else prove '..UptoSaid'. A law counts once. -/
mutual
def uptoBulk {H : Type} : DataW H → Nat
  | .lit (.string bytes) => bytes.length + 1
  | .lit _ => 1
  | .nil => 1
  | .ptr d => uptoBulk d + 1
  | .slice elems spare => uptoBulkAll elems + uptoBulkAll spare + 1
  | .agg parts => uptoBulkAll parts + 1
  | .iface _ d => uptoBulk d + 1
  | .map entries => uptoBulkEntries entries + 1
  | .held _ => 1
def uptoBulkAll {H : Type} : List (DataW H) → Nat
  | [] => 0
  | d :: r => uptoBulk d + uptoBulkAll r
def uptoBulkEntries {H : Type} : List (Lit × DataW H) → Nat
  | [] => 0
  | x :: r => uptoBulkEntry x + uptoBulkEntries r
def uptoBulkEntry {H : Type} : Lit × DataW H → Nat
  | (.string bytes, d) => bytes.length + uptoBulk d + 1
  | (_, d) => uptoBulk d + 1
 end
def uptoSmall : (H : Type) → List (DataW H) → Bool := fun _ ds => decide (uptoBulkAll ds ≤ 1048576)
def OpenSpec.upto (s : _root_.Go.ChangeSpec) : _root_.Go.OpenSpec := { _root_.Go.OpenSpec.ofChange s with cond := some uptoSmall }

/-- 'butterylaw10.EffConcurrent', WHERE WHAT IT READS IS OF BULK AT MOST 1048576: true; the input reads as it did. -/
def effConcurrentUptoRow : OpenClaim := { program := "ythcpglbeiibniaa", sum := "cc18be71c7451ea395eaa083e9973e74d829d4a952afae56a86be421ef540ba9", func := "buttery/butterylaw10.EffConcurrent", spec := "effConcurrent", inPlace := ["internal/bytealg.abigen_runtime_cmpstring"], unfollowed := true, recurses := true, plainKeys := false, apart := false, narrowed := true }
def EffConcurrentUptoSaid : Prop := effConcurrentUptoRow.holds Try.pinned (OpenSpec.upto effConcurrentSpec)

/-- 'butterylaw10.EffAgain', WHERE WHAT IT READS IS OF BULK AT MOST 1048576: true; the input reads as it did. -/
def effAgainUptoRow : OpenClaim := { program := "ythcpglbeiibniaa", sum := "cc18be71c7451ea395eaa083e9973e74d829d4a952afae56a86be421ef540ba9", func := "buttery/butterylaw10.EffAgain", spec := "effAgain", inPlace := ["internal/bytealg.abigen_runtime_cmpstring"], unfollowed := true, recurses := true, plainKeys := false, apart := false, narrowed := true }
def EffAgainUptoSaid : Prop := effAgainUptoRow.holds Try.pinned (OpenSpec.upto effAgainSpec)

end Rows
end Go.Proofs.Ythcpglbeiibniaa
