/-
  No cell of these rows narrows 'for every input' (looked for: loops, veiled, ifaces, maps, wideKeys, modest, calm, conditions, laid).
  DERIVED. THE GIVEN ROWS OF THIS SEAT. 5 by the template 'for every input the law returns true; each argument reads behind the call as it read before'; 0 by the template 'total and deterministic' (their statements: YtklgnmhbfdjoeaaTotals.lean).
  GIVEN WITH THE SEED: the statements are not yours to turn. If you find one false, say at which input.
  Laid BY PROGRAM, IN A SANDBOX (cutbox-rows.mjs): the forced cells as the released guide's own fill.sh prints them over the translation fefc58baa57b993c… (all of the seat's roots in one cut). By AI agents, Wed Nov 11 2026. No macro, syntax, notation, axiom, sorry.
-/
import Derived.Test.YtklgnmhbfdjoeaaChecked
import GoSem.Claim
import GoSem.ClaimJoined
import GoSem.ClaimMapViews
import Derived.JoinedTies
import Derived.KernelRfl
namespace Go.Proofs.Ytklgnmhbfdjoeaa
/- THE CELL 'sum', in the pinned program and in every row, IS THE sha256 OF THE DUMP (.gsa) THAT YtklgnmhbfdjoeaaProg.lean LOADS. Nothing in Lean hashes anything: it is a label: what it is worth is what the hold of that sum in a sandbox is worth. -/
noncomputable def Try.pinned : Pinned := { name := "ytklgnmhbfdjoeaa", sum := "fefc58baa57b993c0d40a6ecdce1cbc95ed79b9df6944685a5695826210229a3", checked := Try.checked }
namespace Rows
def none {H : Type} : Left H := { results := [], args := [] }

/-- 'butterylaw08.ZoneAll': WHATEVER THE INPUT: true; the input reads as it did. -/
def zoneAllSpec : ChangeSpec := { name := "zoneAll", fn := fun _ => fun
  | [d1, d2, d3] => { results := [.lit (.bool true)], args := [d1, d2, d3] }
  | _ => none }
def zoneAllRow : OpenClaim := { program := "ytklgnmhbfdjoeaa", sum := "fefc58baa57b993c0d40a6ecdce1cbc95ed79b9df6944685a5695826210229a3", func := "buttery/butterylaw08.ZoneAll", spec := "zoneAll", unfollowed := true, recurses := true, apart := false }
def ZoneAllSaid : Prop := zoneAllRow.holds Try.pinned (OpenSpec.ofChange zoneAllSpec)

/-- ITS FALSE NEIGHBOUR: 'it returns false'. Refute it at one input. -/
def zoneAllWrong : ChangeSpec := { name := "zoneAll", fn := fun _ => fun
  | [d1, d2, d3] => { results := [.lit (.bool false)], args := [d1, d2, d3] }
  | _ => none }
def ZoneAllWrongFalsely : Prop := zoneAllRow.holds Try.pinned (OpenSpec.ofChange zoneAllWrong)

/-- 'butterylaw08.ZoneCovers': WHATEVER THE INPUT: true; the input reads as it did. -/
def zoneCoversSpec : ChangeSpec := { name := "zoneCovers", fn := fun _ => fun
  | [d1, d2] => { results := [.lit (.bool true)], args := [d1, d2] }
  | _ => none }
def zoneCoversRow : OpenClaim := { program := "ytklgnmhbfdjoeaa", sum := "fefc58baa57b993c0d40a6ecdce1cbc95ed79b9df6944685a5695826210229a3", func := "buttery/butterylaw08.ZoneCovers", spec := "zoneCovers", unfollowed := true, recurses := true, apart := false }
def ZoneCoversSaid : Prop := zoneCoversRow.holds Try.pinned (OpenSpec.ofChange zoneCoversSpec)

/-- ITS FALSE NEIGHBOUR: 'it returns false'. Refute it at one input. -/
def zoneCoversWrong : ChangeSpec := { name := "zoneCovers", fn := fun _ => fun
  | [d1, d2] => { results := [.lit (.bool false)], args := [d1, d2] }
  | _ => none }
def ZoneCoversWrongFalsely : Prop := zoneCoversRow.holds Try.pinned (OpenSpec.ofChange zoneCoversWrong)

/-- 'butterylaw08.ZoneLaws': WHATEVER THE INPUT: true; the input reads as it did. -/
def zoneLawsSpec : ChangeSpec := { name := "zoneLaws", fn := fun _ => fun
  | [d1, d2, d3] => { results := [.lit (.bool true)], args := [d1, d2, d3] }
  | _ => none }
def zoneLawsRow : OpenClaim := { program := "ytklgnmhbfdjoeaa", sum := "fefc58baa57b993c0d40a6ecdce1cbc95ed79b9df6944685a5695826210229a3", func := "buttery/butterylaw08.ZoneLaws", spec := "zoneLaws", unfollowed := true, recurses := true, apart := false }
def ZoneLawsSaid : Prop := zoneLawsRow.holds Try.pinned (OpenSpec.ofChange zoneLawsSpec)

/-- ITS FALSE NEIGHBOUR: 'it returns false'. Refute it at one input. -/
def zoneLawsWrong : ChangeSpec := { name := "zoneLaws", fn := fun _ => fun
  | [d1, d2, d3] => { results := [.lit (.bool false)], args := [d1, d2, d3] }
  | _ => none }
def ZoneLawsWrongFalsely : Prop := zoneLawsRow.holds Try.pinned (OpenSpec.ofChange zoneLawsWrong)

/-- 'butterylaw08.ZoneOne': WHATEVER THE INPUT: true; the input reads as it did. -/
def zoneOneSpec : ChangeSpec := { name := "zoneOne", fn := fun _ => fun
  | [d1, d2] => { results := [.lit (.bool true)], args := [d1, d2] }
  | _ => none }
def zoneOneRow : OpenClaim := { program := "ytklgnmhbfdjoeaa", sum := "fefc58baa57b993c0d40a6ecdce1cbc95ed79b9df6944685a5695826210229a3", func := "buttery/butterylaw08.ZoneOne", spec := "zoneOne", unfollowed := true, recurses := true, apart := false }
def ZoneOneSaid : Prop := zoneOneRow.holds Try.pinned (OpenSpec.ofChange zoneOneSpec)

/-- ITS FALSE NEIGHBOUR: 'it returns false'. Refute it at one input. -/
def zoneOneWrong : ChangeSpec := { name := "zoneOne", fn := fun _ => fun
  | [d1, d2] => { results := [.lit (.bool false)], args := [d1, d2] }
  | _ => none }
def ZoneOneWrongFalsely : Prop := zoneOneRow.holds Try.pinned (OpenSpec.ofChange zoneOneWrong)

/-- 'butterylaw08.ZoneSelf': WHATEVER THE INPUT: true; the input reads as it did. -/
def zoneSelfSpec : ChangeSpec := { name := "zoneSelf", fn := fun _ => fun
  | [d] => { results := [.lit (.bool true)], args := [d] }
  | _ => none }
def zoneSelfRow : OpenClaim := { program := "ytklgnmhbfdjoeaa", sum := "fefc58baa57b993c0d40a6ecdce1cbc95ed79b9df6944685a5695826210229a3", func := "buttery/butterylaw08.ZoneSelf", spec := "zoneSelf", unfollowed := true, recurses := true, apart := false }
def ZoneSelfSaid : Prop := zoneSelfRow.holds Try.pinned (OpenSpec.ofChange zoneSelfSpec)

/-- ITS FALSE NEIGHBOUR: 'it returns false'. Refute it at one input. -/
def zoneSelfWrong : ChangeSpec := { name := "zoneSelf", fn := fun _ => fun
  | [d] => { results := [.lit (.bool false)], args := [d] }
  | _ => none }
def ZoneSelfWrongFalsely : Prop := zoneSelfRow.holds Try.pinned (OpenSpec.ofChange zoneSelfWrong)

/- THE SECOND FORM. 'bulk': how many values and letters a reading holds, each counted each time it is reached (what is shared counts as often as it is met; a slice's spare places count too). A statement '..UptoSaid' is the law's where the arguments, and the package variables that the reading takes, are together of bulk at most 1048576: NARROWER than '..Said'. Prove '..Said' where nothing that the law and all that it calls make is longer than what came in: it says more and counts as full. Else prove '..UptoSaid'. A law counts once. -/
mutual
def uptoBulk {H : Type} : DataW H → Nat
  | .lit (.string bytes) => bytes.length + 1
  | .lit _ => 1
  | .nil => 1
  | .ptr d => uptoBulk d + 1
  | .slice elems spare => uptoBulkAll elems + uptoBulkAll spare + 1
  | .agg parts => uptoBulkAll parts + 1
  | .iface _ d => uptoBulk d + 1
  | .map entries => uptoBulkEntries entries + 1
  | .held _ => 1
def uptoBulkAll {H : Type} : List (DataW H) → Nat
  | [] => 0
  | d :: r => uptoBulk d + uptoBulkAll r
def uptoBulkEntries {H : Type} : List (Lit × DataW H) → Nat
  | [] => 0
  | x :: r => uptoBulkEntry x + uptoBulkEntries r
def uptoBulkEntry {H : Type} : Lit × DataW H → Nat
  | (.string bytes, d) => bytes.length + uptoBulk d + 1
  | (_, d) => uptoBulk d + 1
 end
def uptoSmall : (H : Type) → List (DataW H) → Bool := fun _ ds => decide (uptoBulkAll ds ≤ 1048576)
def OpenSpec.upto (s : _root_.Go.ChangeSpec) : _root_.Go.OpenSpec := { _root_.Go.OpenSpec.ofChange s with cond := some uptoSmall }

/-- 'butterylaw08.ZoneAll', WHERE WHAT IT READS IS OF BULK AT MOST 1048576: true; the input reads as it did. -/
def zoneAllUptoRow : OpenClaim := { program := "ytklgnmhbfdjoeaa", sum := "fefc58baa57b993c0d40a6ecdce1cbc95ed79b9df6944685a5695826210229a3", func := "buttery/butterylaw08.ZoneAll", spec := "zoneAll", unfollowed := true, recurses := true, apart := false, narrowed := true }
def ZoneAllUptoSaid : Prop := zoneAllUptoRow.holds Try.pinned (OpenSpec.upto zoneAllSpec)

/-- 'butterylaw08.ZoneCovers', WHERE WHAT IT READS IS OF BULK AT MOST 1048576: true; the input reads as it did. -/
def zoneCoversUptoRow : OpenClaim := { program := "ytklgnmhbfdjoeaa", sum := "fefc58baa57b993c0d40a6ecdce1cbc95ed79b9df6944685a5695826210229a3", func := "buttery/butterylaw08.ZoneCovers", spec := "zoneCovers", unfollowed := true, recurses := true, apart := false, narrowed := true }
def ZoneCoversUptoSaid : Prop := zoneCoversUptoRow.holds Try.pinned (OpenSpec.upto zoneCoversSpec)

/-- 'butterylaw08.ZoneLaws', WHERE WHAT IT READS IS OF BULK AT MOST 1048576: true; the input reads as it did. -/
def zoneLawsUptoRow : OpenClaim := { program := "ytklgnmhbfdjoeaa", sum := "fefc58baa57b993c0d40a6ecdce1cbc95ed79b9df6944685a5695826210229a3", func := "buttery/butterylaw08.ZoneLaws", spec := "zoneLaws", unfollowed := true, recurses := true, apart := false, narrowed := true }
def ZoneLawsUptoSaid : Prop := zoneLawsUptoRow.holds Try.pinned (OpenSpec.upto zoneLawsSpec)

/-- 'butterylaw08.ZoneOne', WHERE WHAT IT READS IS OF BULK AT MOST 1048576: true; the input reads as it did. -/
def zoneOneUptoRow : OpenClaim := { program := "ytklgnmhbfdjoeaa", sum := "fefc58baa57b993c0d40a6ecdce1cbc95ed79b9df6944685a5695826210229a3", func := "buttery/butterylaw08.ZoneOne", spec := "zoneOne", unfollowed := true, recurses := true, apart := false, narrowed := true }
def ZoneOneUptoSaid : Prop := zoneOneUptoRow.holds Try.pinned (OpenSpec.upto zoneOneSpec)

/-- 'butterylaw08.ZoneSelf', WHERE WHAT IT READS IS OF BULK AT MOST 1048576: true; the input reads as it did. -/
def zoneSelfUptoRow : OpenClaim := { program := "ytklgnmhbfdjoeaa", sum := "fefc58baa57b993c0d40a6ecdce1cbc95ed79b9df6944685a5695826210229a3", func := "buttery/butterylaw08.ZoneSelf", spec := "zoneSelf", unfollowed := true, recurses := true, apart := false, narrowed := true }
def ZoneSelfUptoSaid : Prop := zoneSelfUptoRow.holds Try.pinned (OpenSpec.upto zoneSelfSpec)

end Rows
end Go.Proofs.Ytklgnmhbfdjoeaa
