/-
  No cell of these rows narrows 'for every input' (looked for: loops, veiled, ifaces, maps, wideKeys, modest, calm, conditions, laid).
  DERIVED. THE GIVEN ROWS OF THIS SEAT. 5 by the template 'for every input the law returns true; each argument reads behind the call as it read before'; 0 by the template 'total and deterministic' (their statements: YteppgeiejknhoaaTotals.lean).
  GIVEN WITH THE SEED: the statements are not yours to turn. If you find one false, say at which input.
  Laid BY PROGRAM, IN A SANDBOX (cutbox-rows.mjs): the forced cells as the released guide's own fill.sh prints them over the translation 7930de5d1be63692… (all of the seat's roots in one cut). By AI agents, Wed Nov 11 2026. No macro, syntax, notation, axiom, sorry.
-/
import Derived.Test.YteppgeiejknhoaaChecked
import GoSem.Claim
import GoSem.ClaimJoined
import GoSem.ClaimMapViews
import Derived.JoinedTies
import Derived.KernelRfl
namespace Go.Proofs.Yteppgeiejknhoaa
/- THE CELL 'sum', in the pinned program and in every row, IS THE sha256 OF THE DUMP (.gsa) THAT YteppgeiejknhoaaProg.lean LOADS. Nothing in Lean hashes anything: it is a label: what it is worth is what the hold of that sum in a sandbox is worth. -/
noncomputable def Try.pinned : Pinned := { name := "yteppgeiejknhoaa", sum := "7930de5d1be63692e15b97beccd03ef05b5cae2c4ae8efb5e7e5b4525af3d564", checked := Try.checked }
namespace Rows
def none {H : Type} : Left H := { results := [], args := [] }

/-- 'toponymlaw12.ZoneWays': WHATEVER THE INPUT: true; the input reads as it did. -/
def zoneWaysSpec : ChangeSpec := { name := "zoneWays", fn := fun _ => fun
  | [d1, d2, d3] => { results := [.lit (.bool true)], args := [d1, d2, d3] }
  | _ => none }
def zoneWaysRow : OpenClaim := { program := "yteppgeiejknhoaa", sum := "7930de5d1be63692e15b97beccd03ef05b5cae2c4ae8efb5e7e5b4525af3d564", func := "toponym/toponymlaw12.ZoneWays", spec := "zoneWays", unfollowed := true, recurses := true, apart := false }
def ZoneWaysSaid : Prop := zoneWaysRow.holds Try.pinned (OpenSpec.ofChange zoneWaysSpec)

/-- ITS FALSE NEIGHBOUR: 'it returns false'. Refute it at one input. -/
def zoneWaysWrong : ChangeSpec := { name := "zoneWays", fn := fun _ => fun
  | [d1, d2, d3] => { results := [.lit (.bool false)], args := [d1, d2, d3] }
  | _ => none }
def ZoneWaysWrongFalsely : Prop := zoneWaysRow.holds Try.pinned (OpenSpec.ofChange zoneWaysWrong)

/-- 'toponymlaw12.ZoneWild': WHATEVER THE INPUT: true; the input reads as it did. -/
def zoneWildSpec : ChangeSpec := { name := "zoneWild", fn := fun _ => fun
  | [d1, d2, d3, d4] => { results := [.lit (.bool true)], args := [d1, d2, d3, d4] }
  | _ => none }
def zoneWildRow : OpenClaim := { program := "yteppgeiejknhoaa", sum := "7930de5d1be63692e15b97beccd03ef05b5cae2c4ae8efb5e7e5b4525af3d564", func := "toponym/toponymlaw12.ZoneWild", spec := "zoneWild", unfollowed := true, recurses := true, apart := false }
def ZoneWildSaid : Prop := zoneWildRow.holds Try.pinned (OpenSpec.ofChange zoneWildSpec)

/-- ITS FALSE NEIGHBOUR: 'it returns false'. Refute it at one input. -/
def zoneWildWrong : ChangeSpec := { name := "zoneWild", fn := fun _ => fun
  | [d1, d2, d3, d4] => { results := [.lit (.bool false)], args := [d1, d2, d3, d4] }
  | _ => none }
def ZoneWildWrongFalsely : Prop := zoneWildRow.holds Try.pinned (OpenSpec.ofChange zoneWildWrong)

/-- 'toponymlaw12.ZoneAgain': WHATEVER THE INPUT: true; the input reads as it did. -/
def zoneAgainSpec : ChangeSpec := { name := "zoneAgain", fn := fun _ => fun
  | [d1, d2, d3, d4] => { results := [.lit (.bool true)], args := [d1, d2, d3, d4] }
  | _ => none }
def zoneAgainRow : OpenClaim := { program := "yteppgeiejknhoaa", sum := "7930de5d1be63692e15b97beccd03ef05b5cae2c4ae8efb5e7e5b4525af3d564", func := "toponym/toponymlaw12.ZoneAgain", spec := "zoneAgain", unfollowed := true, recurses := true, apart := false }
def ZoneAgainSaid : Prop := zoneAgainRow.holds Try.pinned (OpenSpec.ofChange zoneAgainSpec)

/-- ITS FALSE NEIGHBOUR: 'it returns false'. Refute it at one input. -/
def zoneAgainWrong : ChangeSpec := { name := "zoneAgain", fn := fun _ => fun
  | [d1, d2, d3, d4] => { results := [.lit (.bool false)], args := [d1, d2, d3, d4] }
  | _ => none }
def ZoneAgainWrongFalsely : Prop := zoneAgainRow.holds Try.pinned (OpenSpec.ofChange zoneAgainWrong)

/-- 'toponymlaw13.CheckGrows': WHATEVER THE INPUT: true; the input reads as it did. -/
def checkGrowsSpec : ChangeSpec := { name := "checkGrows", fn := fun _ => fun
  | [d1, d2, d3] => { results := [.lit (.bool true)], args := [d1, d2, d3] }
  | _ => none }
def checkGrowsRow : OpenClaim := { program := "yteppgeiejknhoaa", sum := "7930de5d1be63692e15b97beccd03ef05b5cae2c4ae8efb5e7e5b4525af3d564", func := "toponym/toponymlaw13.CheckGrows", spec := "checkGrows", unfollowed := true, recurses := true, apart := false }
def CheckGrowsSaid : Prop := checkGrowsRow.holds Try.pinned (OpenSpec.ofChange checkGrowsSpec)

/-- ITS FALSE NEIGHBOUR: 'it returns false'. Refute it at one input. -/
def checkGrowsWrong : ChangeSpec := { name := "checkGrows", fn := fun _ => fun
  | [d1, d2, d3] => { results := [.lit (.bool false)], args := [d1, d2, d3] }
  | _ => none }
def CheckGrowsWrongFalsely : Prop := checkGrowsRow.holds Try.pinned (OpenSpec.ofChange checkGrowsWrong)

/-- 'toponymlaw13.CheckStands': WHATEVER THE INPUT: true; the input reads as it did. -/
def checkStandsSpec : ChangeSpec := { name := "checkStands", fn := fun _ => fun
  | [d1, d2] => { results := [.lit (.bool true)], args := [d1, d2] }
  | _ => none }
def checkStandsRow : OpenClaim := { program := "yteppgeiejknhoaa", sum := "7930de5d1be63692e15b97beccd03ef05b5cae2c4ae8efb5e7e5b4525af3d564", func := "toponym/toponymlaw13.CheckStands", spec := "checkStands", unfollowed := true, recurses := true, apart := false }
def CheckStandsSaid : Prop := checkStandsRow.holds Try.pinned (OpenSpec.ofChange checkStandsSpec)

/-- ITS FALSE NEIGHBOUR: 'it returns false'. Refute it at one input. -/
def checkStandsWrong : ChangeSpec := { name := "checkStands", fn := fun _ => fun
  | [d1, d2] => { results := [.lit (.bool false)], args := [d1, d2] }
  | _ => none }
def CheckStandsWrongFalsely : Prop := checkStandsRow.holds Try.pinned (OpenSpec.ofChange checkStandsWrong)

/- THE SECOND FORM. 'bulk': how many values and letters a reading holds, each counted each time it is reached (what is shared counts as often as it is met; a slice's spare places count too). A statement '..UptoSaid' is the law's where the arguments, and the package variables that the reading takes, are together of bulk at most 1048576: NARROWER than '..Said'. Prove '..Said' where nothing that the law and all that it calls make is longer than what came in: it says more and counts as full. Else prove '..UptoSaid'. A law counts once. -/
mutual
def uptoBulk {H : Type} : DataW H → Nat
  | .lit (.string bytes) => bytes.length + 1
  | .lit _ => 1
  | .nil => 1
  | .ptr d => uptoBulk d + 1
  | .slice elems spare => uptoBulkAll elems + uptoBulkAll spare + 1
  | .agg parts => uptoBulkAll parts + 1
  | .iface _ d => uptoBulk d + 1
  | .map entries => uptoBulkEntries entries + 1
  | .held _ => 1
def uptoBulkAll {H : Type} : List (DataW H) → Nat
  | [] => 0
  | d :: r => uptoBulk d + uptoBulkAll r
def uptoBulkEntries {H : Type} : List (Lit × DataW H) → Nat
  | [] => 0
  | x :: r => uptoBulkEntry x + uptoBulkEntries r
def uptoBulkEntry {H : Type} : Lit × DataW H → Nat
  | (.string bytes, d) => bytes.length + uptoBulk d + 1
  | (_, d) => uptoBulk d + 1
 end
def uptoSmall : (H : Type) → List (DataW H) → Bool := fun _ ds => decide (uptoBulkAll ds ≤ 1048576)
def OpenSpec.upto (s : _root_.Go.ChangeSpec) : _root_.Go.OpenSpec := { _root_.Go.OpenSpec.ofChange s with cond := some uptoSmall }

/-- 'toponymlaw12.ZoneWays', WHERE WHAT IT READS IS OF BULK AT MOST 1048576: true; the input reads as it did. -/
def zoneWaysUptoRow : OpenClaim := { program := "yteppgeiejknhoaa", sum := "7930de5d1be63692e15b97beccd03ef05b5cae2c4ae8efb5e7e5b4525af3d564", func := "toponym/toponymlaw12.ZoneWays", spec := "zoneWays", unfollowed := true, recurses := true, apart := false, narrowed := true }
def ZoneWaysUptoSaid : Prop := zoneWaysUptoRow.holds Try.pinned (OpenSpec.upto zoneWaysSpec)

/-- 'toponymlaw12.ZoneWild', WHERE WHAT IT READS IS OF BULK AT MOST 1048576: true; the input reads as it did. -/
def zoneWildUptoRow : OpenClaim := { program := "yteppgeiejknhoaa", sum := "7930de5d1be63692e15b97beccd03ef05b5cae2c4ae8efb5e7e5b4525af3d564", func := "toponym/toponymlaw12.ZoneWild", spec := "zoneWild", unfollowed := true, recurses := true, apart := false, narrowed := true }
def ZoneWildUptoSaid : Prop := zoneWildUptoRow.holds Try.pinned (OpenSpec.upto zoneWildSpec)

/-- 'toponymlaw12.ZoneAgain', WHERE WHAT IT READS IS OF BULK AT MOST 1048576: true; the input reads as it did. -/
def zoneAgainUptoRow : OpenClaim := { program := "yteppgeiejknhoaa", sum := "7930de5d1be63692e15b97beccd03ef05b5cae2c4ae8efb5e7e5b4525af3d564", func := "toponym/toponymlaw12.ZoneAgain", spec := "zoneAgain", unfollowed := true, recurses := true, apart := false, narrowed := true }
def ZoneAgainUptoSaid : Prop := zoneAgainUptoRow.holds Try.pinned (OpenSpec.upto zoneAgainSpec)

/-- 'toponymlaw13.CheckGrows', WHERE WHAT IT READS IS OF BULK AT MOST 1048576: true; the input reads as it did. -/
def checkGrowsUptoRow : OpenClaim := { program := "yteppgeiejknhoaa", sum := "7930de5d1be63692e15b97beccd03ef05b5cae2c4ae8efb5e7e5b4525af3d564", func := "toponym/toponymlaw13.CheckGrows", spec := "checkGrows", unfollowed := true, recurses := true, apart := false, narrowed := true }
def CheckGrowsUptoSaid : Prop := checkGrowsUptoRow.holds Try.pinned (OpenSpec.upto checkGrowsSpec)

/-- 'toponymlaw13.CheckStands', WHERE WHAT IT READS IS OF BULK AT MOST 1048576: true; the input reads as it did. -/
def checkStandsUptoRow : OpenClaim := { program := "yteppgeiejknhoaa", sum := "7930de5d1be63692e15b97beccd03ef05b5cae2c4ae8efb5e7e5b4525af3d564", func := "toponym/toponymlaw13.CheckStands", spec := "checkStands", unfollowed := true, recurses := true, apart := false, narrowed := true }
def CheckStandsUptoSaid : Prop := checkStandsUptoRow.holds Try.pinned (OpenSpec.upto checkStandsSpec)

end Rows
end Go.Proofs.Yteppgeiejknhoaa
