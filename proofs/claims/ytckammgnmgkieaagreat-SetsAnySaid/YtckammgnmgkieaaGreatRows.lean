/-
  No cell of these rows narrows 'for every input' (looked for: loops, veiled, ifaces, maps, wideKeys, modest, calm, conditions, laid).
  DERIVED. THE GIVEN ROWS OF THIS SEAT. 8 by the template 'for every input the law returns true; each argument reads behind the call as it read before'; 0 by the template 'total and deterministic' (their statements: YtckammgnmgkieaaGreatTotals.lean).
  GIVEN WITH THE SEED: the statements are not yours to turn. If you find one false, say at which input.
  Laid BY PROGRAM, IN A SANDBOX (cutbox-rows.mjs): the forced cells as the released guide's own fill.sh prints them over the translation c7035e28fffd7c6d… (all of the seat's roots in one cut). By AI agents, Wed Nov 11 2026. No macro, syntax, notation, axiom, sorry.
-/
import Derived.Test.YtckammgnmgkieaaGreatChecked
import GoSem.Claim
import GoSem.ClaimJoined
import GoSem.ClaimMapViews
import Derived.JoinedTies
import Derived.KernelRfl
namespace Go.Proofs.YtckammgnmgkieaaGreat
/- THE CELL 'sum', in the pinned program and in every row, IS THE sha256 OF THE DUMP (.gsa) THAT YtckammgnmgkieaaGreatProg.lean LOADS. Nothing in Lean hashes anything: it is a label: what it is worth is what the hold of that sum in a sandbox is worth. -/
noncomputable def Tryz.pinned : Pinned := { name := "ytckammgnmgkieaagreat", sum := "c7035e28fffd7c6d87d1c9bb95f2679f7bb895ba52d60861b710a7658bf27c89", checked := Tryz.checked }
namespace Rows
def none {H : Type} : Left H := { results := [], args := [] }

/-- 'toponymlaw6.SetsAny': WHATEVER THE INPUT: true; the input reads as it did. -/
def setsAnySpec : ChangeSpec := { name := "setsAny", fn := fun _ => fun
  | [d1, d2, d3] => { results := [.lit (.bool true)], args := [d1, d2, d3] }
  | _ => none }
def setsAnyRow : OpenClaim := { program := "ytckammgnmgkieaagreat", sum := "c7035e28fffd7c6d87d1c9bb95f2679f7bb895ba52d60861b710a7658bf27c89", func := "toponym/toponymlaw6.SetsAny", spec := "setsAny", unfollowed := true, recurses := true, apart := false }
def SetsAnySaid : Prop := setsAnyRow.holds Tryz.pinned (OpenSpec.ofChange setsAnySpec)

/-- ITS FALSE NEIGHBOUR: 'it returns false'. Refute it at one input. -/
def setsAnyWrong : ChangeSpec := { name := "setsAny", fn := fun _ => fun
  | [d1, d2, d3] => { results := [.lit (.bool false)], args := [d1, d2, d3] }
  | _ => none }
def SetsAnyWrongFalsely : Prop := setsAnyRow.holds Tryz.pinned (OpenSpec.ofChange setsAnyWrong)

/-- 'toponymlaw12.ZoneAny': WHATEVER THE INPUT: true; the input reads as it did. -/
def zoneAnySpec : ChangeSpec := { name := "zoneAny", fn := fun _ => fun
  | [d1, d2, d3] => { results := [.lit (.bool true)], args := [d1, d2, d3] }
  | _ => none }
def zoneAnyRow : OpenClaim := { program := "ytckammgnmgkieaagreat", sum := "c7035e28fffd7c6d87d1c9bb95f2679f7bb895ba52d60861b710a7658bf27c89", func := "toponym/toponymlaw12.ZoneAny", spec := "zoneAny", unfollowed := true, recurses := true, apart := false }
def ZoneAnySaid : Prop := zoneAnyRow.holds Tryz.pinned (OpenSpec.ofChange zoneAnySpec)

/-- ITS FALSE NEIGHBOUR: 'it returns false'. Refute it at one input. -/
def zoneAnyWrong : ChangeSpec := { name := "zoneAny", fn := fun _ => fun
  | [d1, d2, d3] => { results := [.lit (.bool false)], args := [d1, d2, d3] }
  | _ => none }
def ZoneAnyWrongFalsely : Prop := zoneAnyRow.holds Tryz.pinned (OpenSpec.ofChange zoneAnyWrong)

/-- 'toponymlaw13.CheckZone': WHATEVER THE INPUT: true; the input reads as it did. -/
def checkZoneSpec : ChangeSpec := { name := "checkZone", fn := fun _ => fun
  | [d1, d2] => { results := [.lit (.bool true)], args := [d1, d2] }
  | _ => none }
def checkZoneRow : OpenClaim := { program := "ytckammgnmgkieaagreat", sum := "c7035e28fffd7c6d87d1c9bb95f2679f7bb895ba52d60861b710a7658bf27c89", func := "toponym/toponymlaw13.CheckZone", spec := "checkZone", unfollowed := true, recurses := true, apart := false }
def CheckZoneSaid : Prop := checkZoneRow.holds Tryz.pinned (OpenSpec.ofChange checkZoneSpec)

/-- ITS FALSE NEIGHBOUR: 'it returns false'. Refute it at one input. -/
def checkZoneWrong : ChangeSpec := { name := "checkZone", fn := fun _ => fun
  | [d1, d2] => { results := [.lit (.bool false)], args := [d1, d2] }
  | _ => none }
def CheckZoneWrongFalsely : Prop := checkZoneRow.holds Tryz.pinned (OpenSpec.ofChange checkZoneWrong)

/-- 'toponymlaw14.LookAny': WHATEVER THE INPUT: true; the input reads as it did. -/
def lookAnySpec : ChangeSpec := { name := "lookAny", fn := fun _ => fun
  | [d1, d2, d3, d4] => { results := [.lit (.bool true)], args := [d1, d2, d3, d4] }
  | _ => none }
def lookAnyRow : OpenClaim := { program := "ytckammgnmgkieaagreat", sum := "c7035e28fffd7c6d87d1c9bb95f2679f7bb895ba52d60861b710a7658bf27c89", func := "toponym/toponymlaw14.LookAny", spec := "lookAny", unfollowed := true, recurses := true, apart := false }
def LookAnySaid : Prop := lookAnyRow.holds Tryz.pinned (OpenSpec.ofChange lookAnySpec)

/-- ITS FALSE NEIGHBOUR: 'it returns false'. Refute it at one input. -/
def lookAnyWrong : ChangeSpec := { name := "lookAny", fn := fun _ => fun
  | [d1, d2, d3, d4] => { results := [.lit (.bool false)], args := [d1, d2, d3, d4] }
  | _ => none }
def LookAnyWrongFalsely : Prop := lookAnyRow.holds Tryz.pinned (OpenSpec.ofChange lookAnyWrong)

/-- 'toponymlaw14.LookTwo': WHATEVER THE INPUT: true; the input reads as it did. -/
def lookTwoSpec : ChangeSpec := { name := "lookTwo", fn := fun _ => fun
  | [d1, d2, d3, d4, d5] => { results := [.lit (.bool true)], args := [d1, d2, d3, d4, d5] }
  | _ => none }
def lookTwoRow : OpenClaim := { program := "ytckammgnmgkieaagreat", sum := "c7035e28fffd7c6d87d1c9bb95f2679f7bb895ba52d60861b710a7658bf27c89", func := "toponym/toponymlaw14.LookTwo", spec := "lookTwo", unfollowed := true, recurses := true, apart := false }
def LookTwoSaid : Prop := lookTwoRow.holds Tryz.pinned (OpenSpec.ofChange lookTwoSpec)

/-- ITS FALSE NEIGHBOUR: 'it returns false'. Refute it at one input. -/
def lookTwoWrong : ChangeSpec := { name := "lookTwo", fn := fun _ => fun
  | [d1, d2, d3, d4, d5] => { results := [.lit (.bool false)], args := [d1, d2, d3, d4, d5] }
  | _ => none }
def LookTwoWrongFalsely : Prop := lookTwoRow.holds Tryz.pinned (OpenSpec.ofChange lookTwoWrong)

/-- 'toponymlaw14.LookFolds': WHATEVER THE INPUT: true; the input reads as it did. -/
def lookFoldsSpec : ChangeSpec := { name := "lookFolds", fn := fun _ => fun
  | [d1, d2, d3, d4] => { results := [.lit (.bool true)], args := [d1, d2, d3, d4] }
  | _ => none }
def lookFoldsRow : OpenClaim := { program := "ytckammgnmgkieaagreat", sum := "c7035e28fffd7c6d87d1c9bb95f2679f7bb895ba52d60861b710a7658bf27c89", func := "toponym/toponymlaw14.LookFolds", spec := "lookFolds", unfollowed := true, recurses := true, apart := false }
def LookFoldsSaid : Prop := lookFoldsRow.holds Tryz.pinned (OpenSpec.ofChange lookFoldsSpec)

/-- ITS FALSE NEIGHBOUR: 'it returns false'. Refute it at one input. -/
def lookFoldsWrong : ChangeSpec := { name := "lookFolds", fn := fun _ => fun
  | [d1, d2, d3, d4] => { results := [.lit (.bool false)], args := [d1, d2, d3, d4] }
  | _ => none }
def LookFoldsWrongFalsely : Prop := lookFoldsRow.holds Tryz.pinned (OpenSpec.ofChange lookFoldsWrong)

/-- 'toponymlaw14.LookBelow': WHATEVER THE INPUT: true; the input reads as it did. -/
def lookBelowSpec : ChangeSpec := { name := "lookBelow", fn := fun _ => fun
  | [d1, d2, d3, d4, d5] => { results := [.lit (.bool true)], args := [d1, d2, d3, d4, d5] }
  | _ => none }
def lookBelowRow : OpenClaim := { program := "ytckammgnmgkieaagreat", sum := "c7035e28fffd7c6d87d1c9bb95f2679f7bb895ba52d60861b710a7658bf27c89", func := "toponym/toponymlaw14.LookBelow", spec := "lookBelow", unfollowed := true, recurses := true, apart := false }
def LookBelowSaid : Prop := lookBelowRow.holds Tryz.pinned (OpenSpec.ofChange lookBelowSpec)

/-- ITS FALSE NEIGHBOUR: 'it returns false'. Refute it at one input. -/
def lookBelowWrong : ChangeSpec := { name := "lookBelow", fn := fun _ => fun
  | [d1, d2, d3, d4, d5] => { results := [.lit (.bool false)], args := [d1, d2, d3, d4, d5] }
  | _ => none }
def LookBelowWrongFalsely : Prop := lookBelowRow.holds Tryz.pinned (OpenSpec.ofChange lookBelowWrong)

/-- 'toponymlaw14.LookTypes': WHATEVER THE INPUT: true; the input reads as it did. -/
def lookTypesSpec : ChangeSpec := { name := "lookTypes", fn := fun _ => fun
  | [d1, d2, d3, d4, d5] => { results := [.lit (.bool true)], args := [d1, d2, d3, d4, d5] }
  | _ => none }
def lookTypesRow : OpenClaim := { program := "ytckammgnmgkieaagreat", sum := "c7035e28fffd7c6d87d1c9bb95f2679f7bb895ba52d60861b710a7658bf27c89", func := "toponym/toponymlaw14.LookTypes", spec := "lookTypes", unfollowed := true, recurses := true, apart := false }
def LookTypesSaid : Prop := lookTypesRow.holds Tryz.pinned (OpenSpec.ofChange lookTypesSpec)

/-- ITS FALSE NEIGHBOUR: 'it returns false'. Refute it at one input. -/
def lookTypesWrong : ChangeSpec := { name := "lookTypes", fn := fun _ => fun
  | [d1, d2, d3, d4, d5] => { results := [.lit (.bool false)], args := [d1, d2, d3, d4, d5] }
  | _ => none }
def LookTypesWrongFalsely : Prop := lookTypesRow.holds Tryz.pinned (OpenSpec.ofChange lookTypesWrong)

/- THE SECOND FORM. 'bulk': how many values and letters a reading holds, each counted each time it is reached (what is shared counts as often as it is met; a slice's spare places count too). A statement '..UptoSaid' is the law's where the arguments, and the package variables that the reading takes, are together of bulk at most 1048576: NARROWER than '..Said'. Prove '..Said' where nothing that the law and all that it calls make is longer than what came in: it says more and counts as full. Else prove '..UptoSaid'. A law counts once. -/
mutual
def uptoBulk {H : Type} : DataW H → Nat
  | .lit (.string bytes) => bytes.length + 1
  | .lit _ => 1
  | .nil => 1
  | .ptr d => uptoBulk d + 1
  | .slice elems spare => uptoBulkAll elems + uptoBulkAll spare + 1
  | .agg parts => uptoBulkAll parts + 1
  | .iface _ d => uptoBulk d + 1
  | .map entries => uptoBulkEntries entries + 1
  | .held _ => 1
def uptoBulkAll {H : Type} : List (DataW H) → Nat
  | [] => 0
  | d :: r => uptoBulk d + uptoBulkAll r
def uptoBulkEntries {H : Type} : List (Lit × DataW H) → Nat
  | [] => 0
  | x :: r => uptoBulkEntry x + uptoBulkEntries r
def uptoBulkEntry {H : Type} : Lit × DataW H → Nat
  | (.string bytes, d) => bytes.length + uptoBulk d + 1
  | (_, d) => uptoBulk d + 1
 end
def uptoSmall : (H : Type) → List (DataW H) → Bool := fun _ ds => decide (uptoBulkAll ds ≤ 1048576)
def OpenSpec.upto (s : _root_.Go.ChangeSpec) : _root_.Go.OpenSpec := { _root_.Go.OpenSpec.ofChange s with cond := some uptoSmall }

/-- 'toponymlaw6.SetsAny', WHERE WHAT IT READS IS OF BULK AT MOST 1048576: true; the input reads as it did. -/
def setsAnyUptoRow : OpenClaim := { program := "ytckammgnmgkieaagreat", sum := "c7035e28fffd7c6d87d1c9bb95f2679f7bb895ba52d60861b710a7658bf27c89", func := "toponym/toponymlaw6.SetsAny", spec := "setsAny", unfollowed := true, recurses := true, apart := false, narrowed := true }
def SetsAnyUptoSaid : Prop := setsAnyUptoRow.holds Tryz.pinned (OpenSpec.upto setsAnySpec)

/-- 'toponymlaw12.ZoneAny', WHERE WHAT IT READS IS OF BULK AT MOST 1048576: true; the input reads as it did. -/
def zoneAnyUptoRow : OpenClaim := { program := "ytckammgnmgkieaagreat", sum := "c7035e28fffd7c6d87d1c9bb95f2679f7bb895ba52d60861b710a7658bf27c89", func := "toponym/toponymlaw12.ZoneAny", spec := "zoneAny", unfollowed := true, recurses := true, apart := false, narrowed := true }
def ZoneAnyUptoSaid : Prop := zoneAnyUptoRow.holds Tryz.pinned (OpenSpec.upto zoneAnySpec)

/-- 'toponymlaw13.CheckZone', WHERE WHAT IT READS IS OF BULK AT MOST 1048576: true; the input reads as it did. -/
def checkZoneUptoRow : OpenClaim := { program := "ytckammgnmgkieaagreat", sum := "c7035e28fffd7c6d87d1c9bb95f2679f7bb895ba52d60861b710a7658bf27c89", func := "toponym/toponymlaw13.CheckZone", spec := "checkZone", unfollowed := true, recurses := true, apart := false, narrowed := true }
def CheckZoneUptoSaid : Prop := checkZoneUptoRow.holds Tryz.pinned (OpenSpec.upto checkZoneSpec)

/-- 'toponymlaw14.LookAny', WHERE WHAT IT READS IS OF BULK AT MOST 1048576: true; the input reads as it did. -/
def lookAnyUptoRow : OpenClaim := { program := "ytckammgnmgkieaagreat", sum := "c7035e28fffd7c6d87d1c9bb95f2679f7bb895ba52d60861b710a7658bf27c89", func := "toponym/toponymlaw14.LookAny", spec := "lookAny", unfollowed := true, recurses := true, apart := false, narrowed := true }
def LookAnyUptoSaid : Prop := lookAnyUptoRow.holds Tryz.pinned (OpenSpec.upto lookAnySpec)

/-- 'toponymlaw14.LookTwo', WHERE WHAT IT READS IS OF BULK AT MOST 1048576: true; the input reads as it did. -/
def lookTwoUptoRow : OpenClaim := { program := "ytckammgnmgkieaagreat", sum := "c7035e28fffd7c6d87d1c9bb95f2679f7bb895ba52d60861b710a7658bf27c89", func := "toponym/toponymlaw14.LookTwo", spec := "lookTwo", unfollowed := true, recurses := true, apart := false, narrowed := true }
def LookTwoUptoSaid : Prop := lookTwoUptoRow.holds Tryz.pinned (OpenSpec.upto lookTwoSpec)

/-- 'toponymlaw14.LookFolds', WHERE WHAT IT READS IS OF BULK AT MOST 1048576: true; the input reads as it did. -/
def lookFoldsUptoRow : OpenClaim := { program := "ytckammgnmgkieaagreat", sum := "c7035e28fffd7c6d87d1c9bb95f2679f7bb895ba52d60861b710a7658bf27c89", func := "toponym/toponymlaw14.LookFolds", spec := "lookFolds", unfollowed := true, recurses := true, apart := false, narrowed := true }
def LookFoldsUptoSaid : Prop := lookFoldsUptoRow.holds Tryz.pinned (OpenSpec.upto lookFoldsSpec)

/-- 'toponymlaw14.LookBelow', WHERE WHAT IT READS IS OF BULK AT MOST 1048576: true; the input reads as it did. -/
def lookBelowUptoRow : OpenClaim := { program := "ytckammgnmgkieaagreat", sum := "c7035e28fffd7c6d87d1c9bb95f2679f7bb895ba52d60861b710a7658bf27c89", func := "toponym/toponymlaw14.LookBelow", spec := "lookBelow", unfollowed := true, recurses := true, apart := false, narrowed := true }
def LookBelowUptoSaid : Prop := lookBelowUptoRow.holds Tryz.pinned (OpenSpec.upto lookBelowSpec)

/-- 'toponymlaw14.LookTypes', WHERE WHAT IT READS IS OF BULK AT MOST 1048576: true; the input reads as it did. -/
def lookTypesUptoRow : OpenClaim := { program := "ytckammgnmgkieaagreat", sum := "c7035e28fffd7c6d87d1c9bb95f2679f7bb895ba52d60861b710a7658bf27c89", func := "toponym/toponymlaw14.LookTypes", spec := "lookTypes", unfollowed := true, recurses := true, apart := false, narrowed := true }
def LookTypesUptoSaid : Prop := lookTypesUptoRow.holds Tryz.pinned (OpenSpec.upto lookTypesSpec)

end Rows
end Go.Proofs.YtckammgnmgkieaaGreat
