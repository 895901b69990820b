/-
  DERIVED. GIVEN WITH THE SEED: THE CARDS: each row of YtoohhoillblaoaaDoorRows.lean that lists a variable, with what it lists TIED to the program's text (the seventh form; the later family's looks); each row that meets fmt, with fmt's text TOLD by the authors' own Lean function (tested against real Go, not proved from fmt's source: count such statements apart). THE CARD IS WHAT COUNTS. Prove the row's statement (the work); the ties are given (YtoohhoillblaoaaDoorTie.lean); close each card by the builder's one call (the guide's Derived/Test/ToyasCard.lean, 'card_holds'). Laid BY PROGRAM, IN A SANDBOX (cutbox-door.mjs). By AI agents, Wed Nov 11 2026. No macro, syntax, notation, axiom, sorry.
-/
import Derived.Test.YtoohhoillblaoaaDoorRows
import GoSem.ClaimSeven
namespace Go.Proofs.YtoohhoillblaoaaDoor
namespace Rows

/-- THE TIED CARD OF 'toponymlaw3.TypeAny'. -/
def typeAnyCard : Claim7 := { stood := { row := typeAnyRow, standIns := [], harness := (true, "7927a14fcc5779b9990407eccecfb6a37dceda814ad8ea51ca1237c29c3af34c"), looks := false }, kinds := [], alts := [], laidByText := true, laidKinds := [.data, .data, .data], laidTests := true, laidLooks := .later }
def TypeAnyCardSaid : Prop := Claim7.holds Tryd.pinned (.plain (OpenSpec.ofChange typeAnySpec)) typeAnyCard

/-- THE TIED CARD OF 'toponymlaw3.TypeCase'. -/
def typeCaseCard : Claim7 := { stood := { row := typeCaseRow, standIns := [], harness := (true, "7927a14fcc5779b9990407eccecfb6a37dceda814ad8ea51ca1237c29c3af34c"), looks := false }, kinds := [], alts := [], laidByText := true, laidKinds := [.data, .data, .data], laidTests := true, laidLooks := .later }
def TypeCaseCardSaid : Prop := Claim7.holds Tryd.pinned (.plain (OpenSpec.ofChange typeCaseSpec)) typeCaseCard

/-- THE SECOND FORM's CARD OF 'toponymlaw3.TypeAny'. -/
def typeAnyUptoCard : Claim7 := { stood := { row := typeAnyUptoRow, standIns := [], harness := (true, "7927a14fcc5779b9990407eccecfb6a37dceda814ad8ea51ca1237c29c3af34c"), looks := false }, kinds := [], alts := [], laidByText := true, laidKinds := [.data, .data, .data], laidTests := true, laidLooks := .later }
def TypeAnyUptoCardSaid : Prop := Claim7.holds Tryd.pinned (.plain (OpenSpec.upto typeAnySpec)) typeAnyUptoCard

/-- THE SECOND FORM's CARD OF 'toponymlaw3.TypeCase'. -/
def typeCaseUptoCard : Claim7 := { stood := { row := typeCaseUptoRow, standIns := [], harness := (true, "7927a14fcc5779b9990407eccecfb6a37dceda814ad8ea51ca1237c29c3af34c"), looks := false }, kinds := [], alts := [], laidByText := true, laidKinds := [.data, .data, .data], laidTests := true, laidLooks := .later }
def TypeCaseUptoCardSaid : Prop := Claim7.holds Tryd.pinned (.plain (OpenSpec.upto typeCaseSpec)) typeCaseUptoCard
end Rows
end Go.Proofs.YtoohhoillblaoaaDoor
