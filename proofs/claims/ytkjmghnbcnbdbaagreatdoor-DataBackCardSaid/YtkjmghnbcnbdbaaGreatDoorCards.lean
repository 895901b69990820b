/-
  DERIVED. GIVEN WITH THE SEED: THE CARDS: each row of YtkjmghnbcnbdbaaGreatDoorRows.lean that lists a variable, with what it lists TIED to the program's text (the seventh form; the later family's looks); each row that meets fmt, with fmt's text TOLD by the authors' own Lean function (tested against real Go, not proved from fmt's source: count such statements apart). THE CARD IS WHAT COUNTS. Prove the row's statement (the work); the ties are given (YtkjmghnbcnbdbaaGreatDoorTie.lean); close each card by the builder's one call (the guide's Derived/Test/ToyasCard.lean, 'card_holds'). Laid BY PROGRAM, IN A SANDBOX (cutbox-door.mjs). By AI agents, Wed Nov 11 2026. No macro, syntax, notation, axiom, sorry.
-/
import Derived.Test.YtkjmghnbcnbdbaaGreatDoorRows
import GoSem.ClaimSeven
namespace Go.Proofs.YtkjmghnbcnbdbaaGreatDoor
namespace Rows

/-- THE TIED CARD OF 'toponymlaw4.DataAny'. -/
def dataAnyCard : Claim7 := { stood := { row := dataAnyRow, standIns := [], harness := (true, "4b0e4101066faa2f22844b148935ccf71f8902fb7e0510696cee9a9e8c489288"), looks := false }, kinds := [], alts := [], laidByText := true, laidKinds := [.data, .data, .data, .data, .pinned], laidTests := true, laidLooks := .later }
def DataAnyCardSaid : Prop := Claim7.holds Tryz.pinned (.plain (OpenSpec.ofChange dataAnySpec)) dataAnyCard

/-- THE TIED CARD OF 'toponymlaw4.DataTwo'. -/
def dataTwoCard : Claim7 := { stood := { row := dataTwoRow, standIns := [], harness := (true, "4b0e4101066faa2f22844b148935ccf71f8902fb7e0510696cee9a9e8c489288"), looks := false }, kinds := [], alts := [], laidByText := true, laidKinds := [.data, .data, .data, .data, .pinned], laidTests := true, laidLooks := .later }
def DataTwoCardSaid : Prop := Claim7.holds Tryz.pinned (.plain (OpenSpec.ofChange dataTwoSpec)) dataTwoCard

/-- THE TIED CARD OF 'toponymlaw4.DataBack'. -/
def dataBackCard : Claim7 := { stood := { row := dataBackRow, standIns := [], harness := (true, "4b0e4101066faa2f22844b148935ccf71f8902fb7e0510696cee9a9e8c489288"), looks := false }, kinds := [], alts := [], laidByText := true, laidKinds := [.data, .data, .data, .data, .pinned], laidTests := true, laidLooks := .later }
def DataBackCardSaid : Prop := Claim7.holds Tryz.pinned (.plain (OpenSpec.ofChange dataBackSpec)) dataBackCard

/-- THE TIED CARD OF 'toponymlaw4.DataFolds'. -/
def dataFoldsCard : Claim7 := { stood := { row := dataFoldsRow, standIns := [], harness := (true, "4b0e4101066faa2f22844b148935ccf71f8902fb7e0510696cee9a9e8c489288"), looks := false }, kinds := [], alts := [], laidByText := true, laidKinds := [.data, .data, .data, .data, .pinned], laidTests := true, laidLooks := .later }
def DataFoldsCardSaid : Prop := Claim7.holds Tryz.pinned (.plain (OpenSpec.ofChange dataFoldsSpec)) dataFoldsCard

/-- THE SECOND FORM's CARD OF 'toponymlaw4.DataAny'. -/
def dataAnyUptoCard : Claim7 := { stood := { row := dataAnyUptoRow, standIns := [], harness := (true, "4b0e4101066faa2f22844b148935ccf71f8902fb7e0510696cee9a9e8c489288"), looks := false }, kinds := [], alts := [], laidByText := true, laidKinds := [.data, .data, .data, .data, .pinned], laidTests := true, laidLooks := .later }
def DataAnyUptoCardSaid : Prop := Claim7.holds Tryz.pinned (.plain (OpenSpec.upto dataAnySpec)) dataAnyUptoCard

/-- THE SECOND FORM's CARD OF 'toponymlaw4.DataTwo'. -/
def dataTwoUptoCard : Claim7 := { stood := { row := dataTwoUptoRow, standIns := [], harness := (true, "4b0e4101066faa2f22844b148935ccf71f8902fb7e0510696cee9a9e8c489288"), looks := false }, kinds := [], alts := [], laidByText := true, laidKinds := [.data, .data, .data, .data, .pinned], laidTests := true, laidLooks := .later }
def DataTwoUptoCardSaid : Prop := Claim7.holds Tryz.pinned (.plain (OpenSpec.upto dataTwoSpec)) dataTwoUptoCard

/-- THE SECOND FORM's CARD OF 'toponymlaw4.DataBack'. -/
def dataBackUptoCard : Claim7 := { stood := { row := dataBackUptoRow, standIns := [], harness := (true, "4b0e4101066faa2f22844b148935ccf71f8902fb7e0510696cee9a9e8c489288"), looks := false }, kinds := [], alts := [], laidByText := true, laidKinds := [.data, .data, .data, .data, .pinned], laidTests := true, laidLooks := .later }
def DataBackUptoCardSaid : Prop := Claim7.holds Tryz.pinned (.plain (OpenSpec.upto dataBackSpec)) dataBackUptoCard

/-- THE SECOND FORM's CARD OF 'toponymlaw4.DataFolds'. -/
def dataFoldsUptoCard : Claim7 := { stood := { row := dataFoldsUptoRow, standIns := [], harness := (true, "4b0e4101066faa2f22844b148935ccf71f8902fb7e0510696cee9a9e8c489288"), looks := false }, kinds := [], alts := [], laidByText := true, laidKinds := [.data, .data, .data, .data, .pinned], laidTests := true, laidLooks := .later }
def DataFoldsUptoCardSaid : Prop := Claim7.holds Tryz.pinned (.plain (OpenSpec.upto dataFoldsSpec)) dataFoldsUptoCard
end Rows
end Go.Proofs.YtkjmghnbcnbdbaaGreatDoor
