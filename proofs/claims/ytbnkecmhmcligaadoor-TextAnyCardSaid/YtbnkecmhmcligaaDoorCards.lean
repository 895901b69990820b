/-
  DERIVED. GIVEN WITH THE SEED: THE CARDS: each row of YtbnkecmhmcligaaDoorRows.lean that lists a variable, with what it lists TIED to the program's text (the seventh form; the later family's looks); each row that meets fmt, with fmt's text TOLD by the authors' own Lean function (tested against real Go, not proved from fmt's source: count such statements apart). THE CARD IS WHAT COUNTS. Prove the row's statement (the work); the ties are given (YtbnkecmhmcligaaDoorTie.lean); close each card by the builder's one call (the guide's Derived/Test/ToyasCard.lean, 'card_holds'). Laid BY PROGRAM, IN A SANDBOX (cutbox-door.mjs). By AI agents, Wed Nov 11 2026. No macro, syntax, notation, axiom, sorry.
-/
import Derived.Test.YtbnkecmhmcligaaDoorRows
import GoSem.ClaimSeven
namespace Go.Proofs.YtbnkecmhmcligaaDoor
namespace Rows

/-- THE TIED CARD OF 'toponymlaw25.TextAny'. -/
def textAnyCard : Claim7 := { stood := { row := textAnyRow, standIns := [], harness := (true, "104e3d1c6547392727b169377560b9c5622500c1499c825c2acf53679b001e22"), looks := false }, kinds := [], alts := [], laidByText := true, laidKinds := [.data, .data, .data], laidTests := true, laidLooks := .later }
def TextAnyCardSaid : Prop := Claim7.holds Tryd.pinned (.plain (OpenSpec.ofChange textAnySpec)) textAnyCard

/-- THE TIED CARD OF 'toponymlaw25.TextOne'. -/
def textOneCard : Claim7 := { stood := { row := textOneRow, standIns := [], harness := (true, "104e3d1c6547392727b169377560b9c5622500c1499c825c2acf53679b001e22"), looks := false }, kinds := [], alts := [], laidByText := true, laidKinds := [.data, .data, .data], laidTests := true, laidLooks := .later }
def TextOneCardSaid : Prop := Claim7.holds Tryd.pinned (.plain (OpenSpec.ofChange textOneSpec)) textOneCard

/-- THE SECOND FORM's CARD OF 'toponymlaw25.TextAny'. -/
def textAnyUptoCard : Claim7 := { stood := { row := textAnyUptoRow, standIns := [], harness := (true, "104e3d1c6547392727b169377560b9c5622500c1499c825c2acf53679b001e22"), looks := false }, kinds := [], alts := [], laidByText := true, laidKinds := [.data, .data, .data], laidTests := true, laidLooks := .later }
def TextAnyUptoCardSaid : Prop := Claim7.holds Tryd.pinned (.plain (OpenSpec.upto textAnySpec)) textAnyUptoCard

/-- THE SECOND FORM's CARD OF 'toponymlaw25.TextOne'. -/
def textOneUptoCard : Claim7 := { stood := { row := textOneUptoRow, standIns := [], harness := (true, "104e3d1c6547392727b169377560b9c5622500c1499c825c2acf53679b001e22"), looks := false }, kinds := [], alts := [], laidByText := true, laidKinds := [.data, .data, .data], laidTests := true, laidLooks := .later }
def TextOneUptoCardSaid : Prop := Claim7.holds Tryd.pinned (.plain (OpenSpec.upto textOneSpec)) textOneUptoCard
end Rows
end Go.Proofs.YtbnkecmhmcligaaDoor
