/-
  DERIVED. GIVEN WITH THE SEED: THE CARDS: each row of YtgalihmmlcnahaaDoorRows.lean that lists a variable, with what it lists TIED to the program's text (the seventh form; the later family's looks); each row that meets fmt, with fmt's text TOLD by the authors' own Lean function (tested against real Go, not proved from fmt's source: count such statements apart). THE CARD IS WHAT COUNTS. Prove the row's statement (the work); the ties are given (YtgalihmmlcnahaaDoorTie.lean); close each card by the builder's one call (the guide's Derived/Test/ToyasCard.lean, 'card_holds'). Laid BY PROGRAM, IN A SANDBOX (cutbox-door.mjs). By AI agents, Wed Nov 11 2026. No macro, syntax, notation, axiom, sorry.
-/
import Derived.Test.YtgalihmmlcnahaaDoorRows
import GoSem.ClaimSeven
namespace Go.Proofs.YtgalihmmlcnahaaDoor
namespace Rows

/-- THE TIED CARD OF 'toponymlaw8.GenRange'. -/
def genRangeCard : Claim7 := { stood := { row := genRangeRow, standIns := [], harness := (true, "b49055ad579c9b968c3429b034b34830a1e8b5c06a9b60c298e8fc72c5d6ff56"), looks := false }, kinds := [], alts := [], laidByText := true, laidKinds := [.data, .data, .data, .data, .pinned, .pinned], laidTests := true, laidLooks := .later }
def GenRangeCardSaid : Prop := Claim7.holds Tryd.pinned (.plain (OpenSpec.ofChange genRangeSpec)) genRangeCard

/-- THE TIED CARD OF 'toponymlaw8.GenNumbers'. -/
def genNumbersCard : Claim7 := { stood := { row := genNumbersRow, standIns := [], harness := (true, "b49055ad579c9b968c3429b034b34830a1e8b5c06a9b60c298e8fc72c5d6ff56"), looks := false }, kinds := [], alts := [], laidByText := true, laidKinds := [.data, .data, .data, .data, .pinned, .pinned], laidTests := true, laidLooks := .later }
def GenNumbersCardSaid : Prop := Claim7.holds Tryd.pinned (.plain (OpenSpec.ofChange genNumbersSpec)) genNumbersCard

/-- THE TIED CARD OF 'toponymlaw8.GenPlain'. -/
def genPlainCard : Claim7 := { stood := { row := genPlainRow, standIns := [], harness := (true, "b49055ad579c9b968c3429b034b34830a1e8b5c06a9b60c298e8fc72c5d6ff56"), looks := false }, kinds := [], alts := [], laidByText := true, laidKinds := [.data, .data, .data, .data, .pinned, .pinned], laidTests := true, laidLooks := .later }
def GenPlainCardSaid : Prop := Claim7.holds Tryd.pinned (.plain (OpenSpec.ofChange genPlainSpec)) genPlainCard

/-- THE SECOND FORM's CARD OF 'toponymlaw8.GenRange'. -/
def genRangeUptoCard : Claim7 := { stood := { row := genRangeUptoRow, standIns := [], harness := (true, "b49055ad579c9b968c3429b034b34830a1e8b5c06a9b60c298e8fc72c5d6ff56"), looks := false }, kinds := [], alts := [], laidByText := true, laidKinds := [.data, .data, .data, .data, .pinned, .pinned], laidTests := true, laidLooks := .later }
def GenRangeUptoCardSaid : Prop := Claim7.holds Tryd.pinned (.plain (OpenSpec.upto genRangeSpec)) genRangeUptoCard

/-- THE SECOND FORM's CARD OF 'toponymlaw8.GenNumbers'. -/
def genNumbersUptoCard : Claim7 := { stood := { row := genNumbersUptoRow, standIns := [], harness := (true, "b49055ad579c9b968c3429b034b34830a1e8b5c06a9b60c298e8fc72c5d6ff56"), looks := false }, kinds := [], alts := [], laidByText := true, laidKinds := [.data, .data, .data, .data, .pinned, .pinned], laidTests := true, laidLooks := .later }
def GenNumbersUptoCardSaid : Prop := Claim7.holds Tryd.pinned (.plain (OpenSpec.upto genNumbersSpec)) genNumbersUptoCard

/-- THE SECOND FORM's CARD OF 'toponymlaw8.GenPlain'. -/
def genPlainUptoCard : Claim7 := { stood := { row := genPlainUptoRow, standIns := [], harness := (true, "b49055ad579c9b968c3429b034b34830a1e8b5c06a9b60c298e8fc72c5d6ff56"), looks := false }, kinds := [], alts := [], laidByText := true, laidKinds := [.data, .data, .data, .data, .pinned, .pinned], laidTests := true, laidLooks := .later }
def GenPlainUptoCardSaid : Prop := Claim7.holds Tryd.pinned (.plain (OpenSpec.upto genPlainSpec)) genPlainUptoCard
end Rows
end Go.Proofs.YtgalihmmlcnahaaDoor
