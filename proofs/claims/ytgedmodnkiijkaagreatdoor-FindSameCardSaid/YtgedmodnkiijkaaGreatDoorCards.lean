/-
  DERIVED. GIVEN WITH THE SEED: THE CARDS: each row of YtgedmodnkiijkaaGreatDoorRows.lean that lists a variable, with what it lists TIED to the program's text (the seventh form; the later family's looks); each row that meets fmt, with fmt's text TOLD by the authors' own Lean function (tested against real Go, not proved from fmt's source: count such statements apart). THE CARD IS WHAT COUNTS. Prove the row's statement (the work); the ties are given (YtgedmodnkiijkaaGreatDoorTie.lean); close each card by the builder's one call (the guide's Derived/Test/ToyasCard.lean, 'card_holds'). Laid BY PROGRAM, IN A SANDBOX (cutbox-door.mjs). By AI agents, Wed Nov 11 2026. No macro, syntax, notation, axiom, sorry.
-/
import Derived.Test.YtgedmodnkiijkaaGreatDoorRows
import GoSem.ClaimSeven
namespace Go.Proofs.YtgedmodnkiijkaaGreatDoor
namespace Rows

/-- THE TIED CARD OF 'cambiumlaw10.FindGets'. -/
def findGetsCard : Claim7 := { stood := { row := findGetsRow, standIns := [], harness := (true, "9372f272532488feb0c1f9cacef96d3a253e3fd76b200854e8bf8df2a0e3881a"), looks := false }, kinds := [], alts := [], laidByText := true, laidKinds := [.data], laidTests := true, laidLooks := .later }
def FindGetsCardSaid : Prop := Claim7.holds Tryz.pinned (.plain (OpenSpec.ofChange findGetsSpec)) findGetsCard

/-- THE TIED CARD OF 'cambiumlaw10.FindScans'. -/
def findScansCard : Claim7 := { stood := { row := findScansRow, standIns := [], harness := (true, "9372f272532488feb0c1f9cacef96d3a253e3fd76b200854e8bf8df2a0e3881a"), looks := false }, kinds := [], alts := [], laidByText := true, laidKinds := [.data], laidTests := true, laidLooks := .later }
def FindScansCardSaid : Prop := Claim7.holds Tryz.pinned (.plain (OpenSpec.ofChange findScansSpec)) findScansCard

/-- THE TIED CARD OF 'cambiumlaw10.FindPaths'. -/
def findPathsCard : Claim7 := { stood := { row := findPathsRow, standIns := [], harness := (true, "9372f272532488feb0c1f9cacef96d3a253e3fd76b200854e8bf8df2a0e3881a"), looks := false }, kinds := [], alts := [], laidByText := true, laidKinds := [.data], laidTests := true, laidLooks := .later }
def FindPathsCardSaid : Prop := Claim7.holds Tryz.pinned (.plain (OpenSpec.ofChange findPathsSpec)) findPathsCard

/-- THE TIED CARD OF 'cambiumlaw10.FindSpoilt'. -/
def findSpoiltCard : Claim7 := { stood := { row := findSpoiltRow, standIns := [], harness := (true, "9372f272532488feb0c1f9cacef96d3a253e3fd76b200854e8bf8df2a0e3881a"), looks := false }, kinds := [], alts := [], laidByText := true, laidKinds := [.data], laidTests := true, laidLooks := .later }
def FindSpoiltCardSaid : Prop := Claim7.holds Tryz.pinned (.plain (OpenSpec.ofChange findSpoiltSpec)) findSpoiltCard

/-- THE TIED CARD OF 'cambiumlaw10.FindRows'. -/
def findRowsCard : Claim7 := { stood := { row := findRowsRow, standIns := [], harness := (true, "9372f272532488feb0c1f9cacef96d3a253e3fd76b200854e8bf8df2a0e3881a"), looks := false }, kinds := [], alts := [], laidByText := true, laidKinds := [.data], laidTests := true, laidLooks := .later }
def FindRowsCardSaid : Prop := Claim7.holds Tryz.pinned (.plain (OpenSpec.ofChange findRowsSpec)) findRowsCard

/-- THE TIED CARD OF 'cambiumlaw10.FindFew'. -/
def findFewCard : Claim7 := { stood := { row := findFewRow, standIns := [], harness := (true, "9372f272532488feb0c1f9cacef96d3a253e3fd76b200854e8bf8df2a0e3881a"), looks := false }, kinds := [], alts := [], laidByText := true, laidKinds := [.data], laidTests := true, laidLooks := .later }
def FindFewCardSaid : Prop := Claim7.holds Tryz.pinned (.plain (OpenSpec.ofChange findFewSpec)) findFewCard

/-- THE TIED CARD OF 'cambiumlaw10.FindSame'. -/
def findSameCard : Claim7 := { stood := { row := findSameRow, standIns := [], harness := (true, "9372f272532488feb0c1f9cacef96d3a253e3fd76b200854e8bf8df2a0e3881a"), looks := false }, kinds := [], alts := [], laidByText := true, laidKinds := [.data], laidTests := true, laidLooks := .later }
def FindSameCardSaid : Prop := Claim7.holds Tryz.pinned (.plain (OpenSpec.ofChange findSameSpec)) findSameCard

/-- THE SECOND FORM's CARD OF 'cambiumlaw10.FindGets'. -/
def findGetsUptoCard : Claim7 := { stood := { row := findGetsUptoRow, standIns := [], harness := (true, "9372f272532488feb0c1f9cacef96d3a253e3fd76b200854e8bf8df2a0e3881a"), looks := false }, kinds := [], alts := [], laidByText := true, laidKinds := [.data], laidTests := true, laidLooks := .later }
def FindGetsUptoCardSaid : Prop := Claim7.holds Tryz.pinned (.plain (OpenSpec.upto findGetsSpec)) findGetsUptoCard

/-- THE SECOND FORM's CARD OF 'cambiumlaw10.FindScans'. -/
def findScansUptoCard : Claim7 := { stood := { row := findScansUptoRow, standIns := [], harness := (true, "9372f272532488feb0c1f9cacef96d3a253e3fd76b200854e8bf8df2a0e3881a"), looks := false }, kinds := [], alts := [], laidByText := true, laidKinds := [.data], laidTests := true, laidLooks := .later }
def FindScansUptoCardSaid : Prop := Claim7.holds Tryz.pinned (.plain (OpenSpec.upto findScansSpec)) findScansUptoCard

/-- THE SECOND FORM's CARD OF 'cambiumlaw10.FindPaths'. -/
def findPathsUptoCard : Claim7 := { stood := { row := findPathsUptoRow, standIns := [], harness := (true, "9372f272532488feb0c1f9cacef96d3a253e3fd76b200854e8bf8df2a0e3881a"), looks := false }, kinds := [], alts := [], laidByText := true, laidKinds := [.data], laidTests := true, laidLooks := .later }
def FindPathsUptoCardSaid : Prop := Claim7.holds Tryz.pinned (.plain (OpenSpec.upto findPathsSpec)) findPathsUptoCard

/-- THE SECOND FORM's CARD OF 'cambiumlaw10.FindSpoilt'. -/
def findSpoiltUptoCard : Claim7 := { stood := { row := findSpoiltUptoRow, standIns := [], harness := (true, "9372f272532488feb0c1f9cacef96d3a253e3fd76b200854e8bf8df2a0e3881a"), looks := false }, kinds := [], alts := [], laidByText := true, laidKinds := [.data], laidTests := true, laidLooks := .later }
def FindSpoiltUptoCardSaid : Prop := Claim7.holds Tryz.pinned (.plain (OpenSpec.upto findSpoiltSpec)) findSpoiltUptoCard

/-- THE SECOND FORM's CARD OF 'cambiumlaw10.FindRows'. -/
def findRowsUptoCard : Claim7 := { stood := { row := findRowsUptoRow, standIns := [], harness := (true, "9372f272532488feb0c1f9cacef96d3a253e3fd76b200854e8bf8df2a0e3881a"), looks := false }, kinds := [], alts := [], laidByText := true, laidKinds := [.data], laidTests := true, laidLooks := .later }
def FindRowsUptoCardSaid : Prop := Claim7.holds Tryz.pinned (.plain (OpenSpec.upto findRowsSpec)) findRowsUptoCard

/-- THE SECOND FORM's CARD OF 'cambiumlaw10.FindFew'. -/
def findFewUptoCard : Claim7 := { stood := { row := findFewUptoRow, standIns := [], harness := (true, "9372f272532488feb0c1f9cacef96d3a253e3fd76b200854e8bf8df2a0e3881a"), looks := false }, kinds := [], alts := [], laidByText := true, laidKinds := [.data], laidTests := true, laidLooks := .later }
def FindFewUptoCardSaid : Prop := Claim7.holds Tryz.pinned (.plain (OpenSpec.upto findFewSpec)) findFewUptoCard

/-- THE SECOND FORM's CARD OF 'cambiumlaw10.FindSame'. -/
def findSameUptoCard : Claim7 := { stood := { row := findSameUptoRow, standIns := [], harness := (true, "9372f272532488feb0c1f9cacef96d3a253e3fd76b200854e8bf8df2a0e3881a"), looks := false }, kinds := [], alts := [], laidByText := true, laidKinds := [.data], laidTests := true, laidLooks := .later }
def FindSameUptoCardSaid : Prop := Claim7.holds Tryz.pinned (.plain (OpenSpec.upto findSameSpec)) findSameUptoCard
end Rows
end Go.Proofs.YtgedmodnkiijkaaGreatDoor
