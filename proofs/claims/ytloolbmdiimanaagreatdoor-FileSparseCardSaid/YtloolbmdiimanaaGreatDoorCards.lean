/-
  DERIVED. GIVEN WITH THE SEED: THE CARDS: each row of YtloolbmdiimanaaGreatDoorRows.lean that lists a variable, with what it lists TIED to the program's text (the seventh form; the later family's looks); each row that meets fmt, with fmt's text TOLD by the authors' own Lean function (tested against real Go, not proved from fmt's source: count such statements apart). THE CARD IS WHAT COUNTS. Prove the row's statement (the work); the ties are given (YtloolbmdiimanaaGreatDoorTie.lean); close each card by the builder's one call (the guide's Derived/Test/ToyasCard.lean, 'card_holds'). Laid BY PROGRAM, IN A SANDBOX (cutbox-door.mjs). By AI agents, Wed Nov 11 2026. No macro, syntax, notation, axiom, sorry.
-/
import Derived.Test.YtloolbmdiimanaaGreatDoorRows
import GoSem.ClaimSeven
namespace Go.Proofs.YtloolbmdiimanaaGreatDoor
namespace Rows

/-- THE TIED CARD OF 'cambiumlaw16.FileSparse'. -/
def fileSparseCard : Claim7 := { stood := { row := fileSparseRow, standIns := [], harness := (true, "76f0ba418decda85ff96f2b56ab517432706dcd4af4b840ce3230d9a509ac346"), looks := false }, kinds := [], alts := [], laidByText := true, laidKinds := [.data, .data, .pinned], laidTests := true, laidLooks := .later }
def FileSparseCardSaid : Prop := Claim7.holds Tryz.pinned (.plain (OpenSpec.ofChange fileSparseSpec)) fileSparseCard

/-- THE TIED CARD OF 'cambiumlaw16.FileBig'. -/
def fileBigCard : Claim7 := { stood := { row := fileBigRow, standIns := [], harness := (true, "76f0ba418decda85ff96f2b56ab517432706dcd4af4b840ce3230d9a509ac346"), looks := false }, kinds := [], alts := [], laidByText := true, laidKinds := [.data, .data, .pinned], laidTests := true, laidLooks := .later }
def FileBigCardSaid : Prop := Claim7.holds Tryz.pinned (.plain (OpenSpec.ofChange fileBigSpec)) fileBigCard

/-- THE SECOND FORM's CARD OF 'cambiumlaw16.FileSparse'. -/
def fileSparseUptoCard : Claim7 := { stood := { row := fileSparseUptoRow, standIns := [], harness := (true, "76f0ba418decda85ff96f2b56ab517432706dcd4af4b840ce3230d9a509ac346"), looks := false }, kinds := [], alts := [], laidByText := true, laidKinds := [.data, .data, .pinned], laidTests := true, laidLooks := .later }
def FileSparseUptoCardSaid : Prop := Claim7.holds Tryz.pinned (.plain (OpenSpec.upto fileSparseSpec)) fileSparseUptoCard

/-- THE SECOND FORM's CARD OF 'cambiumlaw16.FileBig'. -/
def fileBigUptoCard : Claim7 := { stood := { row := fileBigUptoRow, standIns := [], harness := (true, "76f0ba418decda85ff96f2b56ab517432706dcd4af4b840ce3230d9a509ac346"), looks := false }, kinds := [], alts := [], laidByText := true, laidKinds := [.data, .data, .pinned], laidTests := true, laidLooks := .later }
def FileBigUptoCardSaid : Prop := Claim7.holds Tryz.pinned (.plain (OpenSpec.upto fileBigSpec)) fileBigUptoCard
end Rows
end Go.Proofs.YtloolbmdiimanaaGreatDoor
