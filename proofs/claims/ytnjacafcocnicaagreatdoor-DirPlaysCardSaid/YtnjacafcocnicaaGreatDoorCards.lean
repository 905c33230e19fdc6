/-
  DERIVED. GIVEN WITH THE SEED: THE CARDS: each row of YtnjacafcocnicaaGreatDoorRows.lean that lists a variable, with what it lists TIED to the program's text (the seventh form; the later family's looks); each row that meets fmt, with fmt's text TOLD by the authors' own Lean function (tested against real Go, not proved from fmt's source: count such statements apart). THE CARD IS WHAT COUNTS. Prove the row's statement (the work); the ties are given (YtnjacafcocnicaaGreatDoorTie.lean); close each card by the builder's one call (the guide's Derived/Test/ToyasCard.lean, 'card_holds'). Laid BY PROGRAM, IN A SANDBOX (cutbox-door.mjs). By AI agents, Wed Nov 11 2026. No macro, syntax, notation, axiom, sorry.
-/
import Derived.Test.YtnjacafcocnicaaGreatDoorRows
import GoSem.ClaimSeven
namespace Go.Proofs.YtnjacafcocnicaaGreatDoor
namespace Rows

/-- THE TIED CARD OF 'cambiumlaw15.DirPlays'. -/
def dirPlaysCard : Claim7 := { stood := { row := dirPlaysRow, standIns := [], harness := (true, "bd9ff4641e014346a9e0f834b82586babf56957c0928e0286c4038dd5e31f6fa"), looks := false }, kinds := [], alts := [], laidByText := true, laidKinds := [.data], laidTests := true, laidLooks := .later }
def DirPlaysCardSaid : Prop := Claim7.holds Tryz.pinned (.plain (OpenSpec.ofChange dirPlaysSpec)) dirPlaysCard

/-- THE TIED CARD OF 'cambiumlaw15.DirItems'. -/
def dirItemsCard : Claim7 := { stood := { row := dirItemsRow, standIns := [], harness := (true, "bd9ff4641e014346a9e0f834b82586babf56957c0928e0286c4038dd5e31f6fa"), looks := false }, kinds := [], alts := [], laidByText := true, laidKinds := [.data], laidTests := true, laidLooks := .later }
def DirItemsCardSaid : Prop := Claim7.holds Tryz.pinned (.plain (OpenSpec.ofChange dirItemsSpec)) dirItemsCard

/-- THE SECOND FORM's CARD OF 'cambiumlaw15.DirPlays'. -/
def dirPlaysUptoCard : Claim7 := { stood := { row := dirPlaysUptoRow, standIns := [], harness := (true, "bd9ff4641e014346a9e0f834b82586babf56957c0928e0286c4038dd5e31f6fa"), looks := false }, kinds := [], alts := [], laidByText := true, laidKinds := [.data], laidTests := true, laidLooks := .later }
def DirPlaysUptoCardSaid : Prop := Claim7.holds Tryz.pinned (.plain (OpenSpec.upto dirPlaysSpec)) dirPlaysUptoCard

/-- THE SECOND FORM's CARD OF 'cambiumlaw15.DirItems'. -/
def dirItemsUptoCard : Claim7 := { stood := { row := dirItemsUptoRow, standIns := [], harness := (true, "bd9ff4641e014346a9e0f834b82586babf56957c0928e0286c4038dd5e31f6fa"), looks := false }, kinds := [], alts := [], laidByText := true, laidKinds := [.data], laidTests := true, laidLooks := .later }
def DirItemsUptoCardSaid : Prop := Claim7.holds Tryz.pinned (.plain (OpenSpec.upto dirItemsSpec)) dirItemsUptoCard
end Rows
end Go.Proofs.YtnjacafcocnicaaGreatDoor
