/-
  DERIVED. GIVEN WITH THE SEED: THE CARDS: each row of YtnnbaihfboacoaaGreatDoorRows.lean that lists a variable, with what it lists TIED to the program's text (the seventh form; the later family's looks); each row that meets fmt, with fmt's text TOLD by the authors' own Lean function (tested against real Go, not proved from fmt's source: count such statements apart). THE CARD IS WHAT COUNTS. Prove the row's statement (the work); the ties are given (YtnnbaihfboacoaaGreatDoorTie.lean); close each card by the builder's one call (the guide's Derived/Test/ToyasCard.lean, 'card_holds'). Laid BY PROGRAM, IN A SANDBOX (cutbox-door.mjs). By AI agents, Wed Nov 11 2026. No macro, syntax, notation, axiom, sorry.
-/
import Derived.Test.YtnnbaihfboacoaaGreatDoorRows
import GoSem.ClaimSeven
namespace Go.Proofs.YtnnbaihfboacoaaGreatDoor
namespace Rows

/-- THE TIED CARD OF 'cambiumlaw11.EditPlays'. -/
def editPlaysCard : Claim7 := { stood := { row := editPlaysRow, standIns := [], harness := (true, "2569fb0a5d63e722cd45fb4713e57d5d28e7a8dafabb6870d4f8466e26ad43d8"), looks := true }, kinds := [], alts := [], laidByText := true, laidKinds := [.data], laidTests := true, laidLooks := .later }
def EditPlaysCardSaid : Prop := Claim7.holds Tryz.pinned (.plain (OpenSpec.ofChange editPlaysSpec)) editPlaysCard

/-- THE TIED CARD OF 'cambiumlaw11.EditGets'. -/
def editGetsCard : Claim7 := { stood := { row := editGetsRow, standIns := [], harness := (true, "2569fb0a5d63e722cd45fb4713e57d5d28e7a8dafabb6870d4f8466e26ad43d8"), looks := true }, kinds := [], alts := [], laidByText := true, laidKinds := [.data], laidTests := true, laidLooks := .later }
def EditGetsCardSaid : Prop := Claim7.holds Tryz.pinned (.plain (OpenSpec.ofChange editGetsSpec)) editGetsCard

/-- THE TIED CARD OF 'cambiumlaw11.EditShared'. -/
def editSharedCard : Claim7 := { stood := { row := editSharedRow, standIns := [], harness := (true, "2569fb0a5d63e722cd45fb4713e57d5d28e7a8dafabb6870d4f8466e26ad43d8"), looks := true }, kinds := [], alts := [], laidByText := true, laidKinds := [.data], laidTests := true, laidLooks := .later }
def EditSharedCardSaid : Prop := Claim7.holds Tryz.pinned (.plain (OpenSpec.ofChange editSharedSpec)) editSharedCard

/-- THE TIED CARD OF 'cambiumlaw11.EditCommitted'. -/
def editCommittedCard : Claim7 := { stood := { row := editCommittedRow, standIns := [], harness := (true, "2569fb0a5d63e722cd45fb4713e57d5d28e7a8dafabb6870d4f8466e26ad43d8"), looks := true }, kinds := [], alts := [], laidByText := true, laidKinds := [.data], laidTests := true, laidLooks := .later }
def EditCommittedCardSaid : Prop := Claim7.holds Tryz.pinned (.plain (OpenSpec.ofChange editCommittedSpec)) editCommittedCard

/-- THE TIED CARD OF 'cambiumlaw11.EditRoom'. -/
def editRoomCard : Claim7 := { stood := { row := editRoomRow, standIns := [], harness := (true, "2569fb0a5d63e722cd45fb4713e57d5d28e7a8dafabb6870d4f8466e26ad43d8"), looks := true }, kinds := [], alts := [], laidByText := true, laidKinds := [.data], laidTests := true, laidLooks := .later }
def EditRoomCardSaid : Prop := Claim7.holds Tryz.pinned (.plain (OpenSpec.ofChange editRoomSpec)) editRoomCard

/-- THE TIED CARD OF 'cambiumlaw11.EditOrder'. -/
def editOrderCard : Claim7 := { stood := { row := editOrderRow, standIns := [], harness := (true, "2569fb0a5d63e722cd45fb4713e57d5d28e7a8dafabb6870d4f8466e26ad43d8"), looks := true }, kinds := [], alts := [], laidByText := true, laidKinds := [.data], laidTests := true, laidLooks := .later }
def EditOrderCardSaid : Prop := Claim7.holds Tryz.pinned (.plain (OpenSpec.ofChange editOrderSpec)) editOrderCard

/-- THE TIED CARD OF 'cambiumlaw11.EditEmpty'. -/
def editEmptyCard : Claim7 := { stood := { row := editEmptyRow, standIns := [], harness := (true, "2569fb0a5d63e722cd45fb4713e57d5d28e7a8dafabb6870d4f8466e26ad43d8"), looks := true }, kinds := [], alts := [], laidByText := true, laidKinds := [.data], laidTests := true, laidLooks := .later }
def EditEmptyCardSaid : Prop := Claim7.holds Tryz.pinned (.plain (OpenSpec.ofChange editEmptySpec)) editEmptyCard

/-- THE SECOND FORM's CARD OF 'cambiumlaw11.EditPlays'. -/
def editPlaysUptoCard : Claim7 := { stood := { row := editPlaysUptoRow, standIns := [], harness := (true, "2569fb0a5d63e722cd45fb4713e57d5d28e7a8dafabb6870d4f8466e26ad43d8"), looks := true }, kinds := [], alts := [], laidByText := true, laidKinds := [.data], laidTests := true, laidLooks := .later }
def EditPlaysUptoCardSaid : Prop := Claim7.holds Tryz.pinned (.plain (OpenSpec.upto editPlaysSpec)) editPlaysUptoCard

/-- THE SECOND FORM's CARD OF 'cambiumlaw11.EditGets'. -/
def editGetsUptoCard : Claim7 := { stood := { row := editGetsUptoRow, standIns := [], harness := (true, "2569fb0a5d63e722cd45fb4713e57d5d28e7a8dafabb6870d4f8466e26ad43d8"), looks := true }, kinds := [], alts := [], laidByText := true, laidKinds := [.data], laidTests := true, laidLooks := .later }
def EditGetsUptoCardSaid : Prop := Claim7.holds Tryz.pinned (.plain (OpenSpec.upto editGetsSpec)) editGetsUptoCard

/-- THE SECOND FORM's CARD OF 'cambiumlaw11.EditShared'. -/
def editSharedUptoCard : Claim7 := { stood := { row := editSharedUptoRow, standIns := [], harness := (true, "2569fb0a5d63e722cd45fb4713e57d5d28e7a8dafabb6870d4f8466e26ad43d8"), looks := true }, kinds := [], alts := [], laidByText := true, laidKinds := [.data], laidTests := true, laidLooks := .later }
def EditSharedUptoCardSaid : Prop := Claim7.holds Tryz.pinned (.plain (OpenSpec.upto editSharedSpec)) editSharedUptoCard

/-- THE SECOND FORM's CARD OF 'cambiumlaw11.EditCommitted'. -/
def editCommittedUptoCard : Claim7 := { stood := { row := editCommittedUptoRow, standIns := [], harness := (true, "2569fb0a5d63e722cd45fb4713e57d5d28e7a8dafabb6870d4f8466e26ad43d8"), looks := true }, kinds := [], alts := [], laidByText := true, laidKinds := [.data], laidTests := true, laidLooks := .later }
def EditCommittedUptoCardSaid : Prop := Claim7.holds Tryz.pinned (.plain (OpenSpec.upto editCommittedSpec)) editCommittedUptoCard

/-- THE SECOND FORM's CARD OF 'cambiumlaw11.EditRoom'. -/
def editRoomUptoCard : Claim7 := { stood := { row := editRoomUptoRow, standIns := [], harness := (true, "2569fb0a5d63e722cd45fb4713e57d5d28e7a8dafabb6870d4f8466e26ad43d8"), looks := true }, kinds := [], alts := [], laidByText := true, laidKinds := [.data], laidTests := true, laidLooks := .later }
def EditRoomUptoCardSaid : Prop := Claim7.holds Tryz.pinned (.plain (OpenSpec.upto editRoomSpec)) editRoomUptoCard

/-- THE SECOND FORM's CARD OF 'cambiumlaw11.EditOrder'. -/
def editOrderUptoCard : Claim7 := { stood := { row := editOrderUptoRow, standIns := [], harness := (true, "2569fb0a5d63e722cd45fb4713e57d5d28e7a8dafabb6870d4f8466e26ad43d8"), looks := true }, kinds := [], alts := [], laidByText := true, laidKinds := [.data], laidTests := true, laidLooks := .later }
def EditOrderUptoCardSaid : Prop := Claim7.holds Tryz.pinned (.plain (OpenSpec.upto editOrderSpec)) editOrderUptoCard

/-- THE SECOND FORM's CARD OF 'cambiumlaw11.EditEmpty'. -/
def editEmptyUptoCard : Claim7 := { stood := { row := editEmptyUptoRow, standIns := [], harness := (true, "2569fb0a5d63e722cd45fb4713e57d5d28e7a8dafabb6870d4f8466e26ad43d8"), looks := true }, kinds := [], alts := [], laidByText := true, laidKinds := [.data], laidTests := true, laidLooks := .later }
def EditEmptyUptoCardSaid : Prop := Claim7.holds Tryz.pinned (.plain (OpenSpec.upto editEmptySpec)) editEmptyUptoCard
end Rows
end Go.Proofs.YtnnbaihfboacoaaGreatDoor
