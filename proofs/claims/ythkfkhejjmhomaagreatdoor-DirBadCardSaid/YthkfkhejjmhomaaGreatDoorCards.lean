/-
  DERIVED. GIVEN WITH THE SEED: THE CARDS: each row of YthkfkhejjmhomaaGreatDoorRows.lean that lists a variable, with what it lists TIED to the program's text (the seventh form; the later family's looks); each row that meets fmt, with fmt's text TOLD by the authors' own Lean function (tested against real Go, not proved from fmt's source: count such statements apart). THE CARD IS WHAT COUNTS. Prove the row's statement (the work); the ties are given (YthkfkhejjmhomaaGreatDoorTie.lean); close each card by the builder's one call (the guide's Derived/Test/ToyasCard.lean, 'card_holds'). Laid BY PROGRAM, IN A SANDBOX (cutbox-door.mjs). By AI agents, Wed Nov 11 2026. No macro, syntax, notation, axiom, sorry.
-/
import Derived.Test.YthkfkhejjmhomaaGreatDoorRows
import GoSem.ClaimSeven
namespace Go.Proofs.YthkfkhejjmhomaaGreatDoor
namespace Rows

/-- THE TIED CARD OF 'cambiumlaw15.DirPlays'. -/
def dirPlaysCard : Claim7 := { stood := { row := dirPlaysRow, standIns := [], harness := (true, "9f987a160b08220c65c8bf58457f6a5fd097c1a2da8da119ffbc26b6b83d85d4"), looks := true }, kinds := [], alts := [], laidByText := true, laidKinds := [.data], laidTests := true, laidLooks := .later }
def DirPlaysCardSaid : Prop := Claim7.holds Tryz.pinned (.plain (OpenSpec.ofChange dirPlaysSpec)) dirPlaysCard

/-- THE TIED CARD OF 'cambiumlaw15.DirItems'. -/
def dirItemsCard : Claim7 := { stood := { row := dirItemsRow, standIns := [], harness := (true, "9f987a160b08220c65c8bf58457f6a5fd097c1a2da8da119ffbc26b6b83d85d4"), looks := true }, kinds := [], alts := [], laidByText := true, laidKinds := [.data], laidTests := true, laidLooks := .later }
def DirItemsCardSaid : Prop := Claim7.holds Tryz.pinned (.plain (OpenSpec.ofChange dirItemsSpec)) dirItemsCard

/-- THE TIED CARD OF 'cambiumlaw15.DirNames'. -/
def dirNamesCard : Claim7 := { stood := { row := dirNamesRow, standIns := [], harness := (true, "9f987a160b08220c65c8bf58457f6a5fd097c1a2da8da119ffbc26b6b83d85d4"), looks := true }, kinds := [], alts := [], laidByText := true, laidKinds := [.data], laidTests := true, laidLooks := .later }
def DirNamesCardSaid : Prop := Claim7.holds Tryz.pinned (.plain (OpenSpec.ofChange dirNamesSpec)) dirNamesCard

/-- THE TIED CARD OF 'cambiumlaw15.DirBad'. -/
def dirBadCard : Claim7 := { stood := { row := dirBadRow, standIns := [], harness := (true, "9f987a160b08220c65c8bf58457f6a5fd097c1a2da8da119ffbc26b6b83d85d4"), looks := true }, kinds := [], alts := [], laidByText := true, laidKinds := [.data], laidTests := true, laidLooks := .later }
def DirBadCardSaid : Prop := Claim7.holds Tryz.pinned (.plain (OpenSpec.ofChange dirBadSpec)) dirBadCard

/-- THE TIED CARD OF 'cambiumlaw12.ShareDiffs'. -/
def shareDiffsCard : Claim7 := { stood := { row := shareDiffsRow, standIns := [], harness := (true, "9f987a160b08220c65c8bf58457f6a5fd097c1a2da8da119ffbc26b6b83d85d4"), looks := true }, kinds := [], alts := [], laidByText := true, laidKinds := [.data], laidTests := true, laidLooks := .later }
def ShareDiffsCardSaid : Prop := Claim7.holds Tryz.pinned (.plain (OpenSpec.ofChange shareDiffsSpec)) shareDiffsCard

/-- THE TIED CARD OF 'cambiumlaw12.ShareDrops'. -/
def shareDropsCard : Claim7 := { stood := { row := shareDropsRow, standIns := [], harness := (true, "9f987a160b08220c65c8bf58457f6a5fd097c1a2da8da119ffbc26b6b83d85d4"), looks := true }, kinds := [], alts := [], laidByText := true, laidKinds := [.data], laidTests := true, laidLooks := .later }
def ShareDropsCardSaid : Prop := Claim7.holds Tryz.pinned (.plain (OpenSpec.ofChange shareDropsSpec)) shareDropsCard

/-- THE TIED CARD OF 'cambiumlaw12.ShareSteps'. -/
def shareStepsCard : Claim7 := { stood := { row := shareStepsRow, standIns := [], harness := (true, "9f987a160b08220c65c8bf58457f6a5fd097c1a2da8da119ffbc26b6b83d85d4"), looks := true }, kinds := [], alts := [], laidByText := true, laidKinds := [.data], laidTests := true, laidLooks := .later }
def ShareStepsCardSaid : Prop := Claim7.holds Tryz.pinned (.plain (OpenSpec.ofChange shareStepsSpec)) shareStepsCard

/-- THE TIED CARD OF 'cambiumlaw12.ShareBad'. -/
def shareBadCard : Claim7 := { stood := { row := shareBadRow, standIns := [], harness := (true, "9f987a160b08220c65c8bf58457f6a5fd097c1a2da8da119ffbc26b6b83d85d4"), looks := true }, kinds := [], alts := [], laidByText := true, laidKinds := [.data], laidTests := true, laidLooks := .later }
def ShareBadCardSaid : Prop := Claim7.holds Tryz.pinned (.plain (OpenSpec.ofChange shareBadSpec)) shareBadCard

/-- THE TIED CARD OF 'cambiumlaw12.ShareHeld'. -/
def shareHeldCard : Claim7 := { stood := { row := shareHeldRow, standIns := [], harness := (true, "9f987a160b08220c65c8bf58457f6a5fd097c1a2da8da119ffbc26b6b83d85d4"), looks := true }, kinds := [], alts := [], laidByText := true, laidKinds := [.data], laidTests := true, laidLooks := .later }
def ShareHeldCardSaid : Prop := Claim7.holds Tryz.pinned (.plain (OpenSpec.ofChange shareHeldSpec)) shareHeldCard

/-- THE SECOND FORM's CARD OF 'cambiumlaw15.DirPlays'. -/
def dirPlaysUptoCard : Claim7 := { stood := { row := dirPlaysUptoRow, standIns := [], harness := (true, "9f987a160b08220c65c8bf58457f6a5fd097c1a2da8da119ffbc26b6b83d85d4"), looks := true }, kinds := [], alts := [], laidByText := true, laidKinds := [.data], laidTests := true, laidLooks := .later }
def DirPlaysUptoCardSaid : Prop := Claim7.holds Tryz.pinned (.plain (OpenSpec.upto dirPlaysSpec)) dirPlaysUptoCard

/-- THE SECOND FORM's CARD OF 'cambiumlaw15.DirItems'. -/
def dirItemsUptoCard : Claim7 := { stood := { row := dirItemsUptoRow, standIns := [], harness := (true, "9f987a160b08220c65c8bf58457f6a5fd097c1a2da8da119ffbc26b6b83d85d4"), looks := true }, kinds := [], alts := [], laidByText := true, laidKinds := [.data], laidTests := true, laidLooks := .later }
def DirItemsUptoCardSaid : Prop := Claim7.holds Tryz.pinned (.plain (OpenSpec.upto dirItemsSpec)) dirItemsUptoCard

/-- THE SECOND FORM's CARD OF 'cambiumlaw15.DirNames'. -/
def dirNamesUptoCard : Claim7 := { stood := { row := dirNamesUptoRow, standIns := [], harness := (true, "9f987a160b08220c65c8bf58457f6a5fd097c1a2da8da119ffbc26b6b83d85d4"), looks := true }, kinds := [], alts := [], laidByText := true, laidKinds := [.data], laidTests := true, laidLooks := .later }
def DirNamesUptoCardSaid : Prop := Claim7.holds Tryz.pinned (.plain (OpenSpec.upto dirNamesSpec)) dirNamesUptoCard

/-- THE SECOND FORM's CARD OF 'cambiumlaw15.DirBad'. -/
def dirBadUptoCard : Claim7 := { stood := { row := dirBadUptoRow, standIns := [], harness := (true, "9f987a160b08220c65c8bf58457f6a5fd097c1a2da8da119ffbc26b6b83d85d4"), looks := true }, kinds := [], alts := [], laidByText := true, laidKinds := [.data], laidTests := true, laidLooks := .later }
def DirBadUptoCardSaid : Prop := Claim7.holds Tryz.pinned (.plain (OpenSpec.upto dirBadSpec)) dirBadUptoCard

/-- THE SECOND FORM's CARD OF 'cambiumlaw12.ShareDiffs'. -/
def shareDiffsUptoCard : Claim7 := { stood := { row := shareDiffsUptoRow, standIns := [], harness := (true, "9f987a160b08220c65c8bf58457f6a5fd097c1a2da8da119ffbc26b6b83d85d4"), looks := true }, kinds := [], alts := [], laidByText := true, laidKinds := [.data], laidTests := true, laidLooks := .later }
def ShareDiffsUptoCardSaid : Prop := Claim7.holds Tryz.pinned (.plain (OpenSpec.upto shareDiffsSpec)) shareDiffsUptoCard

/-- THE SECOND FORM's CARD OF 'cambiumlaw12.ShareDrops'. -/
def shareDropsUptoCard : Claim7 := { stood := { row := shareDropsUptoRow, standIns := [], harness := (true, "9f987a160b08220c65c8bf58457f6a5fd097c1a2da8da119ffbc26b6b83d85d4"), looks := true }, kinds := [], alts := [], laidByText := true, laidKinds := [.data], laidTests := true, laidLooks := .later }
def ShareDropsUptoCardSaid : Prop := Claim7.holds Tryz.pinned (.plain (OpenSpec.upto shareDropsSpec)) shareDropsUptoCard

/-- THE SECOND FORM's CARD OF 'cambiumlaw12.ShareSteps'. -/
def shareStepsUptoCard : Claim7 := { stood := { row := shareStepsUptoRow, standIns := [], harness := (true, "9f987a160b08220c65c8bf58457f6a5fd097c1a2da8da119ffbc26b6b83d85d4"), looks := true }, kinds := [], alts := [], laidByText := true, laidKinds := [.data], laidTests := true, laidLooks := .later }
def ShareStepsUptoCardSaid : Prop := Claim7.holds Tryz.pinned (.plain (OpenSpec.upto shareStepsSpec)) shareStepsUptoCard

/-- THE SECOND FORM's CARD OF 'cambiumlaw12.ShareBad'. -/
def shareBadUptoCard : Claim7 := { stood := { row := shareBadUptoRow, standIns := [], harness := (true, "9f987a160b08220c65c8bf58457f6a5fd097c1a2da8da119ffbc26b6b83d85d4"), looks := true }, kinds := [], alts := [], laidByText := true, laidKinds := [.data], laidTests := true, laidLooks := .later }
def ShareBadUptoCardSaid : Prop := Claim7.holds Tryz.pinned (.plain (OpenSpec.upto shareBadSpec)) shareBadUptoCard

/-- THE SECOND FORM's CARD OF 'cambiumlaw12.ShareHeld'. -/
def shareHeldUptoCard : Claim7 := { stood := { row := shareHeldUptoRow, standIns := [], harness := (true, "9f987a160b08220c65c8bf58457f6a5fd097c1a2da8da119ffbc26b6b83d85d4"), looks := true }, kinds := [], alts := [], laidByText := true, laidKinds := [.data], laidTests := true, laidLooks := .later }
def ShareHeldUptoCardSaid : Prop := Claim7.holds Tryz.pinned (.plain (OpenSpec.upto shareHeldSpec)) shareHeldUptoCard
end Rows
end Go.Proofs.YthkfkhejjmhomaaGreatDoor
