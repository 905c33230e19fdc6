/-
  DERIVED. GIVEN WITH THE SEED: THE CARDS: each row of YtipejjgodnnkaaaGreatDoorRows.lean that lists a variable, with what it lists TIED to the program's text (the seventh form; the later family's looks); each row that meets fmt, with fmt's text TOLD by the authors' own Lean function (tested against real Go, not proved from fmt's source: count such statements apart). THE CARD IS WHAT COUNTS. Prove the row's statement (the work); the ties are given (YtipejjgodnnkaaaGreatDoorTie.lean); close each card by the builder's one call (the guide's Derived/Test/ToyasCard.lean, 'card_holds'). Laid BY PROGRAM, IN A SANDBOX (cutbox-door.mjs). By AI agents, Wed Nov 11 2026. No macro, syntax, notation, axiom, sorry.
-/
import Derived.Test.YtipejjgodnnkaaaGreatDoorRows
import GoSem.ClaimSeven
namespace Go.Proofs.YtipejjgodnnkaaaGreatDoor
namespace Rows

/-- THE TIED CARD OF 'cambiumlaw09.PoolPlays'. -/
def poolPlaysCard : Claim7 := { stood := { row := poolPlaysRow, standIns := [], harness := (true, "88ad577e5f60c48d9a1f6f99556544f34e529c2c6af1a3c90b7279754963da1f"), looks := true }, kinds := [], alts := [], laidByText := true, laidKinds := [.data], laidTests := true, laidLooks := .later }
def PoolPlaysCardSaid : Prop := Claim7.holds Tryz.pinned (.plain (OpenSpec.ofChange poolPlaysSpec)) poolPlaysCard

/-- THE TIED CARD OF 'cambiumlaw09.PoolMounts'. -/
def poolMountsCard : Claim7 := { stood := { row := poolMountsRow, standIns := [], harness := (true, "88ad577e5f60c48d9a1f6f99556544f34e529c2c6af1a3c90b7279754963da1f"), looks := true }, kinds := [], alts := [], laidByText := true, laidKinds := [.data], laidTests := true, laidLooks := .later }
def PoolMountsCardSaid : Prop := Claim7.holds Tryz.pinned (.plain (OpenSpec.ofChange poolMountsSpec)) poolMountsCard

/-- THE TIED CARD OF 'cambiumlaw09.PoolCrash'. -/
def poolCrashCard : Claim7 := { stood := { row := poolCrashRow, standIns := [], harness := (true, "88ad577e5f60c48d9a1f6f99556544f34e529c2c6af1a3c90b7279754963da1f"), looks := true }, kinds := [], alts := [], laidByText := true, laidKinds := [.data], laidTests := true, laidLooks := .later }
def PoolCrashCardSaid : Prop := Claim7.holds Tryz.pinned (.plain (OpenSpec.ofChange poolCrashSpec)) poolCrashCard

/-- THE TIED CARD OF 'cambiumlaw09.PoolShared'. -/
def poolSharedCard : Claim7 := { stood := { row := poolSharedRow, standIns := [], harness := (true, "88ad577e5f60c48d9a1f6f99556544f34e529c2c6af1a3c90b7279754963da1f"), looks := true }, kinds := [], alts := [], laidByText := true, laidKinds := [.data], laidTests := true, laidLooks := .later }
def PoolSharedCardSaid : Prop := Claim7.holds Tryz.pinned (.plain (OpenSpec.ofChange poolSharedSpec)) poolSharedCard

/-- THE TIED CARD OF 'cambiumlaw09.PoolFormats'. -/
def poolFormatsCard : Claim7 := { stood := { row := poolFormatsRow, standIns := [], harness := (true, "88ad577e5f60c48d9a1f6f99556544f34e529c2c6af1a3c90b7279754963da1f"), looks := true }, kinds := [], alts := [], laidByText := true, laidKinds := [.data], laidTests := true, laidLooks := .later }
def PoolFormatsCardSaid : Prop := Claim7.holds Tryz.pinned (.plain (OpenSpec.ofChange poolFormatsSpec)) poolFormatsCard

/-- THE TIED CARD OF 'cambiumlaw09.PoolSteps'. -/
def poolStepsCard : Claim7 := { stood := { row := poolStepsRow, standIns := [], harness := (true, "88ad577e5f60c48d9a1f6f99556544f34e529c2c6af1a3c90b7279754963da1f"), looks := true }, kinds := [], alts := [], laidByText := true, laidKinds := [.data], laidTests := true, laidLooks := .later }
def PoolStepsCardSaid : Prop := Claim7.holds Tryz.pinned (.plain (OpenSpec.ofChange poolStepsSpec)) poolStepsCard

/-- THE SECOND FORM's CARD OF 'cambiumlaw09.PoolPlays'. -/
def poolPlaysUptoCard : Claim7 := { stood := { row := poolPlaysUptoRow, standIns := [], harness := (true, "88ad577e5f60c48d9a1f6f99556544f34e529c2c6af1a3c90b7279754963da1f"), looks := true }, kinds := [], alts := [], laidByText := true, laidKinds := [.data], laidTests := true, laidLooks := .later }
def PoolPlaysUptoCardSaid : Prop := Claim7.holds Tryz.pinned (.plain (OpenSpec.upto poolPlaysSpec)) poolPlaysUptoCard

/-- THE SECOND FORM's CARD OF 'cambiumlaw09.PoolMounts'. -/
def poolMountsUptoCard : Claim7 := { stood := { row := poolMountsUptoRow, standIns := [], harness := (true, "88ad577e5f60c48d9a1f6f99556544f34e529c2c6af1a3c90b7279754963da1f"), looks := true }, kinds := [], alts := [], laidByText := true, laidKinds := [.data], laidTests := true, laidLooks := .later }
def PoolMountsUptoCardSaid : Prop := Claim7.holds Tryz.pinned (.plain (OpenSpec.upto poolMountsSpec)) poolMountsUptoCard

/-- THE SECOND FORM's CARD OF 'cambiumlaw09.PoolCrash'. -/
def poolCrashUptoCard : Claim7 := { stood := { row := poolCrashUptoRow, standIns := [], harness := (true, "88ad577e5f60c48d9a1f6f99556544f34e529c2c6af1a3c90b7279754963da1f"), looks := true }, kinds := [], alts := [], laidByText := true, laidKinds := [.data], laidTests := true, laidLooks := .later }
def PoolCrashUptoCardSaid : Prop := Claim7.holds Tryz.pinned (.plain (OpenSpec.upto poolCrashSpec)) poolCrashUptoCard

/-- THE SECOND FORM's CARD OF 'cambiumlaw09.PoolShared'. -/
def poolSharedUptoCard : Claim7 := { stood := { row := poolSharedUptoRow, standIns := [], harness := (true, "88ad577e5f60c48d9a1f6f99556544f34e529c2c6af1a3c90b7279754963da1f"), looks := true }, kinds := [], alts := [], laidByText := true, laidKinds := [.data], laidTests := true, laidLooks := .later }
def PoolSharedUptoCardSaid : Prop := Claim7.holds Tryz.pinned (.plain (OpenSpec.upto poolSharedSpec)) poolSharedUptoCard

/-- THE SECOND FORM's CARD OF 'cambiumlaw09.PoolFormats'. -/
def poolFormatsUptoCard : Claim7 := { stood := { row := poolFormatsUptoRow, standIns := [], harness := (true, "88ad577e5f60c48d9a1f6f99556544f34e529c2c6af1a3c90b7279754963da1f"), looks := true }, kinds := [], alts := [], laidByText := true, laidKinds := [.data], laidTests := true, laidLooks := .later }
def PoolFormatsUptoCardSaid : Prop := Claim7.holds Tryz.pinned (.plain (OpenSpec.upto poolFormatsSpec)) poolFormatsUptoCard

/-- THE SECOND FORM's CARD OF 'cambiumlaw09.PoolSteps'. -/
def poolStepsUptoCard : Claim7 := { stood := { row := poolStepsUptoRow, standIns := [], harness := (true, "88ad577e5f60c48d9a1f6f99556544f34e529c2c6af1a3c90b7279754963da1f"), looks := true }, kinds := [], alts := [], laidByText := true, laidKinds := [.data], laidTests := true, laidLooks := .later }
def PoolStepsUptoCardSaid : Prop := Claim7.holds Tryz.pinned (.plain (OpenSpec.upto poolStepsSpec)) poolStepsUptoCard
end Rows
end Go.Proofs.YtipejjgodnnkaaaGreatDoor
