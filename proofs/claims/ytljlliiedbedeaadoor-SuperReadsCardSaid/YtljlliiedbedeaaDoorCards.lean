/-
  DERIVED. GIVEN WITH THE SEED: THE CARDS: each row of YtljlliiedbedeaaDoorRows.lean that lists a variable, with what it lists TIED to the program's text (the seventh form; the later family's looks); each row that meets fmt, with fmt's text TOLD by the authors' own Lean function (tested against real Go, not proved from fmt's source: count such statements apart). THE CARD IS WHAT COUNTS. Prove the row's statement (the work); the ties are given (YtljlliiedbedeaaDoorTie.lean); close each card by the builder's one call (the guide's Derived/Test/ToyasCard.lean, 'card_holds'). Laid BY PROGRAM, IN A SANDBOX (cutbox-door.mjs). By AI agents, Wed Nov 11 2026. No macro, syntax, notation, axiom, sorry.
-/
import Derived.Test.YtljlliiedbedeaaDoorRows
import GoSem.ClaimSeven
namespace Go.Proofs.YtljlliiedbedeaaDoor
namespace Rows

/-- THE TIED CARD OF 'cambiumlaw07.SuperWrites'. -/
def superWritesCard : Claim7 := { stood := { row := superWritesRow, standIns := [], harness := (true, "4b39764490a477b8b8c08720e09f67fd0d9c1c2d984def4051c258fef7c0c64a"), looks := false }, kinds := [], alts := [], laidByText := true, laidKinds := [.data], laidTests := true, laidLooks := .later }
def SuperWritesCardSaid : Prop := Claim7.holds Tryd.pinned (.plain (OpenSpec.ofChange superWritesSpec)) superWritesCard

/-- THE TIED CARD OF 'cambiumlaw07.SuperReads'. -/
def superReadsCard : Claim7 := { stood := { row := superReadsRow, standIns := [], harness := (true, "4b39764490a477b8b8c08720e09f67fd0d9c1c2d984def4051c258fef7c0c64a"), looks := false }, kinds := [], alts := [], laidByText := true, laidKinds := [.data], laidTests := true, laidLooks := .later }
def SuperReadsCardSaid : Prop := Claim7.holds Tryd.pinned (.plain (OpenSpec.ofChange superReadsSpec)) superReadsCard

/-- THE TIED CARD OF 'cambiumlaw07.SuperNewer'. -/
def superNewerCard : Claim7 := { stood := { row := superNewerRow, standIns := [], harness := (true, "4b39764490a477b8b8c08720e09f67fd0d9c1c2d984def4051c258fef7c0c64a"), looks := false }, kinds := [], alts := [], laidByText := true, laidKinds := [.data], laidTests := true, laidLooks := .later }
def SuperNewerCardSaid : Prop := Claim7.holds Tryd.pinned (.plain (OpenSpec.ofChange superNewerSpec)) superNewerCard

/-- THE TIED CARD OF 'cambiumlaw07.SuperLabels'. -/
def superLabelsCard : Claim7 := { stood := { row := superLabelsRow, standIns := [], harness := (true, "4b39764490a477b8b8c08720e09f67fd0d9c1c2d984def4051c258fef7c0c64a"), looks := false }, kinds := [], alts := [], laidByText := true, laidKinds := [.data], laidTests := true, laidLooks := .later }
def SuperLabelsCardSaid : Prop := Claim7.holds Tryd.pinned (.plain (OpenSpec.ofChange superLabelsSpec)) superLabelsCard

/-- THE TIED CARD OF 'cambiumlaw07.SuperBack'. -/
def superBackCard : Claim7 := { stood := { row := superBackRow, standIns := [], harness := (true, "4b39764490a477b8b8c08720e09f67fd0d9c1c2d984def4051c258fef7c0c64a"), looks := false }, kinds := [], alts := [], laidByText := true, laidKinds := [.data], laidTests := true, laidLooks := .later }
def SuperBackCardSaid : Prop := Claim7.holds Tryd.pinned (.plain (OpenSpec.ofChange superBackSpec)) superBackCard

/-- THE TIED CARD OF 'cambiumlaw07.SuperChooses'. -/
def superChoosesCard : Claim7 := { stood := { row := superChoosesRow, standIns := [], harness := (true, "4b39764490a477b8b8c08720e09f67fd0d9c1c2d984def4051c258fef7c0c64a"), looks := false }, kinds := [], alts := [], laidByText := true, laidKinds := [.data], laidTests := true, laidLooks := .later }
def SuperChoosesCardSaid : Prop := Claim7.holds Tryd.pinned (.plain (OpenSpec.ofChange superChoosesSpec)) superChoosesCard

/-- THE TIED CARD OF 'cambiumlaw07.SuperAreas'. -/
def superAreasCard : Claim7 := { stood := { row := superAreasRow, standIns := [], harness := (true, "4b39764490a477b8b8c08720e09f67fd0d9c1c2d984def4051c258fef7c0c64a"), looks := false }, kinds := [], alts := [], laidByText := true, laidKinds := [.data], laidTests := true, laidLooks := .later }
def SuperAreasCardSaid : Prop := Claim7.holds Tryd.pinned (.plain (OpenSpec.ofChange superAreasSpec)) superAreasCard

/-- THE SECOND FORM's CARD OF 'cambiumlaw07.SuperWrites'. -/
def superWritesUptoCard : Claim7 := { stood := { row := superWritesUptoRow, standIns := [], harness := (true, "4b39764490a477b8b8c08720e09f67fd0d9c1c2d984def4051c258fef7c0c64a"), looks := false }, kinds := [], alts := [], laidByText := true, laidKinds := [.data], laidTests := true, laidLooks := .later }
def SuperWritesUptoCardSaid : Prop := Claim7.holds Tryd.pinned (.plain (OpenSpec.upto superWritesSpec)) superWritesUptoCard

/-- THE SECOND FORM's CARD OF 'cambiumlaw07.SuperReads'. -/
def superReadsUptoCard : Claim7 := { stood := { row := superReadsUptoRow, standIns := [], harness := (true, "4b39764490a477b8b8c08720e09f67fd0d9c1c2d984def4051c258fef7c0c64a"), looks := false }, kinds := [], alts := [], laidByText := true, laidKinds := [.data], laidTests := true, laidLooks := .later }
def SuperReadsUptoCardSaid : Prop := Claim7.holds Tryd.pinned (.plain (OpenSpec.upto superReadsSpec)) superReadsUptoCard

/-- THE SECOND FORM's CARD OF 'cambiumlaw07.SuperNewer'. -/
def superNewerUptoCard : Claim7 := { stood := { row := superNewerUptoRow, standIns := [], harness := (true, "4b39764490a477b8b8c08720e09f67fd0d9c1c2d984def4051c258fef7c0c64a"), looks := false }, kinds := [], alts := [], laidByText := true, laidKinds := [.data], laidTests := true, laidLooks := .later }
def SuperNewerUptoCardSaid : Prop := Claim7.holds Tryd.pinned (.plain (OpenSpec.upto superNewerSpec)) superNewerUptoCard

/-- THE SECOND FORM's CARD OF 'cambiumlaw07.SuperLabels'. -/
def superLabelsUptoCard : Claim7 := { stood := { row := superLabelsUptoRow, standIns := [], harness := (true, "4b39764490a477b8b8c08720e09f67fd0d9c1c2d984def4051c258fef7c0c64a"), looks := false }, kinds := [], alts := [], laidByText := true, laidKinds := [.data], laidTests := true, laidLooks := .later }
def SuperLabelsUptoCardSaid : Prop := Claim7.holds Tryd.pinned (.plain (OpenSpec.upto superLabelsSpec)) superLabelsUptoCard

/-- THE SECOND FORM's CARD OF 'cambiumlaw07.SuperBack'. -/
def superBackUptoCard : Claim7 := { stood := { row := superBackUptoRow, standIns := [], harness := (true, "4b39764490a477b8b8c08720e09f67fd0d9c1c2d984def4051c258fef7c0c64a"), looks := false }, kinds := [], alts := [], laidByText := true, laidKinds := [.data], laidTests := true, laidLooks := .later }
def SuperBackUptoCardSaid : Prop := Claim7.holds Tryd.pinned (.plain (OpenSpec.upto superBackSpec)) superBackUptoCard

/-- THE SECOND FORM's CARD OF 'cambiumlaw07.SuperChooses'. -/
def superChoosesUptoCard : Claim7 := { stood := { row := superChoosesUptoRow, standIns := [], harness := (true, "4b39764490a477b8b8c08720e09f67fd0d9c1c2d984def4051c258fef7c0c64a"), looks := false }, kinds := [], alts := [], laidByText := true, laidKinds := [.data], laidTests := true, laidLooks := .later }
def SuperChoosesUptoCardSaid : Prop := Claim7.holds Tryd.pinned (.plain (OpenSpec.upto superChoosesSpec)) superChoosesUptoCard

/-- THE SECOND FORM's CARD OF 'cambiumlaw07.SuperAreas'. -/
def superAreasUptoCard : Claim7 := { stood := { row := superAreasUptoRow, standIns := [], harness := (true, "4b39764490a477b8b8c08720e09f67fd0d9c1c2d984def4051c258fef7c0c64a"), looks := false }, kinds := [], alts := [], laidByText := true, laidKinds := [.data], laidTests := true, laidLooks := .later }
def SuperAreasUptoCardSaid : Prop := Claim7.holds Tryd.pinned (.plain (OpenSpec.upto superAreasSpec)) superAreasUptoCard
end Rows
end Go.Proofs.YtljlliiedbedeaaDoor
