/-
  DERIVED. GIVEN WITH THE SEED: THE CARDS: each row of YtmebdjafnefneaaDoorRows.lean that lists a variable, with what it lists TIED to the program's text (the seventh form; the later family's looks); each row that meets fmt, with fmt's text TOLD by the authors' own Lean function (tested against real Go, not proved from fmt's source: count such statements apart). THE CARD IS WHAT COUNTS. Prove the row's statement (the work); the ties are given (YtmebdjafnefneaaDoorTie.lean); close each card by the builder's one call (the guide's Derived/Test/ToyasCard.lean, 'card_holds'). Laid BY PROGRAM, IN A SANDBOX (cutbox-door.mjs). By AI agents, Wed Nov 11 2026. No macro, syntax, notation, axiom, sorry.
-/
import Derived.Test.YtmebdjafnefneaaDoorRows
import GoSem.ClaimSeven
namespace Go.Proofs.YtmebdjafnefneaaDoor
namespace Rows

/-- THE TIED CARD OF 'cambiumlaw06.NodeMays'. -/
def nodeMaysCard : Claim7 := { stood := { row := nodeMaysRow, standIns := [], harness := (true, "904f58017578993ba685a8f20155d76216b6a36059f030ee0ade361286d13293"), looks := false }, kinds := [], alts := [], laidByText := true, laidKinds := [.data], laidTests := true, laidLooks := .later }
def NodeMaysCardSaid : Prop := Claim7.holds Tryd.pinned (.plain (OpenSpec.ofChange nodeMaysSpec)) nodeMaysCard

/-- THE TIED CARD OF 'cambiumlaw06.NodeWrites'. -/
def nodeWritesCard : Claim7 := { stood := { row := nodeWritesRow, standIns := [], harness := (true, "904f58017578993ba685a8f20155d76216b6a36059f030ee0ade361286d13293"), looks := false }, kinds := [], alts := [], laidByText := true, laidKinds := [.data], laidTests := true, laidLooks := .later }
def NodeWritesCardSaid : Prop := Claim7.holds Tryd.pinned (.plain (OpenSpec.ofChange nodeWritesSpec)) nodeWritesCard

/-- THE TIED CARD OF 'cambiumlaw06.NodeReads'. -/
def nodeReadsCard : Claim7 := { stood := { row := nodeReadsRow, standIns := [], harness := (true, "904f58017578993ba685a8f20155d76216b6a36059f030ee0ade361286d13293"), looks := false }, kinds := [], alts := [], laidByText := true, laidKinds := [.data], laidTests := true, laidLooks := .later }
def NodeReadsCardSaid : Prop := Claim7.holds Tryd.pinned (.plain (OpenSpec.ofChange nodeReadsSpec)) nodeReadsCard

/-- THE TIED CARD OF 'cambiumlaw06.NodeSeeks'. -/
def nodeSeeksCard : Claim7 := { stood := { row := nodeSeeksRow, standIns := [], harness := (true, "904f58017578993ba685a8f20155d76216b6a36059f030ee0ade361286d13293"), looks := false }, kinds := [], alts := [], laidByText := true, laidKinds := [.data], laidTests := true, laidLooks := .later }
def NodeSeeksCardSaid : Prop := Claim7.holds Tryd.pinned (.plain (OpenSpec.ofChange nodeSeeksSpec)) nodeSeeksCard

/-- THE TIED CARD OF 'cambiumlaw06.NodeBack'. -/
def nodeBackCard : Claim7 := { stood := { row := nodeBackRow, standIns := [], harness := (true, "904f58017578993ba685a8f20155d76216b6a36059f030ee0ade361286d13293"), looks := false }, kinds := [], alts := [], laidByText := true, laidKinds := [.data], laidTests := true, laidLooks := .later }
def NodeBackCardSaid : Prop := Claim7.holds Tryd.pinned (.plain (OpenSpec.ofChange nodeBackSpec)) nodeBackCard

/-- THE TIED CARD OF 'cambiumlaw06.NodeFinds'. -/
def nodeFindsCard : Claim7 := { stood := { row := nodeFindsRow, standIns := [], harness := (true, "904f58017578993ba685a8f20155d76216b6a36059f030ee0ade361286d13293"), looks := false }, kinds := [], alts := [], laidByText := true, laidKinds := [.data], laidTests := true, laidLooks := .later }
def NodeFindsCardSaid : Prop := Claim7.holds Tryd.pinned (.plain (OpenSpec.ofChange nodeFindsSpec)) nodeFindsCard

/-- THE SECOND FORM's CARD OF 'cambiumlaw06.NodeMays'. -/
def nodeMaysUptoCard : Claim7 := { stood := { row := nodeMaysUptoRow, standIns := [], harness := (true, "904f58017578993ba685a8f20155d76216b6a36059f030ee0ade361286d13293"), looks := false }, kinds := [], alts := [], laidByText := true, laidKinds := [.data], laidTests := true, laidLooks := .later }
def NodeMaysUptoCardSaid : Prop := Claim7.holds Tryd.pinned (.plain (OpenSpec.upto nodeMaysSpec)) nodeMaysUptoCard

/-- THE SECOND FORM's CARD OF 'cambiumlaw06.NodeWrites'. -/
def nodeWritesUptoCard : Claim7 := { stood := { row := nodeWritesUptoRow, standIns := [], harness := (true, "904f58017578993ba685a8f20155d76216b6a36059f030ee0ade361286d13293"), looks := false }, kinds := [], alts := [], laidByText := true, laidKinds := [.data], laidTests := true, laidLooks := .later }
def NodeWritesUptoCardSaid : Prop := Claim7.holds Tryd.pinned (.plain (OpenSpec.upto nodeWritesSpec)) nodeWritesUptoCard

/-- THE SECOND FORM's CARD OF 'cambiumlaw06.NodeReads'. -/
def nodeReadsUptoCard : Claim7 := { stood := { row := nodeReadsUptoRow, standIns := [], harness := (true, "904f58017578993ba685a8f20155d76216b6a36059f030ee0ade361286d13293"), looks := false }, kinds := [], alts := [], laidByText := true, laidKinds := [.data], laidTests := true, laidLooks := .later }
def NodeReadsUptoCardSaid : Prop := Claim7.holds Tryd.pinned (.plain (OpenSpec.upto nodeReadsSpec)) nodeReadsUptoCard

/-- THE SECOND FORM's CARD OF 'cambiumlaw06.NodeSeeks'. -/
def nodeSeeksUptoCard : Claim7 := { stood := { row := nodeSeeksUptoRow, standIns := [], harness := (true, "904f58017578993ba685a8f20155d76216b6a36059f030ee0ade361286d13293"), looks := false }, kinds := [], alts := [], laidByText := true, laidKinds := [.data], laidTests := true, laidLooks := .later }
def NodeSeeksUptoCardSaid : Prop := Claim7.holds Tryd.pinned (.plain (OpenSpec.upto nodeSeeksSpec)) nodeSeeksUptoCard

/-- THE SECOND FORM's CARD OF 'cambiumlaw06.NodeBack'. -/
def nodeBackUptoCard : Claim7 := { stood := { row := nodeBackUptoRow, standIns := [], harness := (true, "904f58017578993ba685a8f20155d76216b6a36059f030ee0ade361286d13293"), looks := false }, kinds := [], alts := [], laidByText := true, laidKinds := [.data], laidTests := true, laidLooks := .later }
def NodeBackUptoCardSaid : Prop := Claim7.holds Tryd.pinned (.plain (OpenSpec.upto nodeBackSpec)) nodeBackUptoCard

/-- THE SECOND FORM's CARD OF 'cambiumlaw06.NodeFinds'. -/
def nodeFindsUptoCard : Claim7 := { stood := { row := nodeFindsUptoRow, standIns := [], harness := (true, "904f58017578993ba685a8f20155d76216b6a36059f030ee0ade361286d13293"), looks := false }, kinds := [], alts := [], laidByText := true, laidKinds := [.data], laidTests := true, laidLooks := .later }
def NodeFindsUptoCardSaid : Prop := Claim7.holds Tryd.pinned (.plain (OpenSpec.upto nodeFindsSpec)) nodeFindsUptoCard
end Rows
end Go.Proofs.YtmebdjafnefneaaDoor
