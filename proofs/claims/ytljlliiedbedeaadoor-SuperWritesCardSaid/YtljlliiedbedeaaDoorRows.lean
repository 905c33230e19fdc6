/-
  NARROWER THAN 'FOR EVERY INPUT', by the rows' own cells (each row's printed sentence says how): SuperWrites: laid · SuperReads: laid · SuperNewer: laid · SuperLabels: laid · SuperBack: laid · SuperChooses: laid · SuperAreas: laid.
  DERIVED. THE GIVEN ROWS OF THIS SEAT. 7 by the template 'for every input the law returns true; each argument reads behind the call as it read before'; 0 by the template 'total and deterministic' (their statements: YtljlliiedbedeaaDoorTotals.lean).
  GIVEN WITH THE SEED: the statements are not yours to turn. If you find one false, say at which input.
  Laid BY PROGRAM, IN A SANDBOX (cutbox-rows.mjs): the forced cells as the released guide's own fill.sh prints them over the translation a6a0aa56ed204d51… (all of the seat's roots in one cut). By AI agents, Wed Nov 11 2026. No macro, syntax, notation, axiom, sorry.
-/
import Derived.Test.YtljlliiedbedeaaDoorChecked
import GoSem.Claim
import GoSem.ClaimJoined
import GoSem.ClaimMapViews
import Derived.JoinedTies
import Derived.KernelRfl
namespace Go.Proofs.YtljlliiedbedeaaDoor
/- THE CELL 'sum', in the pinned program and in every row, IS THE sha256 OF THE DUMP (.gsa) THAT YtljlliiedbedeaaDoorProg.lean LOADS. Nothing in Lean hashes anything: it is a label: what it is worth is what the hold of that sum in a sandbox is worth. -/
noncomputable def Tryd.pinned : Pinned := { name := "ytljlliiedbedeaadoor", sum := "a6a0aa56ed204d51fe8d7a8f64b99b5a7d54d110f9954b2a91bec7d46c41a118", checked := Tryd.checked }
namespace Rows
def none {H : Type} : Left H := { results := [], args := [] }

/- WHAT THE LISTED PACKAGE-LEVEL VARIABLES READ AS WHEN THE CALL BEGINS. Each datum BY PROGRAM (the guide's laid-datum.mjs) off the statement by which the dump's own 'gosem.cut.vars' lays the variable. In a bare row this is a premise. The card (YtljlliiedbedeaaDoorCards.lean) ties it to the program's text. -/
def laid_cambium_sum_shifted {H : Type} : DataW H := .agg [.lit (.int .u32 0), .lit (.int .u32 274646895), .lit (.int .u32 549293790), .lit (.int .u32 820201905), .lit (.int .u32 1098587580), .lit (.int .u32 1361435347), .lit (.int .u32 1640403810), .lit (.int .u32 1905808397), .lit (.int .u32 2197175160), .lit (.int .u32 2460548119), .lit (.int .u32 2722870694), .lit (.int .u32 2987750089), .lit (.int .u32 3280807620), .lit (.int .u32 3553878443), .lit (.int .u32 3811616794), .lit (.int .u32 4084100981)]

/-- 'cambiumlaw07.SuperWrites': WHATEVER THE INPUT: true; the input reads as it did. -/
def superWritesSpec : ChangeSpec := { name := "superWrites", fn := fun _ => fun
  | [d1, d2] => { results := [.lit (.bool true)], args := [d1, d2] }
  | _ => none }
def superWritesRow : OpenClaim := { program := "ytljlliiedbedeaadoor", sum := "a6a0aa56ed204d51fe8d7a8f64b99b5a7d54d110f9954b2a91bec7d46c41a118", func := "cambium/cambiumlaw07.SuperWrites", spec := "superWrites", named := ["cambium/sum.shifted"], apart := false, laid := [("cambium/sum.shifted", laid_cambium_sum_shifted)] }
def SuperWritesSaid : Prop := superWritesRow.holds Tryd.pinned (OpenSpec.ofChange superWritesSpec)

/-- ITS FALSE NEIGHBOUR: 'it returns false'. Refute it at one input. -/
def superWritesWrong : ChangeSpec := { name := "superWrites", fn := fun _ => fun
  | [d1, d2] => { results := [.lit (.bool false)], args := [d1, d2] }
  | _ => none }
def SuperWritesWrongFalsely : Prop := superWritesRow.holds Tryd.pinned (OpenSpec.ofChange superWritesWrong)

/-- 'cambiumlaw07.SuperReads': WHATEVER THE INPUT: true; the input reads as it did. -/
def superReadsSpec : ChangeSpec := { name := "superReads", fn := fun _ => fun
  | [d1, d2] => { results := [.lit (.bool true)], args := [d1, d2] }
  | _ => none }
def superReadsRow : OpenClaim := { program := "ytljlliiedbedeaadoor", sum := "a6a0aa56ed204d51fe8d7a8f64b99b5a7d54d110f9954b2a91bec7d46c41a118", func := "cambium/cambiumlaw07.SuperReads", spec := "superReads", named := ["cambium/sum.shifted"], apart := false, laid := [("cambium/sum.shifted", laid_cambium_sum_shifted)] }
def SuperReadsSaid : Prop := superReadsRow.holds Tryd.pinned (OpenSpec.ofChange superReadsSpec)

/-- ITS FALSE NEIGHBOUR: 'it returns false'. Refute it at one input. -/
def superReadsWrong : ChangeSpec := { name := "superReads", fn := fun _ => fun
  | [d1, d2] => { results := [.lit (.bool false)], args := [d1, d2] }
  | _ => none }
def SuperReadsWrongFalsely : Prop := superReadsRow.holds Tryd.pinned (OpenSpec.ofChange superReadsWrong)

/-- 'cambiumlaw07.SuperNewer': WHATEVER THE INPUT: true; the input reads as it did. -/
def superNewerSpec : ChangeSpec := { name := "superNewer", fn := fun _ => fun
  | [d1, d2] => { results := [.lit (.bool true)], args := [d1, d2] }
  | _ => none }
def superNewerRow : OpenClaim := { program := "ytljlliiedbedeaadoor", sum := "a6a0aa56ed204d51fe8d7a8f64b99b5a7d54d110f9954b2a91bec7d46c41a118", func := "cambium/cambiumlaw07.SuperNewer", spec := "superNewer", named := ["cambium/sum.shifted"], apart := false, laid := [("cambium/sum.shifted", laid_cambium_sum_shifted)] }
def SuperNewerSaid : Prop := superNewerRow.holds Tryd.pinned (OpenSpec.ofChange superNewerSpec)

/-- ITS FALSE NEIGHBOUR: 'it returns false'. Refute it at one input. -/
def superNewerWrong : ChangeSpec := { name := "superNewer", fn := fun _ => fun
  | [d1, d2] => { results := [.lit (.bool false)], args := [d1, d2] }
  | _ => none }
def SuperNewerWrongFalsely : Prop := superNewerRow.holds Tryd.pinned (OpenSpec.ofChange superNewerWrong)

/-- 'cambiumlaw07.SuperLabels': WHATEVER THE INPUT: true; the input reads as it did. -/
def superLabelsSpec : ChangeSpec := { name := "superLabels", fn := fun _ => fun
  | [d1, d2] => { results := [.lit (.bool true)], args := [d1, d2] }
  | _ => none }
def superLabelsRow : OpenClaim := { program := "ytljlliiedbedeaadoor", sum := "a6a0aa56ed204d51fe8d7a8f64b99b5a7d54d110f9954b2a91bec7d46c41a118", func := "cambium/cambiumlaw07.SuperLabels", spec := "superLabels", named := ["cambium/sum.shifted"], apart := false, laid := [("cambium/sum.shifted", laid_cambium_sum_shifted)] }
def SuperLabelsSaid : Prop := superLabelsRow.holds Tryd.pinned (OpenSpec.ofChange superLabelsSpec)

/-- ITS FALSE NEIGHBOUR: 'it returns false'. Refute it at one input. -/
def superLabelsWrong : ChangeSpec := { name := "superLabels", fn := fun _ => fun
  | [d1, d2] => { results := [.lit (.bool false)], args := [d1, d2] }
  | _ => none }
def SuperLabelsWrongFalsely : Prop := superLabelsRow.holds Tryd.pinned (OpenSpec.ofChange superLabelsWrong)

/-- 'cambiumlaw07.SuperBack': WHATEVER THE INPUT: true; the input reads as it did. -/
def superBackSpec : ChangeSpec := { name := "superBack", fn := fun _ => fun
  | [d1, d2, d3] => { results := [.lit (.bool true)], args := [d1, d2, d3] }
  | _ => none }
def superBackRow : OpenClaim := { program := "ytljlliiedbedeaadoor", sum := "a6a0aa56ed204d51fe8d7a8f64b99b5a7d54d110f9954b2a91bec7d46c41a118", func := "cambium/cambiumlaw07.SuperBack", spec := "superBack", named := ["cambium/sum.shifted"], apart := false, laid := [("cambium/sum.shifted", laid_cambium_sum_shifted)] }
def SuperBackSaid : Prop := superBackRow.holds Tryd.pinned (OpenSpec.ofChange superBackSpec)

/-- ITS FALSE NEIGHBOUR: 'it returns false'. Refute it at one input. -/
def superBackWrong : ChangeSpec := { name := "superBack", fn := fun _ => fun
  | [d1, d2, d3] => { results := [.lit (.bool false)], args := [d1, d2, d3] }
  | _ => none }
def SuperBackWrongFalsely : Prop := superBackRow.holds Tryd.pinned (OpenSpec.ofChange superBackWrong)

/-- 'cambiumlaw07.SuperChooses': WHATEVER THE INPUT: true; the input reads as it did. -/
def superChoosesSpec : ChangeSpec := { name := "superChooses", fn := fun _ => fun
  | [d1, d2, d3] => { results := [.lit (.bool true)], args := [d1, d2, d3] }
  | _ => none }
def superChoosesRow : OpenClaim := { program := "ytljlliiedbedeaadoor", sum := "a6a0aa56ed204d51fe8d7a8f64b99b5a7d54d110f9954b2a91bec7d46c41a118", func := "cambium/cambiumlaw07.SuperChooses", spec := "superChooses", named := ["cambium/sum.shifted"], apart := false, laid := [("cambium/sum.shifted", laid_cambium_sum_shifted)] }
def SuperChoosesSaid : Prop := superChoosesRow.holds Tryd.pinned (OpenSpec.ofChange superChoosesSpec)

/-- ITS FALSE NEIGHBOUR: 'it returns false'. Refute it at one input. -/
def superChoosesWrong : ChangeSpec := { name := "superChooses", fn := fun _ => fun
  | [d1, d2, d3] => { results := [.lit (.bool false)], args := [d1, d2, d3] }
  | _ => none }
def SuperChoosesWrongFalsely : Prop := superChoosesRow.holds Tryd.pinned (OpenSpec.ofChange superChoosesWrong)

/-- 'cambiumlaw07.SuperAreas': WHATEVER THE INPUT: true; the input reads as it did. -/
def superAreasSpec : ChangeSpec := { name := "superAreas", fn := fun _ => fun
  | [d] => { results := [.lit (.bool true)], args := [d] }
  | _ => none }
def superAreasRow : OpenClaim := { program := "ytljlliiedbedeaadoor", sum := "a6a0aa56ed204d51fe8d7a8f64b99b5a7d54d110f9954b2a91bec7d46c41a118", func := "cambium/cambiumlaw07.SuperAreas", spec := "superAreas", named := ["cambium/sum.shifted"], apart := false, laid := [("cambium/sum.shifted", laid_cambium_sum_shifted)] }
def SuperAreasSaid : Prop := superAreasRow.holds Tryd.pinned (OpenSpec.ofChange superAreasSpec)

/-- ITS FALSE NEIGHBOUR: 'it returns false'. Refute it at one input. -/
def superAreasWrong : ChangeSpec := { name := "superAreas", fn := fun _ => fun
  | [d] => { results := [.lit (.bool false)], args := [d] }
  | _ => none }
def SuperAreasWrongFalsely : Prop := superAreasRow.holds Tryd.pinned (OpenSpec.ofChange superAreasWrong)

/- THE SECOND FORM. 'bulk': how many values and letters a reading holds, each counted each time it is reached (what is shared counts as often as it is met; a slice's spare places count too). A statement '..UptoSaid' is the law's where the arguments, and the package variables that the reading takes, are together of bulk at most 1048576: NARROWER than '..Said'. Prove '..Said' where nothing that the law and all that it calls make is longer than what came in: it says more and counts as full. Else prove '..UptoSaid'. A law counts once. -/
mutual
def uptoBulk {H : Type} : DataW H → Nat
  | .lit (.string bytes) => bytes.length + 1
  | .lit _ => 1
  | .nil => 1
  | .ptr d => uptoBulk d + 1
  | .slice elems spare => uptoBulkAll elems + uptoBulkAll spare + 1
  | .agg parts => uptoBulkAll parts + 1
  | .iface _ d => uptoBulk d + 1
  | .map entries => uptoBulkEntries entries + 1
  | .held _ => 1
def uptoBulkAll {H : Type} : List (DataW H) → Nat
  | [] => 0
  | d :: r => uptoBulk d + uptoBulkAll r
def uptoBulkEntries {H : Type} : List (Lit × DataW H) → Nat
  | [] => 0
  | x :: r => uptoBulkEntry x + uptoBulkEntries r
def uptoBulkEntry {H : Type} : Lit × DataW H → Nat
  | (.string bytes, d) => bytes.length + uptoBulk d + 1
  | (_, d) => uptoBulk d + 1
 end
def uptoSmall : (H : Type) → List (DataW H) → Bool := fun _ ds => decide (uptoBulkAll ds ≤ 1048576)
def OpenSpec.upto (s : _root_.Go.ChangeSpec) : _root_.Go.OpenSpec := { _root_.Go.OpenSpec.ofChange s with cond := some uptoSmall }

/-- 'cambiumlaw07.SuperWrites', WHERE WHAT IT READS IS OF BULK AT MOST 1048576: true; the input reads as it did. -/
def superWritesUptoRow : OpenClaim := { program := "ytljlliiedbedeaadoor", sum := "a6a0aa56ed204d51fe8d7a8f64b99b5a7d54d110f9954b2a91bec7d46c41a118", func := "cambium/cambiumlaw07.SuperWrites", spec := "superWrites", named := ["cambium/sum.shifted"], apart := false, laid := [("cambium/sum.shifted", laid_cambium_sum_shifted)], narrowed := true }
def SuperWritesUptoSaid : Prop := superWritesUptoRow.holds Tryd.pinned (OpenSpec.upto superWritesSpec)

/-- 'cambiumlaw07.SuperReads', WHERE WHAT IT READS IS OF BULK AT MOST 1048576: true; the input reads as it did. -/
def superReadsUptoRow : OpenClaim := { program := "ytljlliiedbedeaadoor", sum := "a6a0aa56ed204d51fe8d7a8f64b99b5a7d54d110f9954b2a91bec7d46c41a118", func := "cambium/cambiumlaw07.SuperReads", spec := "superReads", named := ["cambium/sum.shifted"], apart := false, laid := [("cambium/sum.shifted", laid_cambium_sum_shifted)], narrowed := true }
def SuperReadsUptoSaid : Prop := superReadsUptoRow.holds Tryd.pinned (OpenSpec.upto superReadsSpec)

/-- 'cambiumlaw07.SuperNewer', WHERE WHAT IT READS IS OF BULK AT MOST 1048576: true; the input reads as it did. -/
def superNewerUptoRow : OpenClaim := { program := "ytljlliiedbedeaadoor", sum := "a6a0aa56ed204d51fe8d7a8f64b99b5a7d54d110f9954b2a91bec7d46c41a118", func := "cambium/cambiumlaw07.SuperNewer", spec := "superNewer", named := ["cambium/sum.shifted"], apart := false, laid := [("cambium/sum.shifted", laid_cambium_sum_shifted)], narrowed := true }
def SuperNewerUptoSaid : Prop := superNewerUptoRow.holds Tryd.pinned (OpenSpec.upto superNewerSpec)

/-- 'cambiumlaw07.SuperLabels', WHERE WHAT IT READS IS OF BULK AT MOST 1048576: true; the input reads as it did. -/
def superLabelsUptoRow : OpenClaim := { program := "ytljlliiedbedeaadoor", sum := "a6a0aa56ed204d51fe8d7a8f64b99b5a7d54d110f9954b2a91bec7d46c41a118", func := "cambium/cambiumlaw07.SuperLabels", spec := "superLabels", named := ["cambium/sum.shifted"], apart := false, laid := [("cambium/sum.shifted", laid_cambium_sum_shifted)], narrowed := true }
def SuperLabelsUptoSaid : Prop := superLabelsUptoRow.holds Tryd.pinned (OpenSpec.upto superLabelsSpec)

/-- 'cambiumlaw07.SuperBack', WHERE WHAT IT READS IS OF BULK AT MOST 1048576: true; the input reads as it did. -/
def superBackUptoRow : OpenClaim := { program := "ytljlliiedbedeaadoor", sum := "a6a0aa56ed204d51fe8d7a8f64b99b5a7d54d110f9954b2a91bec7d46c41a118", func := "cambium/cambiumlaw07.SuperBack", spec := "superBack", named := ["cambium/sum.shifted"], apart := false, laid := [("cambium/sum.shifted", laid_cambium_sum_shifted)], narrowed := true }
def SuperBackUptoSaid : Prop := superBackUptoRow.holds Tryd.pinned (OpenSpec.upto superBackSpec)

/-- 'cambiumlaw07.SuperChooses', WHERE WHAT IT READS IS OF BULK AT MOST 1048576: true; the input reads as it did. -/
def superChoosesUptoRow : OpenClaim := { program := "ytljlliiedbedeaadoor", sum := "a6a0aa56ed204d51fe8d7a8f64b99b5a7d54d110f9954b2a91bec7d46c41a118", func := "cambium/cambiumlaw07.SuperChooses", spec := "superChooses", named := ["cambium/sum.shifted"], apart := false, laid := [("cambium/sum.shifted", laid_cambium_sum_shifted)], narrowed := true }
def SuperChoosesUptoSaid : Prop := superChoosesUptoRow.holds Tryd.pinned (OpenSpec.upto superChoosesSpec)

/-- 'cambiumlaw07.SuperAreas', WHERE WHAT IT READS IS OF BULK AT MOST 1048576: true; the input reads as it did. -/
def superAreasUptoRow : OpenClaim := { program := "ytljlliiedbedeaadoor", sum := "a6a0aa56ed204d51fe8d7a8f64b99b5a7d54d110f9954b2a91bec7d46c41a118", func := "cambium/cambiumlaw07.SuperAreas", spec := "superAreas", named := ["cambium/sum.shifted"], apart := false, laid := [("cambium/sum.shifted", laid_cambium_sum_shifted)], narrowed := true }
def SuperAreasUptoSaid : Prop := superAreasUptoRow.holds Tryd.pinned (OpenSpec.upto superAreasSpec)

end Rows
end Go.Proofs.YtljlliiedbedeaaDoor
