/-
  NARROWER THAN 'FOR EVERY INPUT', by the rows' own cells (each row's printed sentence says how): FindGets: laid · FindScans: laid · FindPaths: laid · FindSpoilt: laid · FindRows: laid · FindFew: laid · FindSame: laid.
  DERIVED. THE GIVEN ROWS OF THIS SEAT. 7 by the template 'for every input the law returns true; each argument reads behind the call as it read before'; 0 by the template 'total and deterministic' (their statements: YtgedmodnkiijkaaGreatDoorTotals.lean).
  GIVEN WITH THE SEED: the statements are not yours to turn. If you find one false, say at which input.
  Laid BY PROGRAM, IN A SANDBOX (cutbox-rows.mjs): the forced cells as the released guide's own fill.sh prints them over the translation 1136e849f812bdba… (all of the seat's roots in one cut). By AI agents, Wed Nov 11 2026. No macro, syntax, notation, axiom, sorry.
-/
import Derived.Test.YtgedmodnkiijkaaGreatDoorChecked
import GoSem.Claim
import GoSem.ClaimJoined
import GoSem.ClaimMapViews
import Derived.JoinedTies
import Derived.KernelRfl
namespace Go.Proofs.YtgedmodnkiijkaaGreatDoor
/- THE CELL 'sum', in the pinned program and in every row, IS THE sha256 OF THE DUMP (.gsa) THAT YtgedmodnkiijkaaGreatDoorProg.lean LOADS. Nothing in Lean hashes anything: it is a label: what it is worth is what the hold of that sum in a sandbox is worth. -/
noncomputable def Tryz.pinned : Pinned := { name := "ytgedmodnkiijkaagreatdoor", sum := "1136e849f812bdbaff9230cc0abedd8df7825ff295c46dcfc6690d9cec59acb6", checked := Tryz.checked }
namespace Rows
def none {H : Type} : Left H := { results := [], args := [] }

/- WHAT THE LISTED PACKAGE-LEVEL VARIABLES READ AS WHEN THE CALL BEGINS. Each datum BY PROGRAM (the guide's laid-datum.mjs) off the statement by which the dump's own 'gosem.cut.vars' lays the variable. In a bare row this is a premise. The card (YtgedmodnkiijkaaGreatDoorCards.lean) ties it to the program's text. -/
def laid_cambium_sum_shifted {H : Type} : DataW H := .agg [.lit (.int .u32 0), .lit (.int .u32 274646895), .lit (.int .u32 549293790), .lit (.int .u32 820201905), .lit (.int .u32 1098587580), .lit (.int .u32 1361435347), .lit (.int .u32 1640403810), .lit (.int .u32 1905808397), .lit (.int .u32 2197175160), .lit (.int .u32 2460548119), .lit (.int .u32 2722870694), .lit (.int .u32 2987750089), .lit (.int .u32 3280807620), .lit (.int .u32 3553878443), .lit (.int .u32 3811616794), .lit (.int .u32 4084100981)]

/-- 'cambiumlaw10.FindGets': WHATEVER THE INPUT: true; the input reads as it did. -/
def findGetsSpec : ChangeSpec := { name := "findGets", fn := fun _ => fun
  | [d1, d2, d3] => { results := [.lit (.bool true)], args := [d1, d2, d3] }
  | _ => none }
def findGetsRow : OpenClaim := { program := "ytgedmodnkiijkaagreatdoor", sum := "1136e849f812bdbaff9230cc0abedd8df7825ff295c46dcfc6690d9cec59acb6", func := "cambium/cambiumlaw10.FindGets", spec := "findGets", inPlace := ["internal/bytealg.Count", "internal/bytealg.IndexByte", "internal/bytealg.Index"], unfollowed := true, recurses := true, named := ["cambium/sum.shifted", "internal/bytealg.MaxLen"], apart := false, laid := [("cambium/sum.shifted", laid_cambium_sum_shifted)] }
def FindGetsSaid : Prop := findGetsRow.holds Tryz.pinned (OpenSpec.ofChange findGetsSpec)

/-- ITS FALSE NEIGHBOUR: 'it returns false'. Refute it at one input. -/
def findGetsWrong : ChangeSpec := { name := "findGets", fn := fun _ => fun
  | [d1, d2, d3] => { results := [.lit (.bool false)], args := [d1, d2, d3] }
  | _ => none }
def FindGetsWrongFalsely : Prop := findGetsRow.holds Tryz.pinned (OpenSpec.ofChange findGetsWrong)

/-- 'cambiumlaw10.FindScans': WHATEVER THE INPUT: true; the input reads as it did. -/
def findScansSpec : ChangeSpec := { name := "findScans", fn := fun _ => fun
  | [d1, d2, d3] => { results := [.lit (.bool true)], args := [d1, d2, d3] }
  | _ => none }
def findScansRow : OpenClaim := { program := "ytgedmodnkiijkaagreatdoor", sum := "1136e849f812bdbaff9230cc0abedd8df7825ff295c46dcfc6690d9cec59acb6", func := "cambium/cambiumlaw10.FindScans", spec := "findScans", inPlace := ["internal/bytealg.Count", "internal/bytealg.IndexByte", "internal/bytealg.Index"], unfollowed := true, recurses := true, named := ["cambium/sum.shifted", "internal/bytealg.MaxLen"], apart := false, laid := [("cambium/sum.shifted", laid_cambium_sum_shifted)] }
def FindScansSaid : Prop := findScansRow.holds Tryz.pinned (OpenSpec.ofChange findScansSpec)

/-- ITS FALSE NEIGHBOUR: 'it returns false'. Refute it at one input. -/
def findScansWrong : ChangeSpec := { name := "findScans", fn := fun _ => fun
  | [d1, d2, d3] => { results := [.lit (.bool false)], args := [d1, d2, d3] }
  | _ => none }
def FindScansWrongFalsely : Prop := findScansRow.holds Tryz.pinned (OpenSpec.ofChange findScansWrong)

/-- 'cambiumlaw10.FindPaths': WHATEVER THE INPUT: true; the input reads as it did. -/
def findPathsSpec : ChangeSpec := { name := "findPaths", fn := fun _ => fun
  | [d1, d2] => { results := [.lit (.bool true)], args := [d1, d2] }
  | _ => none }
def findPathsRow : OpenClaim := { program := "ytgedmodnkiijkaagreatdoor", sum := "1136e849f812bdbaff9230cc0abedd8df7825ff295c46dcfc6690d9cec59acb6", func := "cambium/cambiumlaw10.FindPaths", spec := "findPaths", inPlace := ["internal/bytealg.Count", "internal/bytealg.IndexByte", "internal/bytealg.Index"], unfollowed := true, recurses := true, named := ["cambium/sum.shifted", "internal/bytealg.MaxLen"], apart := false, laid := [("cambium/sum.shifted", laid_cambium_sum_shifted)] }
def FindPathsSaid : Prop := findPathsRow.holds Tryz.pinned (OpenSpec.ofChange findPathsSpec)

/-- ITS FALSE NEIGHBOUR: 'it returns false'. Refute it at one input. -/
def findPathsWrong : ChangeSpec := { name := "findPaths", fn := fun _ => fun
  | [d1, d2] => { results := [.lit (.bool false)], args := [d1, d2] }
  | _ => none }
def FindPathsWrongFalsely : Prop := findPathsRow.holds Tryz.pinned (OpenSpec.ofChange findPathsWrong)

/-- 'cambiumlaw10.FindSpoilt': WHATEVER THE INPUT: true; the input reads as it did. -/
def findSpoiltSpec : ChangeSpec := { name := "findSpoilt", fn := fun _ => fun
  | [d1, d2] => { results := [.lit (.bool true)], args := [d1, d2] }
  | _ => none }
def findSpoiltRow : OpenClaim := { program := "ytgedmodnkiijkaagreatdoor", sum := "1136e849f812bdbaff9230cc0abedd8df7825ff295c46dcfc6690d9cec59acb6", func := "cambium/cambiumlaw10.FindSpoilt", spec := "findSpoilt", inPlace := ["internal/bytealg.Count", "internal/bytealg.IndexByte", "internal/bytealg.Index"], unfollowed := true, recurses := true, named := ["cambium/sum.shifted", "internal/bytealg.MaxLen"], apart := false, laid := [("cambium/sum.shifted", laid_cambium_sum_shifted)] }
def FindSpoiltSaid : Prop := findSpoiltRow.holds Tryz.pinned (OpenSpec.ofChange findSpoiltSpec)

/-- ITS FALSE NEIGHBOUR: 'it returns false'. Refute it at one input. -/
def findSpoiltWrong : ChangeSpec := { name := "findSpoilt", fn := fun _ => fun
  | [d1, d2] => { results := [.lit (.bool false)], args := [d1, d2] }
  | _ => none }
def FindSpoiltWrongFalsely : Prop := findSpoiltRow.holds Tryz.pinned (OpenSpec.ofChange findSpoiltWrong)

/-- 'cambiumlaw10.FindRows': WHATEVER THE INPUT: true; the input reads as it did. -/
def findRowsSpec : ChangeSpec := { name := "findRows", fn := fun _ => fun
  | [d1, d2] => { results := [.lit (.bool true)], args := [d1, d2] }
  | _ => none }
def findRowsRow : OpenClaim := { program := "ytgedmodnkiijkaagreatdoor", sum := "1136e849f812bdbaff9230cc0abedd8df7825ff295c46dcfc6690d9cec59acb6", func := "cambium/cambiumlaw10.FindRows", spec := "findRows", inPlace := ["internal/bytealg.Count", "internal/bytealg.IndexByte", "internal/bytealg.Index"], unfollowed := true, recurses := true, named := ["cambium/sum.shifted", "internal/bytealg.MaxLen"], apart := false, laid := [("cambium/sum.shifted", laid_cambium_sum_shifted)] }
def FindRowsSaid : Prop := findRowsRow.holds Tryz.pinned (OpenSpec.ofChange findRowsSpec)

/-- ITS FALSE NEIGHBOUR: 'it returns false'. Refute it at one input. -/
def findRowsWrong : ChangeSpec := { name := "findRows", fn := fun _ => fun
  | [d1, d2] => { results := [.lit (.bool false)], args := [d1, d2] }
  | _ => none }
def FindRowsWrongFalsely : Prop := findRowsRow.holds Tryz.pinned (OpenSpec.ofChange findRowsWrong)

/-- 'cambiumlaw10.FindFew': WHATEVER THE INPUT: true; the input reads as it did. -/
def findFewSpec : ChangeSpec := { name := "findFew", fn := fun _ => fun
  | [d1, d2] => { results := [.lit (.bool true)], args := [d1, d2] }
  | _ => none }
def findFewRow : OpenClaim := { program := "ytgedmodnkiijkaagreatdoor", sum := "1136e849f812bdbaff9230cc0abedd8df7825ff295c46dcfc6690d9cec59acb6", func := "cambium/cambiumlaw10.FindFew", spec := "findFew", inPlace := ["internal/bytealg.Count", "internal/bytealg.IndexByte", "internal/bytealg.Index"], unfollowed := true, recurses := true, named := ["cambium/sum.shifted", "internal/bytealg.MaxLen"], apart := false, laid := [("cambium/sum.shifted", laid_cambium_sum_shifted)] }
def FindFewSaid : Prop := findFewRow.holds Tryz.pinned (OpenSpec.ofChange findFewSpec)

/-- ITS FALSE NEIGHBOUR: 'it returns false'. Refute it at one input. -/
def findFewWrong : ChangeSpec := { name := "findFew", fn := fun _ => fun
  | [d1, d2] => { results := [.lit (.bool false)], args := [d1, d2] }
  | _ => none }
def FindFewWrongFalsely : Prop := findFewRow.holds Tryz.pinned (OpenSpec.ofChange findFewWrong)

/-- 'cambiumlaw10.FindSame': WHATEVER THE INPUT: true; the input reads as it did. -/
def findSameSpec : ChangeSpec := { name := "findSame", fn := fun _ => fun
  | [d1, d2, d3] => { results := [.lit (.bool true)], args := [d1, d2, d3] }
  | _ => none }
def findSameRow : OpenClaim := { program := "ytgedmodnkiijkaagreatdoor", sum := "1136e849f812bdbaff9230cc0abedd8df7825ff295c46dcfc6690d9cec59acb6", func := "cambium/cambiumlaw10.FindSame", spec := "findSame", inPlace := ["internal/bytealg.Count", "internal/bytealg.IndexByte", "internal/bytealg.Index"], unfollowed := true, recurses := true, named := ["cambium/sum.shifted", "internal/bytealg.MaxLen"], apart := false, laid := [("cambium/sum.shifted", laid_cambium_sum_shifted)] }
def FindSameSaid : Prop := findSameRow.holds Tryz.pinned (OpenSpec.ofChange findSameSpec)

/-- ITS FALSE NEIGHBOUR: 'it returns false'. Refute it at one input. -/
def findSameWrong : ChangeSpec := { name := "findSame", fn := fun _ => fun
  | [d1, d2, d3] => { results := [.lit (.bool false)], args := [d1, d2, d3] }
  | _ => none }
def FindSameWrongFalsely : Prop := findSameRow.holds Tryz.pinned (OpenSpec.ofChange findSameWrong)

/- THE SECOND FORM. 'bulk': how many values and letters a reading holds, each counted each time it is reached (what is shared counts as often as it is met; a slice's spare places count too). A statement '..UptoSaid' is the law's where the arguments, and the package variables that the reading takes, are together of bulk at most 1048576: NARROWER than '..Said'. Prove '..Said' where nothing that the law and all that it calls make is longer than what came in: it says more and counts as full. Else prove '..UptoSaid'. A law counts once. -/
mutual
def uptoBulk {H : Type} : DataW H → Nat
  | .lit (.string bytes) => bytes.length + 1
  | .lit _ => 1
  | .nil => 1
  | .ptr d => uptoBulk d + 1
  | .slice elems spare => uptoBulkAll elems + uptoBulkAll spare + 1
  | .agg parts => uptoBulkAll parts + 1
  | .iface _ d => uptoBulk d + 1
  | .map entries => uptoBulkEntries entries + 1
  | .held _ => 1
def uptoBulkAll {H : Type} : List (DataW H) → Nat
  | [] => 0
  | d :: r => uptoBulk d + uptoBulkAll r
def uptoBulkEntries {H : Type} : List (Lit × DataW H) → Nat
  | [] => 0
  | x :: r => uptoBulkEntry x + uptoBulkEntries r
def uptoBulkEntry {H : Type} : Lit × DataW H → Nat
  | (.string bytes, d) => bytes.length + uptoBulk d + 1
  | (_, d) => uptoBulk d + 1
 end
def uptoSmall : (H : Type) → List (DataW H) → Bool := fun _ ds => decide (uptoBulkAll ds ≤ 1048576)
def OpenSpec.upto (s : _root_.Go.ChangeSpec) : _root_.Go.OpenSpec := { _root_.Go.OpenSpec.ofChange s with cond := some uptoSmall }

/-- 'cambiumlaw10.FindGets', WHERE WHAT IT READS IS OF BULK AT MOST 1048576: true; the input reads as it did. -/
def findGetsUptoRow : OpenClaim := { program := "ytgedmodnkiijkaagreatdoor", sum := "1136e849f812bdbaff9230cc0abedd8df7825ff295c46dcfc6690d9cec59acb6", func := "cambium/cambiumlaw10.FindGets", spec := "findGets", inPlace := ["internal/bytealg.Count", "internal/bytealg.IndexByte", "internal/bytealg.Index"], unfollowed := true, recurses := true, named := ["cambium/sum.shifted", "internal/bytealg.MaxLen"], apart := false, laid := [("cambium/sum.shifted", laid_cambium_sum_shifted)], narrowed := true }
def FindGetsUptoSaid : Prop := findGetsUptoRow.holds Tryz.pinned (OpenSpec.upto findGetsSpec)

/-- 'cambiumlaw10.FindScans', WHERE WHAT IT READS IS OF BULK AT MOST 1048576: true; the input reads as it did. -/
def findScansUptoRow : OpenClaim := { program := "ytgedmodnkiijkaagreatdoor", sum := "1136e849f812bdbaff9230cc0abedd8df7825ff295c46dcfc6690d9cec59acb6", func := "cambium/cambiumlaw10.FindScans", spec := "findScans", inPlace := ["internal/bytealg.Count", "internal/bytealg.IndexByte", "internal/bytealg.Index"], unfollowed := true, recurses := true, named := ["cambium/sum.shifted", "internal/bytealg.MaxLen"], apart := false, laid := [("cambium/sum.shifted", laid_cambium_sum_shifted)], narrowed := true }
def FindScansUptoSaid : Prop := findScansUptoRow.holds Tryz.pinned (OpenSpec.upto findScansSpec)

/-- 'cambiumlaw10.FindPaths', WHERE WHAT IT READS IS OF BULK AT MOST 1048576: true; the input reads as it did. -/
def findPathsUptoRow : OpenClaim := { program := "ytgedmodnkiijkaagreatdoor", sum := "1136e849f812bdbaff9230cc0abedd8df7825ff295c46dcfc6690d9cec59acb6", func := "cambium/cambiumlaw10.FindPaths", spec := "findPaths", inPlace := ["internal/bytealg.Count", "internal/bytealg.IndexByte", "internal/bytealg.Index"], unfollowed := true, recurses := true, named := ["cambium/sum.shifted", "internal/bytealg.MaxLen"], apart := false, laid := [("cambium/sum.shifted", laid_cambium_sum_shifted)], narrowed := true }
def FindPathsUptoSaid : Prop := findPathsUptoRow.holds Tryz.pinned (OpenSpec.upto findPathsSpec)

/-- 'cambiumlaw10.FindSpoilt', WHERE WHAT IT READS IS OF BULK AT MOST 1048576: true; the input reads as it did. -/
def findSpoiltUptoRow : OpenClaim := { program := "ytgedmodnkiijkaagreatdoor", sum := "1136e849f812bdbaff9230cc0abedd8df7825ff295c46dcfc6690d9cec59acb6", func := "cambium/cambiumlaw10.FindSpoilt", spec := "findSpoilt", inPlace := ["internal/bytealg.Count", "internal/bytealg.IndexByte", "internal/bytealg.Index"], unfollowed := true, recurses := true, named := ["cambium/sum.shifted", "internal/bytealg.MaxLen"], apart := false, laid := [("cambium/sum.shifted", laid_cambium_sum_shifted)], narrowed := true }
def FindSpoiltUptoSaid : Prop := findSpoiltUptoRow.holds Tryz.pinned (OpenSpec.upto findSpoiltSpec)

/-- 'cambiumlaw10.FindRows', WHERE WHAT IT READS IS OF BULK AT MOST 1048576: true; the input reads as it did. -/
def findRowsUptoRow : OpenClaim := { program := "ytgedmodnkiijkaagreatdoor", sum := "1136e849f812bdbaff9230cc0abedd8df7825ff295c46dcfc6690d9cec59acb6", func := "cambium/cambiumlaw10.FindRows", spec := "findRows", inPlace := ["internal/bytealg.Count", "internal/bytealg.IndexByte", "internal/bytealg.Index"], unfollowed := true, recurses := true, named := ["cambium/sum.shifted", "internal/bytealg.MaxLen"], apart := false, laid := [("cambium/sum.shifted", laid_cambium_sum_shifted)], narrowed := true }
def FindRowsUptoSaid : Prop := findRowsUptoRow.holds Tryz.pinned (OpenSpec.upto findRowsSpec)

/-- 'cambiumlaw10.FindFew', WHERE WHAT IT READS IS OF BULK AT MOST 1048576: true; the input reads as it did. -/
def findFewUptoRow : OpenClaim := { program := "ytgedmodnkiijkaagreatdoor", sum := "1136e849f812bdbaff9230cc0abedd8df7825ff295c46dcfc6690d9cec59acb6", func := "cambium/cambiumlaw10.FindFew", spec := "findFew", inPlace := ["internal/bytealg.Count", "internal/bytealg.IndexByte", "internal/bytealg.Index"], unfollowed := true, recurses := true, named := ["cambium/sum.shifted", "internal/bytealg.MaxLen"], apart := false, laid := [("cambium/sum.shifted", laid_cambium_sum_shifted)], narrowed := true }
def FindFewUptoSaid : Prop := findFewUptoRow.holds Tryz.pinned (OpenSpec.upto findFewSpec)

/-- 'cambiumlaw10.FindSame', WHERE WHAT IT READS IS OF BULK AT MOST 1048576: true; the input reads as it did. -/
def findSameUptoRow : OpenClaim := { program := "ytgedmodnkiijkaagreatdoor", sum := "1136e849f812bdbaff9230cc0abedd8df7825ff295c46dcfc6690d9cec59acb6", func := "cambium/cambiumlaw10.FindSame", spec := "findSame", inPlace := ["internal/bytealg.Count", "internal/bytealg.IndexByte", "internal/bytealg.Index"], unfollowed := true, recurses := true, named := ["cambium/sum.shifted", "internal/bytealg.MaxLen"], apart := false, laid := [("cambium/sum.shifted", laid_cambium_sum_shifted)], narrowed := true }
def FindSameUptoSaid : Prop := findSameUptoRow.holds Tryz.pinned (OpenSpec.upto findSameSpec)

end Rows
end Go.Proofs.YtgedmodnkiijkaaGreatDoor
