/-
  NARROWER THAN 'FOR EVERY INPUT', by the rows' own cells (each row's printed sentence says how): NodeMays: laid · NodeWrites: laid · NodeReads: laid · NodeSeeks: laid · NodeBack: laid · NodeFinds: laid.
  DERIVED. THE GIVEN ROWS OF THIS SEAT. 6 by the template 'for every input the law returns true; each argument reads behind the call as it read before'; 0 by the template 'total and deterministic' (their statements: YtmebdjafnefneaaDoorTotals.lean).
  GIVEN WITH THE SEED: the statements are not yours to turn. If you find one false, say at which input.
  Laid BY PROGRAM, IN A SANDBOX (cutbox-rows.mjs): the forced cells as the released guide's own fill.sh prints them over the translation 51d935cf36b97dfc… (all of the seat's roots in one cut). By AI agents, Wed Nov 11 2026. No macro, syntax, notation, axiom, sorry.
-/
import Derived.Test.YtmebdjafnefneaaDoorChecked
import GoSem.Claim
import GoSem.ClaimJoined
import GoSem.ClaimMapViews
import Derived.JoinedTies
import Derived.KernelRfl
namespace Go.Proofs.YtmebdjafnefneaaDoor
/- THE CELL 'sum', in the pinned program and in every row, IS THE sha256 OF THE DUMP (.gsa) THAT YtmebdjafnefneaaDoorProg.lean LOADS. Nothing in Lean hashes anything: it is a label: what it is worth is what the hold of that sum in a sandbox is worth. -/
noncomputable def Tryd.pinned : Pinned := { name := "ytmebdjafnefneaadoor", sum := "51d935cf36b97dfc2afb7e24f765e3c870430ae143919fa70615c871294a2f59", checked := Tryd.checked }
namespace Rows
def none {H : Type} : Left H := { results := [], args := [] }

/- WHAT THE LISTED PACKAGE-LEVEL VARIABLES READ AS WHEN THE CALL BEGINS. Each datum BY PROGRAM (the guide's laid-datum.mjs) off the statement by which the dump's own 'gosem.cut.vars' lays the variable. In a bare row this is a premise. The card (YtmebdjafnefneaaDoorCards.lean) ties it to the program's text. -/
def laid_cambium_sum_shifted {H : Type} : DataW H := .agg [.lit (.int .u32 0), .lit (.int .u32 274646895), .lit (.int .u32 549293790), .lit (.int .u32 820201905), .lit (.int .u32 1098587580), .lit (.int .u32 1361435347), .lit (.int .u32 1640403810), .lit (.int .u32 1905808397), .lit (.int .u32 2197175160), .lit (.int .u32 2460548119), .lit (.int .u32 2722870694), .lit (.int .u32 2987750089), .lit (.int .u32 3280807620), .lit (.int .u32 3553878443), .lit (.int .u32 3811616794), .lit (.int .u32 4084100981)]

/-- 'cambiumlaw06.NodeMays': WHATEVER THE INPUT: true; the input reads as it did. -/
def nodeMaysSpec : ChangeSpec := { name := "nodeMays", fn := fun _ => fun
  | [d] => { results := [.lit (.bool true)], args := [d] }
  | _ => none }
def nodeMaysRow : OpenClaim := { program := "ytmebdjafnefneaadoor", sum := "51d935cf36b97dfc2afb7e24f765e3c870430ae143919fa70615c871294a2f59", func := "cambium/cambiumlaw06.NodeMays", spec := "nodeMays", unfollowed := true, recurses := true, named := ["cambium/sum.shifted"], apart := false, laid := [("cambium/sum.shifted", laid_cambium_sum_shifted)] }
def NodeMaysSaid : Prop := nodeMaysRow.holds Tryd.pinned (OpenSpec.ofChange nodeMaysSpec)

/-- ITS FALSE NEIGHBOUR: 'it returns false'. Refute it at one input. -/
def nodeMaysWrong : ChangeSpec := { name := "nodeMays", fn := fun _ => fun
  | [d] => { results := [.lit (.bool false)], args := [d] }
  | _ => none }
def NodeMaysWrongFalsely : Prop := nodeMaysRow.holds Tryd.pinned (OpenSpec.ofChange nodeMaysWrong)

/-- 'cambiumlaw06.NodeWrites': WHATEVER THE INPUT: true; the input reads as it did. -/
def nodeWritesSpec : ChangeSpec := { name := "nodeWrites", fn := fun _ => fun
  | [d1, d2, d3] => { results := [.lit (.bool true)], args := [d1, d2, d3] }
  | _ => none }
def nodeWritesRow : OpenClaim := { program := "ytmebdjafnefneaadoor", sum := "51d935cf36b97dfc2afb7e24f765e3c870430ae143919fa70615c871294a2f59", func := "cambium/cambiumlaw06.NodeWrites", spec := "nodeWrites", unfollowed := true, recurses := true, named := ["cambium/sum.shifted"], apart := false, laid := [("cambium/sum.shifted", laid_cambium_sum_shifted)] }
def NodeWritesSaid : Prop := nodeWritesRow.holds Tryd.pinned (OpenSpec.ofChange nodeWritesSpec)

/-- ITS FALSE NEIGHBOUR: 'it returns false'. Refute it at one input. -/
def nodeWritesWrong : ChangeSpec := { name := "nodeWrites", fn := fun _ => fun
  | [d1, d2, d3] => { results := [.lit (.bool false)], args := [d1, d2, d3] }
  | _ => none }
def NodeWritesWrongFalsely : Prop := nodeWritesRow.holds Tryd.pinned (OpenSpec.ofChange nodeWritesWrong)

/-- 'cambiumlaw06.NodeReads': WHATEVER THE INPUT: true; the input reads as it did. -/
def nodeReadsSpec : ChangeSpec := { name := "nodeReads", fn := fun _ => fun
  | [d1, d2] => { results := [.lit (.bool true)], args := [d1, d2] }
  | _ => none }
def nodeReadsRow : OpenClaim := { program := "ytmebdjafnefneaadoor", sum := "51d935cf36b97dfc2afb7e24f765e3c870430ae143919fa70615c871294a2f59", func := "cambium/cambiumlaw06.NodeReads", spec := "nodeReads", inPlace := ["internal/bytealg.Count", "internal/bytealg.IndexByte", "internal/bytealg.Index"], unfollowed := true, recurses := true, named := ["cambium/sum.shifted", "internal/bytealg.MaxLen"], apart := false, laid := [("cambium/sum.shifted", laid_cambium_sum_shifted)] }
def NodeReadsSaid : Prop := nodeReadsRow.holds Tryd.pinned (OpenSpec.ofChange nodeReadsSpec)

/-- ITS FALSE NEIGHBOUR: 'it returns false'. Refute it at one input. -/
def nodeReadsWrong : ChangeSpec := { name := "nodeReads", fn := fun _ => fun
  | [d1, d2] => { results := [.lit (.bool false)], args := [d1, d2] }
  | _ => none }
def NodeReadsWrongFalsely : Prop := nodeReadsRow.holds Tryd.pinned (OpenSpec.ofChange nodeReadsWrong)

/-- 'cambiumlaw06.NodeSeeks': WHATEVER THE INPUT: true; the input reads as it did. -/
def nodeSeeksSpec : ChangeSpec := { name := "nodeSeeks", fn := fun _ => fun
  | [d1, d2] => { results := [.lit (.bool true)], args := [d1, d2] }
  | _ => none }
def nodeSeeksRow : OpenClaim := { program := "ytmebdjafnefneaadoor", sum := "51d935cf36b97dfc2afb7e24f765e3c870430ae143919fa70615c871294a2f59", func := "cambium/cambiumlaw06.NodeSeeks", spec := "nodeSeeks", unfollowed := true, recurses := true, named := ["cambium/sum.shifted"], apart := false, laid := [("cambium/sum.shifted", laid_cambium_sum_shifted)] }
def NodeSeeksSaid : Prop := nodeSeeksRow.holds Tryd.pinned (OpenSpec.ofChange nodeSeeksSpec)

/-- ITS FALSE NEIGHBOUR: 'it returns false'. Refute it at one input. -/
def nodeSeeksWrong : ChangeSpec := { name := "nodeSeeks", fn := fun _ => fun
  | [d1, d2] => { results := [.lit (.bool false)], args := [d1, d2] }
  | _ => none }
def NodeSeeksWrongFalsely : Prop := nodeSeeksRow.holds Tryd.pinned (OpenSpec.ofChange nodeSeeksWrong)

/-- 'cambiumlaw06.NodeBack': WHATEVER THE INPUT: true; the input reads as it did. -/
def nodeBackSpec : ChangeSpec := { name := "nodeBack", fn := fun _ => fun
  | [d1, d2, d3] => { results := [.lit (.bool true)], args := [d1, d2, d3] }
  | _ => none }
def nodeBackRow : OpenClaim := { program := "ytmebdjafnefneaadoor", sum := "51d935cf36b97dfc2afb7e24f765e3c870430ae143919fa70615c871294a2f59", func := "cambium/cambiumlaw06.NodeBack", spec := "nodeBack", inPlace := ["internal/bytealg.Count", "internal/bytealg.IndexByte", "internal/bytealg.Index"], unfollowed := true, recurses := true, named := ["cambium/sum.shifted", "internal/bytealg.MaxLen"], apart := false, laid := [("cambium/sum.shifted", laid_cambium_sum_shifted)] }
def NodeBackSaid : Prop := nodeBackRow.holds Tryd.pinned (OpenSpec.ofChange nodeBackSpec)

/-- ITS FALSE NEIGHBOUR: 'it returns false'. Refute it at one input. -/
def nodeBackWrong : ChangeSpec := { name := "nodeBack", fn := fun _ => fun
  | [d1, d2, d3] => { results := [.lit (.bool false)], args := [d1, d2, d3] }
  | _ => none }
def NodeBackWrongFalsely : Prop := nodeBackRow.holds Tryd.pinned (OpenSpec.ofChange nodeBackWrong)

/-- 'cambiumlaw06.NodeFinds': WHATEVER THE INPUT: true; the input reads as it did. -/
def nodeFindsSpec : ChangeSpec := { name := "nodeFinds", fn := fun _ => fun
  | [d1, d2] => { results := [.lit (.bool true)], args := [d1, d2] }
  | _ => none }
def nodeFindsRow : OpenClaim := { program := "ytmebdjafnefneaadoor", sum := "51d935cf36b97dfc2afb7e24f765e3c870430ae143919fa70615c871294a2f59", func := "cambium/cambiumlaw06.NodeFinds", spec := "nodeFinds", unfollowed := true, recurses := true, named := ["cambium/sum.shifted"], apart := false, laid := [("cambium/sum.shifted", laid_cambium_sum_shifted)] }
def NodeFindsSaid : Prop := nodeFindsRow.holds Tryd.pinned (OpenSpec.ofChange nodeFindsSpec)

/-- ITS FALSE NEIGHBOUR: 'it returns false'. Refute it at one input. -/
def nodeFindsWrong : ChangeSpec := { name := "nodeFinds", fn := fun _ => fun
  | [d1, d2] => { results := [.lit (.bool false)], args := [d1, d2] }
  | _ => none }
def NodeFindsWrongFalsely : Prop := nodeFindsRow.holds Tryd.pinned (OpenSpec.ofChange nodeFindsWrong)

/- THE SECOND FORM. 'bulk': how many values and letters a reading holds, each counted each time it is reached (what is shared counts as often as it is met; a slice's spare places count too). A statement '..UptoSaid' is the law's where the arguments, and the package variables that the reading takes, are together of bulk at most 1048576: NARROWER than '..Said'. Prove '..Said' where nothing that the law and all that it calls make is longer than what came in: it says more and counts as full. Else prove '..UptoSaid'. A law counts once. -/
mutual
def uptoBulk {H : Type} : DataW H → Nat
  | .lit (.string bytes) => bytes.length + 1
  | .lit _ => 1
  | .nil => 1
  | .ptr d => uptoBulk d + 1
  | .slice elems spare => uptoBulkAll elems + uptoBulkAll spare + 1
  | .agg parts => uptoBulkAll parts + 1
  | .iface _ d => uptoBulk d + 1
  | .map entries => uptoBulkEntries entries + 1
  | .held _ => 1
def uptoBulkAll {H : Type} : List (DataW H) → Nat
  | [] => 0
  | d :: r => uptoBulk d + uptoBulkAll r
def uptoBulkEntries {H : Type} : List (Lit × DataW H) → Nat
  | [] => 0
  | x :: r => uptoBulkEntry x + uptoBulkEntries r
def uptoBulkEntry {H : Type} : Lit × DataW H → Nat
  | (.string bytes, d) => bytes.length + uptoBulk d + 1
  | (_, d) => uptoBulk d + 1
 end
def uptoSmall : (H : Type) → List (DataW H) → Bool := fun _ ds => decide (uptoBulkAll ds ≤ 1048576)
def OpenSpec.upto (s : _root_.Go.ChangeSpec) : _root_.Go.OpenSpec := { _root_.Go.OpenSpec.ofChange s with cond := some uptoSmall }

/-- 'cambiumlaw06.NodeMays', WHERE WHAT IT READS IS OF BULK AT MOST 1048576: true; the input reads as it did. -/
def nodeMaysUptoRow : OpenClaim := { program := "ytmebdjafnefneaadoor", sum := "51d935cf36b97dfc2afb7e24f765e3c870430ae143919fa70615c871294a2f59", func := "cambium/cambiumlaw06.NodeMays", spec := "nodeMays", unfollowed := true, recurses := true, named := ["cambium/sum.shifted"], apart := false, laid := [("cambium/sum.shifted", laid_cambium_sum_shifted)], narrowed := true }
def NodeMaysUptoSaid : Prop := nodeMaysUptoRow.holds Tryd.pinned (OpenSpec.upto nodeMaysSpec)

/-- 'cambiumlaw06.NodeWrites', WHERE WHAT IT READS IS OF BULK AT MOST 1048576: true; the input reads as it did. -/
def nodeWritesUptoRow : OpenClaim := { program := "ytmebdjafnefneaadoor", sum := "51d935cf36b97dfc2afb7e24f765e3c870430ae143919fa70615c871294a2f59", func := "cambium/cambiumlaw06.NodeWrites", spec := "nodeWrites", unfollowed := true, recurses := true, named := ["cambium/sum.shifted"], apart := false, laid := [("cambium/sum.shifted", laid_cambium_sum_shifted)], narrowed := true }
def NodeWritesUptoSaid : Prop := nodeWritesUptoRow.holds Tryd.pinned (OpenSpec.upto nodeWritesSpec)

/-- 'cambiumlaw06.NodeReads', WHERE WHAT IT READS IS OF BULK AT MOST 1048576: true; the input reads as it did. -/
def nodeReadsUptoRow : OpenClaim := { program := "ytmebdjafnefneaadoor", sum := "51d935cf36b97dfc2afb7e24f765e3c870430ae143919fa70615c871294a2f59", func := "cambium/cambiumlaw06.NodeReads", spec := "nodeReads", inPlace := ["internal/bytealg.Count", "internal/bytealg.IndexByte", "internal/bytealg.Index"], unfollowed := true, recurses := true, named := ["cambium/sum.shifted", "internal/bytealg.MaxLen"], apart := false, laid := [("cambium/sum.shifted", laid_cambium_sum_shifted)], narrowed := true }
def NodeReadsUptoSaid : Prop := nodeReadsUptoRow.holds Tryd.pinned (OpenSpec.upto nodeReadsSpec)

/-- 'cambiumlaw06.NodeSeeks', WHERE WHAT IT READS IS OF BULK AT MOST 1048576: true; the input reads as it did. -/
def nodeSeeksUptoRow : OpenClaim := { program := "ytmebdjafnefneaadoor", sum := "51d935cf36b97dfc2afb7e24f765e3c870430ae143919fa70615c871294a2f59", func := "cambium/cambiumlaw06.NodeSeeks", spec := "nodeSeeks", unfollowed := true, recurses := true, named := ["cambium/sum.shifted"], apart := false, laid := [("cambium/sum.shifted", laid_cambium_sum_shifted)], narrowed := true }
def NodeSeeksUptoSaid : Prop := nodeSeeksUptoRow.holds Tryd.pinned (OpenSpec.upto nodeSeeksSpec)

/-- 'cambiumlaw06.NodeBack', WHERE WHAT IT READS IS OF BULK AT MOST 1048576: true; the input reads as it did. -/
def nodeBackUptoRow : OpenClaim := { program := "ytmebdjafnefneaadoor", sum := "51d935cf36b97dfc2afb7e24f765e3c870430ae143919fa70615c871294a2f59", func := "cambium/cambiumlaw06.NodeBack", spec := "nodeBack", inPlace := ["internal/bytealg.Count", "internal/bytealg.IndexByte", "internal/bytealg.Index"], unfollowed := true, recurses := true, named := ["cambium/sum.shifted", "internal/bytealg.MaxLen"], apart := false, laid := [("cambium/sum.shifted", laid_cambium_sum_shifted)], narrowed := true }
def NodeBackUptoSaid : Prop := nodeBackUptoRow.holds Tryd.pinned (OpenSpec.upto nodeBackSpec)

/-- 'cambiumlaw06.NodeFinds', WHERE WHAT IT READS IS OF BULK AT MOST 1048576: true; the input reads as it did. -/
def nodeFindsUptoRow : OpenClaim := { program := "ytmebdjafnefneaadoor", sum := "51d935cf36b97dfc2afb7e24f765e3c870430ae143919fa70615c871294a2f59", func := "cambium/cambiumlaw06.NodeFinds", spec := "nodeFinds", unfollowed := true, recurses := true, named := ["cambium/sum.shifted"], apart := false, laid := [("cambium/sum.shifted", laid_cambium_sum_shifted)], narrowed := true }
def NodeFindsUptoSaid : Prop := nodeFindsUptoRow.holds Tryd.pinned (OpenSpec.upto nodeFindsSpec)

end Rows
end Go.Proofs.YtmebdjafnefneaaDoor
