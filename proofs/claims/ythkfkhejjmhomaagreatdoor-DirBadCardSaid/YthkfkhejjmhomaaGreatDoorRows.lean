/-
  NARROWER THAN 'FOR EVERY INPUT', by the rows' own cells (each row's printed sentence says how): DirPlays: laid · DirItems: laid · DirNames: laid · DirBad: laid · ShareDiffs: laid · ShareDrops: laid · ShareSteps: laid · ShareBad: laid · ShareHeld: laid.
  DERIVED. THE GIVEN ROWS OF THIS SEAT. 9 by the template 'for every input the law returns true; each argument reads behind the call as it read before'; 0 by the template 'total and deterministic' (their statements: YthkfkhejjmhomaaGreatDoorTotals.lean).
  GIVEN WITH THE SEED: the statements are not yours to turn. If you find one false, say at which input.
  Laid BY PROGRAM, IN A SANDBOX (cutbox-rows.mjs): the forced cells as the released guide's own fill.sh prints them over the translation 372d6498eb436b85… (all of the seat's roots in one cut). By AI agents, Wed Nov 11 2026. No macro, syntax, notation, axiom, sorry.
-/
import Derived.Test.YthkfkhejjmhomaaGreatDoorChecked
import GoSem.Claim
import GoSem.ClaimJoined
import GoSem.ClaimMapViews
import Derived.JoinedTies
import Derived.KernelRfl
namespace Go.Proofs.YthkfkhejjmhomaaGreatDoor
/- THE CELL 'sum', in the pinned program and in every row, IS THE sha256 OF THE DUMP (.gsa) THAT YthkfkhejjmhomaaGreatDoorProg.lean LOADS. Nothing in Lean hashes anything: it is a label: what it is worth is what the hold of that sum in a sandbox is worth. -/
noncomputable def Tryz.pinned : Pinned := { name := "ythkfkhejjmhomaagreatdoor", sum := "372d6498eb436b85f12707a8329029e5b14d0a8e044a3931a2a55af50eab529d", checked := Tryz.checked }
namespace Rows
def none {H : Type} : Left H := { results := [], args := [] }

/- WHAT THE LISTED PACKAGE-LEVEL VARIABLES READ AS WHEN THE CALL BEGINS. Each datum BY PROGRAM (the guide's laid-datum.mjs) off the statement by which the dump's own 'gosem.cut.vars' lays the variable. In a bare row this is a premise. The card (YthkfkhejjmhomaaGreatDoorCards.lean) ties it to the program's text. -/
def laid_cambium_sum_shifted {H : Type} : DataW H := .agg [.lit (.int .u32 0), .lit (.int .u32 274646895), .lit (.int .u32 549293790), .lit (.int .u32 820201905), .lit (.int .u32 1098587580), .lit (.int .u32 1361435347), .lit (.int .u32 1640403810), .lit (.int .u32 1905808397), .lit (.int .u32 2197175160), .lit (.int .u32 2460548119), .lit (.int .u32 2722870694), .lit (.int .u32 2987750089), .lit (.int .u32 3280807620), .lit (.int .u32 3553878443), .lit (.int .u32 3811616794), .lit (.int .u32 4084100981)]

/-- 'cambiumlaw15.DirPlays': WHATEVER THE INPUT: true; the input reads as it did. -/
def dirPlaysSpec : ChangeSpec := { name := "dirPlays", fn := fun _ => fun
  | [d] => { results := [.lit (.bool true)], args := [d] }
  | _ => none }
def dirPlaysRow : OpenClaim := { program := "ythkfkhejjmhomaagreatdoor", sum := "372d6498eb436b85f12707a8329029e5b14d0a8e044a3931a2a55af50eab529d", func := "cambium/cambiumlaw15.DirPlays", spec := "dirPlays", inPlace := ["internal/bytealg.Count", "internal/bytealg.IndexByte", "internal/bytealg.Index", "internal/bytealg.abigen_runtime_cmpstring"], unfollowed := true, recurses := true, named := ["cambium/sum.shifted", "internal/bytealg.MaxLen"], apart := false, laid := [("cambium/sum.shifted", laid_cambium_sum_shifted)] }
def DirPlaysSaid : Prop := dirPlaysRow.holds Tryz.pinned (OpenSpec.ofChange dirPlaysSpec)

/-- ITS FALSE NEIGHBOUR: 'it returns false'. Refute it at one input. -/
def dirPlaysWrong : ChangeSpec := { name := "dirPlays", fn := fun _ => fun
  | [d] => { results := [.lit (.bool false)], args := [d] }
  | _ => none }
def DirPlaysWrongFalsely : Prop := dirPlaysRow.holds Tryz.pinned (OpenSpec.ofChange dirPlaysWrong)

/-- 'cambiumlaw15.DirItems': WHATEVER THE INPUT: true; the input reads as it did. -/
def dirItemsSpec : ChangeSpec := { name := "dirItems", fn := fun _ => fun
  | [d] => { results := [.lit (.bool true)], args := [d] }
  | _ => none }
def dirItemsRow : OpenClaim := { program := "ythkfkhejjmhomaagreatdoor", sum := "372d6498eb436b85f12707a8329029e5b14d0a8e044a3931a2a55af50eab529d", func := "cambium/cambiumlaw15.DirItems", spec := "dirItems", inPlace := ["internal/bytealg.Count", "internal/bytealg.IndexByte", "internal/bytealg.Index", "internal/bytealg.abigen_runtime_cmpstring"], unfollowed := true, recurses := true, named := ["cambium/sum.shifted", "internal/bytealg.MaxLen"], apart := false, laid := [("cambium/sum.shifted", laid_cambium_sum_shifted)] }
def DirItemsSaid : Prop := dirItemsRow.holds Tryz.pinned (OpenSpec.ofChange dirItemsSpec)

/-- ITS FALSE NEIGHBOUR: 'it returns false'. Refute it at one input. -/
def dirItemsWrong : ChangeSpec := { name := "dirItems", fn := fun _ => fun
  | [d] => { results := [.lit (.bool false)], args := [d] }
  | _ => none }
def DirItemsWrongFalsely : Prop := dirItemsRow.holds Tryz.pinned (OpenSpec.ofChange dirItemsWrong)

/-- 'cambiumlaw15.DirNames': WHATEVER THE INPUT: true; the input reads as it did. -/
def dirNamesSpec : ChangeSpec := { name := "dirNames", fn := fun _ => fun
  | [d1, d2] => { results := [.lit (.bool true)], args := [d1, d2] }
  | _ => none }
def dirNamesRow : OpenClaim := { program := "ythkfkhejjmhomaagreatdoor", sum := "372d6498eb436b85f12707a8329029e5b14d0a8e044a3931a2a55af50eab529d", func := "cambium/cambiumlaw15.DirNames", spec := "dirNames", inPlace := ["internal/bytealg.Count", "internal/bytealg.IndexByte", "internal/bytealg.Index", "internal/bytealg.abigen_runtime_cmpstring"], unfollowed := true, recurses := true, named := ["cambium/sum.shifted", "internal/bytealg.MaxLen"], apart := false, laid := [("cambium/sum.shifted", laid_cambium_sum_shifted)] }
def DirNamesSaid : Prop := dirNamesRow.holds Tryz.pinned (OpenSpec.ofChange dirNamesSpec)

/-- ITS FALSE NEIGHBOUR: 'it returns false'. Refute it at one input. -/
def dirNamesWrong : ChangeSpec := { name := "dirNames", fn := fun _ => fun
  | [d1, d2] => { results := [.lit (.bool false)], args := [d1, d2] }
  | _ => none }
def DirNamesWrongFalsely : Prop := dirNamesRow.holds Tryz.pinned (OpenSpec.ofChange dirNamesWrong)

/-- 'cambiumlaw15.DirBad': WHATEVER THE INPUT: true; the input reads as it did. -/
def dirBadSpec : ChangeSpec := { name := "dirBad", fn := fun _ => fun
  | [d1, d2] => { results := [.lit (.bool true)], args := [d1, d2] }
  | _ => none }
def dirBadRow : OpenClaim := { program := "ythkfkhejjmhomaagreatdoor", sum := "372d6498eb436b85f12707a8329029e5b14d0a8e044a3931a2a55af50eab529d", func := "cambium/cambiumlaw15.DirBad", spec := "dirBad", inPlace := ["internal/bytealg.Count", "internal/bytealg.IndexByte", "internal/bytealg.Index", "internal/bytealg.abigen_runtime_cmpstring", "maps.clone"], unfollowed := true, recurses := true, named := ["cambium/sum.shifted", "internal/bytealg.MaxLen"], apart := false, laid := [("cambium/sum.shifted", laid_cambium_sum_shifted)] }
def DirBadSaid : Prop := dirBadRow.holds Tryz.pinned (OpenSpec.ofChange dirBadSpec)

/-- ITS FALSE NEIGHBOUR: 'it returns false'. Refute it at one input. -/
def dirBadWrong : ChangeSpec := { name := "dirBad", fn := fun _ => fun
  | [d1, d2] => { results := [.lit (.bool false)], args := [d1, d2] }
  | _ => none }
def DirBadWrongFalsely : Prop := dirBadRow.holds Tryz.pinned (OpenSpec.ofChange dirBadWrong)

/-- 'cambiumlaw12.ShareDiffs': WHATEVER THE INPUT: true; the input reads as it did. -/
def shareDiffsSpec : ChangeSpec := { name := "shareDiffs", fn := fun _ => fun
  | [d1, d2, d3] => { results := [.lit (.bool true)], args := [d1, d2, d3] }
  | _ => none }
def shareDiffsRow : OpenClaim := { program := "ythkfkhejjmhomaagreatdoor", sum := "372d6498eb436b85f12707a8329029e5b14d0a8e044a3931a2a55af50eab529d", func := "cambium/cambiumlaw12.ShareDiffs", spec := "shareDiffs", inPlace := ["internal/bytealg.Count", "internal/bytealg.IndexByte", "internal/bytealg.Index"], unfollowed := true, recurses := true, named := ["cambium/sum.shifted", "internal/bytealg.MaxLen"], apart := false, laid := [("cambium/sum.shifted", laid_cambium_sum_shifted)] }
def ShareDiffsSaid : Prop := shareDiffsRow.holds Tryz.pinned (OpenSpec.ofChange shareDiffsSpec)

/-- ITS FALSE NEIGHBOUR: 'it returns false'. Refute it at one input. -/
def shareDiffsWrong : ChangeSpec := { name := "shareDiffs", fn := fun _ => fun
  | [d1, d2, d3] => { results := [.lit (.bool false)], args := [d1, d2, d3] }
  | _ => none }
def ShareDiffsWrongFalsely : Prop := shareDiffsRow.holds Tryz.pinned (OpenSpec.ofChange shareDiffsWrong)

/-- 'cambiumlaw12.ShareDrops': WHATEVER THE INPUT: true; the input reads as it did. -/
def shareDropsSpec : ChangeSpec := { name := "shareDrops", fn := fun _ => fun
  | [d1, d2, d3] => { results := [.lit (.bool true)], args := [d1, d2, d3] }
  | _ => none }
def shareDropsRow : OpenClaim := { program := "ythkfkhejjmhomaagreatdoor", sum := "372d6498eb436b85f12707a8329029e5b14d0a8e044a3931a2a55af50eab529d", func := "cambium/cambiumlaw12.ShareDrops", spec := "shareDrops", inPlace := ["internal/bytealg.Count", "internal/bytealg.IndexByte", "internal/bytealg.Index"], unfollowed := true, recurses := true, named := ["cambium/sum.shifted", "internal/bytealg.MaxLen"], apart := false, laid := [("cambium/sum.shifted", laid_cambium_sum_shifted)] }
def ShareDropsSaid : Prop := shareDropsRow.holds Tryz.pinned (OpenSpec.ofChange shareDropsSpec)

/-- ITS FALSE NEIGHBOUR: 'it returns false'. Refute it at one input. -/
def shareDropsWrong : ChangeSpec := { name := "shareDrops", fn := fun _ => fun
  | [d1, d2, d3] => { results := [.lit (.bool false)], args := [d1, d2, d3] }
  | _ => none }
def ShareDropsWrongFalsely : Prop := shareDropsRow.holds Tryz.pinned (OpenSpec.ofChange shareDropsWrong)

/-- 'cambiumlaw12.ShareSteps': WHATEVER THE INPUT: true; the input reads as it did. -/
def shareStepsSpec : ChangeSpec := { name := "shareSteps", fn := fun _ => fun
  | [d1, d2] => { results := [.lit (.bool true)], args := [d1, d2] }
  | _ => none }
def shareStepsRow : OpenClaim := { program := "ythkfkhejjmhomaagreatdoor", sum := "372d6498eb436b85f12707a8329029e5b14d0a8e044a3931a2a55af50eab529d", func := "cambium/cambiumlaw12.ShareSteps", spec := "shareSteps", inPlace := ["internal/bytealg.Count", "internal/bytealg.IndexByte", "internal/bytealg.Index", "maps.clone"], unfollowed := true, recurses := true, named := ["cambium/sum.shifted", "internal/bytealg.MaxLen"], apart := false, laid := [("cambium/sum.shifted", laid_cambium_sum_shifted)] }
def ShareStepsSaid : Prop := shareStepsRow.holds Tryz.pinned (OpenSpec.ofChange shareStepsSpec)

/-- ITS FALSE NEIGHBOUR: 'it returns false'. Refute it at one input. -/
def shareStepsWrong : ChangeSpec := { name := "shareSteps", fn := fun _ => fun
  | [d1, d2] => { results := [.lit (.bool false)], args := [d1, d2] }
  | _ => none }
def ShareStepsWrongFalsely : Prop := shareStepsRow.holds Tryz.pinned (OpenSpec.ofChange shareStepsWrong)

/-- 'cambiumlaw12.ShareBad': WHATEVER THE INPUT: true; the input reads as it did. -/
def shareBadSpec : ChangeSpec := { name := "shareBad", fn := fun _ => fun
  | [d1, d2] => { results := [.lit (.bool true)], args := [d1, d2] }
  | _ => none }
def shareBadRow : OpenClaim := { program := "ythkfkhejjmhomaagreatdoor", sum := "372d6498eb436b85f12707a8329029e5b14d0a8e044a3931a2a55af50eab529d", func := "cambium/cambiumlaw12.ShareBad", spec := "shareBad", inPlace := ["internal/bytealg.Count", "internal/bytealg.IndexByte", "internal/bytealg.Index"], unfollowed := true, recurses := true, named := ["cambium/sum.shifted", "internal/bytealg.MaxLen"], apart := false, laid := [("cambium/sum.shifted", laid_cambium_sum_shifted)] }
def ShareBadSaid : Prop := shareBadRow.holds Tryz.pinned (OpenSpec.ofChange shareBadSpec)

/-- ITS FALSE NEIGHBOUR: 'it returns false'. Refute it at one input. -/
def shareBadWrong : ChangeSpec := { name := "shareBad", fn := fun _ => fun
  | [d1, d2] => { results := [.lit (.bool false)], args := [d1, d2] }
  | _ => none }
def ShareBadWrongFalsely : Prop := shareBadRow.holds Tryz.pinned (OpenSpec.ofChange shareBadWrong)

/-- 'cambiumlaw12.ShareHeld': WHATEVER THE INPUT: true; the input reads as it did. -/
def shareHeldSpec : ChangeSpec := { name := "shareHeld", fn := fun _ => fun
  | [d1, d2] => { results := [.lit (.bool true)], args := [d1, d2] }
  | _ => none }
def shareHeldRow : OpenClaim := { program := "ythkfkhejjmhomaagreatdoor", sum := "372d6498eb436b85f12707a8329029e5b14d0a8e044a3931a2a55af50eab529d", func := "cambium/cambiumlaw12.ShareHeld", spec := "shareHeld", inPlace := ["internal/bytealg.Count", "internal/bytealg.IndexByte", "internal/bytealg.Index"], unfollowed := true, recurses := true, named := ["cambium/sum.shifted", "internal/bytealg.MaxLen"], apart := false, laid := [("cambium/sum.shifted", laid_cambium_sum_shifted)] }
def ShareHeldSaid : Prop := shareHeldRow.holds Tryz.pinned (OpenSpec.ofChange shareHeldSpec)

/-- ITS FALSE NEIGHBOUR: 'it returns false'. Refute it at one input. -/
def shareHeldWrong : ChangeSpec := { name := "shareHeld", fn := fun _ => fun
  | [d1, d2] => { results := [.lit (.bool false)], args := [d1, d2] }
  | _ => none }
def ShareHeldWrongFalsely : Prop := shareHeldRow.holds Tryz.pinned (OpenSpec.ofChange shareHeldWrong)

/- THE SECOND FORM. 'bulk': how many values and letters a reading holds, each counted each time it is reached (what is shared counts as often as it is met; a slice's spare places count too). A statement '..UptoSaid' is the law's where the arguments, and the package variables that the reading takes, are together of bulk at most 1048576: NARROWER than '..Said'. Prove '..Said' where nothing that the law and all that it calls make is longer than what came in: it says more and counts as full. Else prove '..UptoSaid'. A law counts once. -/
mutual
def uptoBulk {H : Type} : DataW H → Nat
  | .lit (.string bytes) => bytes.length + 1
  | .lit _ => 1
  | .nil => 1
  | .ptr d => uptoBulk d + 1
  | .slice elems spare => uptoBulkAll elems + uptoBulkAll spare + 1
  | .agg parts => uptoBulkAll parts + 1
  | .iface _ d => uptoBulk d + 1
  | .map entries => uptoBulkEntries entries + 1
  | .held _ => 1
def uptoBulkAll {H : Type} : List (DataW H) → Nat
  | [] => 0
  | d :: r => uptoBulk d + uptoBulkAll r
def uptoBulkEntries {H : Type} : List (Lit × DataW H) → Nat
  | [] => 0
  | x :: r => uptoBulkEntry x + uptoBulkEntries r
def uptoBulkEntry {H : Type} : Lit × DataW H → Nat
  | (.string bytes, d) => bytes.length + uptoBulk d + 1
  | (_, d) => uptoBulk d + 1
 end
def uptoSmall : (H : Type) → List (DataW H) → Bool := fun _ ds => decide (uptoBulkAll ds ≤ 1048576)
def OpenSpec.upto (s : _root_.Go.ChangeSpec) : _root_.Go.OpenSpec := { _root_.Go.OpenSpec.ofChange s with cond := some uptoSmall }

/-- 'cambiumlaw15.DirPlays', WHERE WHAT IT READS IS OF BULK AT MOST 1048576: true; the input reads as it did. -/
def dirPlaysUptoRow : OpenClaim := { program := "ythkfkhejjmhomaagreatdoor", sum := "372d6498eb436b85f12707a8329029e5b14d0a8e044a3931a2a55af50eab529d", func := "cambium/cambiumlaw15.DirPlays", spec := "dirPlays", inPlace := ["internal/bytealg.Count", "internal/bytealg.IndexByte", "internal/bytealg.Index", "internal/bytealg.abigen_runtime_cmpstring"], unfollowed := true, recurses := true, named := ["cambium/sum.shifted", "internal/bytealg.MaxLen"], apart := false, laid := [("cambium/sum.shifted", laid_cambium_sum_shifted)], narrowed := true }
def DirPlaysUptoSaid : Prop := dirPlaysUptoRow.holds Tryz.pinned (OpenSpec.upto dirPlaysSpec)

/-- 'cambiumlaw15.DirItems', WHERE WHAT IT READS IS OF BULK AT MOST 1048576: true; the input reads as it did. -/
def dirItemsUptoRow : OpenClaim := { program := "ythkfkhejjmhomaagreatdoor", sum := "372d6498eb436b85f12707a8329029e5b14d0a8e044a3931a2a55af50eab529d", func := "cambium/cambiumlaw15.DirItems", spec := "dirItems", inPlace := ["internal/bytealg.Count", "internal/bytealg.IndexByte", "internal/bytealg.Index", "internal/bytealg.abigen_runtime_cmpstring"], unfollowed := true, recurses := true, named := ["cambium/sum.shifted", "internal/bytealg.MaxLen"], apart := false, laid := [("cambium/sum.shifted", laid_cambium_sum_shifted)], narrowed := true }
def DirItemsUptoSaid : Prop := dirItemsUptoRow.holds Tryz.pinned (OpenSpec.upto dirItemsSpec)

/-- 'cambiumlaw15.DirNames', WHERE WHAT IT READS IS OF BULK AT MOST 1048576: true; the input reads as it did. -/
def dirNamesUptoRow : OpenClaim := { program := "ythkfkhejjmhomaagreatdoor", sum := "372d6498eb436b85f12707a8329029e5b14d0a8e044a3931a2a55af50eab529d", func := "cambium/cambiumlaw15.DirNames", spec := "dirNames", inPlace := ["internal/bytealg.Count", "internal/bytealg.IndexByte", "internal/bytealg.Index", "internal/bytealg.abigen_runtime_cmpstring"], unfollowed := true, recurses := true, named := ["cambium/sum.shifted", "internal/bytealg.MaxLen"], apart := false, laid := [("cambium/sum.shifted", laid_cambium_sum_shifted)], narrowed := true }
def DirNamesUptoSaid : Prop := dirNamesUptoRow.holds Tryz.pinned (OpenSpec.upto dirNamesSpec)

/-- 'cambiumlaw15.DirBad', WHERE WHAT IT READS IS OF BULK AT MOST 1048576: true; the input reads as it did. -/
def dirBadUptoRow : OpenClaim := { program := "ythkfkhejjmhomaagreatdoor", sum := "372d6498eb436b85f12707a8329029e5b14d0a8e044a3931a2a55af50eab529d", func := "cambium/cambiumlaw15.DirBad", spec := "dirBad", inPlace := ["internal/bytealg.Count", "internal/bytealg.IndexByte", "internal/bytealg.Index", "internal/bytealg.abigen_runtime_cmpstring", "maps.clone"], unfollowed := true, recurses := true, named := ["cambium/sum.shifted", "internal/bytealg.MaxLen"], apart := false, laid := [("cambium/sum.shifted", laid_cambium_sum_shifted)], narrowed := true }
def DirBadUptoSaid : Prop := dirBadUptoRow.holds Tryz.pinned (OpenSpec.upto dirBadSpec)

/-- 'cambiumlaw12.ShareDiffs', WHERE WHAT IT READS IS OF BULK AT MOST 1048576: true; the input reads as it did. -/
def shareDiffsUptoRow : OpenClaim := { program := "ythkfkhejjmhomaagreatdoor", sum := "372d6498eb436b85f12707a8329029e5b14d0a8e044a3931a2a55af50eab529d", func := "cambium/cambiumlaw12.ShareDiffs", spec := "shareDiffs", inPlace := ["internal/bytealg.Count", "internal/bytealg.IndexByte", "internal/bytealg.Index"], unfollowed := true, recurses := true, named := ["cambium/sum.shifted", "internal/bytealg.MaxLen"], apart := false, laid := [("cambium/sum.shifted", laid_cambium_sum_shifted)], narrowed := true }
def ShareDiffsUptoSaid : Prop := shareDiffsUptoRow.holds Tryz.pinned (OpenSpec.upto shareDiffsSpec)

/-- 'cambiumlaw12.ShareDrops', WHERE WHAT IT READS IS OF BULK AT MOST 1048576: true; the input reads as it did. -/
def shareDropsUptoRow : OpenClaim := { program := "ythkfkhejjmhomaagreatdoor", sum := "372d6498eb436b85f12707a8329029e5b14d0a8e044a3931a2a55af50eab529d", func := "cambium/cambiumlaw12.ShareDrops", spec := "shareDrops", inPlace := ["internal/bytealg.Count", "internal/bytealg.IndexByte", "internal/bytealg.Index"], unfollowed := true, recurses := true, named := ["cambium/sum.shifted", "internal/bytealg.MaxLen"], apart := false, laid := [("cambium/sum.shifted", laid_cambium_sum_shifted)], narrowed := true }
def ShareDropsUptoSaid : Prop := shareDropsUptoRow.holds Tryz.pinned (OpenSpec.upto shareDropsSpec)

/-- 'cambiumlaw12.ShareSteps', WHERE WHAT IT READS IS OF BULK AT MOST 1048576: true; the input reads as it did. -/
def shareStepsUptoRow : OpenClaim := { program := "ythkfkhejjmhomaagreatdoor", sum := "372d6498eb436b85f12707a8329029e5b14d0a8e044a3931a2a55af50eab529d", func := "cambium/cambiumlaw12.ShareSteps", spec := "shareSteps", inPlace := ["internal/bytealg.Count", "internal/bytealg.IndexByte", "internal/bytealg.Index", "maps.clone"], unfollowed := true, recurses := true, named := ["cambium/sum.shifted", "internal/bytealg.MaxLen"], apart := false, laid := [("cambium/sum.shifted", laid_cambium_sum_shifted)], narrowed := true }
def ShareStepsUptoSaid : Prop := shareStepsUptoRow.holds Tryz.pinned (OpenSpec.upto shareStepsSpec)

/-- 'cambiumlaw12.ShareBad', WHERE WHAT IT READS IS OF BULK AT MOST 1048576: true; the input reads as it did. -/
def shareBadUptoRow : OpenClaim := { program := "ythkfkhejjmhomaagreatdoor", sum := "372d6498eb436b85f12707a8329029e5b14d0a8e044a3931a2a55af50eab529d", func := "cambium/cambiumlaw12.ShareBad", spec := "shareBad", inPlace := ["internal/bytealg.Count", "internal/bytealg.IndexByte", "internal/bytealg.Index"], unfollowed := true, recurses := true, named := ["cambium/sum.shifted", "internal/bytealg.MaxLen"], apart := false, laid := [("cambium/sum.shifted", laid_cambium_sum_shifted)], narrowed := true }
def ShareBadUptoSaid : Prop := shareBadUptoRow.holds Tryz.pinned (OpenSpec.upto shareBadSpec)

/-- 'cambiumlaw12.ShareHeld', WHERE WHAT IT READS IS OF BULK AT MOST 1048576: true; the input reads as it did. -/
def shareHeldUptoRow : OpenClaim := { program := "ythkfkhejjmhomaagreatdoor", sum := "372d6498eb436b85f12707a8329029e5b14d0a8e044a3931a2a55af50eab529d", func := "cambium/cambiumlaw12.ShareHeld", spec := "shareHeld", inPlace := ["internal/bytealg.Count", "internal/bytealg.IndexByte", "internal/bytealg.Index"], unfollowed := true, recurses := true, named := ["cambium/sum.shifted", "internal/bytealg.MaxLen"], apart := false, laid := [("cambium/sum.shifted", laid_cambium_sum_shifted)], narrowed := true }
def ShareHeldUptoSaid : Prop := shareHeldUptoRow.holds Tryz.pinned (OpenSpec.upto shareHeldSpec)

end Rows
end Go.Proofs.YthkfkhejjmhomaaGreatDoor
