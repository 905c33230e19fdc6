/-
  NARROWER THAN 'FOR EVERY INPUT', by the rows' own cells (each row's printed sentence says how): PoolPlays: laid · PoolMounts: laid · PoolCrash: laid · PoolShared: laid · PoolFormats: laid · PoolSteps: laid.
  DERIVED. THE GIVEN ROWS OF THIS SEAT. 6 by the template 'for every input the law returns true; each argument reads behind the call as it read before'; 0 by the template 'total and deterministic' (their statements: YtipejjgodnnkaaaGreatDoorTotals.lean).
  GIVEN WITH THE SEED: the statements are not yours to turn. If you find one false, say at which input.
  Laid BY PROGRAM, IN A SANDBOX (cutbox-rows.mjs): the forced cells as the released guide's own fill.sh prints them over the translation fe516d1aef937bf8… (all of the seat's roots in one cut). By AI agents, Wed Nov 11 2026. No macro, syntax, notation, axiom, sorry.
-/
import Derived.Test.YtipejjgodnnkaaaGreatDoorChecked
import GoSem.Claim
import GoSem.ClaimJoined
import GoSem.ClaimMapViews
import Derived.JoinedTies
import Derived.KernelRfl
namespace Go.Proofs.YtipejjgodnnkaaaGreatDoor
/- THE CELL 'sum', in the pinned program and in every row, IS THE sha256 OF THE DUMP (.gsa) THAT YtipejjgodnnkaaaGreatDoorProg.lean LOADS. Nothing in Lean hashes anything: it is a label: what it is worth is what the hold of that sum in a sandbox is worth. -/
noncomputable def Tryz.pinned : Pinned := { name := "ytipejjgodnnkaaagreatdoor", sum := "fe516d1aef937bf8673b63dd8d209df84839db371445d4ea60a66c7f7430f23b", checked := Tryz.checked }
namespace Rows
def none {H : Type} : Left H := { results := [], args := [] }

/- WHAT THE LISTED PACKAGE-LEVEL VARIABLES READ AS WHEN THE CALL BEGINS. Each datum BY PROGRAM (the guide's laid-datum.mjs) off the statement by which the dump's own 'gosem.cut.vars' lays the variable. In a bare row this is a premise. The card (YtipejjgodnnkaaaGreatDoorCards.lean) ties it to the program's text. -/
def laid_cambium_sum_shifted {H : Type} : DataW H := .agg [.lit (.int .u32 0), .lit (.int .u32 274646895), .lit (.int .u32 549293790), .lit (.int .u32 820201905), .lit (.int .u32 1098587580), .lit (.int .u32 1361435347), .lit (.int .u32 1640403810), .lit (.int .u32 1905808397), .lit (.int .u32 2197175160), .lit (.int .u32 2460548119), .lit (.int .u32 2722870694), .lit (.int .u32 2987750089), .lit (.int .u32 3280807620), .lit (.int .u32 3553878443), .lit (.int .u32 3811616794), .lit (.int .u32 4084100981)]

/-- 'cambiumlaw09.PoolPlays': WHATEVER THE INPUT: true; the input reads as it did. -/
def poolPlaysSpec : ChangeSpec := { name := "poolPlays", fn := fun _ => fun
  | [d1, d2] => { results := [.lit (.bool true)], args := [d1, d2] }
  | _ => none }
def poolPlaysRow : OpenClaim := { program := "ytipejjgodnnkaaagreatdoor", sum := "fe516d1aef937bf8673b63dd8d209df84839db371445d4ea60a66c7f7430f23b", func := "cambium/cambiumlaw09.PoolPlays", spec := "poolPlays", inPlace := ["internal/bytealg.Count", "internal/bytealg.IndexByte", "internal/bytealg.Index", "maps.clone"], unfollowed := true, recurses := true, named := ["cambium/sum.shifted", "internal/bytealg.MaxLen"], apart := false, laid := [("cambium/sum.shifted", laid_cambium_sum_shifted)] }
def PoolPlaysSaid : Prop := poolPlaysRow.holds Tryz.pinned (OpenSpec.ofChange poolPlaysSpec)

/-- ITS FALSE NEIGHBOUR: 'it returns false'. Refute it at one input. -/
def poolPlaysWrong : ChangeSpec := { name := "poolPlays", fn := fun _ => fun
  | [d1, d2] => { results := [.lit (.bool false)], args := [d1, d2] }
  | _ => none }
def PoolPlaysWrongFalsely : Prop := poolPlaysRow.holds Tryz.pinned (OpenSpec.ofChange poolPlaysWrong)

/-- 'cambiumlaw09.PoolMounts': WHATEVER THE INPUT: true; the input reads as it did. -/
def poolMountsSpec : ChangeSpec := { name := "poolMounts", fn := fun _ => fun
  | [d1, d2, d3] => { results := [.lit (.bool true)], args := [d1, d2, d3] }
  | _ => none }
def poolMountsRow : OpenClaim := { program := "ytipejjgodnnkaaagreatdoor", sum := "fe516d1aef937bf8673b63dd8d209df84839db371445d4ea60a66c7f7430f23b", func := "cambium/cambiumlaw09.PoolMounts", spec := "poolMounts", inPlace := ["internal/bytealg.Count", "internal/bytealg.IndexByte", "internal/bytealg.Index", "maps.clone"], unfollowed := true, recurses := true, named := ["cambium/sum.shifted", "internal/bytealg.MaxLen"], apart := false, laid := [("cambium/sum.shifted", laid_cambium_sum_shifted)] }
def PoolMountsSaid : Prop := poolMountsRow.holds Tryz.pinned (OpenSpec.ofChange poolMountsSpec)

/-- ITS FALSE NEIGHBOUR: 'it returns false'. Refute it at one input. -/
def poolMountsWrong : ChangeSpec := { name := "poolMounts", fn := fun _ => fun
  | [d1, d2, d3] => { results := [.lit (.bool false)], args := [d1, d2, d3] }
  | _ => none }
def PoolMountsWrongFalsely : Prop := poolMountsRow.holds Tryz.pinned (OpenSpec.ofChange poolMountsWrong)

/-- 'cambiumlaw09.PoolCrash': WHATEVER THE INPUT: true; the input reads as it did. -/
def poolCrashSpec : ChangeSpec := { name := "poolCrash", fn := fun _ => fun
  | [d1, d2, d3] => { results := [.lit (.bool true)], args := [d1, d2, d3] }
  | _ => none }
def poolCrashRow : OpenClaim := { program := "ytipejjgodnnkaaagreatdoor", sum := "fe516d1aef937bf8673b63dd8d209df84839db371445d4ea60a66c7f7430f23b", func := "cambium/cambiumlaw09.PoolCrash", spec := "poolCrash", inPlace := ["internal/bytealg.Count", "internal/bytealg.IndexByte", "internal/bytealg.Index"], unfollowed := true, recurses := true, named := ["cambium/sum.shifted", "internal/bytealg.MaxLen"], apart := false, laid := [("cambium/sum.shifted", laid_cambium_sum_shifted)] }
def PoolCrashSaid : Prop := poolCrashRow.holds Tryz.pinned (OpenSpec.ofChange poolCrashSpec)

/-- ITS FALSE NEIGHBOUR: 'it returns false'. Refute it at one input. -/
def poolCrashWrong : ChangeSpec := { name := "poolCrash", fn := fun _ => fun
  | [d1, d2, d3] => { results := [.lit (.bool false)], args := [d1, d2, d3] }
  | _ => none }
def PoolCrashWrongFalsely : Prop := poolCrashRow.holds Tryz.pinned (OpenSpec.ofChange poolCrashWrong)

/-- 'cambiumlaw09.PoolShared': WHATEVER THE INPUT: true; the input reads as it did. -/
def poolSharedSpec : ChangeSpec := { name := "poolShared", fn := fun _ => fun
  | [d1, d2, d3] => { results := [.lit (.bool true)], args := [d1, d2, d3] }
  | _ => none }
def poolSharedRow : OpenClaim := { program := "ytipejjgodnnkaaagreatdoor", sum := "fe516d1aef937bf8673b63dd8d209df84839db371445d4ea60a66c7f7430f23b", func := "cambium/cambiumlaw09.PoolShared", spec := "poolShared", inPlace := ["internal/bytealg.Count", "internal/bytealg.IndexByte", "internal/bytealg.Index", "maps.clone"], unfollowed := true, recurses := true, named := ["cambium/sum.shifted", "internal/bytealg.MaxLen"], apart := false, laid := [("cambium/sum.shifted", laid_cambium_sum_shifted)] }
def PoolSharedSaid : Prop := poolSharedRow.holds Tryz.pinned (OpenSpec.ofChange poolSharedSpec)

/-- ITS FALSE NEIGHBOUR: 'it returns false'. Refute it at one input. -/
def poolSharedWrong : ChangeSpec := { name := "poolShared", fn := fun _ => fun
  | [d1, d2, d3] => { results := [.lit (.bool false)], args := [d1, d2, d3] }
  | _ => none }
def PoolSharedWrongFalsely : Prop := poolSharedRow.holds Tryz.pinned (OpenSpec.ofChange poolSharedWrong)

/-- 'cambiumlaw09.PoolFormats': WHATEVER THE INPUT: true; the input reads as it did. -/
def poolFormatsSpec : ChangeSpec := { name := "poolFormats", fn := fun _ => fun
  | [d1, d2] => { results := [.lit (.bool true)], args := [d1, d2] }
  | _ => none }
def poolFormatsRow : OpenClaim := { program := "ytipejjgodnnkaaagreatdoor", sum := "fe516d1aef937bf8673b63dd8d209df84839db371445d4ea60a66c7f7430f23b", func := "cambium/cambiumlaw09.PoolFormats", spec := "poolFormats", inPlace := ["internal/bytealg.Count", "internal/bytealg.IndexByte", "internal/bytealg.Index"], unfollowed := true, recurses := true, named := ["cambium/sum.shifted", "internal/bytealg.MaxLen"], apart := false, laid := [("cambium/sum.shifted", laid_cambium_sum_shifted)] }
def PoolFormatsSaid : Prop := poolFormatsRow.holds Tryz.pinned (OpenSpec.ofChange poolFormatsSpec)

/-- ITS FALSE NEIGHBOUR: 'it returns false'. Refute it at one input. -/
def poolFormatsWrong : ChangeSpec := { name := "poolFormats", fn := fun _ => fun
  | [d1, d2] => { results := [.lit (.bool false)], args := [d1, d2] }
  | _ => none }
def PoolFormatsWrongFalsely : Prop := poolFormatsRow.holds Tryz.pinned (OpenSpec.ofChange poolFormatsWrong)

/-- 'cambiumlaw09.PoolSteps': WHATEVER THE INPUT: true; the input reads as it did. -/
def poolStepsSpec : ChangeSpec := { name := "poolSteps", fn := fun _ => fun
  | [d1, d2, d3] => { results := [.lit (.bool true)], args := [d1, d2, d3] }
  | _ => none }
def poolStepsRow : OpenClaim := { program := "ytipejjgodnnkaaagreatdoor", sum := "fe516d1aef937bf8673b63dd8d209df84839db371445d4ea60a66c7f7430f23b", func := "cambium/cambiumlaw09.PoolSteps", spec := "poolSteps", inPlace := ["internal/bytealg.Count", "internal/bytealg.IndexByte", "internal/bytealg.Index"], unfollowed := true, recurses := true, named := ["cambium/sum.shifted", "internal/bytealg.MaxLen"], apart := false, laid := [("cambium/sum.shifted", laid_cambium_sum_shifted)] }
def PoolStepsSaid : Prop := poolStepsRow.holds Tryz.pinned (OpenSpec.ofChange poolStepsSpec)

/-- ITS FALSE NEIGHBOUR: 'it returns false'. Refute it at one input. -/
def poolStepsWrong : ChangeSpec := { name := "poolSteps", fn := fun _ => fun
  | [d1, d2, d3] => { results := [.lit (.bool false)], args := [d1, d2, d3] }
  | _ => none }
def PoolStepsWrongFalsely : Prop := poolStepsRow.holds Tryz.pinned (OpenSpec.ofChange poolStepsWrong)

/- THE SECOND FORM. 'bulk': how many values and letters a reading holds, each counted each time it is reached (what is shared counts as often as it is met; a slice's spare places count too). A statement '..UptoSaid' is the law's where the arguments, and the package variables that the reading takes, are together of bulk at most 1048576: NARROWER than '..Said'. Prove '..Said' where nothing that the law and all that it calls make is longer than what came in: it says more and counts as full. Else prove '..UptoSaid'. A law counts once. -/
mutual
def uptoBulk {H : Type} : DataW H → Nat
  | .lit (.string bytes) => bytes.length + 1
  | .lit _ => 1
  | .nil => 1
  | .ptr d => uptoBulk d + 1
  | .slice elems spare => uptoBulkAll elems + uptoBulkAll spare + 1
  | .agg parts => uptoBulkAll parts + 1
  | .iface _ d => uptoBulk d + 1
  | .map entries => uptoBulkEntries entries + 1
  | .held _ => 1
def uptoBulkAll {H : Type} : List (DataW H) → Nat
  | [] => 0
  | d :: r => uptoBulk d + uptoBulkAll r
def uptoBulkEntries {H : Type} : List (Lit × DataW H) → Nat
  | [] => 0
  | x :: r => uptoBulkEntry x + uptoBulkEntries r
def uptoBulkEntry {H : Type} : Lit × DataW H → Nat
  | (.string bytes, d) => bytes.length + uptoBulk d + 1
  | (_, d) => uptoBulk d + 1
 end
def uptoSmall : (H : Type) → List (DataW H) → Bool := fun _ ds => decide (uptoBulkAll ds ≤ 1048576)
def OpenSpec.upto (s : _root_.Go.ChangeSpec) : _root_.Go.OpenSpec := { _root_.Go.OpenSpec.ofChange s with cond := some uptoSmall }

/-- 'cambiumlaw09.PoolPlays', WHERE WHAT IT READS IS OF BULK AT MOST 1048576: true; the input reads as it did. -/
def poolPlaysUptoRow : OpenClaim := { program := "ytipejjgodnnkaaagreatdoor", sum := "fe516d1aef937bf8673b63dd8d209df84839db371445d4ea60a66c7f7430f23b", func := "cambium/cambiumlaw09.PoolPlays", spec := "poolPlays", inPlace := ["internal/bytealg.Count", "internal/bytealg.IndexByte", "internal/bytealg.Index", "maps.clone"], unfollowed := true, recurses := true, named := ["cambium/sum.shifted", "internal/bytealg.MaxLen"], apart := false, laid := [("cambium/sum.shifted", laid_cambium_sum_shifted)], narrowed := true }
def PoolPlaysUptoSaid : Prop := poolPlaysUptoRow.holds Tryz.pinned (OpenSpec.upto poolPlaysSpec)

/-- 'cambiumlaw09.PoolMounts', WHERE WHAT IT READS IS OF BULK AT MOST 1048576: true; the input reads as it did. -/
def poolMountsUptoRow : OpenClaim := { program := "ytipejjgodnnkaaagreatdoor", sum := "fe516d1aef937bf8673b63dd8d209df84839db371445d4ea60a66c7f7430f23b", func := "cambium/cambiumlaw09.PoolMounts", spec := "poolMounts", inPlace := ["internal/bytealg.Count", "internal/bytealg.IndexByte", "internal/bytealg.Index", "maps.clone"], unfollowed := true, recurses := true, named := ["cambium/sum.shifted", "internal/bytealg.MaxLen"], apart := false, laid := [("cambium/sum.shifted", laid_cambium_sum_shifted)], narrowed := true }
def PoolMountsUptoSaid : Prop := poolMountsUptoRow.holds Tryz.pinned (OpenSpec.upto poolMountsSpec)

/-- 'cambiumlaw09.PoolCrash', WHERE WHAT IT READS IS OF BULK AT MOST 1048576: true; the input reads as it did. -/
def poolCrashUptoRow : OpenClaim := { program := "ytipejjgodnnkaaagreatdoor", sum := "fe516d1aef937bf8673b63dd8d209df84839db371445d4ea60a66c7f7430f23b", func := "cambium/cambiumlaw09.PoolCrash", spec := "poolCrash", inPlace := ["internal/bytealg.Count", "internal/bytealg.IndexByte", "internal/bytealg.Index"], unfollowed := true, recurses := true, named := ["cambium/sum.shifted", "internal/bytealg.MaxLen"], apart := false, laid := [("cambium/sum.shifted", laid_cambium_sum_shifted)], narrowed := true }
def PoolCrashUptoSaid : Prop := poolCrashUptoRow.holds Tryz.pinned (OpenSpec.upto poolCrashSpec)

/-- 'cambiumlaw09.PoolShared', WHERE WHAT IT READS IS OF BULK AT MOST 1048576: true; the input reads as it did. -/
def poolSharedUptoRow : OpenClaim := { program := "ytipejjgodnnkaaagreatdoor", sum := "fe516d1aef937bf8673b63dd8d209df84839db371445d4ea60a66c7f7430f23b", func := "cambium/cambiumlaw09.PoolShared", spec := "poolShared", inPlace := ["internal/bytealg.Count", "internal/bytealg.IndexByte", "internal/bytealg.Index", "maps.clone"], unfollowed := true, recurses := true, named := ["cambium/sum.shifted", "internal/bytealg.MaxLen"], apart := false, laid := [("cambium/sum.shifted", laid_cambium_sum_shifted)], narrowed := true }
def PoolSharedUptoSaid : Prop := poolSharedUptoRow.holds Tryz.pinned (OpenSpec.upto poolSharedSpec)

/-- 'cambiumlaw09.PoolFormats', WHERE WHAT IT READS IS OF BULK AT MOST 1048576: true; the input reads as it did. -/
def poolFormatsUptoRow : OpenClaim := { program := "ytipejjgodnnkaaagreatdoor", sum := "fe516d1aef937bf8673b63dd8d209df84839db371445d4ea60a66c7f7430f23b", func := "cambium/cambiumlaw09.PoolFormats", spec := "poolFormats", inPlace := ["internal/bytealg.Count", "internal/bytealg.IndexByte", "internal/bytealg.Index"], unfollowed := true, recurses := true, named := ["cambium/sum.shifted", "internal/bytealg.MaxLen"], apart := false, laid := [("cambium/sum.shifted", laid_cambium_sum_shifted)], narrowed := true }
def PoolFormatsUptoSaid : Prop := poolFormatsUptoRow.holds Tryz.pinned (OpenSpec.upto poolFormatsSpec)

/-- 'cambiumlaw09.PoolSteps', WHERE WHAT IT READS IS OF BULK AT MOST 1048576: true; the input reads as it did. -/
def poolStepsUptoRow : OpenClaim := { program := "ytipejjgodnnkaaagreatdoor", sum := "fe516d1aef937bf8673b63dd8d209df84839db371445d4ea60a66c7f7430f23b", func := "cambium/cambiumlaw09.PoolSteps", spec := "poolSteps", inPlace := ["internal/bytealg.Count", "internal/bytealg.IndexByte", "internal/bytealg.Index"], unfollowed := true, recurses := true, named := ["cambium/sum.shifted", "internal/bytealg.MaxLen"], apart := false, laid := [("cambium/sum.shifted", laid_cambium_sum_shifted)], narrowed := true }
def PoolStepsUptoSaid : Prop := poolStepsUptoRow.holds Tryz.pinned (OpenSpec.upto poolStepsSpec)

end Rows
end Go.Proofs.YtipejjgodnnkaaaGreatDoor
