/-
  NARROWER THAN 'FOR EVERY INPUT', by the rows' own cells (each row's printed sentence says how): SealSeals: laid · SealOpens: laid · SealBack: laid · SealTurned: laid · SealForm: laid.
  DERIVED. THE GIVEN ROWS OF THIS SEAT. 5 by the template 'for every input the law returns true; each argument reads behind the call as it read before'; 0 by the template 'total and deterministic' (their statements: YtkkmnmiekmfjiaaDoorTotals.lean).
  GIVEN WITH THE SEED: the statements are not yours to turn. If you find one false, say at which input.
  Laid BY PROGRAM, IN A SANDBOX (cutbox-rows.mjs): the forced cells as the released guide's own fill.sh prints them over the translation 145710fdf3372b63… (all of the seat's roots in one cut). By AI agents, Wed Nov 11 2026. No macro, syntax, notation, axiom, sorry.
-/
import Derived.Test.YtkkmnmiekmfjiaaDoorChecked
import GoSem.Claim
import GoSem.ClaimJoined
import GoSem.ClaimMapViews
import Derived.JoinedTies
import Derived.KernelRfl
namespace Go.Proofs.YtkkmnmiekmfjiaaDoor
/- THE CELL 'sum', in the pinned program and in every row, IS THE sha256 OF THE DUMP (.gsa) THAT YtkkmnmiekmfjiaaDoorProg.lean LOADS. Nothing in Lean hashes anything: it is a label: what it is worth is what the hold of that sum in a sandbox is worth. -/
noncomputable def Tryd.pinned : Pinned := { name := "ytkkmnmiekmfjiaadoor", sum := "145710fdf3372b63f9a824217f7b0db15aa0b91ae0b39ed4ba72f31345dfad89", checked := Tryd.checked }
namespace Rows
def none {H : Type} : Left H := { results := [], args := [] }

/- WHAT THE LISTED PACKAGE-LEVEL VARIABLES READ AS WHEN THE CALL BEGINS. Each datum BY PROGRAM (the guide's laid-datum.mjs) off the statement by which the dump's own 'gosem.cut.vars' lays the variable. In a bare row this is a premise. The card (YtkkmnmiekmfjiaaDoorCards.lean) ties it to the program's text. -/
def laid_cambium_sum_shifted {H : Type} : DataW H := .agg [.lit (.int .u32 0), .lit (.int .u32 274646895), .lit (.int .u32 549293790), .lit (.int .u32 820201905), .lit (.int .u32 1098587580), .lit (.int .u32 1361435347), .lit (.int .u32 1640403810), .lit (.int .u32 1905808397), .lit (.int .u32 2197175160), .lit (.int .u32 2460548119), .lit (.int .u32 2722870694), .lit (.int .u32 2987750089), .lit (.int .u32 3280807620), .lit (.int .u32 3553878443), .lit (.int .u32 3811616794), .lit (.int .u32 4084100981)]

/-- 'cambiumlaw04.SealSeals': WHATEVER THE INPUT: true; the input reads as it did. -/
def sealSealsSpec : ChangeSpec := { name := "sealSeals", fn := fun _ => fun
  | [d1, d2] => { results := [.lit (.bool true)], args := [d1, d2] }
  | _ => none }
def sealSealsRow : OpenClaim := { program := "ytkkmnmiekmfjiaadoor", sum := "145710fdf3372b63f9a824217f7b0db15aa0b91ae0b39ed4ba72f31345dfad89", func := "cambium/cambiumlaw04.SealSeals", spec := "sealSeals", named := ["cambium/sum.shifted"], apart := false, laid := [("cambium/sum.shifted", laid_cambium_sum_shifted)] }
def SealSealsSaid : Prop := sealSealsRow.holds Tryd.pinned (OpenSpec.ofChange sealSealsSpec)

/-- ITS FALSE NEIGHBOUR: 'it returns false'. Refute it at one input. -/
def sealSealsWrong : ChangeSpec := { name := "sealSeals", fn := fun _ => fun
  | [d1, d2] => { results := [.lit (.bool false)], args := [d1, d2] }
  | _ => none }
def SealSealsWrongFalsely : Prop := sealSealsRow.holds Tryd.pinned (OpenSpec.ofChange sealSealsWrong)

/-- 'cambiumlaw04.SealOpens': WHATEVER THE INPUT: true; the input reads as it did. -/
def sealOpensSpec : ChangeSpec := { name := "sealOpens", fn := fun _ => fun
  | [d1, d2, d3] => { results := [.lit (.bool true)], args := [d1, d2, d3] }
  | _ => none }
def sealOpensRow : OpenClaim := { program := "ytkkmnmiekmfjiaadoor", sum := "145710fdf3372b63f9a824217f7b0db15aa0b91ae0b39ed4ba72f31345dfad89", func := "cambium/cambiumlaw04.SealOpens", spec := "sealOpens", named := ["cambium/sum.shifted"], apart := false, laid := [("cambium/sum.shifted", laid_cambium_sum_shifted)] }
def SealOpensSaid : Prop := sealOpensRow.holds Tryd.pinned (OpenSpec.ofChange sealOpensSpec)

/-- ITS FALSE NEIGHBOUR: 'it returns false'. Refute it at one input. -/
def sealOpensWrong : ChangeSpec := { name := "sealOpens", fn := fun _ => fun
  | [d1, d2, d3] => { results := [.lit (.bool false)], args := [d1, d2, d3] }
  | _ => none }
def SealOpensWrongFalsely : Prop := sealOpensRow.holds Tryd.pinned (OpenSpec.ofChange sealOpensWrong)

/-- 'cambiumlaw04.SealBack': WHATEVER THE INPUT: true; the input reads as it did. -/
def sealBackSpec : ChangeSpec := { name := "sealBack", fn := fun _ => fun
  | [d1, d2, d3] => { results := [.lit (.bool true)], args := [d1, d2, d3] }
  | _ => none }
def sealBackRow : OpenClaim := { program := "ytkkmnmiekmfjiaadoor", sum := "145710fdf3372b63f9a824217f7b0db15aa0b91ae0b39ed4ba72f31345dfad89", func := "cambium/cambiumlaw04.SealBack", spec := "sealBack", named := ["cambium/sum.shifted"], apart := false, laid := [("cambium/sum.shifted", laid_cambium_sum_shifted)] }
def SealBackSaid : Prop := sealBackRow.holds Tryd.pinned (OpenSpec.ofChange sealBackSpec)

/-- ITS FALSE NEIGHBOUR: 'it returns false'. Refute it at one input. -/
def sealBackWrong : ChangeSpec := { name := "sealBack", fn := fun _ => fun
  | [d1, d2, d3] => { results := [.lit (.bool false)], args := [d1, d2, d3] }
  | _ => none }
def SealBackWrongFalsely : Prop := sealBackRow.holds Tryd.pinned (OpenSpec.ofChange sealBackWrong)

/-- 'cambiumlaw04.SealTurned': WHATEVER THE INPUT: true; the input reads as it did. -/
def sealTurnedSpec : ChangeSpec := { name := "sealTurned", fn := fun _ => fun
  | [d1, d2, d3] => { results := [.lit (.bool true)], args := [d1, d2, d3] }
  | _ => none }
def sealTurnedRow : OpenClaim := { program := "ytkkmnmiekmfjiaadoor", sum := "145710fdf3372b63f9a824217f7b0db15aa0b91ae0b39ed4ba72f31345dfad89", func := "cambium/cambiumlaw04.SealTurned", spec := "sealTurned", named := ["cambium/sum.shifted"], apart := false, laid := [("cambium/sum.shifted", laid_cambium_sum_shifted)] }
def SealTurnedSaid : Prop := sealTurnedRow.holds Tryd.pinned (OpenSpec.ofChange sealTurnedSpec)

/-- ITS FALSE NEIGHBOUR: 'it returns false'. Refute it at one input. -/
def sealTurnedWrong : ChangeSpec := { name := "sealTurned", fn := fun _ => fun
  | [d1, d2, d3] => { results := [.lit (.bool false)], args := [d1, d2, d3] }
  | _ => none }
def SealTurnedWrongFalsely : Prop := sealTurnedRow.holds Tryd.pinned (OpenSpec.ofChange sealTurnedWrong)

/-- 'cambiumlaw04.SealForm': WHATEVER THE INPUT: true; the input reads as it did. -/
def sealFormSpec : ChangeSpec := { name := "sealForm", fn := fun _ => fun
  | [d] => { results := [.lit (.bool true)], args := [d] }
  | _ => none }
def sealFormRow : OpenClaim := { program := "ytkkmnmiekmfjiaadoor", sum := "145710fdf3372b63f9a824217f7b0db15aa0b91ae0b39ed4ba72f31345dfad89", func := "cambium/cambiumlaw04.SealForm", spec := "sealForm", named := ["cambium/sum.shifted"], apart := false, laid := [("cambium/sum.shifted", laid_cambium_sum_shifted)] }
def SealFormSaid : Prop := sealFormRow.holds Tryd.pinned (OpenSpec.ofChange sealFormSpec)

/-- ITS FALSE NEIGHBOUR: 'it returns false'. Refute it at one input. -/
def sealFormWrong : ChangeSpec := { name := "sealForm", fn := fun _ => fun
  | [d] => { results := [.lit (.bool false)], args := [d] }
  | _ => none }
def SealFormWrongFalsely : Prop := sealFormRow.holds Tryd.pinned (OpenSpec.ofChange sealFormWrong)

/- THE SECOND FORM. 'bulk': how many values and letters a reading holds, each counted each time it is reached (what is shared counts as often as it is met; a slice's spare places count too). A statement '..UptoSaid' is the law's where the arguments, and the package variables that the reading takes, are together of bulk at most 1048576: NARROWER than '..Said'. Prove '..Said' where nothing that the law and all that it calls make is longer than what came in: it says more and counts as full. Else prove '..UptoSaid'. A law counts once. -/
mutual
def uptoBulk {H : Type} : DataW H → Nat
  | .lit (.string bytes) => bytes.length + 1
  | .lit _ => 1
  | .nil => 1
  | .ptr d => uptoBulk d + 1
  | .slice elems spare => uptoBulkAll elems + uptoBulkAll spare + 1
  | .agg parts => uptoBulkAll parts + 1
  | .iface _ d => uptoBulk d + 1
  | .map entries => uptoBulkEntries entries + 1
  | .held _ => 1
def uptoBulkAll {H : Type} : List (DataW H) → Nat
  | [] => 0
  | d :: r => uptoBulk d + uptoBulkAll r
def uptoBulkEntries {H : Type} : List (Lit × DataW H) → Nat
  | [] => 0
  | x :: r => uptoBulkEntry x + uptoBulkEntries r
def uptoBulkEntry {H : Type} : Lit × DataW H → Nat
  | (.string bytes, d) => bytes.length + uptoBulk d + 1
  | (_, d) => uptoBulk d + 1
 end
def uptoSmall : (H : Type) → List (DataW H) → Bool := fun _ ds => decide (uptoBulkAll ds ≤ 1048576)
def OpenSpec.upto (s : _root_.Go.ChangeSpec) : _root_.Go.OpenSpec := { _root_.Go.OpenSpec.ofChange s with cond := some uptoSmall }

/-- 'cambiumlaw04.SealSeals', WHERE WHAT IT READS IS OF BULK AT MOST 1048576: true; the input reads as it did. -/
def sealSealsUptoRow : OpenClaim := { program := "ytkkmnmiekmfjiaadoor", sum := "145710fdf3372b63f9a824217f7b0db15aa0b91ae0b39ed4ba72f31345dfad89", func := "cambium/cambiumlaw04.SealSeals", spec := "sealSeals", named := ["cambium/sum.shifted"], apart := false, laid := [("cambium/sum.shifted", laid_cambium_sum_shifted)], narrowed := true }
def SealSealsUptoSaid : Prop := sealSealsUptoRow.holds Tryd.pinned (OpenSpec.upto sealSealsSpec)

/-- 'cambiumlaw04.SealOpens', WHERE WHAT IT READS IS OF BULK AT MOST 1048576: true; the input reads as it did. -/
def sealOpensUptoRow : OpenClaim := { program := "ytkkmnmiekmfjiaadoor", sum := "145710fdf3372b63f9a824217f7b0db15aa0b91ae0b39ed4ba72f31345dfad89", func := "cambium/cambiumlaw04.SealOpens", spec := "sealOpens", named := ["cambium/sum.shifted"], apart := false, laid := [("cambium/sum.shifted", laid_cambium_sum_shifted)], narrowed := true }
def SealOpensUptoSaid : Prop := sealOpensUptoRow.holds Tryd.pinned (OpenSpec.upto sealOpensSpec)

/-- 'cambiumlaw04.SealBack', WHERE WHAT IT READS IS OF BULK AT MOST 1048576: true; the input reads as it did. -/
def sealBackUptoRow : OpenClaim := { program := "ytkkmnmiekmfjiaadoor", sum := "145710fdf3372b63f9a824217f7b0db15aa0b91ae0b39ed4ba72f31345dfad89", func := "cambium/cambiumlaw04.SealBack", spec := "sealBack", named := ["cambium/sum.shifted"], apart := false, laid := [("cambium/sum.shifted", laid_cambium_sum_shifted)], narrowed := true }
def SealBackUptoSaid : Prop := sealBackUptoRow.holds Tryd.pinned (OpenSpec.upto sealBackSpec)

/-- 'cambiumlaw04.SealTurned', WHERE WHAT IT READS IS OF BULK AT MOST 1048576: true; the input reads as it did. -/
def sealTurnedUptoRow : OpenClaim := { program := "ytkkmnmiekmfjiaadoor", sum := "145710fdf3372b63f9a824217f7b0db15aa0b91ae0b39ed4ba72f31345dfad89", func := "cambium/cambiumlaw04.SealTurned", spec := "sealTurned", named := ["cambium/sum.shifted"], apart := false, laid := [("cambium/sum.shifted", laid_cambium_sum_shifted)], narrowed := true }
def SealTurnedUptoSaid : Prop := sealTurnedUptoRow.holds Tryd.pinned (OpenSpec.upto sealTurnedSpec)

/-- 'cambiumlaw04.SealForm', WHERE WHAT IT READS IS OF BULK AT MOST 1048576: true; the input reads as it did. -/
def sealFormUptoRow : OpenClaim := { program := "ytkkmnmiekmfjiaadoor", sum := "145710fdf3372b63f9a824217f7b0db15aa0b91ae0b39ed4ba72f31345dfad89", func := "cambium/cambiumlaw04.SealForm", spec := "sealForm", named := ["cambium/sum.shifted"], apart := false, laid := [("cambium/sum.shifted", laid_cambium_sum_shifted)], narrowed := true }
def SealFormUptoSaid : Prop := sealFormUptoRow.holds Tryd.pinned (OpenSpec.upto sealFormSpec)

end Rows
end Go.Proofs.YtkkmnmiekmfjiaaDoor
