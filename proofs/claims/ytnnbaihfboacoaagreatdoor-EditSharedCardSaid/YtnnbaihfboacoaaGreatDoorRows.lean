/-
  NARROWER THAN 'FOR EVERY INPUT', by the rows' own cells (each row's printed sentence says how): EditPlays: laid · EditGets: laid · EditShared: laid · EditCommitted: laid · EditRoom: laid · EditOrder: laid · EditEmpty: laid.
  DERIVED. THE GIVEN ROWS OF THIS SEAT. 7 by the template 'for every input the law returns true; each argument reads behind the call as it read before'; 0 by the template 'total and deterministic' (their statements: YtnnbaihfboacoaaGreatDoorTotals.lean).
  GIVEN WITH THE SEED: the statements are not yours to turn. If you find one false, say at which input.
  Laid BY PROGRAM, IN A SANDBOX (cutbox-rows.mjs): the forced cells as the released guide's own fill.sh prints them over the translation 4e0dbf6a1a8d8fa9… (all of the seat's roots in one cut). By AI agents, Wed Nov 11 2026. No macro, syntax, notation, axiom, sorry.
-/
import Derived.Test.YtnnbaihfboacoaaGreatDoorChecked
import GoSem.Claim
import GoSem.ClaimJoined
import GoSem.ClaimMapViews
import Derived.JoinedTies
import Derived.KernelRfl
namespace Go.Proofs.YtnnbaihfboacoaaGreatDoor
/- THE CELL 'sum', in the pinned program and in every row, IS THE sha256 OF THE DUMP (.gsa) THAT YtnnbaihfboacoaaGreatDoorProg.lean LOADS. Nothing in Lean hashes anything: it is a label: what it is worth is what the hold of that sum in a sandbox is worth. -/
noncomputable def Tryz.pinned : Pinned := { name := "ytnnbaihfboacoaagreatdoor", sum := "4e0dbf6a1a8d8fa9833234dd1c404db99343bf0f22df5ff867603e5ee84e1c1d", checked := Tryz.checked }
namespace Rows
def none {H : Type} : Left H := { results := [], args := [] }

/- WHAT THE LISTED PACKAGE-LEVEL VARIABLES READ AS WHEN THE CALL BEGINS. Each datum BY PROGRAM (the guide's laid-datum.mjs) off the statement by which the dump's own 'gosem.cut.vars' lays the variable. In a bare row this is a premise. The card (YtnnbaihfboacoaaGreatDoorCards.lean) ties it to the program's text. -/
def laid_cambium_sum_shifted {H : Type} : DataW H := .agg [.lit (.int .u32 0), .lit (.int .u32 274646895), .lit (.int .u32 549293790), .lit (.int .u32 820201905), .lit (.int .u32 1098587580), .lit (.int .u32 1361435347), .lit (.int .u32 1640403810), .lit (.int .u32 1905808397), .lit (.int .u32 2197175160), .lit (.int .u32 2460548119), .lit (.int .u32 2722870694), .lit (.int .u32 2987750089), .lit (.int .u32 3280807620), .lit (.int .u32 3553878443), .lit (.int .u32 3811616794), .lit (.int .u32 4084100981)]

/-- 'cambiumlaw11.EditPlays': WHATEVER THE INPUT: true; the input reads as it did. -/
def editPlaysSpec : ChangeSpec := { name := "editPlays", fn := fun _ => fun
  | [d] => { results := [.lit (.bool true)], args := [d] }
  | _ => none }
def editPlaysRow : OpenClaim := { program := "ytnnbaihfboacoaagreatdoor", sum := "4e0dbf6a1a8d8fa9833234dd1c404db99343bf0f22df5ff867603e5ee84e1c1d", func := "cambium/cambiumlaw11.EditPlays", spec := "editPlays", inPlace := ["internal/bytealg.Count", "internal/bytealg.IndexByte", "internal/bytealg.Index"], unfollowed := true, recurses := true, named := ["cambium/sum.shifted", "internal/bytealg.MaxLen"], apart := false, laid := [("cambium/sum.shifted", laid_cambium_sum_shifted)] }
def EditPlaysSaid : Prop := editPlaysRow.holds Tryz.pinned (OpenSpec.ofChange editPlaysSpec)

/-- ITS FALSE NEIGHBOUR: 'it returns false'. Refute it at one input. -/
def editPlaysWrong : ChangeSpec := { name := "editPlays", fn := fun _ => fun
  | [d] => { results := [.lit (.bool false)], args := [d] }
  | _ => none }
def EditPlaysWrongFalsely : Prop := editPlaysRow.holds Tryz.pinned (OpenSpec.ofChange editPlaysWrong)

/-- 'cambiumlaw11.EditGets': WHATEVER THE INPUT: true; the input reads as it did. -/
def editGetsSpec : ChangeSpec := { name := "editGets", fn := fun _ => fun
  | [d1, d2] => { results := [.lit (.bool true)], args := [d1, d2] }
  | _ => none }
def editGetsRow : OpenClaim := { program := "ytnnbaihfboacoaagreatdoor", sum := "4e0dbf6a1a8d8fa9833234dd1c404db99343bf0f22df5ff867603e5ee84e1c1d", func := "cambium/cambiumlaw11.EditGets", spec := "editGets", inPlace := ["internal/bytealg.Count", "internal/bytealg.IndexByte", "internal/bytealg.Index"], unfollowed := true, recurses := true, named := ["cambium/sum.shifted", "internal/bytealg.MaxLen"], apart := false, laid := [("cambium/sum.shifted", laid_cambium_sum_shifted)] }
def EditGetsSaid : Prop := editGetsRow.holds Tryz.pinned (OpenSpec.ofChange editGetsSpec)

/-- ITS FALSE NEIGHBOUR: 'it returns false'. Refute it at one input. -/
def editGetsWrong : ChangeSpec := { name := "editGets", fn := fun _ => fun
  | [d1, d2] => { results := [.lit (.bool false)], args := [d1, d2] }
  | _ => none }
def EditGetsWrongFalsely : Prop := editGetsRow.holds Tryz.pinned (OpenSpec.ofChange editGetsWrong)

/-- 'cambiumlaw11.EditShared': WHATEVER THE INPUT: true; the input reads as it did. -/
def editSharedSpec : ChangeSpec := { name := "editShared", fn := fun _ => fun
  | [d1, d2] => { results := [.lit (.bool true)], args := [d1, d2] }
  | _ => none }
def editSharedRow : OpenClaim := { program := "ytnnbaihfboacoaagreatdoor", sum := "4e0dbf6a1a8d8fa9833234dd1c404db99343bf0f22df5ff867603e5ee84e1c1d", func := "cambium/cambiumlaw11.EditShared", spec := "editShared", inPlace := ["internal/bytealg.Count", "internal/bytealg.IndexByte", "internal/bytealg.Index"], unfollowed := true, recurses := true, named := ["cambium/sum.shifted", "internal/bytealg.MaxLen"], apart := false, laid := [("cambium/sum.shifted", laid_cambium_sum_shifted)] }
def EditSharedSaid : Prop := editSharedRow.holds Tryz.pinned (OpenSpec.ofChange editSharedSpec)

/-- ITS FALSE NEIGHBOUR: 'it returns false'. Refute it at one input. -/
def editSharedWrong : ChangeSpec := { name := "editShared", fn := fun _ => fun
  | [d1, d2] => { results := [.lit (.bool false)], args := [d1, d2] }
  | _ => none }
def EditSharedWrongFalsely : Prop := editSharedRow.holds Tryz.pinned (OpenSpec.ofChange editSharedWrong)

/-- 'cambiumlaw11.EditCommitted': WHATEVER THE INPUT: true; the input reads as it did. -/
def editCommittedSpec : ChangeSpec := { name := "editCommitted", fn := fun _ => fun
  | [d1, d2] => { results := [.lit (.bool true)], args := [d1, d2] }
  | _ => none }
def editCommittedRow : OpenClaim := { program := "ytnnbaihfboacoaagreatdoor", sum := "4e0dbf6a1a8d8fa9833234dd1c404db99343bf0f22df5ff867603e5ee84e1c1d", func := "cambium/cambiumlaw11.EditCommitted", spec := "editCommitted", inPlace := ["internal/bytealg.Count", "internal/bytealg.IndexByte", "internal/bytealg.Index"], unfollowed := true, recurses := true, named := ["cambium/sum.shifted", "internal/bytealg.MaxLen"], apart := false, laid := [("cambium/sum.shifted", laid_cambium_sum_shifted)] }
def EditCommittedSaid : Prop := editCommittedRow.holds Tryz.pinned (OpenSpec.ofChange editCommittedSpec)

/-- ITS FALSE NEIGHBOUR: 'it returns false'. Refute it at one input. -/
def editCommittedWrong : ChangeSpec := { name := "editCommitted", fn := fun _ => fun
  | [d1, d2] => { results := [.lit (.bool false)], args := [d1, d2] }
  | _ => none }
def EditCommittedWrongFalsely : Prop := editCommittedRow.holds Tryz.pinned (OpenSpec.ofChange editCommittedWrong)

/-- 'cambiumlaw11.EditRoom': WHATEVER THE INPUT: true; the input reads as it did. -/
def editRoomSpec : ChangeSpec := { name := "editRoom", fn := fun _ => fun
  | [d] => { results := [.lit (.bool true)], args := [d] }
  | _ => none }
def editRoomRow : OpenClaim := { program := "ytnnbaihfboacoaagreatdoor", sum := "4e0dbf6a1a8d8fa9833234dd1c404db99343bf0f22df5ff867603e5ee84e1c1d", func := "cambium/cambiumlaw11.EditRoom", spec := "editRoom", inPlace := ["internal/bytealg.Count", "internal/bytealg.IndexByte", "internal/bytealg.Index", "maps.clone"], unfollowed := true, recurses := true, named := ["cambium/sum.shifted", "internal/bytealg.MaxLen"], apart := false, laid := [("cambium/sum.shifted", laid_cambium_sum_shifted)] }
def EditRoomSaid : Prop := editRoomRow.holds Tryz.pinned (OpenSpec.ofChange editRoomSpec)

/-- ITS FALSE NEIGHBOUR: 'it returns false'. Refute it at one input. -/
def editRoomWrong : ChangeSpec := { name := "editRoom", fn := fun _ => fun
  | [d] => { results := [.lit (.bool false)], args := [d] }
  | _ => none }
def EditRoomWrongFalsely : Prop := editRoomRow.holds Tryz.pinned (OpenSpec.ofChange editRoomWrong)

/-- 'cambiumlaw11.EditOrder': WHATEVER THE INPUT: true; the input reads as it did. -/
def editOrderSpec : ChangeSpec := { name := "editOrder", fn := fun _ => fun
  | [d1, d2] => { results := [.lit (.bool true)], args := [d1, d2] }
  | _ => none }
def editOrderRow : OpenClaim := { program := "ytnnbaihfboacoaagreatdoor", sum := "4e0dbf6a1a8d8fa9833234dd1c404db99343bf0f22df5ff867603e5ee84e1c1d", func := "cambium/cambiumlaw11.EditOrder", spec := "editOrder", inPlace := ["internal/bytealg.Count", "internal/bytealg.IndexByte", "internal/bytealg.Index"], unfollowed := true, recurses := true, named := ["cambium/sum.shifted", "internal/bytealg.MaxLen"], apart := false, laid := [("cambium/sum.shifted", laid_cambium_sum_shifted)] }
def EditOrderSaid : Prop := editOrderRow.holds Tryz.pinned (OpenSpec.ofChange editOrderSpec)

/-- ITS FALSE NEIGHBOUR: 'it returns false'. Refute it at one input. -/
def editOrderWrong : ChangeSpec := { name := "editOrder", fn := fun _ => fun
  | [d1, d2] => { results := [.lit (.bool false)], args := [d1, d2] }
  | _ => none }
def EditOrderWrongFalsely : Prop := editOrderRow.holds Tryz.pinned (OpenSpec.ofChange editOrderWrong)

/-- 'cambiumlaw11.EditEmpty': WHATEVER THE INPUT: true; the input reads as it did. -/
def editEmptySpec : ChangeSpec := { name := "editEmpty", fn := fun _ => fun
  | [d1, d2] => { results := [.lit (.bool true)], args := [d1, d2] }
  | _ => none }
def editEmptyRow : OpenClaim := { program := "ytnnbaihfboacoaagreatdoor", sum := "4e0dbf6a1a8d8fa9833234dd1c404db99343bf0f22df5ff867603e5ee84e1c1d", func := "cambium/cambiumlaw11.EditEmpty", spec := "editEmpty", inPlace := ["internal/bytealg.Count", "internal/bytealg.IndexByte", "internal/bytealg.Index"], unfollowed := true, recurses := true, named := ["cambium/sum.shifted", "internal/bytealg.MaxLen"], apart := false, laid := [("cambium/sum.shifted", laid_cambium_sum_shifted)] }
def EditEmptySaid : Prop := editEmptyRow.holds Tryz.pinned (OpenSpec.ofChange editEmptySpec)

/-- ITS FALSE NEIGHBOUR: 'it returns false'. Refute it at one input. -/
def editEmptyWrong : ChangeSpec := { name := "editEmpty", fn := fun _ => fun
  | [d1, d2] => { results := [.lit (.bool false)], args := [d1, d2] }
  | _ => none }
def EditEmptyWrongFalsely : Prop := editEmptyRow.holds Tryz.pinned (OpenSpec.ofChange editEmptyWrong)

/- THE SECOND FORM. 'bulk': how many values and letters a reading holds, each counted each time it is reached (what is shared counts as often as it is met; a slice's spare places count too). A statement '..UptoSaid' is the law's where the arguments, and the package variables that the reading takes, are together of bulk at most 1048576: NARROWER than '..Said'. Prove '..Said' where nothing that the law and all that it calls make is longer than what came in: it says more and counts as full. Else prove '..UptoSaid'. A law counts once. -/
mutual
def uptoBulk {H : Type} : DataW H → Nat
  | .lit (.string bytes) => bytes.length + 1
  | .lit _ => 1
  | .nil => 1
  | .ptr d => uptoBulk d + 1
  | .slice elems spare => uptoBulkAll elems + uptoBulkAll spare + 1
  | .agg parts => uptoBulkAll parts + 1
  | .iface _ d => uptoBulk d + 1
  | .map entries => uptoBulkEntries entries + 1
  | .held _ => 1
def uptoBulkAll {H : Type} : List (DataW H) → Nat
  | [] => 0
  | d :: r => uptoBulk d + uptoBulkAll r
def uptoBulkEntries {H : Type} : List (Lit × DataW H) → Nat
  | [] => 0
  | x :: r => uptoBulkEntry x + uptoBulkEntries r
def uptoBulkEntry {H : Type} : Lit × DataW H → Nat
  | (.string bytes, d) => bytes.length + uptoBulk d + 1
  | (_, d) => uptoBulk d + 1
 end
def uptoSmall : (H : Type) → List (DataW H) → Bool := fun _ ds => decide (uptoBulkAll ds ≤ 1048576)
def OpenSpec.upto (s : _root_.Go.ChangeSpec) : _root_.Go.OpenSpec := { _root_.Go.OpenSpec.ofChange s with cond := some uptoSmall }

/-- 'cambiumlaw11.EditPlays', WHERE WHAT IT READS IS OF BULK AT MOST 1048576: true; the input reads as it did. -/
def editPlaysUptoRow : OpenClaim := { program := "ytnnbaihfboacoaagreatdoor", sum := "4e0dbf6a1a8d8fa9833234dd1c404db99343bf0f22df5ff867603e5ee84e1c1d", func := "cambium/cambiumlaw11.EditPlays", spec := "editPlays", inPlace := ["internal/bytealg.Count", "internal/bytealg.IndexByte", "internal/bytealg.Index"], unfollowed := true, recurses := true, named := ["cambium/sum.shifted", "internal/bytealg.MaxLen"], apart := false, laid := [("cambium/sum.shifted", laid_cambium_sum_shifted)], narrowed := true }
def EditPlaysUptoSaid : Prop := editPlaysUptoRow.holds Tryz.pinned (OpenSpec.upto editPlaysSpec)

/-- 'cambiumlaw11.EditGets', WHERE WHAT IT READS IS OF BULK AT MOST 1048576: true; the input reads as it did. -/
def editGetsUptoRow : OpenClaim := { program := "ytnnbaihfboacoaagreatdoor", sum := "4e0dbf6a1a8d8fa9833234dd1c404db99343bf0f22df5ff867603e5ee84e1c1d", func := "cambium/cambiumlaw11.EditGets", spec := "editGets", inPlace := ["internal/bytealg.Count", "internal/bytealg.IndexByte", "internal/bytealg.Index"], unfollowed := true, recurses := true, named := ["cambium/sum.shifted", "internal/bytealg.MaxLen"], apart := false, laid := [("cambium/sum.shifted", laid_cambium_sum_shifted)], narrowed := true }
def EditGetsUptoSaid : Prop := editGetsUptoRow.holds Tryz.pinned (OpenSpec.upto editGetsSpec)

/-- 'cambiumlaw11.EditShared', WHERE WHAT IT READS IS OF BULK AT MOST 1048576: true; the input reads as it did. -/
def editSharedUptoRow : OpenClaim := { program := "ytnnbaihfboacoaagreatdoor", sum := "4e0dbf6a1a8d8fa9833234dd1c404db99343bf0f22df5ff867603e5ee84e1c1d", func := "cambium/cambiumlaw11.EditShared", spec := "editShared", inPlace := ["internal/bytealg.Count", "internal/bytealg.IndexByte", "internal/bytealg.Index"], unfollowed := true, recurses := true, named := ["cambium/sum.shifted", "internal/bytealg.MaxLen"], apart := false, laid := [("cambium/sum.shifted", laid_cambium_sum_shifted)], narrowed := true }
def EditSharedUptoSaid : Prop := editSharedUptoRow.holds Tryz.pinned (OpenSpec.upto editSharedSpec)

/-- 'cambiumlaw11.EditCommitted', WHERE WHAT IT READS IS OF BULK AT MOST 1048576: true; the input reads as it did. -/
def editCommittedUptoRow : OpenClaim := { program := "ytnnbaihfboacoaagreatdoor", sum := "4e0dbf6a1a8d8fa9833234dd1c404db99343bf0f22df5ff867603e5ee84e1c1d", func := "cambium/cambiumlaw11.EditCommitted", spec := "editCommitted", inPlace := ["internal/bytealg.Count", "internal/bytealg.IndexByte", "internal/bytealg.Index"], unfollowed := true, recurses := true, named := ["cambium/sum.shifted", "internal/bytealg.MaxLen"], apart := false, laid := [("cambium/sum.shifted", laid_cambium_sum_shifted)], narrowed := true }
def EditCommittedUptoSaid : Prop := editCommittedUptoRow.holds Tryz.pinned (OpenSpec.upto editCommittedSpec)

/-- 'cambiumlaw11.EditRoom', WHERE WHAT IT READS IS OF BULK AT MOST 1048576: true; the input reads as it did. -/
def editRoomUptoRow : OpenClaim := { program := "ytnnbaihfboacoaagreatdoor", sum := "4e0dbf6a1a8d8fa9833234dd1c404db99343bf0f22df5ff867603e5ee84e1c1d", func := "cambium/cambiumlaw11.EditRoom", spec := "editRoom", inPlace := ["internal/bytealg.Count", "internal/bytealg.IndexByte", "internal/bytealg.Index", "maps.clone"], unfollowed := true, recurses := true, named := ["cambium/sum.shifted", "internal/bytealg.MaxLen"], apart := false, laid := [("cambium/sum.shifted", laid_cambium_sum_shifted)], narrowed := true }
def EditRoomUptoSaid : Prop := editRoomUptoRow.holds Tryz.pinned (OpenSpec.upto editRoomSpec)

/-- 'cambiumlaw11.EditOrder', WHERE WHAT IT READS IS OF BULK AT MOST 1048576: true; the input reads as it did. -/
def editOrderUptoRow : OpenClaim := { program := "ytnnbaihfboacoaagreatdoor", sum := "4e0dbf6a1a8d8fa9833234dd1c404db99343bf0f22df5ff867603e5ee84e1c1d", func := "cambium/cambiumlaw11.EditOrder", spec := "editOrder", inPlace := ["internal/bytealg.Count", "internal/bytealg.IndexByte", "internal/bytealg.Index"], unfollowed := true, recurses := true, named := ["cambium/sum.shifted", "internal/bytealg.MaxLen"], apart := false, laid := [("cambium/sum.shifted", laid_cambium_sum_shifted)], narrowed := true }
def EditOrderUptoSaid : Prop := editOrderUptoRow.holds Tryz.pinned (OpenSpec.upto editOrderSpec)

/-- 'cambiumlaw11.EditEmpty', WHERE WHAT IT READS IS OF BULK AT MOST 1048576: true; the input reads as it did. -/
def editEmptyUptoRow : OpenClaim := { program := "ytnnbaihfboacoaagreatdoor", sum := "4e0dbf6a1a8d8fa9833234dd1c404db99343bf0f22df5ff867603e5ee84e1c1d", func := "cambium/cambiumlaw11.EditEmpty", spec := "editEmpty", inPlace := ["internal/bytealg.Count", "internal/bytealg.IndexByte", "internal/bytealg.Index"], unfollowed := true, recurses := true, named := ["cambium/sum.shifted", "internal/bytealg.MaxLen"], apart := false, laid := [("cambium/sum.shifted", laid_cambium_sum_shifted)], narrowed := true }
def EditEmptyUptoSaid : Prop := editEmptyUptoRow.holds Tryz.pinned (OpenSpec.upto editEmptySpec)

end Rows
end Go.Proofs.YtnnbaihfboacoaaGreatDoor
