/-
  No cell of these rows narrows 'for every input' (looked for: loops, veiled, ifaces, maps, wideKeys, modest, calm, conditions, laid).
  DERIVED. THE GIVEN ROWS OF THIS SEAT. 7 by the template 'for every input the law returns true; each argument reads behind the call as it read before'; 0 by the template 'total and deterministic' (their statements: YtlofgjpnpfgpfaaTotals.lean).
  GIVEN WITH THE SEED: the statements are not yours to turn. If you find one false, say at which input.
  Laid BY PROGRAM, IN A SANDBOX (cutbox-rows.mjs): the forced cells as the released guide's own fill.sh prints them over the translation 08e6fb406986318d… (all of the seat's roots in one cut). By AI agents, Wed Nov 11 2026. No macro, syntax, notation, axiom, sorry.
-/
import Derived.Test.YtlofgjpnpfgpfaaChecked
import GoSem.Claim
import GoSem.ClaimJoined
import GoSem.ClaimMapViews
import Derived.JoinedTies
import Derived.KernelRfl
namespace Go.Proofs.Ytlofgjpnpfgpfaa
/- THE CELL 'sum', in the pinned program and in every row, IS THE sha256 OF THE DUMP (.gsa) THAT YtlofgjpnpfgpfaaProg.lean LOADS. Nothing in Lean hashes anything: it is a label: what it is worth is what the hold of that sum in a sandbox is worth. -/
noncomputable def Try.pinned : Pinned := { name := "ytlofgjpnpfgpfaa", sum := "08e6fb406986318dd3e42f68a9064afcb1588a963ba8fa9a8f326f36289828b8", checked := Try.checked }
namespace Rows
def none {H : Type} : Left H := { results := [], args := [] }

/-- 'cambiumlaw14.NameValid': WHATEVER THE INPUT: true; the input reads as it did. -/
def nameValidSpec : ChangeSpec := { name := "nameValid", fn := fun _ => fun
  | [d] => { results := [.lit (.bool true)], args := [d] }
  | _ => none }
def nameValidRow : OpenClaim := { program := "ytlofgjpnpfgpfaa", sum := "08e6fb406986318dd3e42f68a9064afcb1588a963ba8fa9a8f326f36289828b8", func := "cambium/cambiumlaw14.NameValid", spec := "nameValid", apart := false }
def NameValidSaid : Prop := nameValidRow.holds Try.pinned (OpenSpec.ofChange nameValidSpec)

/-- ITS FALSE NEIGHBOUR: 'it returns false'. Refute it at one input. -/
def nameValidWrong : ChangeSpec := { name := "nameValid", fn := fun _ => fun
  | [d] => { results := [.lit (.bool false)], args := [d] }
  | _ => none }
def NameValidWrongFalsely : Prop := nameValidRow.holds Try.pinned (OpenSpec.ofChange nameValidWrong)

/-- 'cambiumlaw14.NameSplits': WHATEVER THE INPUT: true; the input reads as it did. -/
def nameSplitsSpec : ChangeSpec := { name := "nameSplits", fn := fun _ => fun
  | [d] => { results := [.lit (.bool true)], args := [d] }
  | _ => none }
def nameSplitsRow : OpenClaim := { program := "ytlofgjpnpfgpfaa", sum := "08e6fb406986318dd3e42f68a9064afcb1588a963ba8fa9a8f326f36289828b8", func := "cambium/cambiumlaw14.NameSplits", spec := "nameSplits", apart := false }
def NameSplitsSaid : Prop := nameSplitsRow.holds Try.pinned (OpenSpec.ofChange nameSplitsSpec)

/-- ITS FALSE NEIGHBOUR: 'it returns false'. Refute it at one input. -/
def nameSplitsWrong : ChangeSpec := { name := "nameSplits", fn := fun _ => fun
  | [d] => { results := [.lit (.bool false)], args := [d] }
  | _ => none }
def NameSplitsWrongFalsely : Prop := nameSplitsRow.holds Try.pinned (OpenSpec.ofChange nameSplitsWrong)

/-- 'cambiumlaw14.NameJoins': WHATEVER THE INPUT: true; the input reads as it did. -/
def nameJoinsSpec : ChangeSpec := { name := "nameJoins", fn := fun _ => fun
  | [d1, d2, d3] => { results := [.lit (.bool true)], args := [d1, d2, d3] }
  | _ => none }
def nameJoinsRow : OpenClaim := { program := "ytlofgjpnpfgpfaa", sum := "08e6fb406986318dd3e42f68a9064afcb1588a963ba8fa9a8f326f36289828b8", func := "cambium/cambiumlaw14.NameJoins", spec := "nameJoins", inPlace := ["internal/abi.NoEscape", "internal/bytealg.MakeNoZero"], apart := false }
def NameJoinsSaid : Prop := nameJoinsRow.holds Try.pinned (OpenSpec.ofChange nameJoinsSpec)

/-- ITS FALSE NEIGHBOUR: 'it returns false'. Refute it at one input. -/
def nameJoinsWrong : ChangeSpec := { name := "nameJoins", fn := fun _ => fun
  | [d1, d2, d3] => { results := [.lit (.bool false)], args := [d1, d2, d3] }
  | _ => none }
def NameJoinsWrongFalsely : Prop := nameJoinsRow.holds Try.pinned (OpenSpec.ofChange nameJoinsWrong)

/-- 'cambiumlaw14.NameBack': WHATEVER THE INPUT: true; the input reads as it did. -/
def nameBackSpec : ChangeSpec := { name := "nameBack", fn := fun _ => fun
  | [d1, d2] => { results := [.lit (.bool true)], args := [d1, d2] }
  | _ => none }
def nameBackRow : OpenClaim := { program := "ytlofgjpnpfgpfaa", sum := "08e6fb406986318dd3e42f68a9064afcb1588a963ba8fa9a8f326f36289828b8", func := "cambium/cambiumlaw14.NameBack", spec := "nameBack", inPlace := ["internal/abi.NoEscape", "internal/bytealg.MakeNoZero"], apart := false }
def NameBackSaid : Prop := nameBackRow.holds Try.pinned (OpenSpec.ofChange nameBackSpec)

/-- ITS FALSE NEIGHBOUR: 'it returns false'. Refute it at one input. -/
def nameBackWrong : ChangeSpec := { name := "nameBack", fn := fun _ => fun
  | [d1, d2] => { results := [.lit (.bool false)], args := [d1, d2] }
  | _ => none }
def NameBackWrongFalsely : Prop := nameBackRow.holds Try.pinned (OpenSpec.ofChange nameBackWrong)

/-- 'cambiumlaw14.NameForm': WHATEVER THE INPUT: true; the input reads as it did. -/
def nameFormSpec : ChangeSpec := { name := "nameForm", fn := fun _ => fun
  | [d] => { results := [.lit (.bool true)], args := [d] }
  | _ => none }
def nameFormRow : OpenClaim := { program := "ytlofgjpnpfgpfaa", sum := "08e6fb406986318dd3e42f68a9064afcb1588a963ba8fa9a8f326f36289828b8", func := "cambium/cambiumlaw14.NameForm", spec := "nameForm", inPlace := ["internal/abi.NoEscape", "internal/bytealg.MakeNoZero"], apart := false }
def NameFormSaid : Prop := nameFormRow.holds Try.pinned (OpenSpec.ofChange nameFormSpec)

/-- ITS FALSE NEIGHBOUR: 'it returns false'. Refute it at one input. -/
def nameFormWrong : ChangeSpec := { name := "nameForm", fn := fun _ => fun
  | [d] => { results := [.lit (.bool false)], args := [d] }
  | _ => none }
def NameFormWrongFalsely : Prop := nameFormRow.holds Try.pinned (OpenSpec.ofChange nameFormWrong)

/-- 'cambiumlaw14.NameDepth': WHATEVER THE INPUT: true; the input reads as it did. -/
def nameDepthSpec : ChangeSpec := { name := "nameDepth", fn := fun _ => fun
  | [d1, d2, d3] => { results := [.lit (.bool true)], args := [d1, d2, d3] }
  | _ => none }
def nameDepthRow : OpenClaim := { program := "ytlofgjpnpfgpfaa", sum := "08e6fb406986318dd3e42f68a9064afcb1588a963ba8fa9a8f326f36289828b8", func := "cambium/cambiumlaw14.NameDepth", spec := "nameDepth", apart := false }
def NameDepthSaid : Prop := nameDepthRow.holds Try.pinned (OpenSpec.ofChange nameDepthSpec)

/-- ITS FALSE NEIGHBOUR: 'it returns false'. Refute it at one input. -/
def nameDepthWrong : ChangeSpec := { name := "nameDepth", fn := fun _ => fun
  | [d1, d2, d3] => { results := [.lit (.bool false)], args := [d1, d2, d3] }
  | _ => none }
def NameDepthWrongFalsely : Prop := nameDepthRow.holds Try.pinned (OpenSpec.ofChange nameDepthWrong)

/-- 'cambiumlaw14.NameParts': WHATEVER THE INPUT: true; the input reads as it did. -/
def namePartsSpec : ChangeSpec := { name := "nameParts", fn := fun _ => fun
  | [d] => { results := [.lit (.bool true)], args := [d] }
  | _ => none }
def namePartsRow : OpenClaim := { program := "ytlofgjpnpfgpfaa", sum := "08e6fb406986318dd3e42f68a9064afcb1588a963ba8fa9a8f326f36289828b8", func := "cambium/cambiumlaw14.NameParts", spec := "nameParts", apart := false }
def NamePartsSaid : Prop := namePartsRow.holds Try.pinned (OpenSpec.ofChange namePartsSpec)

/-- ITS FALSE NEIGHBOUR: 'it returns false'. Refute it at one input. -/
def namePartsWrong : ChangeSpec := { name := "nameParts", fn := fun _ => fun
  | [d] => { results := [.lit (.bool false)], args := [d] }
  | _ => none }
def NamePartsWrongFalsely : Prop := namePartsRow.holds Try.pinned (OpenSpec.ofChange namePartsWrong)

/- THE SECOND FORM. 'bulk': how many values and letters a reading holds, each counted each time it is reached (what is shared counts as often as it is met; a slice's spare places count too). A statement '..UptoSaid' is the law's where the arguments, and the package variables that the reading takes, are together of bulk at most 1048576: NARROWER than '..Said'. Prove '..Said' where nothing that the law and all that it calls make is longer than what came in: it says more and counts as full. Else prove '..UptoSaid'. A law counts once. -/
mutual
def uptoBulk {H : Type} : DataW H → Nat
  | .lit (.string bytes) => bytes.length + 1
  | .lit _ => 1
  | .nil => 1
  | .ptr d => uptoBulk d + 1
  | .slice elems spare => uptoBulkAll elems + uptoBulkAll spare + 1
  | .agg parts => uptoBulkAll parts + 1
  | .iface _ d => uptoBulk d + 1
  | .map entries => uptoBulkEntries entries + 1
  | .held _ => 1
def uptoBulkAll {H : Type} : List (DataW H) → Nat
  | [] => 0
  | d :: r => uptoBulk d + uptoBulkAll r
def uptoBulkEntries {H : Type} : List (Lit × DataW H) → Nat
  | [] => 0
  | x :: r => uptoBulkEntry x + uptoBulkEntries r
def uptoBulkEntry {H : Type} : Lit × DataW H → Nat
  | (.string bytes, d) => bytes.length + uptoBulk d + 1
  | (_, d) => uptoBulk d + 1
 end
def uptoSmall : (H : Type) → List (DataW H) → Bool := fun _ ds => decide (uptoBulkAll ds ≤ 1048576)
def OpenSpec.upto (s : _root_.Go.ChangeSpec) : _root_.Go.OpenSpec := { _root_.Go.OpenSpec.ofChange s with cond := some uptoSmall }

/-- 'cambiumlaw14.NameValid', WHERE WHAT IT READS IS OF BULK AT MOST 1048576: true; the input reads as it did. -/
def nameValidUptoRow : OpenClaim := { program := "ytlofgjpnpfgpfaa", sum := "08e6fb406986318dd3e42f68a9064afcb1588a963ba8fa9a8f326f36289828b8", func := "cambium/cambiumlaw14.NameValid", spec := "nameValid", apart := false, narrowed := true }
def NameValidUptoSaid : Prop := nameValidUptoRow.holds Try.pinned (OpenSpec.upto nameValidSpec)

/-- 'cambiumlaw14.NameSplits', WHERE WHAT IT READS IS OF BULK AT MOST 1048576: true; the input reads as it did. -/
def nameSplitsUptoRow : OpenClaim := { program := "ytlofgjpnpfgpfaa", sum := "08e6fb406986318dd3e42f68a9064afcb1588a963ba8fa9a8f326f36289828b8", func := "cambium/cambiumlaw14.NameSplits", spec := "nameSplits", apart := false, narrowed := true }
def NameSplitsUptoSaid : Prop := nameSplitsUptoRow.holds Try.pinned (OpenSpec.upto nameSplitsSpec)

/-- 'cambiumlaw14.NameJoins', WHERE WHAT IT READS IS OF BULK AT MOST 1048576: true; the input reads as it did. -/
def nameJoinsUptoRow : OpenClaim := { program := "ytlofgjpnpfgpfaa", sum := "08e6fb406986318dd3e42f68a9064afcb1588a963ba8fa9a8f326f36289828b8", func := "cambium/cambiumlaw14.NameJoins", spec := "nameJoins", inPlace := ["internal/abi.NoEscape", "internal/bytealg.MakeNoZero"], apart := false, narrowed := true }
def NameJoinsUptoSaid : Prop := nameJoinsUptoRow.holds Try.pinned (OpenSpec.upto nameJoinsSpec)

/-- 'cambiumlaw14.NameBack', WHERE WHAT IT READS IS OF BULK AT MOST 1048576: true; the input reads as it did. -/
def nameBackUptoRow : OpenClaim := { program := "ytlofgjpnpfgpfaa", sum := "08e6fb406986318dd3e42f68a9064afcb1588a963ba8fa9a8f326f36289828b8", func := "cambium/cambiumlaw14.NameBack", spec := "nameBack", inPlace := ["internal/abi.NoEscape", "internal/bytealg.MakeNoZero"], apart := false, narrowed := true }
def NameBackUptoSaid : Prop := nameBackUptoRow.holds Try.pinned (OpenSpec.upto nameBackSpec)

/-- 'cambiumlaw14.NameForm', WHERE WHAT IT READS IS OF BULK AT MOST 1048576: true; the input reads as it did. -/
def nameFormUptoRow : OpenClaim := { program := "ytlofgjpnpfgpfaa", sum := "08e6fb406986318dd3e42f68a9064afcb1588a963ba8fa9a8f326f36289828b8", func := "cambium/cambiumlaw14.NameForm", spec := "nameForm", inPlace := ["internal/abi.NoEscape", "internal/bytealg.MakeNoZero"], apart := false, narrowed := true }
def NameFormUptoSaid : Prop := nameFormUptoRow.holds Try.pinned (OpenSpec.upto nameFormSpec)

/-- 'cambiumlaw14.NameDepth', WHERE WHAT IT READS IS OF BULK AT MOST 1048576: true; the input reads as it did. -/
def nameDepthUptoRow : OpenClaim := { program := "ytlofgjpnpfgpfaa", sum := "08e6fb406986318dd3e42f68a9064afcb1588a963ba8fa9a8f326f36289828b8", func := "cambium/cambiumlaw14.NameDepth", spec := "nameDepth", apart := false, narrowed := true }
def NameDepthUptoSaid : Prop := nameDepthUptoRow.holds Try.pinned (OpenSpec.upto nameDepthSpec)

/-- 'cambiumlaw14.NameParts', WHERE WHAT IT READS IS OF BULK AT MOST 1048576: true; the input reads as it did. -/
def namePartsUptoRow : OpenClaim := { program := "ytlofgjpnpfgpfaa", sum := "08e6fb406986318dd3e42f68a9064afcb1588a963ba8fa9a8f326f36289828b8", func := "cambium/cambiumlaw14.NameParts", spec := "nameParts", apart := false, narrowed := true }
def NamePartsUptoSaid : Prop := namePartsUptoRow.holds Try.pinned (OpenSpec.upto namePartsSpec)

end Rows
end Go.Proofs.Ytlofgjpnpfgpfaa
