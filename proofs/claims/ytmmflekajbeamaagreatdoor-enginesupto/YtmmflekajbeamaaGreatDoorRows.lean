/-
  NARROWER THAN 'FOR EVERY INPUT', by the rows' own cells (each row's printed sentence says how): Devices: laid · Engines: laid · Faithful: laid.
  DERIVED. THE GIVEN ROWS OF THIS SEAT. 3 by the template 'for every input the law returns true; each argument reads behind the call as it read before'; 0 by the template 'total and deterministic' (their statements: YtmmflekajbeamaaGreatDoorTotals.lean).
  GIVEN WITH THE SEED: the statements are not yours to turn. If you find one false, say at which input.
  Laid BY PROGRAM, IN A SANDBOX (cutbox-rows.mjs): the forced cells as the released guide's own fill.sh prints them over the translation bee3af64d85f77f6… (all of the seat's roots in one cut). By AI agents, Wed Nov 11 2026. No macro, syntax, notation, axiom, sorry.
-/
import Derived.Test.YtmmflekajbeamaaGreatDoorChecked
import GoSem.Claim
import GoSem.ClaimJoined
import GoSem.ClaimMapViews
import Derived.JoinedTies
import Derived.KernelRfl
namespace Go.Proofs.YtmmflekajbeamaaGreatDoor
/- THE CELL 'sum', in the pinned program and in every row, IS THE sha256 OF THE DUMP (.gsa) THAT YtmmflekajbeamaaGreatDoorProg.lean LOADS. Nothing in Lean hashes anything: it is a label: what it is worth is what the hold of that sum in a sandbox is worth. -/
noncomputable def Tryz.pinned : Pinned := { name := "ytmmflekajbeamaagreatdoor", sum := "bee3af64d85f77f65180dd4f05ac2ef1b5e708a4c524cfc6743759533b4d3889", checked := Tryz.checked }
namespace Rows
def none {H : Type} : Left H := { results := [], args := [] }

/- WHAT THE LISTED PACKAGE-LEVEL VARIABLES READ AS WHEN THE CALL BEGINS. Each datum BY PROGRAM (the guide's laid-datum.mjs) off the statement by which the dump's own 'gosem.cut.vars' lays the variable. In a bare row this is a premise. The card (YtmmflekajbeamaaGreatDoorCards.lean) ties it to the program's text. -/
def laid_crib_code_rows {H : Type} : DataW H := .agg [.agg [.lit (.string [104, 97, 108, 116]), .lit (.int .i64 0), .lit (.string [])], .agg [.lit (.string [115, 101, 116]), .lit (.int .i64 1), .lit (.string [114, 110])], .agg [.lit (.string [97, 100, 100]), .lit (.int .i64 2), .lit (.string [114, 114, 114])], .agg [.lit (.string [115, 117, 98]), .lit (.int .i64 3), .lit (.string [114, 114, 114])], .agg [.lit (.string [120, 111, 114]), .lit (.int .i64 4), .lit (.string [114, 114, 114])], .agg [.lit (.string [109, 117, 108]), .lit (.int .i64 5), .lit (.string [114, 114, 114])], .agg [.lit (.string [108, 111, 97, 100]), .lit (.int .i64 6), .lit (.string [114, 114, 110])], .agg [.lit (.string [115, 116, 111, 114, 101]), .lit (.int .i64 7), .lit (.string [114, 114, 110])], .agg [.lit (.string [115, 97, 109, 101]), .lit (.int .i64 8), .lit (.string [114, 114, 110])], .agg [.lit (.string [106, 117, 109, 112]), .lit (.int .i64 9), .lit (.string [110])], .agg [.lit (.string [116, 117, 114, 110]), .lit (.int .i64 10), .lit (.string [114])], .agg [.lit (.string [119, 111, 114, 100]), .lit (.int .i64 (-1)), .lit (.string [118])]]

/-- 'criblaw.Devices': WHATEVER THE INPUT: true; the input reads as it did. -/
def devicesSpec : ChangeSpec := { name := "devices", fn := fun _ => fun
  | [d] => { results := [.lit (.bool true)], args := [d] }
  | _ => none }
def devicesRow : OpenClaim := { program := "ytmmflekajbeamaagreatdoor", sum := "bee3af64d85f77f65180dd4f05ac2ef1b5e708a4c524cfc6743759533b4d3889", func := "crib/criblaw.Devices", spec := "devices", inPlace := ["internal/bytealg.CountString", "internal/bytealg.IndexByteString", "internal/bytealg.IndexString", "internal/abi.NoEscape"], unfollowed := true, recurses := true, named := ["crib/code.rows", "internal/bytealg.MaxLen"], plainKeys := false, apart := false, laid := [("crib/code.rows", laid_crib_code_rows)] }
def DevicesSaid : Prop := devicesRow.holds Tryz.pinned (OpenSpec.ofChange devicesSpec)

/-- ITS FALSE NEIGHBOUR: 'it returns false'. Refute it at one input. -/
def devicesWrong : ChangeSpec := { name := "devices", fn := fun _ => fun
  | [d] => { results := [.lit (.bool false)], args := [d] }
  | _ => none }
def DevicesWrongFalsely : Prop := devicesRow.holds Tryz.pinned (OpenSpec.ofChange devicesWrong)

/-- 'criblaw.Engines': WHATEVER THE INPUT: true; the input reads as it did. -/
def enginesSpec : ChangeSpec := { name := "engines", fn := fun _ => fun
  | [d] => { results := [.lit (.bool true)], args := [d] }
  | _ => none }
def enginesRow : OpenClaim := { program := "ytmmflekajbeamaagreatdoor", sum := "bee3af64d85f77f65180dd4f05ac2ef1b5e708a4c524cfc6743759533b4d3889", func := "crib/criblaw.Engines", spec := "engines", inPlace := ["internal/bytealg.CountString", "internal/bytealg.IndexByteString", "internal/bytealg.IndexString", "internal/abi.NoEscape"], unfollowed := true, recurses := true, named := ["crib/code.rows", "internal/bytealg.MaxLen"], plainKeys := false, apart := false, laid := [("crib/code.rows", laid_crib_code_rows)] }
def EnginesSaid : Prop := enginesRow.holds Tryz.pinned (OpenSpec.ofChange enginesSpec)

/-- ITS FALSE NEIGHBOUR: 'it returns false'. Refute it at one input. -/
def enginesWrong : ChangeSpec := { name := "engines", fn := fun _ => fun
  | [d] => { results := [.lit (.bool false)], args := [d] }
  | _ => none }
def EnginesWrongFalsely : Prop := enginesRow.holds Tryz.pinned (OpenSpec.ofChange enginesWrong)

/-- 'cribkeep.Faithful': WHATEVER THE INPUT: true; the input reads as it did. -/
def faithfulSpec : ChangeSpec := { name := "faithful", fn := fun _ => fun
  | [d1, d2] => { results := [.lit (.bool true)], args := [d1, d2] }
  | _ => none }
def faithfulRow : OpenClaim := { program := "ytmmflekajbeamaagreatdoor", sum := "bee3af64d85f77f65180dd4f05ac2ef1b5e708a4c524cfc6743759533b4d3889", func := "crib/cribkeep.Faithful", spec := "faithful", inPlace := ["internal/bytealg.CountString", "internal/bytealg.IndexByteString", "internal/bytealg.IndexString", "internal/abi.NoEscape"], unfollowed := true, recurses := true, named := ["crib/code.rows", "internal/bytealg.MaxLen"], plainKeys := false, apart := false, laid := [("crib/code.rows", laid_crib_code_rows)] }
def FaithfulSaid : Prop := faithfulRow.holds Tryz.pinned (OpenSpec.ofChange faithfulSpec)

/-- ITS FALSE NEIGHBOUR: 'it returns false'. Refute it at one input. -/
def faithfulWrong : ChangeSpec := { name := "faithful", fn := fun _ => fun
  | [d1, d2] => { results := [.lit (.bool false)], args := [d1, d2] }
  | _ => none }
def FaithfulWrongFalsely : Prop := faithfulRow.holds Tryz.pinned (OpenSpec.ofChange faithfulWrong)

/- THE SECOND FORM. 'bulk': how many values and letters a reading holds, each counted each time it is reached (what is shared counts as often as it is met; a slice's spare places count too). A statement '..UptoSaid' is the law's where the arguments, and the package variables that the reading takes, are together of bulk at most 1048576: NARROWER than '..Said'. Prove '..Said' where nothing that the law and all that it calls make is longer than what came in: it says more and counts as full. Else prove '..UptoSaid'. A law counts once. -/
mutual
def uptoBulk {H : Type} : DataW H → Nat
  | .lit (.string bytes) => bytes.length + 1
  | .lit _ => 1
  | .nil => 1
  | .ptr d => uptoBulk d + 1
  | .slice elems spare => uptoBulkAll elems + uptoBulkAll spare + 1
  | .agg parts => uptoBulkAll parts + 1
  | .iface _ d => uptoBulk d + 1
  | .map entries => uptoBulkEntries entries + 1
  | .held _ => 1
def uptoBulkAll {H : Type} : List (DataW H) → Nat
  | [] => 0
  | d :: r => uptoBulk d + uptoBulkAll r
def uptoBulkEntries {H : Type} : List (Lit × DataW H) → Nat
  | [] => 0
  | x :: r => uptoBulkEntry x + uptoBulkEntries r
def uptoBulkEntry {H : Type} : Lit × DataW H → Nat
  | (.string bytes, d) => bytes.length + uptoBulk d + 1
  | (_, d) => uptoBulk d + 1
 end
def uptoSmall : (H : Type) → List (DataW H) → Bool := fun _ ds => decide (uptoBulkAll ds ≤ 1048576)
def OpenSpec.upto (s : _root_.Go.ChangeSpec) : _root_.Go.OpenSpec := { _root_.Go.OpenSpec.ofChange s with cond := some uptoSmall }

/-- 'criblaw.Devices', WHERE WHAT IT READS IS OF BULK AT MOST 1048576: true; the input reads as it did. -/
def devicesUptoRow : OpenClaim := { program := "ytmmflekajbeamaagreatdoor", sum := "bee3af64d85f77f65180dd4f05ac2ef1b5e708a4c524cfc6743759533b4d3889", func := "crib/criblaw.Devices", spec := "devices", inPlace := ["internal/bytealg.CountString", "internal/bytealg.IndexByteString", "internal/bytealg.IndexString", "internal/abi.NoEscape"], unfollowed := true, recurses := true, named := ["crib/code.rows", "internal/bytealg.MaxLen"], plainKeys := false, apart := false, laid := [("crib/code.rows", laid_crib_code_rows)], narrowed := true }
def DevicesUptoSaid : Prop := devicesUptoRow.holds Tryz.pinned (OpenSpec.upto devicesSpec)

/-- 'criblaw.Engines', WHERE WHAT IT READS IS OF BULK AT MOST 1048576: true; the input reads as it did. -/
def enginesUptoRow : OpenClaim := { program := "ytmmflekajbeamaagreatdoor", sum := "bee3af64d85f77f65180dd4f05ac2ef1b5e708a4c524cfc6743759533b4d3889", func := "crib/criblaw.Engines", spec := "engines", inPlace := ["internal/bytealg.CountString", "internal/bytealg.IndexByteString", "internal/bytealg.IndexString", "internal/abi.NoEscape"], unfollowed := true, recurses := true, named := ["crib/code.rows", "internal/bytealg.MaxLen"], plainKeys := false, apart := false, laid := [("crib/code.rows", laid_crib_code_rows)], narrowed := true }
def EnginesUptoSaid : Prop := enginesUptoRow.holds Tryz.pinned (OpenSpec.upto enginesSpec)

/-- 'cribkeep.Faithful', WHERE WHAT IT READS IS OF BULK AT MOST 1048576: true; the input reads as it did. -/
def faithfulUptoRow : OpenClaim := { program := "ytmmflekajbeamaagreatdoor", sum := "bee3af64d85f77f65180dd4f05ac2ef1b5e708a4c524cfc6743759533b4d3889", func := "crib/cribkeep.Faithful", spec := "faithful", inPlace := ["internal/bytealg.CountString", "internal/bytealg.IndexByteString", "internal/bytealg.IndexString", "internal/abi.NoEscape"], unfollowed := true, recurses := true, named := ["crib/code.rows", "internal/bytealg.MaxLen"], plainKeys := false, apart := false, laid := [("crib/code.rows", laid_crib_code_rows)], narrowed := true }
def FaithfulUptoSaid : Prop := faithfulUptoRow.holds Tryz.pinned (OpenSpec.upto faithfulSpec)

end Rows
end Go.Proofs.YtmmflekajbeamaaGreatDoor
