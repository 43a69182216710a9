/-
  NARROWER THAN 'FOR EVERY INPUT', by the rows' own cells (each row's printed sentence says how): Kept: laid · Warm: laid · All: laid.
  DERIVED. THE GIVEN ROWS OF THIS SEAT. 3 by the template 'for every input the law returns true; each argument reads behind the call as it read before'; 0 by the template 'total and deterministic' (their statements: YtmmflekajbeamabGreatDoorTotals.lean).
  GIVEN WITH THE SEED: the statements are not yours to turn. If you find one false, say at which input.
  Laid BY PROGRAM, IN A SANDBOX (cutbox-rows.mjs): the forced cells as the released guide's own fill.sh prints them over the translation c3878a761ced0b75… (all of the seat's roots in one cut). By AI agents, Wed Nov 11 2026. No macro, syntax, notation, axiom, sorry.
-/
import Derived.Test.YtmmflekajbeamabGreatDoorChecked
import GoSem.Claim
import GoSem.ClaimJoined
import GoSem.ClaimMapViews
import Derived.JoinedTies
import Derived.KernelRfl
namespace Go.Proofs.YtmmflekajbeamabGreatDoor
/- THE CELL 'sum', in the pinned program and in every row, IS THE sha256 OF THE DUMP (.gsa) THAT YtmmflekajbeamabGreatDoorProg.lean LOADS. Nothing in Lean hashes anything: it is a label: what it is worth is what the hold of that sum in a sandbox is worth. -/
noncomputable def Tryz.pinned : Pinned := { name := "ytmmflekajbeamabgreatdoor", sum := "c3878a761ced0b75f1124969a843137df8eae97e89ff371f1c5846df1d6a0b22", checked := Tryz.checked }
namespace Rows
def none {H : Type} : Left H := { results := [], args := [] }

/- WHAT THE LISTED PACKAGE-LEVEL VARIABLES READ AS WHEN THE CALL BEGINS. Each datum BY PROGRAM (the guide's laid-datum.mjs) off the statement by which the dump's own 'gosem.cut.vars' lays the variable. In a bare row this is a premise. The card (YtmmflekajbeamabGreatDoorCards.lean) ties it to the program's text. -/
def laid_crib_code_rows {H : Type} : DataW H := .agg [.agg [.lit (.string [104, 97, 108, 116]), .lit (.int .i64 0), .lit (.string [])], .agg [.lit (.string [115, 101, 116]), .lit (.int .i64 1), .lit (.string [114, 110])], .agg [.lit (.string [97, 100, 100]), .lit (.int .i64 2), .lit (.string [114, 114, 114])], .agg [.lit (.string [115, 117, 98]), .lit (.int .i64 3), .lit (.string [114, 114, 114])], .agg [.lit (.string [120, 111, 114]), .lit (.int .i64 4), .lit (.string [114, 114, 114])], .agg [.lit (.string [109, 117, 108]), .lit (.int .i64 5), .lit (.string [114, 114, 114])], .agg [.lit (.string [108, 111, 97, 100]), .lit (.int .i64 6), .lit (.string [114, 114, 110])], .agg [.lit (.string [115, 116, 111, 114, 101]), .lit (.int .i64 7), .lit (.string [114, 114, 110])], .agg [.lit (.string [115, 97, 109, 101]), .lit (.int .i64 8), .lit (.string [114, 114, 110])], .agg [.lit (.string [106, 117, 109, 112]), .lit (.int .i64 9), .lit (.string [110])], .agg [.lit (.string [116, 117, 114, 110]), .lit (.int .i64 10), .lit (.string [114])], .agg [.lit (.string [119, 111, 114, 100]), .lit (.int .i64 (-1)), .lit (.string [118])]]

/-- 'cribkeep.Kept': WHATEVER THE INPUT: true; the input reads as it did. -/
def keptSpec : ChangeSpec := { name := "kept", fn := fun _ => fun
  | [d1, d2] => { results := [.lit (.bool true)], args := [d1, d2] }
  | _ => none }
def keptRow : OpenClaim := { program := "ytmmflekajbeamabgreatdoor", sum := "c3878a761ced0b75f1124969a843137df8eae97e89ff371f1c5846df1d6a0b22", func := "crib/cribkeep.Kept", spec := "kept", inPlace := ["internal/bytealg.CountString", "internal/bytealg.IndexByteString", "internal/bytealg.IndexString", "internal/abi.NoEscape"], unfollowed := true, recurses := true, named := ["crib/code.rows", "internal/bytealg.MaxLen"], plainKeys := false, apart := false, laid := [("crib/code.rows", laid_crib_code_rows)] }
def KeptSaid : Prop := keptRow.holds Tryz.pinned (OpenSpec.ofChange keptSpec)

/-- ITS FALSE NEIGHBOUR: 'it returns false'. Refute it at one input. -/
def keptWrong : ChangeSpec := { name := "kept", fn := fun _ => fun
  | [d1, d2] => { results := [.lit (.bool false)], args := [d1, d2] }
  | _ => none }
def KeptWrongFalsely : Prop := keptRow.holds Tryz.pinned (OpenSpec.ofChange keptWrong)

/-- 'cribkeep.Warm': WHATEVER THE INPUT: true; the input reads as it did. -/
def warmSpec : ChangeSpec := { name := "warm", fn := fun _ => fun
  | [d1, d2, d3, d4] => { results := [.lit (.bool true)], args := [d1, d2, d3, d4] }
  | _ => none }
def warmRow : OpenClaim := { program := "ytmmflekajbeamabgreatdoor", sum := "c3878a761ced0b75f1124969a843137df8eae97e89ff371f1c5846df1d6a0b22", func := "crib/cribkeep.Warm", spec := "warm", inPlace := ["internal/bytealg.CountString", "internal/bytealg.IndexByteString", "internal/bytealg.IndexString", "internal/abi.NoEscape"], unfollowed := true, recurses := true, named := ["crib/code.rows", "internal/bytealg.MaxLen"], plainKeys := false, apart := false, laid := [("crib/code.rows", laid_crib_code_rows)] }
def WarmSaid : Prop := warmRow.holds Tryz.pinned (OpenSpec.ofChange warmSpec)

/-- ITS FALSE NEIGHBOUR: 'it returns false'. Refute it at one input. -/
def warmWrong : ChangeSpec := { name := "warm", fn := fun _ => fun
  | [d1, d2, d3, d4] => { results := [.lit (.bool false)], args := [d1, d2, d3, d4] }
  | _ => none }
def WarmWrongFalsely : Prop := warmRow.holds Tryz.pinned (OpenSpec.ofChange warmWrong)

/-- 'criblaw.All': WHATEVER THE INPUT: true; the input reads as it did. -/
def allSpec : ChangeSpec := { name := "all", fn := fun _ => fun
  | [d] => { results := [.lit (.bool true)], args := [d] }
  | _ => none }
def allRow : OpenClaim := { program := "ytmmflekajbeamabgreatdoor", sum := "c3878a761ced0b75f1124969a843137df8eae97e89ff371f1c5846df1d6a0b22", func := "crib/criblaw.All", spec := "all", inPlace := ["internal/bytealg.CountString", "internal/bytealg.IndexByteString", "internal/bytealg.IndexString", "internal/abi.NoEscape"], unfollowed := true, recurses := true, named := ["crib/code.rows", "internal/bytealg.MaxLen"], plainKeys := false, apart := false, laid := [("crib/code.rows", laid_crib_code_rows)] }
def AllSaid : Prop := allRow.holds Tryz.pinned (OpenSpec.ofChange allSpec)

/-- ITS FALSE NEIGHBOUR: 'it returns false'. Refute it at one input. -/
def allWrong : ChangeSpec := { name := "all", fn := fun _ => fun
  | [d] => { results := [.lit (.bool false)], args := [d] }
  | _ => none }
def AllWrongFalsely : Prop := allRow.holds Tryz.pinned (OpenSpec.ofChange allWrong)

/- THE SECOND FORM. 'bulk': how many values and letters a reading holds, each counted each time it is reached (what is shared counts as often as it is met; a slice's spare places count too). A statement '..UptoSaid' is the law's where the arguments, and the package variables that the reading takes, are together of bulk at most 1048576: NARROWER than '..Said'. Prove '..Said' where nothing that the law and all that it calls make is longer than what came in: it says more and counts as full. Else prove '..UptoSaid'. A law counts once. -/
mutual
def uptoBulk {H : Type} : DataW H → Nat
  | .lit (.string bytes) => bytes.length + 1
  | .lit _ => 1
  | .nil => 1
  | .ptr d => uptoBulk d + 1
  | .slice elems spare => uptoBulkAll elems + uptoBulkAll spare + 1
  | .agg parts => uptoBulkAll parts + 1
  | .iface _ d => uptoBulk d + 1
  | .map entries => uptoBulkEntries entries + 1
  | .held _ => 1
def uptoBulkAll {H : Type} : List (DataW H) → Nat
  | [] => 0
  | d :: r => uptoBulk d + uptoBulkAll r
def uptoBulkEntries {H : Type} : List (Lit × DataW H) → Nat
  | [] => 0
  | x :: r => uptoBulkEntry x + uptoBulkEntries r
def uptoBulkEntry {H : Type} : Lit × DataW H → Nat
  | (.string bytes, d) => bytes.length + uptoBulk d + 1
  | (_, d) => uptoBulk d + 1
 end
def uptoSmall : (H : Type) → List (DataW H) → Bool := fun _ ds => decide (uptoBulkAll ds ≤ 1048576)
def OpenSpec.upto (s : _root_.Go.ChangeSpec) : _root_.Go.OpenSpec := { _root_.Go.OpenSpec.ofChange s with cond := some uptoSmall }

/-- 'cribkeep.Kept', WHERE WHAT IT READS IS OF BULK AT MOST 1048576: true; the input reads as it did. -/
def keptUptoRow : OpenClaim := { program := "ytmmflekajbeamabgreatdoor", sum := "c3878a761ced0b75f1124969a843137df8eae97e89ff371f1c5846df1d6a0b22", func := "crib/cribkeep.Kept", spec := "kept", inPlace := ["internal/bytealg.CountString", "internal/bytealg.IndexByteString", "internal/bytealg.IndexString", "internal/abi.NoEscape"], unfollowed := true, recurses := true, named := ["crib/code.rows", "internal/bytealg.MaxLen"], plainKeys := false, apart := false, laid := [("crib/code.rows", laid_crib_code_rows)], narrowed := true }
def KeptUptoSaid : Prop := keptUptoRow.holds Tryz.pinned (OpenSpec.upto keptSpec)

/-- 'cribkeep.Warm', WHERE WHAT IT READS IS OF BULK AT MOST 1048576: true; the input reads as it did. -/
def warmUptoRow : OpenClaim := { program := "ytmmflekajbeamabgreatdoor", sum := "c3878a761ced0b75f1124969a843137df8eae97e89ff371f1c5846df1d6a0b22", func := "crib/cribkeep.Warm", spec := "warm", inPlace := ["internal/bytealg.CountString", "internal/bytealg.IndexByteString", "internal/bytealg.IndexString", "internal/abi.NoEscape"], unfollowed := true, recurses := true, named := ["crib/code.rows", "internal/bytealg.MaxLen"], plainKeys := false, apart := false, laid := [("crib/code.rows", laid_crib_code_rows)], narrowed := true }
def WarmUptoSaid : Prop := warmUptoRow.holds Tryz.pinned (OpenSpec.upto warmSpec)

/-- 'criblaw.All', WHERE WHAT IT READS IS OF BULK AT MOST 1048576: true; the input reads as it did. -/
def allUptoRow : OpenClaim := { program := "ytmmflekajbeamabgreatdoor", sum := "c3878a761ced0b75f1124969a843137df8eae97e89ff371f1c5846df1d6a0b22", func := "crib/criblaw.All", spec := "all", inPlace := ["internal/bytealg.CountString", "internal/bytealg.IndexByteString", "internal/bytealg.IndexString", "internal/abi.NoEscape"], unfollowed := true, recurses := true, named := ["crib/code.rows", "internal/bytealg.MaxLen"], plainKeys := false, apart := false, laid := [("crib/code.rows", laid_crib_code_rows)], narrowed := true }
def AllUptoSaid : Prop := allUptoRow.holds Tryz.pinned (OpenSpec.upto allSpec)

end Rows
end Go.Proofs.YtmmflekajbeamabGreatDoor
