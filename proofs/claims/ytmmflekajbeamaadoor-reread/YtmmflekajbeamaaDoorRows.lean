/-
  NARROWER THAN 'FOR EVERY INPUT', by the rows' own cells (each row's printed sentence says how): Programs: laid · Steps: laid · Written: laid · Plans: laid · Translates: laid · Sound: laid · Turned: laid · Frames: laid · Reread: laid.
  DERIVED. THE GIVEN ROWS OF THIS SEAT. 9 by the template 'for every input the law returns true; each argument reads behind the call as it read before'; 0 by the template 'total and deterministic' (their statements: YtmmflekajbeamaaDoorTotals.lean).
  GIVEN WITH THE SEED: the statements are not yours to turn. If you find one false, say at which input.
  Laid BY PROGRAM, IN A SANDBOX (cutbox-rows.mjs): the forced cells as the released guide's own fill.sh prints them over the translation b86fa27222ac613e… (all of the seat's roots in one cut). By AI agents, Wed Nov 11 2026. No macro, syntax, notation, axiom, sorry.
-/
import Derived.Test.YtmmflekajbeamaaDoorChecked
import GoSem.Claim
import GoSem.ClaimJoined
import GoSem.ClaimMapViews
import Derived.JoinedTies
import Derived.KernelRfl
namespace Go.Proofs.YtmmflekajbeamaaDoor
/- THE CELL 'sum', in the pinned program and in every row, IS THE sha256 OF THE DUMP (.gsa) THAT YtmmflekajbeamaaDoorProg.lean LOADS. Nothing in Lean hashes anything: it is a label: what it is worth is what the hold of that sum in a sandbox is worth. -/
noncomputable def Tryd.pinned : Pinned := { name := "ytmmflekajbeamaadoor", sum := "b86fa27222ac613e65964a5e6769b8674a86cfc9d294c66accb464da78431304", checked := Tryd.checked }
namespace Rows
def none {H : Type} : Left H := { results := [], args := [] }

/- WHAT THE LISTED PACKAGE-LEVEL VARIABLES READ AS WHEN THE CALL BEGINS. Each datum BY PROGRAM (the guide's laid-datum.mjs) off the statement by which the dump's own 'gosem.cut.vars' lays the variable. In a bare row this is a premise. The card (YtmmflekajbeamaaDoorCards.lean) ties it to the program's text. -/
def laid_crib_code_rows {H : Type} : DataW H := .agg [.agg [.lit (.string [104, 97, 108, 116]), .lit (.int .i64 0), .lit (.string [])], .agg [.lit (.string [115, 101, 116]), .lit (.int .i64 1), .lit (.string [114, 110])], .agg [.lit (.string [97, 100, 100]), .lit (.int .i64 2), .lit (.string [114, 114, 114])], .agg [.lit (.string [115, 117, 98]), .lit (.int .i64 3), .lit (.string [114, 114, 114])], .agg [.lit (.string [120, 111, 114]), .lit (.int .i64 4), .lit (.string [114, 114, 114])], .agg [.lit (.string [109, 117, 108]), .lit (.int .i64 5), .lit (.string [114, 114, 114])], .agg [.lit (.string [108, 111, 97, 100]), .lit (.int .i64 6), .lit (.string [114, 114, 110])], .agg [.lit (.string [115, 116, 111, 114, 101]), .lit (.int .i64 7), .lit (.string [114, 114, 110])], .agg [.lit (.string [115, 97, 109, 101]), .lit (.int .i64 8), .lit (.string [114, 114, 110])], .agg [.lit (.string [106, 117, 109, 112]), .lit (.int .i64 9), .lit (.string [110])], .agg [.lit (.string [116, 117, 114, 110]), .lit (.int .i64 10), .lit (.string [114])], .agg [.lit (.string [119, 111, 114, 100]), .lit (.int .i64 (-1)), .lit (.string [118])]]

/-- 'criblaw.Programs': WHATEVER THE INPUT: true; the input reads as it did. -/
def programsSpec : ChangeSpec := { name := "programs", fn := fun _ => fun
  | [d1, d2] => { results := [.lit (.bool true)], args := [d1, d2] }
  | _ => none }
def programsRow : OpenClaim := { program := "ytmmflekajbeamaadoor", sum := "b86fa27222ac613e65964a5e6769b8674a86cfc9d294c66accb464da78431304", func := "crib/criblaw.Programs", spec := "programs", named := ["crib/code.rows"], plainKeys := false, apart := false, laid := [("crib/code.rows", laid_crib_code_rows)] }
def ProgramsSaid : Prop := programsRow.holds Tryd.pinned (OpenSpec.ofChange programsSpec)

/-- ITS FALSE NEIGHBOUR: 'it returns false'. Refute it at one input. -/
def programsWrong : ChangeSpec := { name := "programs", fn := fun _ => fun
  | [d1, d2] => { results := [.lit (.bool false)], args := [d1, d2] }
  | _ => none }
def ProgramsWrongFalsely : Prop := programsRow.holds Tryd.pinned (OpenSpec.ofChange programsWrong)

/-- 'criblaw.Steps': WHATEVER THE INPUT: true; the input reads as it did. -/
def stepsSpec : ChangeSpec := { name := "steps", fn := fun _ => fun
  | [d] => { results := [.lit (.bool true)], args := [d] }
  | _ => none }
def stepsRow : OpenClaim := { program := "ytmmflekajbeamaadoor", sum := "b86fa27222ac613e65964a5e6769b8674a86cfc9d294c66accb464da78431304", func := "crib/criblaw.Steps", spec := "steps", inPlace := ["internal/bytealg.CountString", "internal/bytealg.IndexByteString", "internal/bytealg.IndexString"], named := ["crib/code.rows", "internal/bytealg.MaxLen"], plainKeys := false, apart := false, laid := [("crib/code.rows", laid_crib_code_rows)] }
def StepsSaid : Prop := stepsRow.holds Tryd.pinned (OpenSpec.ofChange stepsSpec)

/-- ITS FALSE NEIGHBOUR: 'it returns false'. Refute it at one input. -/
def stepsWrong : ChangeSpec := { name := "steps", fn := fun _ => fun
  | [d] => { results := [.lit (.bool false)], args := [d] }
  | _ => none }
def StepsWrongFalsely : Prop := stepsRow.holds Tryd.pinned (OpenSpec.ofChange stepsWrong)

/-- 'cribkeep.Written': WHATEVER THE INPUT: true; the input reads as it did. -/
def writtenSpec : ChangeSpec := { name := "written", fn := fun _ => fun
  | [d1, d2] => { results := [.lit (.bool true)], args := [d1, d2] }
  | _ => none }
def writtenRow : OpenClaim := { program := "ytmmflekajbeamaadoor", sum := "b86fa27222ac613e65964a5e6769b8674a86cfc9d294c66accb464da78431304", func := "crib/cribkeep.Written", spec := "written", recurses := true, named := ["crib/code.rows"], plainKeys := false, apart := false, laid := [("crib/code.rows", laid_crib_code_rows)] }
def WrittenSaid : Prop := writtenRow.holds Tryd.pinned (OpenSpec.ofChange writtenSpec)

/-- ITS FALSE NEIGHBOUR: 'it returns false'. Refute it at one input. -/
def writtenWrong : ChangeSpec := { name := "written", fn := fun _ => fun
  | [d1, d2] => { results := [.lit (.bool false)], args := [d1, d2] }
  | _ => none }
def WrittenWrongFalsely : Prop := writtenRow.holds Tryd.pinned (OpenSpec.ofChange writtenWrong)

/-- 'criblaw.Plans': WHATEVER THE INPUT: true; the input reads as it did. -/
def plansSpec : ChangeSpec := { name := "plans", fn := fun _ => fun
  | [d1, d2, d3] => { results := [.lit (.bool true)], args := [d1, d2, d3] }
  | _ => none }
def plansRow : OpenClaim := { program := "ytmmflekajbeamaadoor", sum := "b86fa27222ac613e65964a5e6769b8674a86cfc9d294c66accb464da78431304", func := "crib/criblaw.Plans", spec := "plans", inPlace := ["internal/bytealg.CountString", "internal/bytealg.IndexByteString", "internal/bytealg.IndexString"], named := ["crib/code.rows", "internal/bytealg.MaxLen"], plainKeys := false, apart := false, laid := [("crib/code.rows", laid_crib_code_rows)] }
def PlansSaid : Prop := plansRow.holds Tryd.pinned (OpenSpec.ofChange plansSpec)

/-- ITS FALSE NEIGHBOUR: 'it returns false'. Refute it at one input. -/
def plansWrong : ChangeSpec := { name := "plans", fn := fun _ => fun
  | [d1, d2, d3] => { results := [.lit (.bool false)], args := [d1, d2, d3] }
  | _ => none }
def PlansWrongFalsely : Prop := plansRow.holds Tryd.pinned (OpenSpec.ofChange plansWrong)

/-- 'criblaw.Translates': WHATEVER THE INPUT: true; the input reads as it did. -/
def translatesSpec : ChangeSpec := { name := "translates", fn := fun _ => fun
  | [d1, d2, d3] => { results := [.lit (.bool true)], args := [d1, d2, d3] }
  | _ => none }
def translatesRow : OpenClaim := { program := "ytmmflekajbeamaadoor", sum := "b86fa27222ac613e65964a5e6769b8674a86cfc9d294c66accb464da78431304", func := "crib/criblaw.Translates", spec := "translates", inPlace := ["internal/bytealg.CountString", "internal/bytealg.IndexByteString", "internal/bytealg.IndexString"], unfollowed := true, recurses := true, named := ["crib/code.rows", "internal/bytealg.MaxLen"], plainKeys := false, apart := false, laid := [("crib/code.rows", laid_crib_code_rows)] }
def TranslatesSaid : Prop := translatesRow.holds Tryd.pinned (OpenSpec.ofChange translatesSpec)

/-- ITS FALSE NEIGHBOUR: 'it returns false'. Refute it at one input. -/
def translatesWrong : ChangeSpec := { name := "translates", fn := fun _ => fun
  | [d1, d2, d3] => { results := [.lit (.bool false)], args := [d1, d2, d3] }
  | _ => none }
def TranslatesWrongFalsely : Prop := translatesRow.holds Tryd.pinned (OpenSpec.ofChange translatesWrong)

/-- 'cribkeep.Sound': WHATEVER THE INPUT: true; the input reads as it did. -/
def soundSpec : ChangeSpec := { name := "sound", fn := fun _ => fun
  | [d1, d2] => { results := [.lit (.bool true)], args := [d1, d2] }
  | _ => none }
def soundRow : OpenClaim := { program := "ytmmflekajbeamaadoor", sum := "b86fa27222ac613e65964a5e6769b8674a86cfc9d294c66accb464da78431304", func := "crib/cribkeep.Sound", spec := "sound", inPlace := ["internal/bytealg.CountString", "internal/bytealg.IndexByteString", "internal/bytealg.IndexString"], unfollowed := true, recurses := true, named := ["crib/code.rows", "internal/bytealg.MaxLen"], plainKeys := false, apart := false, laid := [("crib/code.rows", laid_crib_code_rows)] }
def SoundSaid : Prop := soundRow.holds Tryd.pinned (OpenSpec.ofChange soundSpec)

/-- ITS FALSE NEIGHBOUR: 'it returns false'. Refute it at one input. -/
def soundWrong : ChangeSpec := { name := "sound", fn := fun _ => fun
  | [d1, d2] => { results := [.lit (.bool false)], args := [d1, d2] }
  | _ => none }
def SoundWrongFalsely : Prop := soundRow.holds Tryd.pinned (OpenSpec.ofChange soundWrong)

/-- 'cribkeep.Turned': WHATEVER THE INPUT: true; the input reads as it did. -/
def turnedSpec : ChangeSpec := { name := "turned", fn := fun _ => fun
  | [d1, d2, d3] => { results := [.lit (.bool true)], args := [d1, d2, d3] }
  | _ => none }
def turnedRow : OpenClaim := { program := "ytmmflekajbeamaadoor", sum := "b86fa27222ac613e65964a5e6769b8674a86cfc9d294c66accb464da78431304", func := "crib/cribkeep.Turned", spec := "turned", inPlace := ["internal/bytealg.CountString", "internal/bytealg.IndexByteString", "internal/bytealg.IndexString"], unfollowed := true, recurses := true, named := ["crib/code.rows", "internal/bytealg.MaxLen"], plainKeys := false, apart := false, laid := [("crib/code.rows", laid_crib_code_rows)] }
def TurnedSaid : Prop := turnedRow.holds Tryd.pinned (OpenSpec.ofChange turnedSpec)

/-- ITS FALSE NEIGHBOUR: 'it returns false'. Refute it at one input. -/
def turnedWrong : ChangeSpec := { name := "turned", fn := fun _ => fun
  | [d1, d2, d3] => { results := [.lit (.bool false)], args := [d1, d2, d3] }
  | _ => none }
def TurnedWrongFalsely : Prop := turnedRow.holds Tryd.pinned (OpenSpec.ofChange turnedWrong)

/-- 'criblaw.Frames': WHATEVER THE INPUT: true; the input reads as it did. -/
def framesSpec : ChangeSpec := { name := "frames", fn := fun _ => fun
  | [d1, d2, d3] => { results := [.lit (.bool true)], args := [d1, d2, d3] }
  | _ => none }
def framesRow : OpenClaim := { program := "ytmmflekajbeamaadoor", sum := "b86fa27222ac613e65964a5e6769b8674a86cfc9d294c66accb464da78431304", func := "crib/criblaw.Frames", spec := "frames", inPlace := ["internal/bytealg.CountString", "internal/bytealg.IndexByteString", "internal/bytealg.IndexString"], named := ["crib/code.rows", "internal/bytealg.MaxLen"], plainKeys := false, apart := false, laid := [("crib/code.rows", laid_crib_code_rows)] }
def FramesSaid : Prop := framesRow.holds Tryd.pinned (OpenSpec.ofChange framesSpec)

/-- ITS FALSE NEIGHBOUR: 'it returns false'. Refute it at one input. -/
def framesWrong : ChangeSpec := { name := "frames", fn := fun _ => fun
  | [d1, d2, d3] => { results := [.lit (.bool false)], args := [d1, d2, d3] }
  | _ => none }
def FramesWrongFalsely : Prop := framesRow.holds Tryd.pinned (OpenSpec.ofChange framesWrong)

/-- 'cribkeep.Reread': WHATEVER THE INPUT: true; the input reads as it did. -/
def rereadSpec : ChangeSpec := { name := "reread", fn := fun _ => fun
  | [d1, d2, d3, d4, d5, d6] => { results := [.lit (.bool true)], args := [d1, d2, d3, d4, d5, d6] }
  | _ => none }
def rereadRow : OpenClaim := { program := "ytmmflekajbeamaadoor", sum := "b86fa27222ac613e65964a5e6769b8674a86cfc9d294c66accb464da78431304", func := "crib/cribkeep.Reread", spec := "reread", inPlace := ["internal/bytealg.CountString", "internal/bytealg.IndexByteString", "internal/bytealg.IndexString"], unfollowed := true, recurses := true, named := ["crib/code.rows", "internal/bytealg.MaxLen"], plainKeys := false, apart := false, laid := [("crib/code.rows", laid_crib_code_rows)] }
def RereadSaid : Prop := rereadRow.holds Tryd.pinned (OpenSpec.ofChange rereadSpec)

/-- ITS FALSE NEIGHBOUR: 'it returns false'. Refute it at one input. -/
def rereadWrong : ChangeSpec := { name := "reread", fn := fun _ => fun
  | [d1, d2, d3, d4, d5, d6] => { results := [.lit (.bool false)], args := [d1, d2, d3, d4, d5, d6] }
  | _ => none }
def RereadWrongFalsely : Prop := rereadRow.holds Tryd.pinned (OpenSpec.ofChange rereadWrong)

/- THE SECOND FORM. 'bulk': how many values and letters a reading holds, each counted each time it is reached (what is shared counts as often as it is met; a slice's spare places count too). A statement '..UptoSaid' is the law's where the arguments, and the package variables that the reading takes, are together of bulk at most 1048576: NARROWER than '..Said'. Prove '..Said' where nothing that the law and all that it calls make is longer than what came in: it says more and counts as full. Else prove '..UptoSaid'. A law counts once. -/
mutual
def uptoBulk {H : Type} : DataW H → Nat
  | .lit (.string bytes) => bytes.length + 1
  | .lit _ => 1
  | .nil => 1
  | .ptr d => uptoBulk d + 1
  | .slice elems spare => uptoBulkAll elems + uptoBulkAll spare + 1
  | .agg parts => uptoBulkAll parts + 1
  | .iface _ d => uptoBulk d + 1
  | .map entries => uptoBulkEntries entries + 1
  | .held _ => 1
def uptoBulkAll {H : Type} : List (DataW H) → Nat
  | [] => 0
  | d :: r => uptoBulk d + uptoBulkAll r
def uptoBulkEntries {H : Type} : List (Lit × DataW H) → Nat
  | [] => 0
  | x :: r => uptoBulkEntry x + uptoBulkEntries r
def uptoBulkEntry {H : Type} : Lit × DataW H → Nat
  | (.string bytes, d) => bytes.length + uptoBulk d + 1
  | (_, d) => uptoBulk d + 1
 end
def uptoSmall : (H : Type) → List (DataW H) → Bool := fun _ ds => decide (uptoBulkAll ds ≤ 1048576)
def OpenSpec.upto (s : _root_.Go.ChangeSpec) : _root_.Go.OpenSpec := { _root_.Go.OpenSpec.ofChange s with cond := some uptoSmall }

/-- 'criblaw.Programs', WHERE WHAT IT READS IS OF BULK AT MOST 1048576: true; the input reads as it did. -/
def programsUptoRow : OpenClaim := { program := "ytmmflekajbeamaadoor", sum := "b86fa27222ac613e65964a5e6769b8674a86cfc9d294c66accb464da78431304", func := "crib/criblaw.Programs", spec := "programs", named := ["crib/code.rows"], plainKeys := false, apart := false, laid := [("crib/code.rows", laid_crib_code_rows)], narrowed := true }
def ProgramsUptoSaid : Prop := programsUptoRow.holds Tryd.pinned (OpenSpec.upto programsSpec)

/-- 'criblaw.Steps', WHERE WHAT IT READS IS OF BULK AT MOST 1048576: true; the input reads as it did. -/
def stepsUptoRow : OpenClaim := { program := "ytmmflekajbeamaadoor", sum := "b86fa27222ac613e65964a5e6769b8674a86cfc9d294c66accb464da78431304", func := "crib/criblaw.Steps", spec := "steps", inPlace := ["internal/bytealg.CountString", "internal/bytealg.IndexByteString", "internal/bytealg.IndexString"], named := ["crib/code.rows", "internal/bytealg.MaxLen"], plainKeys := false, apart := false, laid := [("crib/code.rows", laid_crib_code_rows)], narrowed := true }
def StepsUptoSaid : Prop := stepsUptoRow.holds Tryd.pinned (OpenSpec.upto stepsSpec)

/-- 'cribkeep.Written', WHERE WHAT IT READS IS OF BULK AT MOST 1048576: true; the input reads as it did. -/
def writtenUptoRow : OpenClaim := { program := "ytmmflekajbeamaadoor", sum := "b86fa27222ac613e65964a5e6769b8674a86cfc9d294c66accb464da78431304", func := "crib/cribkeep.Written", spec := "written", recurses := true, named := ["crib/code.rows"], plainKeys := false, apart := false, laid := [("crib/code.rows", laid_crib_code_rows)], narrowed := true }
def WrittenUptoSaid : Prop := writtenUptoRow.holds Tryd.pinned (OpenSpec.upto writtenSpec)

/-- 'criblaw.Plans', WHERE WHAT IT READS IS OF BULK AT MOST 1048576: true; the input reads as it did. -/
def plansUptoRow : OpenClaim := { program := "ytmmflekajbeamaadoor", sum := "b86fa27222ac613e65964a5e6769b8674a86cfc9d294c66accb464da78431304", func := "crib/criblaw.Plans", spec := "plans", inPlace := ["internal/bytealg.CountString", "internal/bytealg.IndexByteString", "internal/bytealg.IndexString"], named := ["crib/code.rows", "internal/bytealg.MaxLen"], plainKeys := false, apart := false, laid := [("crib/code.rows", laid_crib_code_rows)], narrowed := true }
def PlansUptoSaid : Prop := plansUptoRow.holds Tryd.pinned (OpenSpec.upto plansSpec)

/-- 'criblaw.Translates', WHERE WHAT IT READS IS OF BULK AT MOST 1048576: true; the input reads as it did. -/
def translatesUptoRow : OpenClaim := { program := "ytmmflekajbeamaadoor", sum := "b86fa27222ac613e65964a5e6769b8674a86cfc9d294c66accb464da78431304", func := "crib/criblaw.Translates", spec := "translates", inPlace := ["internal/bytealg.CountString", "internal/bytealg.IndexByteString", "internal/bytealg.IndexString"], unfollowed := true, recurses := true, named := ["crib/code.rows", "internal/bytealg.MaxLen"], plainKeys := false, apart := false, laid := [("crib/code.rows", laid_crib_code_rows)], narrowed := true }
def TranslatesUptoSaid : Prop := translatesUptoRow.holds Tryd.pinned (OpenSpec.upto translatesSpec)

/-- 'cribkeep.Sound', WHERE WHAT IT READS IS OF BULK AT MOST 1048576: true; the input reads as it did. -/
def soundUptoRow : OpenClaim := { program := "ytmmflekajbeamaadoor", sum := "b86fa27222ac613e65964a5e6769b8674a86cfc9d294c66accb464da78431304", func := "crib/cribkeep.Sound", spec := "sound", inPlace := ["internal/bytealg.CountString", "internal/bytealg.IndexByteString", "internal/bytealg.IndexString"], unfollowed := true, recurses := true, named := ["crib/code.rows", "internal/bytealg.MaxLen"], plainKeys := false, apart := false, laid := [("crib/code.rows", laid_crib_code_rows)], narrowed := true }
def SoundUptoSaid : Prop := soundUptoRow.holds Tryd.pinned (OpenSpec.upto soundSpec)

/-- 'cribkeep.Turned', WHERE WHAT IT READS IS OF BULK AT MOST 1048576: true; the input reads as it did. -/
def turnedUptoRow : OpenClaim := { program := "ytmmflekajbeamaadoor", sum := "b86fa27222ac613e65964a5e6769b8674a86cfc9d294c66accb464da78431304", func := "crib/cribkeep.Turned", spec := "turned", inPlace := ["internal/bytealg.CountString", "internal/bytealg.IndexByteString", "internal/bytealg.IndexString"], unfollowed := true, recurses := true, named := ["crib/code.rows", "internal/bytealg.MaxLen"], plainKeys := false, apart := false, laid := [("crib/code.rows", laid_crib_code_rows)], narrowed := true }
def TurnedUptoSaid : Prop := turnedUptoRow.holds Tryd.pinned (OpenSpec.upto turnedSpec)

/-- 'criblaw.Frames', WHERE WHAT IT READS IS OF BULK AT MOST 1048576: true; the input reads as it did. -/
def framesUptoRow : OpenClaim := { program := "ytmmflekajbeamaadoor", sum := "b86fa27222ac613e65964a5e6769b8674a86cfc9d294c66accb464da78431304", func := "crib/criblaw.Frames", spec := "frames", inPlace := ["internal/bytealg.CountString", "internal/bytealg.IndexByteString", "internal/bytealg.IndexString"], named := ["crib/code.rows", "internal/bytealg.MaxLen"], plainKeys := false, apart := false, laid := [("crib/code.rows", laid_crib_code_rows)], narrowed := true }
def FramesUptoSaid : Prop := framesUptoRow.holds Tryd.pinned (OpenSpec.upto framesSpec)

/-- 'cribkeep.Reread', WHERE WHAT IT READS IS OF BULK AT MOST 1048576: true; the input reads as it did. -/
def rereadUptoRow : OpenClaim := { program := "ytmmflekajbeamaadoor", sum := "b86fa27222ac613e65964a5e6769b8674a86cfc9d294c66accb464da78431304", func := "crib/cribkeep.Reread", spec := "reread", inPlace := ["internal/bytealg.CountString", "internal/bytealg.IndexByteString", "internal/bytealg.IndexString"], unfollowed := true, recurses := true, named := ["crib/code.rows", "internal/bytealg.MaxLen"], plainKeys := false, apart := false, laid := [("crib/code.rows", laid_crib_code_rows)], narrowed := true }
def RereadUptoSaid : Prop := rereadUptoRow.holds Tryd.pinned (OpenSpec.upto rereadSpec)

end Rows
end Go.Proofs.YtmmflekajbeamaaDoor
