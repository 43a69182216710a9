/-
  DERIVED. GIVEN WITH THE SEED: THE CARDS: each row of YtmmflekajbeamaaDoorRows.lean that lists a variable, with what it lists TIED to the program's text (the seventh form; the later family's looks); each row that meets fmt, with fmt's text TOLD by the authors' own Lean function (tested against real Go, not proved from fmt's source: count such statements apart). THE CARD IS WHAT COUNTS. Prove the row's statement (the work); the ties are given (YtmmflekajbeamaaDoorTie.lean); close each card by the builder's one call (the guide's Derived/Test/ToyasCard.lean, 'card_holds'). Laid BY PROGRAM, IN A SANDBOX (cutbox-door.mjs). By AI agents, Wed Nov 11 2026. No macro, syntax, notation, axiom, sorry.
-/
import Derived.Test.YtmmflekajbeamaaDoorRows
import GoSem.ClaimSeven
namespace Go.Proofs.YtmmflekajbeamaaDoor
namespace Rows

/-- THE TIED CARD OF 'criblaw.Programs'. -/
def programsCard : Claim7 := { stood := { row := programsRow, standIns := [], harness := (true, "f38aa00bfa136ff6b52e80ec0f5bbac0c135fe4710c0efe4a98adc43e84190bd"), looks := false }, kinds := [], alts := [], laidByText := true, laidKinds := [.data], laidTests := true, laidLooks := .later }
def ProgramsCardSaid : Prop := Claim7.holds Tryd.pinned (.plain (OpenSpec.ofChange programsSpec)) programsCard

/-- THE TIED CARD OF 'criblaw.Steps'. -/
def stepsCard : Claim7 := { stood := { row := stepsRow, standIns := [], harness := (true, "f38aa00bfa136ff6b52e80ec0f5bbac0c135fe4710c0efe4a98adc43e84190bd"), looks := false }, kinds := [], alts := [], laidByText := true, laidKinds := [.data], laidTests := true, laidLooks := .later }
def StepsCardSaid : Prop := Claim7.holds Tryd.pinned (.plain (OpenSpec.ofChange stepsSpec)) stepsCard

/-- THE TIED CARD OF 'cribkeep.Written'. -/
def writtenCard : Claim7 := { stood := { row := writtenRow, standIns := [], harness := (true, "f38aa00bfa136ff6b52e80ec0f5bbac0c135fe4710c0efe4a98adc43e84190bd"), looks := false }, kinds := [], alts := [], laidByText := true, laidKinds := [.data], laidTests := true, laidLooks := .later }
def WrittenCardSaid : Prop := Claim7.holds Tryd.pinned (.plain (OpenSpec.ofChange writtenSpec)) writtenCard

/-- THE TIED CARD OF 'criblaw.Plans'. -/
def plansCard : Claim7 := { stood := { row := plansRow, standIns := [], harness := (true, "f38aa00bfa136ff6b52e80ec0f5bbac0c135fe4710c0efe4a98adc43e84190bd"), looks := false }, kinds := [], alts := [], laidByText := true, laidKinds := [.data], laidTests := true, laidLooks := .later }
def PlansCardSaid : Prop := Claim7.holds Tryd.pinned (.plain (OpenSpec.ofChange plansSpec)) plansCard

/-- THE TIED CARD OF 'criblaw.Translates'. -/
def translatesCard : Claim7 := { stood := { row := translatesRow, standIns := [], harness := (true, "f38aa00bfa136ff6b52e80ec0f5bbac0c135fe4710c0efe4a98adc43e84190bd"), looks := false }, kinds := [], alts := [], laidByText := true, laidKinds := [.data], laidTests := true, laidLooks := .later }
def TranslatesCardSaid : Prop := Claim7.holds Tryd.pinned (.plain (OpenSpec.ofChange translatesSpec)) translatesCard

/-- THE TIED CARD OF 'cribkeep.Sound'. -/
def soundCard : Claim7 := { stood := { row := soundRow, standIns := [], harness := (true, "f38aa00bfa136ff6b52e80ec0f5bbac0c135fe4710c0efe4a98adc43e84190bd"), looks := false }, kinds := [], alts := [], laidByText := true, laidKinds := [.data], laidTests := true, laidLooks := .later }
def SoundCardSaid : Prop := Claim7.holds Tryd.pinned (.plain (OpenSpec.ofChange soundSpec)) soundCard

/-- THE TIED CARD OF 'cribkeep.Turned'. -/
def turnedCard : Claim7 := { stood := { row := turnedRow, standIns := [], harness := (true, "f38aa00bfa136ff6b52e80ec0f5bbac0c135fe4710c0efe4a98adc43e84190bd"), looks := false }, kinds := [], alts := [], laidByText := true, laidKinds := [.data], laidTests := true, laidLooks := .later }
def TurnedCardSaid : Prop := Claim7.holds Tryd.pinned (.plain (OpenSpec.ofChange turnedSpec)) turnedCard

/-- THE TIED CARD OF 'criblaw.Frames'. -/
def framesCard : Claim7 := { stood := { row := framesRow, standIns := [], harness := (true, "f38aa00bfa136ff6b52e80ec0f5bbac0c135fe4710c0efe4a98adc43e84190bd"), looks := false }, kinds := [], alts := [], laidByText := true, laidKinds := [.data], laidTests := true, laidLooks := .later }
def FramesCardSaid : Prop := Claim7.holds Tryd.pinned (.plain (OpenSpec.ofChange framesSpec)) framesCard

/-- THE TIED CARD OF 'cribkeep.Reread'. -/
def rereadCard : Claim7 := { stood := { row := rereadRow, standIns := [], harness := (true, "f38aa00bfa136ff6b52e80ec0f5bbac0c135fe4710c0efe4a98adc43e84190bd"), looks := false }, kinds := [], alts := [], laidByText := true, laidKinds := [.data], laidTests := true, laidLooks := .later }
def RereadCardSaid : Prop := Claim7.holds Tryd.pinned (.plain (OpenSpec.ofChange rereadSpec)) rereadCard

/-- THE SECOND FORM's CARD OF 'criblaw.Programs'. -/
def programsUptoCard : Claim7 := { stood := { row := programsUptoRow, standIns := [], harness := (true, "f38aa00bfa136ff6b52e80ec0f5bbac0c135fe4710c0efe4a98adc43e84190bd"), looks := false }, kinds := [], alts := [], laidByText := true, laidKinds := [.data], laidTests := true, laidLooks := .later }
def ProgramsUptoCardSaid : Prop := Claim7.holds Tryd.pinned (.plain (OpenSpec.upto programsSpec)) programsUptoCard

/-- THE SECOND FORM's CARD OF 'criblaw.Steps'. -/
def stepsUptoCard : Claim7 := { stood := { row := stepsUptoRow, standIns := [], harness := (true, "f38aa00bfa136ff6b52e80ec0f5bbac0c135fe4710c0efe4a98adc43e84190bd"), looks := false }, kinds := [], alts := [], laidByText := true, laidKinds := [.data], laidTests := true, laidLooks := .later }
def StepsUptoCardSaid : Prop := Claim7.holds Tryd.pinned (.plain (OpenSpec.upto stepsSpec)) stepsUptoCard

/-- THE SECOND FORM's CARD OF 'cribkeep.Written'. -/
def writtenUptoCard : Claim7 := { stood := { row := writtenUptoRow, standIns := [], harness := (true, "f38aa00bfa136ff6b52e80ec0f5bbac0c135fe4710c0efe4a98adc43e84190bd"), looks := false }, kinds := [], alts := [], laidByText := true, laidKinds := [.data], laidTests := true, laidLooks := .later }
def WrittenUptoCardSaid : Prop := Claim7.holds Tryd.pinned (.plain (OpenSpec.upto writtenSpec)) writtenUptoCard

/-- THE SECOND FORM's CARD OF 'criblaw.Plans'. -/
def plansUptoCard : Claim7 := { stood := { row := plansUptoRow, standIns := [], harness := (true, "f38aa00bfa136ff6b52e80ec0f5bbac0c135fe4710c0efe4a98adc43e84190bd"), looks := false }, kinds := [], alts := [], laidByText := true, laidKinds := [.data], laidTests := true, laidLooks := .later }
def PlansUptoCardSaid : Prop := Claim7.holds Tryd.pinned (.plain (OpenSpec.upto plansSpec)) plansUptoCard

/-- THE SECOND FORM's CARD OF 'criblaw.Translates'. -/
def translatesUptoCard : Claim7 := { stood := { row := translatesUptoRow, standIns := [], harness := (true, "f38aa00bfa136ff6b52e80ec0f5bbac0c135fe4710c0efe4a98adc43e84190bd"), looks := false }, kinds := [], alts := [], laidByText := true, laidKinds := [.data], laidTests := true, laidLooks := .later }
def TranslatesUptoCardSaid : Prop := Claim7.holds Tryd.pinned (.plain (OpenSpec.upto translatesSpec)) translatesUptoCard

/-- THE SECOND FORM's CARD OF 'cribkeep.Sound'. -/
def soundUptoCard : Claim7 := { stood := { row := soundUptoRow, standIns := [], harness := (true, "f38aa00bfa136ff6b52e80ec0f5bbac0c135fe4710c0efe4a98adc43e84190bd"), looks := false }, kinds := [], alts := [], laidByText := true, laidKinds := [.data], laidTests := true, laidLooks := .later }
def SoundUptoCardSaid : Prop := Claim7.holds Tryd.pinned (.plain (OpenSpec.upto soundSpec)) soundUptoCard

/-- THE SECOND FORM's CARD OF 'cribkeep.Turned'. -/
def turnedUptoCard : Claim7 := { stood := { row := turnedUptoRow, standIns := [], harness := (true, "f38aa00bfa136ff6b52e80ec0f5bbac0c135fe4710c0efe4a98adc43e84190bd"), looks := false }, kinds := [], alts := [], laidByText := true, laidKinds := [.data], laidTests := true, laidLooks := .later }
def TurnedUptoCardSaid : Prop := Claim7.holds Tryd.pinned (.plain (OpenSpec.upto turnedSpec)) turnedUptoCard

/-- THE SECOND FORM's CARD OF 'criblaw.Frames'. -/
def framesUptoCard : Claim7 := { stood := { row := framesUptoRow, standIns := [], harness := (true, "f38aa00bfa136ff6b52e80ec0f5bbac0c135fe4710c0efe4a98adc43e84190bd"), looks := false }, kinds := [], alts := [], laidByText := true, laidKinds := [.data], laidTests := true, laidLooks := .later }
def FramesUptoCardSaid : Prop := Claim7.holds Tryd.pinned (.plain (OpenSpec.upto framesSpec)) framesUptoCard

/-- THE SECOND FORM's CARD OF 'cribkeep.Reread'. -/
def rereadUptoCard : Claim7 := { stood := { row := rereadUptoRow, standIns := [], harness := (true, "f38aa00bfa136ff6b52e80ec0f5bbac0c135fe4710c0efe4a98adc43e84190bd"), looks := false }, kinds := [], alts := [], laidByText := true, laidKinds := [.data], laidTests := true, laidLooks := .later }
def RereadUptoCardSaid : Prop := Claim7.holds Tryd.pinned (.plain (OpenSpec.upto rereadSpec)) rereadUptoCard
end Rows
end Go.Proofs.YtmmflekajbeamaaDoor
