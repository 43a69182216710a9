/-
  DERIVED. GIVEN WITH THE SEED: THE CARDS: each row of YtccffojolbeooaaDoorRows.lean that lists a variable, with what it lists TIED to the program's text (the seventh form; the later family's looks); each row that meets fmt, with fmt's text TOLD by the authors' own Lean function (tested against real Go, not proved from fmt's source: count such statements apart). THE CARD IS WHAT COUNTS. Prove the row's statement (the work); the ties are given (YtccffojolbeooaaDoorTie.lean); close each card by the builder's one call (the guide's Derived/Test/ToyasCard.lean, 'card_holds'). Laid BY PROGRAM, IN A SANDBOX (cutbox-door.mjs). By AI agents, Wed Nov 11 2026. No macro, syntax, notation, axiom, sorry.
-/
import Derived.Test.YtccffojolbeooaaDoorRows
import GoSem.ClaimSeven
namespace Go.Proofs.YtccffojolbeooaaDoor
namespace Rows

/-- THE TIED CARD OF 'criblaw.Programs'. -/
def programsCard : Claim7 := { stood := { row := programsRow, standIns := [], harness := (true, "64194ff8c9aafbbf1e4feed9ed5b61e9cd6b25c61187eb009428b50064cd986e"), looks := false }, kinds := [], alts := [], laidByText := true, laidKinds := [.data], laidTests := true, laidLooks := .later }
def ProgramsCardSaid : Prop := Claim7.holds Tryd.pinned (.plain (OpenSpec.ofChange programsSpec)) programsCard

/-- THE TIED CARD OF 'criblaw.Steps'. -/
def stepsCard : Claim7 := { stood := { row := stepsRow, standIns := [], harness := (true, "64194ff8c9aafbbf1e4feed9ed5b61e9cd6b25c61187eb009428b50064cd986e"), looks := false }, kinds := [], alts := [], laidByText := true, laidKinds := [.data], laidTests := true, laidLooks := .later }
def StepsCardSaid : Prop := Claim7.holds Tryd.pinned (.plain (OpenSpec.ofChange stepsSpec)) stepsCard

/-- THE TIED CARD OF 'cribkeep.Written'. -/
def writtenCard : Claim7 := { stood := { row := writtenRow, standIns := [], harness := (true, "64194ff8c9aafbbf1e4feed9ed5b61e9cd6b25c61187eb009428b50064cd986e"), looks := false }, kinds := [], alts := [], laidByText := true, laidKinds := [.data], laidTests := true, laidLooks := .later }
def WrittenCardSaid : Prop := Claim7.holds Tryd.pinned (.plain (OpenSpec.ofChange writtenSpec)) writtenCard

/-- THE SECOND FORM's CARD OF 'criblaw.Programs'. -/
def programsUptoCard : Claim7 := { stood := { row := programsUptoRow, standIns := [], harness := (true, "64194ff8c9aafbbf1e4feed9ed5b61e9cd6b25c61187eb009428b50064cd986e"), looks := false }, kinds := [], alts := [], laidByText := true, laidKinds := [.data], laidTests := true, laidLooks := .later }
def ProgramsUptoCardSaid : Prop := Claim7.holds Tryd.pinned (.plain (OpenSpec.upto programsSpec)) programsUptoCard

/-- THE SECOND FORM's CARD OF 'criblaw.Steps'. -/
def stepsUptoCard : Claim7 := { stood := { row := stepsUptoRow, standIns := [], harness := (true, "64194ff8c9aafbbf1e4feed9ed5b61e9cd6b25c61187eb009428b50064cd986e"), looks := false }, kinds := [], alts := [], laidByText := true, laidKinds := [.data], laidTests := true, laidLooks := .later }
def StepsUptoCardSaid : Prop := Claim7.holds Tryd.pinned (.plain (OpenSpec.upto stepsSpec)) stepsUptoCard

/-- THE SECOND FORM's CARD OF 'cribkeep.Written'. -/
def writtenUptoCard : Claim7 := { stood := { row := writtenUptoRow, standIns := [], harness := (true, "64194ff8c9aafbbf1e4feed9ed5b61e9cd6b25c61187eb009428b50064cd986e"), looks := false }, kinds := [], alts := [], laidByText := true, laidKinds := [.data], laidTests := true, laidLooks := .later }
def WrittenUptoCardSaid : Prop := Claim7.holds Tryd.pinned (.plain (OpenSpec.upto writtenSpec)) writtenUptoCard
end Rows
end Go.Proofs.YtccffojolbeooaaDoor
