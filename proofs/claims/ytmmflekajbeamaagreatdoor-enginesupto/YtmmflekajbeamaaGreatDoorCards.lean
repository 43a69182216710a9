/-
  DERIVED. GIVEN WITH THE SEED: THE CARDS: each row of YtmmflekajbeamaaGreatDoorRows.lean that lists a variable, with what it lists TIED to the program's text (the seventh form; the later family's looks); each row that meets fmt, with fmt's text TOLD by the authors' own Lean function (tested against real Go, not proved from fmt's source: count such statements apart). THE CARD IS WHAT COUNTS. Prove the row's statement (the work); the ties are given (YtmmflekajbeamaaGreatDoorTie.lean); close each card by the builder's one call (the guide's Derived/Test/ToyasCard.lean, 'card_holds'). Laid BY PROGRAM, IN A SANDBOX (cutbox-door.mjs). By AI agents, Wed Nov 11 2026. No macro, syntax, notation, axiom, sorry.
-/
import Derived.Test.YtmmflekajbeamaaGreatDoorRows
import GoSem.ClaimSeven
namespace Go.Proofs.YtmmflekajbeamaaGreatDoor
namespace Rows

/-- THE TIED CARD OF 'criblaw.Devices'. -/
def devicesCard : Claim7 := { stood := { row := devicesRow, standIns := [], harness := (true, "7b9f20466382ed0d6ec7fac3b1af7ff23134a48b1d8d36656f3dadc64afdb5db"), looks := false }, kinds := [], alts := [], laidByText := true, laidKinds := [.data], laidTests := true, laidLooks := .later }
def DevicesCardSaid : Prop := Claim7.holds Tryz.pinned (.plain (OpenSpec.ofChange devicesSpec)) devicesCard

/-- THE TIED CARD OF 'criblaw.Engines'. -/
def enginesCard : Claim7 := { stood := { row := enginesRow, standIns := [], harness := (true, "7b9f20466382ed0d6ec7fac3b1af7ff23134a48b1d8d36656f3dadc64afdb5db"), looks := false }, kinds := [], alts := [], laidByText := true, laidKinds := [.data], laidTests := true, laidLooks := .later }
def EnginesCardSaid : Prop := Claim7.holds Tryz.pinned (.plain (OpenSpec.ofChange enginesSpec)) enginesCard

/-- THE TIED CARD OF 'cribkeep.Faithful'. -/
def faithfulCard : Claim7 := { stood := { row := faithfulRow, standIns := [], harness := (true, "7b9f20466382ed0d6ec7fac3b1af7ff23134a48b1d8d36656f3dadc64afdb5db"), looks := false }, kinds := [], alts := [], laidByText := true, laidKinds := [.data], laidTests := true, laidLooks := .later }
def FaithfulCardSaid : Prop := Claim7.holds Tryz.pinned (.plain (OpenSpec.ofChange faithfulSpec)) faithfulCard

/-- THE SECOND FORM's CARD OF 'criblaw.Devices'. -/
def devicesUptoCard : Claim7 := { stood := { row := devicesUptoRow, standIns := [], harness := (true, "7b9f20466382ed0d6ec7fac3b1af7ff23134a48b1d8d36656f3dadc64afdb5db"), looks := false }, kinds := [], alts := [], laidByText := true, laidKinds := [.data], laidTests := true, laidLooks := .later }
def DevicesUptoCardSaid : Prop := Claim7.holds Tryz.pinned (.plain (OpenSpec.upto devicesSpec)) devicesUptoCard

/-- THE SECOND FORM's CARD OF 'criblaw.Engines'. -/
def enginesUptoCard : Claim7 := { stood := { row := enginesUptoRow, standIns := [], harness := (true, "7b9f20466382ed0d6ec7fac3b1af7ff23134a48b1d8d36656f3dadc64afdb5db"), looks := false }, kinds := [], alts := [], laidByText := true, laidKinds := [.data], laidTests := true, laidLooks := .later }
def EnginesUptoCardSaid : Prop := Claim7.holds Tryz.pinned (.plain (OpenSpec.upto enginesSpec)) enginesUptoCard

/-- THE SECOND FORM's CARD OF 'cribkeep.Faithful'. -/
def faithfulUptoCard : Claim7 := { stood := { row := faithfulUptoRow, standIns := [], harness := (true, "7b9f20466382ed0d6ec7fac3b1af7ff23134a48b1d8d36656f3dadc64afdb5db"), looks := false }, kinds := [], alts := [], laidByText := true, laidKinds := [.data], laidTests := true, laidLooks := .later }
def FaithfulUptoCardSaid : Prop := Claim7.holds Tryz.pinned (.plain (OpenSpec.upto faithfulSpec)) faithfulUptoCard
end Rows
end Go.Proofs.YtmmflekajbeamaaGreatDoor
