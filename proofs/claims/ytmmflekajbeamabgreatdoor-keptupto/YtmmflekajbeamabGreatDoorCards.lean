/-
  DERIVED. GIVEN WITH THE SEED: THE CARDS: each row of YtmmflekajbeamabGreatDoorRows.lean that lists a variable, with what it lists TIED to the program's text (the seventh form; the later family's looks); each row that meets fmt, with fmt's text TOLD by the authors' own Lean function (tested against real Go, not proved from fmt's source: count such statements apart). THE CARD IS WHAT COUNTS. Prove the row's statement (the work); the ties are given (YtmmflekajbeamabGreatDoorTie.lean); close each card by the builder's one call (the guide's Derived/Test/ToyasCard.lean, 'card_holds'). Laid BY PROGRAM, IN A SANDBOX (cutbox-door.mjs). By AI agents, Wed Nov 11 2026. No macro, syntax, notation, axiom, sorry.
-/
import Derived.Test.YtmmflekajbeamabGreatDoorRows
import GoSem.ClaimSeven
namespace Go.Proofs.YtmmflekajbeamabGreatDoor
namespace Rows

/-- THE TIED CARD OF 'cribkeep.Kept'. -/
def keptCard : Claim7 := { stood := { row := keptRow, standIns := [], harness := (true, "f15a4d26f22fe7b7234d87a4589473beea4123539bc7ec6b72d71c2082853c37"), looks := false }, kinds := [], alts := [], laidByText := true, laidKinds := [.data], laidTests := true, laidLooks := .later }
def KeptCardSaid : Prop := Claim7.holds Tryz.pinned (.plain (OpenSpec.ofChange keptSpec)) keptCard

/-- THE TIED CARD OF 'cribkeep.Warm'. -/
def warmCard : Claim7 := { stood := { row := warmRow, standIns := [], harness := (true, "f15a4d26f22fe7b7234d87a4589473beea4123539bc7ec6b72d71c2082853c37"), looks := false }, kinds := [], alts := [], laidByText := true, laidKinds := [.data], laidTests := true, laidLooks := .later }
def WarmCardSaid : Prop := Claim7.holds Tryz.pinned (.plain (OpenSpec.ofChange warmSpec)) warmCard

/-- THE TIED CARD OF 'criblaw.All'. -/
def allCard : Claim7 := { stood := { row := allRow, standIns := [], harness := (true, "f15a4d26f22fe7b7234d87a4589473beea4123539bc7ec6b72d71c2082853c37"), looks := false }, kinds := [], alts := [], laidByText := true, laidKinds := [.data], laidTests := true, laidLooks := .later }
def AllCardSaid : Prop := Claim7.holds Tryz.pinned (.plain (OpenSpec.ofChange allSpec)) allCard

/-- THE SECOND FORM's CARD OF 'cribkeep.Kept'. -/
def keptUptoCard : Claim7 := { stood := { row := keptUptoRow, standIns := [], harness := (true, "f15a4d26f22fe7b7234d87a4589473beea4123539bc7ec6b72d71c2082853c37"), looks := false }, kinds := [], alts := [], laidByText := true, laidKinds := [.data], laidTests := true, laidLooks := .later }
def KeptUptoCardSaid : Prop := Claim7.holds Tryz.pinned (.plain (OpenSpec.upto keptSpec)) keptUptoCard

/-- THE SECOND FORM's CARD OF 'cribkeep.Warm'. -/
def warmUptoCard : Claim7 := { stood := { row := warmUptoRow, standIns := [], harness := (true, "f15a4d26f22fe7b7234d87a4589473beea4123539bc7ec6b72d71c2082853c37"), looks := false }, kinds := [], alts := [], laidByText := true, laidKinds := [.data], laidTests := true, laidLooks := .later }
def WarmUptoCardSaid : Prop := Claim7.holds Tryz.pinned (.plain (OpenSpec.upto warmSpec)) warmUptoCard

/-- THE SECOND FORM's CARD OF 'criblaw.All'. -/
def allUptoCard : Claim7 := { stood := { row := allUptoRow, standIns := [], harness := (true, "f15a4d26f22fe7b7234d87a4589473beea4123539bc7ec6b72d71c2082853c37"), looks := false }, kinds := [], alts := [], laidByText := true, laidKinds := [.data], laidTests := true, laidLooks := .later }
def AllUptoCardSaid : Prop := Claim7.holds Tryz.pinned (.plain (OpenSpec.upto allSpec)) allUptoCard
end Rows
end Go.Proofs.YtmmflekajbeamabGreatDoor
