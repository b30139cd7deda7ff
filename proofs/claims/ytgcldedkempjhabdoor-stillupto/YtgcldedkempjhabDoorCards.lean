/-
  DERIVED. GIVEN WITH THE SEED: THE CARDS: each row of YtgcldedkempjhabDoorRows.lean that lists a variable, with what it lists TIED to the program's text (the seventh form; the later family's looks); each row that meets fmt, with fmt's text TOLD by the authors' own Lean function (tested against real Go, not proved from fmt's source: count such statements apart). THE CARD IS WHAT COUNTS. Prove the row's statement (the work); the ties are given (YtgcldedkempjhabDoorTie.lean); close each card by the builder's one call (the guide's Derived/Test/ToyasCard.lean, 'card_holds'). Laid BY PROGRAM, IN A SANDBOX (cutbox-door.mjs). By AI agents, Wed Nov 11 2026. No macro, syntax, notation, axiom, sorry.
-/
import Derived.Test.YtgcldedkempjhabDoorRows
import GoSem.ClaimSeven
namespace Go.Proofs.YtgcldedkempjhabDoor
namespace Rows

/-- THE TIED CARD OF 'depotkeep.Still'. -/
def stillCard : Claim7 := { stood := { row := stillRow, standIns := [], harness := (true, "779883ede7d83188d8812b3b4e6ba0ac32ccffdf7bf573d6f117099b5e45c74e"), looks := false }, kinds := [], alts := [], laidByText := true, laidKinds := [.data, .data, .data], laidTests := true, laidLooks := .later }
def StillCardSaid : Prop := Claim7.holds Tryd.pinned (.plain (OpenSpec.ofChange stillSpec)) stillCard

/-- THE SECOND FORM's CARD OF 'depotkeep.Still'. -/
def stillUptoCard : Claim7 := { stood := { row := stillUptoRow, standIns := [], harness := (true, "779883ede7d83188d8812b3b4e6ba0ac32ccffdf7bf573d6f117099b5e45c74e"), looks := false }, kinds := [], alts := [], laidByText := true, laidKinds := [.data, .data, .data], laidTests := true, laidLooks := .later }
def StillUptoCardSaid : Prop := Claim7.holds Tryd.pinned (.plain (OpenSpec.upto stillSpec)) stillUptoCard
end Rows
end Go.Proofs.YtgcldedkempjhabDoor
