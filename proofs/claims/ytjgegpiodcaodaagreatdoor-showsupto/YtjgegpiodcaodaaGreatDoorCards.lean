/-
  DERIVED. GIVEN WITH THE SEED: THE CARDS: each row of YtjgegpiodcaodaaGreatDoorRows.lean that lists a variable, with what it lists TIED to the program's text (the seventh form; the later family's looks); each row that meets fmt, with fmt's text TOLD by the authors' own Lean function (tested against real Go, not proved from fmt's source: count such statements apart). THE CARD IS WHAT COUNTS. Prove the row's statement (the work); the ties are given (YtjgegpiodcaodaaGreatDoorTie.lean); close each card by the builder's one call (the guide's Derived/Test/ToyasCard.lean, 'card_holds'). Laid BY PROGRAM, IN A SANDBOX (cutbox-door.mjs). By AI agents, Wed Nov 11 2026. No macro, syntax, notation, axiom, sorry.
-/
import Derived.Test.YtjgegpiodcaodaaGreatDoorRows
import GoSem.ClaimSeven
namespace Go.Proofs.YtjgegpiodcaodaaGreatDoor
namespace Rows

/-- THE TIED CARD OF 'depotlaw.Tokens'. -/
def tokensCard : Claim7 := { stood := { row := tokensRow, standIns := [], harness := (true, "f623bb1f4ea73bc0b352e1effbbdbf2b3c4598ca8d7f952dd68dc1422886a8af"), looks := false }, kinds := [], alts := [], laidByText := true, laidKinds := [.data, .data, .data], laidTests := true, laidLooks := .later }
def TokensCardSaid : Prop := Claim7.holds Tryz.pinned (.plain (OpenSpec.ofChange tokensSpec)) tokensCard

/-- THE TIED CARD OF 'depotlaw.Packs'. -/
def packsCard : Claim7 := { stood := { row := packsRow, standIns := [], harness := (true, "f623bb1f4ea73bc0b352e1effbbdbf2b3c4598ca8d7f952dd68dc1422886a8af"), looks := false }, kinds := [], alts := [], laidByText := true, laidKinds := [.data, .data, .data], laidTests := true, laidLooks := .later }
def PacksCardSaid : Prop := Claim7.holds Tryz.pinned (.plain (OpenSpec.ofChange packsSpec)) packsCard

/-- THE TIED CARD OF 'depotlaw.Shows'. -/
def showsCard : Claim7 := { stood := { row := showsRow, standIns := [], harness := (true, "f623bb1f4ea73bc0b352e1effbbdbf2b3c4598ca8d7f952dd68dc1422886a8af"), looks := false }, kinds := [], alts := [], laidByText := true, laidKinds := [.data, .data, .data], laidTests := true, laidLooks := .later }
def ShowsCardSaid : Prop := Claim7.holds Tryz.pinned (.plain (OpenSpec.ofChange showsSpec)) showsCard

/-- THE TIED CARD OF 'depotlaw.Resolves'. -/
def resolvesCard : Claim7 := { stood := { row := resolvesRow, standIns := [], harness := (true, "f623bb1f4ea73bc0b352e1effbbdbf2b3c4598ca8d7f952dd68dc1422886a8af"), looks := false }, kinds := [], alts := [], laidByText := true, laidKinds := [.data, .data, .data], laidTests := true, laidLooks := .later }
def ResolvesCardSaid : Prop := Claim7.holds Tryz.pinned (.plain (OpenSpec.ofChange resolvesSpec)) resolvesCard

/-- THE SECOND FORM's CARD OF 'depotlaw.Tokens'. -/
def tokensUptoCard : Claim7 := { stood := { row := tokensUptoRow, standIns := [], harness := (true, "f623bb1f4ea73bc0b352e1effbbdbf2b3c4598ca8d7f952dd68dc1422886a8af"), looks := false }, kinds := [], alts := [], laidByText := true, laidKinds := [.data, .data, .data], laidTests := true, laidLooks := .later }
def TokensUptoCardSaid : Prop := Claim7.holds Tryz.pinned (.plain (OpenSpec.upto tokensSpec)) tokensUptoCard

/-- THE SECOND FORM's CARD OF 'depotlaw.Packs'. -/
def packsUptoCard : Claim7 := { stood := { row := packsUptoRow, standIns := [], harness := (true, "f623bb1f4ea73bc0b352e1effbbdbf2b3c4598ca8d7f952dd68dc1422886a8af"), looks := false }, kinds := [], alts := [], laidByText := true, laidKinds := [.data, .data, .data], laidTests := true, laidLooks := .later }
def PacksUptoCardSaid : Prop := Claim7.holds Tryz.pinned (.plain (OpenSpec.upto packsSpec)) packsUptoCard

/-- THE SECOND FORM's CARD OF 'depotlaw.Shows'. -/
def showsUptoCard : Claim7 := { stood := { row := showsUptoRow, standIns := [], harness := (true, "f623bb1f4ea73bc0b352e1effbbdbf2b3c4598ca8d7f952dd68dc1422886a8af"), looks := false }, kinds := [], alts := [], laidByText := true, laidKinds := [.data, .data, .data], laidTests := true, laidLooks := .later }
def ShowsUptoCardSaid : Prop := Claim7.holds Tryz.pinned (.plain (OpenSpec.upto showsSpec)) showsUptoCard

/-- THE SECOND FORM's CARD OF 'depotlaw.Resolves'. -/
def resolvesUptoCard : Claim7 := { stood := { row := resolvesUptoRow, standIns := [], harness := (true, "f623bb1f4ea73bc0b352e1effbbdbf2b3c4598ca8d7f952dd68dc1422886a8af"), looks := false }, kinds := [], alts := [], laidByText := true, laidKinds := [.data, .data, .data], laidTests := true, laidLooks := .later }
def ResolvesUptoCardSaid : Prop := Claim7.holds Tryz.pinned (.plain (OpenSpec.upto resolvesSpec)) resolvesUptoCard
end Rows
end Go.Proofs.YtjgegpiodcaodaaGreatDoor
