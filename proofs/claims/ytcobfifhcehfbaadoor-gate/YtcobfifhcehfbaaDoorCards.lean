/-
  DERIVED. GIVEN WITH THE SEED: THE CARDS: each row of YtcobfifhcehfbaaDoorRows.lean that lists a variable, with what it lists TIED to the program's text (the seventh form; the later family's looks); each row that meets fmt, with fmt's text TOLD by the authors' own Lean function (tested against real Go, not proved from fmt's source: count such statements apart). THE CARD IS WHAT COUNTS. Prove the row's statement (the work); the ties are given (YtcobfifhcehfbaaDoorTie.lean); close each card by the builder's one call (the guide's Derived/Test/ToyasCard.lean, 'card_holds'). Laid BY PROGRAM, IN A SANDBOX (cutbox-door.mjs). By AI agents, Wed Nov 11 2026. No macro, syntax, notation, axiom, sorry.
-/
import Derived.Test.YtcobfifhcehfbaaDoorRows
import GoSem.ClaimSeven
namespace Go.Proofs.YtcobfifhcehfbaaDoor
namespace Rows

/-- THE TIED CARD OF 'depotkeep.Gate'. -/
def gateCard : Claim7 := { stood := { row := gateRow, standIns := [], harness := (true, "ec8f1cf8f624a40210545a89d2744053c633de8049a5267f9d809bedc6fb1c2b"), looks := false }, kinds := [], alts := [], laidByText := true, laidKinds := [.data, .data, .data], laidTests := true, laidLooks := .later }
def GateCardSaid : Prop := Claim7.holds Tryd.pinned (.plain (OpenSpec.ofChange gateSpec)) gateCard

/-- THE TIED CARD OF 'depotkeep.Shelves'. -/
def shelvesCard : Claim7 := { stood := { row := shelvesRow, standIns := [], harness := (true, "ec8f1cf8f624a40210545a89d2744053c633de8049a5267f9d809bedc6fb1c2b"), looks := false }, kinds := [], alts := [], laidByText := true, laidKinds := [.data, .data, .data], laidTests := true, laidLooks := .later }
def ShelvesCardSaid : Prop := Claim7.holds Tryd.pinned (.plain (OpenSpec.ofChange shelvesSpec)) shelvesCard

/-- THE TIED CARD OF 'depotkeep.Owned'. -/
def ownedCard : Claim7 := { stood := { row := ownedRow, standIns := [], harness := (true, "ec8f1cf8f624a40210545a89d2744053c633de8049a5267f9d809bedc6fb1c2b"), looks := false }, kinds := [], alts := [], laidByText := true, laidKinds := [.data, .data, .data], laidTests := true, laidLooks := .later }
def OwnedCardSaid : Prop := Claim7.holds Tryd.pinned (.plain (OpenSpec.ofChange ownedSpec)) ownedCard

/-- THE TIED CARD OF 'depotkeep.Blind'. -/
def blindCard : Claim7 := { stood := { row := blindRow, standIns := [], harness := (true, "ec8f1cf8f624a40210545a89d2744053c633de8049a5267f9d809bedc6fb1c2b"), looks := false }, kinds := [], alts := [], laidByText := true, laidKinds := [.data, .data, .data], laidTests := true, laidLooks := .later }
def BlindCardSaid : Prop := Claim7.holds Tryd.pinned (.plain (OpenSpec.ofChange blindSpec)) blindCard

/-- THE SECOND FORM's CARD OF 'depotkeep.Gate'. -/
def gateUptoCard : Claim7 := { stood := { row := gateUptoRow, standIns := [], harness := (true, "ec8f1cf8f624a40210545a89d2744053c633de8049a5267f9d809bedc6fb1c2b"), looks := false }, kinds := [], alts := [], laidByText := true, laidKinds := [.data, .data, .data], laidTests := true, laidLooks := .later }
def GateUptoCardSaid : Prop := Claim7.holds Tryd.pinned (.plain (OpenSpec.upto gateSpec)) gateUptoCard

/-- THE SECOND FORM's CARD OF 'depotkeep.Shelves'. -/
def shelvesUptoCard : Claim7 := { stood := { row := shelvesUptoRow, standIns := [], harness := (true, "ec8f1cf8f624a40210545a89d2744053c633de8049a5267f9d809bedc6fb1c2b"), looks := false }, kinds := [], alts := [], laidByText := true, laidKinds := [.data, .data, .data], laidTests := true, laidLooks := .later }
def ShelvesUptoCardSaid : Prop := Claim7.holds Tryd.pinned (.plain (OpenSpec.upto shelvesSpec)) shelvesUptoCard

/-- THE SECOND FORM's CARD OF 'depotkeep.Owned'. -/
def ownedUptoCard : Claim7 := { stood := { row := ownedUptoRow, standIns := [], harness := (true, "ec8f1cf8f624a40210545a89d2744053c633de8049a5267f9d809bedc6fb1c2b"), looks := false }, kinds := [], alts := [], laidByText := true, laidKinds := [.data, .data, .data], laidTests := true, laidLooks := .later }
def OwnedUptoCardSaid : Prop := Claim7.holds Tryd.pinned (.plain (OpenSpec.upto ownedSpec)) ownedUptoCard

/-- THE SECOND FORM's CARD OF 'depotkeep.Blind'. -/
def blindUptoCard : Claim7 := { stood := { row := blindUptoRow, standIns := [], harness := (true, "ec8f1cf8f624a40210545a89d2744053c633de8049a5267f9d809bedc6fb1c2b"), looks := false }, kinds := [], alts := [], laidByText := true, laidKinds := [.data, .data, .data], laidTests := true, laidLooks := .later }
def BlindUptoCardSaid : Prop := Claim7.holds Tryd.pinned (.plain (OpenSpec.upto blindSpec)) blindUptoCard
end Rows
end Go.Proofs.YtcobfifhcehfbaaDoor
