/-
  DERIVED. GIVEN WITH THE SEED: THE CARDS: each row of YtgcldedkempjhaaDoorRows.lean that lists a variable, with what it lists TIED to the program's text (the seventh form; the later family's looks); each row that meets fmt, with fmt's text TOLD by the authors' own Lean function (tested against real Go, not proved from fmt's source: count such statements apart). THE CARD IS WHAT COUNTS. Prove the row's statement (the work); the ties are given (YtgcldedkempjhaaDoorTie.lean); close each card by the builder's one call (the guide's Derived/Test/ToyasCard.lean, 'card_holds'). Laid BY PROGRAM, IN A SANDBOX (cutbox-door.mjs). By AI agents, Wed Nov 11 2026. No macro, syntax, notation, axiom, sorry.
-/
import Derived.Test.YtgcldedkempjhaaDoorRows
import GoSem.ClaimSeven
namespace Go.Proofs.YtgcldedkempjhaaDoor
namespace Rows

/-- THE TIED CARD OF 'depotkeep.Gate'. -/
def gateCard : Claim7 := { stood := { row := gateRow, standIns := [], harness := (true, "ff55bbeba46b5755858df999b248fd348aea37797bc63e2aaf6db880a74e0bd9"), looks := false }, kinds := [], alts := [], laidByText := true, laidKinds := [.data, .data, .data], laidTests := true, laidLooks := .later }
def GateCardSaid : Prop := Claim7.holds Tryd.pinned (.plain (OpenSpec.ofChange gateSpec)) gateCard

/-- THE TIED CARD OF 'depotkeep.Shelves'. -/
def shelvesCard : Claim7 := { stood := { row := shelvesRow, standIns := [], harness := (true, "ff55bbeba46b5755858df999b248fd348aea37797bc63e2aaf6db880a74e0bd9"), looks := false }, kinds := [], alts := [], laidByText := true, laidKinds := [.data, .data, .data], laidTests := true, laidLooks := .later }
def ShelvesCardSaid : Prop := Claim7.holds Tryd.pinned (.plain (OpenSpec.ofChange shelvesSpec)) shelvesCard

/-- THE TIED CARD OF 'depotkeep.Sound'. -/
def soundCard : Claim7 := { stood := { row := soundRow, standIns := [], harness := (true, "ff55bbeba46b5755858df999b248fd348aea37797bc63e2aaf6db880a74e0bd9"), looks := false }, kinds := [], alts := [], laidByText := true, laidKinds := [.data, .data, .data], laidTests := true, laidLooks := .later }
def SoundCardSaid : Prop := Claim7.holds Tryd.pinned (.plain (OpenSpec.ofChange soundSpec)) soundCard

/-- THE TIED CARD OF 'depotkeep.Complete'. -/
def completeCard : Claim7 := { stood := { row := completeRow, standIns := [], harness := (true, "ff55bbeba46b5755858df999b248fd348aea37797bc63e2aaf6db880a74e0bd9"), looks := false }, kinds := [], alts := [], laidByText := true, laidKinds := [.data, .data, .data], laidTests := true, laidLooks := .later }
def CompleteCardSaid : Prop := Claim7.holds Tryd.pinned (.plain (OpenSpec.ofChange completeSpec)) completeCard

/-- THE TIED CARD OF 'depotkeep.Owned'. -/
def ownedCard : Claim7 := { stood := { row := ownedRow, standIns := [], harness := (true, "ff55bbeba46b5755858df999b248fd348aea37797bc63e2aaf6db880a74e0bd9"), looks := false }, kinds := [], alts := [], laidByText := true, laidKinds := [.data, .data, .data], laidTests := true, laidLooks := .later }
def OwnedCardSaid : Prop := Claim7.holds Tryd.pinned (.plain (OpenSpec.ofChange ownedSpec)) ownedCard

/-- THE TIED CARD OF 'depotkeep.Blind'. -/
def blindCard : Claim7 := { stood := { row := blindRow, standIns := [], harness := (true, "ff55bbeba46b5755858df999b248fd348aea37797bc63e2aaf6db880a74e0bd9"), looks := false }, kinds := [], alts := [], laidByText := true, laidKinds := [.data, .data, .data], laidTests := true, laidLooks := .later }
def BlindCardSaid : Prop := Claim7.holds Tryd.pinned (.plain (OpenSpec.ofChange blindSpec)) blindCard

/-- THE TIED CARD OF 'depotkeep.Chain'. -/
def chainCard : Claim7 := { stood := { row := chainRow, standIns := [], harness := (true, "ff55bbeba46b5755858df999b248fd348aea37797bc63e2aaf6db880a74e0bd9"), looks := false }, kinds := [], alts := [], laidByText := true, laidKinds := [.data, .data, .data], laidTests := true, laidLooks := .later }
def ChainCardSaid : Prop := Claim7.holds Tryd.pinned (.plain (OpenSpec.ofChange chainSpec)) chainCard

/-- THE SECOND FORM's CARD OF 'depotkeep.Gate'. -/
def gateUptoCard : Claim7 := { stood := { row := gateUptoRow, standIns := [], harness := (true, "ff55bbeba46b5755858df999b248fd348aea37797bc63e2aaf6db880a74e0bd9"), looks := false }, kinds := [], alts := [], laidByText := true, laidKinds := [.data, .data, .data], laidTests := true, laidLooks := .later }
def GateUptoCardSaid : Prop := Claim7.holds Tryd.pinned (.plain (OpenSpec.upto gateSpec)) gateUptoCard

/-- THE SECOND FORM's CARD OF 'depotkeep.Shelves'. -/
def shelvesUptoCard : Claim7 := { stood := { row := shelvesUptoRow, standIns := [], harness := (true, "ff55bbeba46b5755858df999b248fd348aea37797bc63e2aaf6db880a74e0bd9"), looks := false }, kinds := [], alts := [], laidByText := true, laidKinds := [.data, .data, .data], laidTests := true, laidLooks := .later }
def ShelvesUptoCardSaid : Prop := Claim7.holds Tryd.pinned (.plain (OpenSpec.upto shelvesSpec)) shelvesUptoCard

/-- THE SECOND FORM's CARD OF 'depotkeep.Sound'. -/
def soundUptoCard : Claim7 := { stood := { row := soundUptoRow, standIns := [], harness := (true, "ff55bbeba46b5755858df999b248fd348aea37797bc63e2aaf6db880a74e0bd9"), looks := false }, kinds := [], alts := [], laidByText := true, laidKinds := [.data, .data, .data], laidTests := true, laidLooks := .later }
def SoundUptoCardSaid : Prop := Claim7.holds Tryd.pinned (.plain (OpenSpec.upto soundSpec)) soundUptoCard

/-- THE SECOND FORM's CARD OF 'depotkeep.Complete'. -/
def completeUptoCard : Claim7 := { stood := { row := completeUptoRow, standIns := [], harness := (true, "ff55bbeba46b5755858df999b248fd348aea37797bc63e2aaf6db880a74e0bd9"), looks := false }, kinds := [], alts := [], laidByText := true, laidKinds := [.data, .data, .data], laidTests := true, laidLooks := .later }
def CompleteUptoCardSaid : Prop := Claim7.holds Tryd.pinned (.plain (OpenSpec.upto completeSpec)) completeUptoCard

/-- THE SECOND FORM's CARD OF 'depotkeep.Owned'. -/
def ownedUptoCard : Claim7 := { stood := { row := ownedUptoRow, standIns := [], harness := (true, "ff55bbeba46b5755858df999b248fd348aea37797bc63e2aaf6db880a74e0bd9"), looks := false }, kinds := [], alts := [], laidByText := true, laidKinds := [.data, .data, .data], laidTests := true, laidLooks := .later }
def OwnedUptoCardSaid : Prop := Claim7.holds Tryd.pinned (.plain (OpenSpec.upto ownedSpec)) ownedUptoCard

/-- THE SECOND FORM's CARD OF 'depotkeep.Blind'. -/
def blindUptoCard : Claim7 := { stood := { row := blindUptoRow, standIns := [], harness := (true, "ff55bbeba46b5755858df999b248fd348aea37797bc63e2aaf6db880a74e0bd9"), looks := false }, kinds := [], alts := [], laidByText := true, laidKinds := [.data, .data, .data], laidTests := true, laidLooks := .later }
def BlindUptoCardSaid : Prop := Claim7.holds Tryd.pinned (.plain (OpenSpec.upto blindSpec)) blindUptoCard

/-- THE SECOND FORM's CARD OF 'depotkeep.Chain'. -/
def chainUptoCard : Claim7 := { stood := { row := chainUptoRow, standIns := [], harness := (true, "ff55bbeba46b5755858df999b248fd348aea37797bc63e2aaf6db880a74e0bd9"), looks := false }, kinds := [], alts := [], laidByText := true, laidKinds := [.data, .data, .data], laidTests := true, laidLooks := .later }
def ChainUptoCardSaid : Prop := Claim7.holds Tryd.pinned (.plain (OpenSpec.upto chainSpec)) chainUptoCard
end Rows
end Go.Proofs.YtgcldedkempjhaaDoor
