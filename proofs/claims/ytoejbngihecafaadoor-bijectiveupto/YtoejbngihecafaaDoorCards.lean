/-
  DERIVED. GIVEN WITH THE SEED: THE CARDS: each row of YtoejbngihecafaaDoorRows.lean that lists a variable, with what it lists TIED to the program's text (the seventh form; the later family's looks); each row that meets fmt, with fmt's text TOLD by the authors' own Lean function (tested against real Go, not proved from fmt's source: count such statements apart). THE CARD IS WHAT COUNTS. Prove the row's statement (the work); the ties are given (YtoejbngihecafaaDoorTie.lean); close each card by the builder's one call (the guide's Derived/Test/ToyasCard.lean, 'card_holds'). Laid BY PROGRAM, IN A SANDBOX (cutbox-door.mjs). By AI agents, Wed Nov 11 2026. No macro, syntax, notation, axiom, sorry.
-/
import Derived.Test.YtoejbngihecafaaDoorRows
import GoSem.ClaimSeven
namespace Go.Proofs.YtoejbngihecafaaDoor
namespace Rows

/-- THE TIED CARD OF 'vellumlaw.Loads'. -/
def loadsCard : Claim7 := { stood := { row := loadsRow, standIns := [], harness := (true, "eba83ac89401844147305b3d0f0308f1e3c38e56eb06fbfee3574913d4be6fb5"), looks := true }, kinds := [], alts := [], laidByText := true, laidKinds := [.data, .data, .data], laidTests := true, laidLooks := .later }
def LoadsCardSaid : Prop := Claim7.holds Tryd.pinned (.plain (OpenSpec.ofChange loadsSpec)) loadsCard

/-- THE TIED CARD OF 'vellumlaw.Places'. -/
def placesCard : Claim7 := { stood := { row := placesRow, standIns := [], harness := (true, "eba83ac89401844147305b3d0f0308f1e3c38e56eb06fbfee3574913d4be6fb5"), looks := true }, kinds := [], alts := [], laidByText := true, laidKinds := [.data, .data, .data], laidTests := true, laidLooks := .later }
def PlacesCardSaid : Prop := Claim7.holds Tryd.pinned (.plain (OpenSpec.ofChange placesSpec)) placesCard

/-- THE TIED CARD OF 'vellumkeep.Faithful'. -/
def faithfulCard : Claim7 := { stood := { row := faithfulRow, standIns := [], harness := (true, "eba83ac89401844147305b3d0f0308f1e3c38e56eb06fbfee3574913d4be6fb5"), looks := true }, kinds := [], alts := [], laidByText := true, laidKinds := [.data, .data, .data], laidTests := true, laidLooks := .later }
def FaithfulCardSaid : Prop := Claim7.holds Tryd.pinned (.plain (OpenSpec.ofChange faithfulSpec)) faithfulCard

/-- THE TIED CARD OF 'vellumkeep.Bijective'. -/
def bijectiveCard : Claim7 := { stood := { row := bijectiveRow, standIns := [], harness := (true, "eba83ac89401844147305b3d0f0308f1e3c38e56eb06fbfee3574913d4be6fb5"), looks := true }, kinds := [], alts := [], laidByText := true, laidKinds := [.data, .data, .data], laidTests := true, laidLooks := .later }
def BijectiveCardSaid : Prop := Claim7.holds Tryd.pinned (.plain (OpenSpec.ofChange bijectiveSpec)) bijectiveCard

/-- THE TIED CARD OF 'vellumkeep.Counted'. -/
def countedCard : Claim7 := { stood := { row := countedRow, standIns := [], harness := (true, "eba83ac89401844147305b3d0f0308f1e3c38e56eb06fbfee3574913d4be6fb5"), looks := true }, kinds := [], alts := [], laidByText := true, laidKinds := [.data, .data, .data], laidTests := true, laidLooks := .later }
def CountedCardSaid : Prop := Claim7.holds Tryd.pinned (.plain (OpenSpec.ofChange countedSpec)) countedCard

/-- THE SECOND FORM's CARD OF 'vellumlaw.Loads'. -/
def loadsUptoCard : Claim7 := { stood := { row := loadsUptoRow, standIns := [], harness := (true, "eba83ac89401844147305b3d0f0308f1e3c38e56eb06fbfee3574913d4be6fb5"), looks := true }, kinds := [], alts := [], laidByText := true, laidKinds := [.data, .data, .data], laidTests := true, laidLooks := .later }
def LoadsUptoCardSaid : Prop := Claim7.holds Tryd.pinned (.plain (OpenSpec.upto loadsSpec)) loadsUptoCard

/-- THE SECOND FORM's CARD OF 'vellumlaw.Places'. -/
def placesUptoCard : Claim7 := { stood := { row := placesUptoRow, standIns := [], harness := (true, "eba83ac89401844147305b3d0f0308f1e3c38e56eb06fbfee3574913d4be6fb5"), looks := true }, kinds := [], alts := [], laidByText := true, laidKinds := [.data, .data, .data], laidTests := true, laidLooks := .later }
def PlacesUptoCardSaid : Prop := Claim7.holds Tryd.pinned (.plain (OpenSpec.upto placesSpec)) placesUptoCard

/-- THE SECOND FORM's CARD OF 'vellumkeep.Faithful'. -/
def faithfulUptoCard : Claim7 := { stood := { row := faithfulUptoRow, standIns := [], harness := (true, "eba83ac89401844147305b3d0f0308f1e3c38e56eb06fbfee3574913d4be6fb5"), looks := true }, kinds := [], alts := [], laidByText := true, laidKinds := [.data, .data, .data], laidTests := true, laidLooks := .later }
def FaithfulUptoCardSaid : Prop := Claim7.holds Tryd.pinned (.plain (OpenSpec.upto faithfulSpec)) faithfulUptoCard

/-- THE SECOND FORM's CARD OF 'vellumkeep.Bijective'. -/
def bijectiveUptoCard : Claim7 := { stood := { row := bijectiveUptoRow, standIns := [], harness := (true, "eba83ac89401844147305b3d0f0308f1e3c38e56eb06fbfee3574913d4be6fb5"), looks := true }, kinds := [], alts := [], laidByText := true, laidKinds := [.data, .data, .data], laidTests := true, laidLooks := .later }
def BijectiveUptoCardSaid : Prop := Claim7.holds Tryd.pinned (.plain (OpenSpec.upto bijectiveSpec)) bijectiveUptoCard

/-- THE SECOND FORM's CARD OF 'vellumkeep.Counted'. -/
def countedUptoCard : Claim7 := { stood := { row := countedUptoRow, standIns := [], harness := (true, "eba83ac89401844147305b3d0f0308f1e3c38e56eb06fbfee3574913d4be6fb5"), looks := true }, kinds := [], alts := [], laidByText := true, laidKinds := [.data, .data, .data], laidTests := true, laidLooks := .later }
def CountedUptoCardSaid : Prop := Claim7.holds Tryd.pinned (.plain (OpenSpec.upto countedSpec)) countedUptoCard
end Rows
end Go.Proofs.YtoejbngihecafaaDoor
